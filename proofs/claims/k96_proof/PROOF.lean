import PyProof.Rows.All
import Wide.All
import OpenK.AllK
import Wide.FinOn
import Lean
import PyProof.EqAt
import PyProof.EqKinds
import PyProof.TupleCall
import PyProof.NeKinds
import PyProof.Draws
import KE.KTupSum
import KE.KIntText
import PyProof.Rows.Range3
import PyProof.Rows.FStr
import PyProof.StrCalls2
import PyProof.StrLawsTight
import PyProof.StrLawsIn
import PyProof.StrCalls
import KE.KLam
import PySem.Challenge.RW_screenlines_k96_whole_texts_of_orders_on
set_option Elab.async false
set_option linter.all false
set_option maxRecDepth 100000
namespace L2
open PySem PySem.Spec PyProof.Rows
abbrev Key:=Sum Int Str
def Ee:Key->Value->Bool
 | .inl k,v=>Value.isInt k v
 | .inr x,v=>Value.isStrOf x v
def Ik (w:World):Key->Int
 | .inl k=>hashInt k
 | .inr x=>hashStr w x
theorem bH:∀ {k:Key} {v:Value},Ee k v=true->(∃ i t,k=Sum.inl i/\v=Value.int i t)\/(∃ x t,k=Sum.inr x/\v=Value.str x t)
 | .inl i,v,h=>by
  obtain ⟨t,e⟩:=Value.isInt_shape (k:=i) (v:=v) h
  exact .inl ⟨i,t,rfl,e⟩
 | .inr x,v,h=>by
  obtain ⟨t,e⟩:=Value.isStrOf_shape (x:=x) (v:=v) h
  exact .inr ⟨x,t,rfl,e⟩
theorem Ex (a b:Int):decide ((Sum.inl a:Key)=Sum.inl b)=(a==b):=by
 by_cases e:a=b
 ·subst e; simp
 ·have h : ¬ (Sum.inl a:Key)=Sum.inl b:=fun q=>e (Sum.inl.inj q)
  rw [decide_eq_false h]
  exact (beq_eq_false_iff_ne.mpr e).symm
theorem DA (a b:Str):decide ((Sum.inr a:Key)=Sum.inr b)=decide (a=b):=by
 by_cases e:a=b
 ·subst e; simp
 ·have h : ¬ (Sum.inr a:Key)=Sum.inr b:=fun q=>e (Sum.inr.inj q)
  rw [decide_eq_false h,decide_eq_false e]
theorem EI (a:Int) (b:Str):decide ((Sum.inl a:Key)=Sum.inr b)=false:=decide_eq_false (fun q=>nomatch q)
theorem EA (a:Str) (b:Int):decide ((Sum.inr a:Key)=Sum.inl b)=false:=decide_eq_false (fun q=>nomatch q)
def rV (prog:Program) (w:World):PySem.KeyKind prog w Key where
 is:=Ee
 hash:=Ik w
 inj:=fun v a b ha hb=>by
  rcases bH ha with ⟨i,t,rfl,rfl⟩ | ⟨x,t,rfl,rfl⟩
  ·rcases bH hb with ⟨j,u,rfl,e⟩ | ⟨y,u,rfl,e⟩
   ·injection e with e1 _; rw [e1]
   ·exact nomatch e
  ·rcases bH hb with ⟨j,u,rfl,e⟩ | ⟨y,u,rfl,e⟩
   ·exact nomatch e
   ·injection e with e1 _; rw [e1]
 byValue:=fun k v h=>by
  rcases bH h with ⟨i,t,rfl,rfl⟩ | ⟨x,t,rfl,rfl⟩ <;> rfl
 pyHash:=fun hv h=>by
  rcases bH hv with ⟨i,t,rfl,rfl⟩ | ⟨x,t,rfl,rfl⟩
  ·exact wpAny_pyHash_int h
  ·exact wpAny_pyHash_str h
 eqBool:=fun hu hv h=>by
  rcases bH hu with ⟨i,t,rfl,rfl⟩ | ⟨x,t,rfl,rfl⟩
  ·rcases bH hv with ⟨j,u,rfl,rfl⟩ | ⟨y,u,rfl,rfl⟩
   ·rw [Ex] at h; exact wpAny_eqBool_int h
   ·rw [EI] at h; exact SeqAt.EqAt.int_str i t y u _ _ _ _ h
  ·rcases bH hv with ⟨j,u,rfl,rfl⟩ | ⟨y,u,rfl,rfl⟩
   ·rw [EA] at h; exact SeqAt.EqAt.str_int x t j u _ _ _ _ h
   ·rw [DA] at h; exact wpAny_eqBool_str h
 «strs»:=fun k x t v h=>by
  rcases bH h with ⟨i,u,rfl,e⟩ | ⟨y,u,rfl,e⟩
  ·exact nomatch e
  ·injection e with e1 _
   subst e1
   cases v <;> rfl
end L2
namespace L2
open PySem PySem.Spec PyProof.Rows
inductive V where
 | non | bl (b:Bool) | int (i:Int) | str (x:Str) | byt (b:Array UInt8) | flt (b:UInt64) | ref (a:Addr) | ty (n:String)
 deriving DecidableEq
def RelV:V->Value->Prop
 | .non,u=>u=Value.none
 | .bl b,u=>u=Value.bool b
 | .int i,u=>∃ t,u=Value.int i t
 | .str x,u=>∃ t,u=Value.str x t
 | .byt b,u=>∃ t,u=Value.bytes b t
 | .flt b,u=>∃ t,u=Value.float b t
 | .ref a,u=>u=Value.ref a
 | .ty n,u=>u=Value.type n
abbrev Vals:List V->List Value->Prop:=Paired RelV
theorem Vals.length {xs:List V} {us:List Value} (r:Vals xs us):xs.length=us.length:=Paired.length r
theorem Vals.get:∀ {xs:List V} {us:List Value} {i:Nat} {x:V},Vals xs us->xs[i]?=some x->∃ u,us[i]?=some u/\RelV x u
 | _,_,_,_,.nil,e=>by simp at e
 | _,_,0,_,.cons r _,e=>by simp at e; subst e; exact ⟨_,rfl,r⟩
 | _,_,i+1,x,.cons _ t,e=>by
  obtain ⟨u,h1,h2⟩:=Vals.get (i:=i) (x:=x) t (by simpa using e)
  exact ⟨u,by simpa using h1,h2⟩
theorem Vals.append:∀ {xs ys:List V} {us ws:List Value},Vals xs us->Vals ys ws->Vals (xs++ys) (us++ws)
 | _,_,_,_,.nil,s=>s
 | _,_,_,_,.cons r t,s=>.cons r (Vals.append t s)
theorem Vals.take:∀ {xs:List V} {us:List Value} (n:Nat),Vals xs us->Vals (xs.take n) (us.take n)
 | _,_,0,_=>.nil
 | _,_,_+1,.nil=>.nil
 | _,_,n+1,.cons r t=>.cons r (Vals.take n t)
theorem Vals.drop:∀ {xs:List V} {us:List Value} (n:Nat),Vals xs us->Vals (xs.drop n) (us.drop n)
 | _,_,0,r=>r
 | _,_,_+1,.nil=>.nil
 | _,_,n+1,.cons _ t=>Vals.drop n t
def RelO:Option V->Option Value->Prop
 | some v,some u=>RelV v u
 | none,none=>True
 | _,_=>False
def KV {κ:Type}:List (κ × V)->List (κ × Value)->Prop:=Paired fun (p:κ × V) (q:κ × Value)=>p.1=q.1/\RelV p.2 q.2
def kV:Key->V
 | .inl i=>.int i
 | .inr x=>.str x
inductive HO where
  /-- a list -/
  | lst (xs : List V)
  /-- a tuple (never changes) -/
  | tup (xs : List V)
  /-- a dict whose keys are ints and texts; one whose keys are tuples of ints and texts (the empty one is both) -/
  | dK (kvs : List (Key × V)) | dT (kvs : List (List Key × V))
  /-- a set of ints: its members, its size -/
  | set (S : Int -> Bool) (n : Nat)
  /-- an instance of the class at C, its dict at dx, its attributes -/
  | ins (C dx : Addr) (fs : List (Str × V))
  /-- the dict of the instance at x -/
  | own (x : Addr)
  /-- the dict of an exception -/
  | xd (fs : List (Str × V))
  /-- a bound method, f of x -/
  | met (f x : Addr)
  /-- a range object lo, lo + 1, .. below hi -/
  | rng (lo hi : Int)
  /-- a thing that is known to the object (the script; a dict while a loop walks it): read, never written while it is so -/
  | frz (o : Obj) (u : HO)
  /-- a code object's table -/
  | tbl (ps : Array Value)
  /-- any other thing, by what is true of its one object (a def of one's own: SetO a S n := HO.ext fun h => ..) -/
  | ext (φ : Heap -> Prop)

abbrev Hp:=Addr->Option HO
def upd (H:Hp) (a:Addr) (o:HO):Hp:=fun b=>if b=a then some o else H b
theorem bc {H:Hp} {a:Addr} {o:HO}:upd H a o a=some o:=by unfold upd; rw [if_pos rfl]
theorem aJ {H:Hp} {a b:Addr} {o:HO} (h:b ≠ a):upd H a o b=H b:=by unfold upd; rw [if_neg h]
theorem aM {H:Hp} {a b:Addr} {o:HO} (h:H a=some o) (h':H b=none):a ≠ b:=by
 intro e; subst e; rw [h] at h'; cases h'
def Ff (ps:Array Value):Str:=match ps.toList with
 | .str q _::_=>q
 | _=>Str.empty
section
variable (P:Program) (w:World)
def ObjOk (H:Hp) (h:Heap) (a:Addr):HO->Prop
 | .lst xs=>xs.length<=sizeLine/\∃ (its:List Value) (n:Nat),Vals xs its/\h.get? a=some { cls:=.type "list",data:=.seq its.toArray n }
 | .tup xs=>xs.length<=sizeLine/\∃ its:List Value,Vals xs its/\IsTup h a its.toArray
 | .dK kvs=>kvs.length<=sizeLine/\(a==sysModules)=false/\∃ vs,KV kvs vs/\h.DictOf (rV P w) a vs
 | .dT kvs=>kvs.length<=sizeLine/\(a==sysModules)=false/\∃ xs:List (List Key × Addr × Value),
   Paired (fun (p:List Key × V) (q:List Key × Addr × Value)=>p.1=q.1/\H q.2.1=some (.tup (p.1.map kV))/\RelV p.2 q.2.2) kvs xs/\
   ∃ o es ep,h.get? a=some o/\o.ExactDict/\o.data=.dict es ep/\es.toList=xs.map (entryOfKey (tupleKind (rV P w)))/\(xs.map (·.1)).Nodup
 | .set S n=>h.SetOf (intKind P w) a S n
 | .ins C dx fs=>H dx=some (.own a)/\fs.length<=1000/\dx ≠ a/\h.get? a=some (PySem.W.instObj C dx)/\
   ∃ mA,h.Ns1 dx mA/\(∀ f,RelO (fs.lookup f) (mA f))/\PySem.Within mA (fs.map (·.1))
 | .own _=>∃ o,h.get? a=some o
 | .xd fs=>∃ mA,h.Ns1 a mA/\∀ f,RelO (fs.lookup f) (mA f)
 | .rng lo hi=>∃ t u v,h.get? a=some { cls:=.type "range",data:=.fields #[.int lo t,.int hi u,.int 1 v] }
 | .frz o u=>h.get? a=some o/\ObjOk H h a u
 | .tbl ps=>∃ qs:Array Value,h.get? a=some { cls:=.none,data:=.fields qs }/\TriplesOk qs.toList/\∀ (pos:Pos) (cv:Value),codeAmong pos qs.toList=some cv->∃ c o vs t,cv=.ref c/\H c=some (.frz o (.own a))/\o.data=.fields vs/\vs[1]?=some (.str (Ff ps) t)
 | .met f x=>h.get? a=some (PySem.W.methodObj (.ref f) (.ref x))
 | .ext φ=>φ h/\(∃ o,h.get? a=some o)/\∀ h1 h2:Heap,φ h1->(∀ o,h1.get? a=some o->h2.get? a=some o)->φ h2
def HOk (H:Hp) (h:Heap):Prop:=∀ a o,H a=some o->ObjOk P w H h a o
end
section
variable {P:Program} {w:World} {H H':Hp} {h h':Heap} {a:Addr} {o:HO}
theorem ObjOk.lt (x:ObjOk P w H h a o):a < h.objs.size:=by
 cases o with
 | lst xs=>obtain ⟨_,_,_,_,e⟩:=x; exact Heap.lt_size e
 | tup xs=>obtain ⟨_,_,_,p⟩:=x; exact p.lt
 | dK kvs=>obtain ⟨_,_,_,_,o,_,_,e,_⟩:=x; exact Heap.lt_size e
 | dT kvs=>obtain ⟨_,_,_,_,o,_,_,e,_⟩:=x; exact Heap.lt_size e
 | set S n=>obtain ⟨o,_,_,_,e,_⟩:=x; exact Heap.lt_size e
 | ins C dx fs=>obtain ⟨_,_,_,e,_⟩:=x; exact Heap.lt_size e
 | own y=>obtain ⟨_,e⟩:=x; exact Heap.lt_size e
 | xd fs=>obtain ⟨_,⟨_,_,_,e,_⟩,_⟩:=x; exact Heap.lt_size e
 | rng lo hi=>obtain ⟨_,_,_,e⟩:=x; exact Heap.lt_size e
 | frz ob u=>obtain ⟨e,_⟩:=x; exact Heap.lt_size e
 | tbl ps=>obtain ⟨_,e,_⟩:=x; exact Heap.lt_size e
 | met f y=>exact Heap.lt_size (show h.get? a=some _ from x)
 | ext φ=>obtain ⟨_,⟨_,e⟩,_⟩:=x; exact Heap.lt_size e
theorem Paired.mapP {α β:Type} {F G:α->β->Prop}:∀ {l₁:List α} {l₂:List β},Paired F l₁ l₂->(∀ a b,F a b->G a b)->Paired G l₁ l₂
 | _,_,.nil,_=>.nil
 | _,_,.cons r t,f=>.cons (f _ _ r) (Paired.mapP t f)
theorem ObjOk.stay (x:ObjOk P w H h a o) (k:∀ b u,(b=a\/H b=some (.own a))->h.get? b=some u->h'.get? b=some u)
  (ho:∀ b,H b=some (.own a)->H' b=some (.own a)) (ht:∀ b xs,H b=some (.tup xs)->H' b=some (.tup xs)) (hz:∀ b o u,H b=some (.frz o u)->H' b=some (.frz o u):=by exact fun _ _ _ q=>q):ObjOk P w H' h' a o:=by
 induction o with
 | lst xs=>obtain ⟨z,its,n,r,e⟩:=x; exact ⟨z,its,n,r,k _ _ (.inl rfl) e⟩
 | tup xs=>obtain ⟨z,its,r,ob,e,c⟩:=x; exact ⟨z,its,r,ob,k _ _ (.inl rfl) e,c⟩
 | dK kvs=>obtain ⟨z,y,vs,r,ob,es,ep,e,c⟩:=x; exact ⟨z,y,vs,r,ob,es,ep,k _ _ (.inl rfl) e,c⟩
 | dT kvs=>
  obtain ⟨z,y,xs,r,ob,es,ep,e,c⟩:=x
  exact ⟨z,y,xs,Paired.mapP r fun p q z=>⟨z.1,ht _ _ z.2.1,z.2.2⟩,ob,es,ep,k _ _ (.inl rfl) e,c⟩
 | set S n=>obtain ⟨ob,es,ep,t,e,c⟩:=x; exact ⟨ob,es,ep,t,k _ _ (.inl rfl) e,c⟩
 | ins C dx fs=>
  obtain ⟨d,z,ne,e,mA,⟨od,es,ep,e2,c⟩,r⟩:=x
  exact ⟨ho _ d,z,ne,k _ _ (.inl rfl) e,mA,⟨od,es,ep,k _ _ (.inr d) e2,c⟩,r⟩
 | own y=>obtain ⟨ob,e⟩:=x; exact ⟨ob,k _ _ (.inl rfl) e⟩
 | xd fs=>obtain ⟨mA,⟨od,es,ep,e,c⟩,r⟩:=x; exact ⟨mA,⟨od,es,ep,k _ _ (.inl rfl) e,c⟩,r⟩
 | rng lo hi=>obtain ⟨t,u,v,e⟩:=x; exact ⟨t,u,v,k _ _ (.inl rfl) e⟩
 | frz ob u ih=>obtain ⟨e,q⟩:=x; exact ⟨k _ _ (.inl rfl) e,ih q⟩
 | tbl ps=>
  obtain ⟨qs,e,tr,c⟩:=x
  refine ⟨qs,k _ _ (.inl rfl) e,tr,fun pos cv q=>?_⟩
  obtain ⟨c',o',vs,tk,e1,e2,e3⟩:=c pos cv q
  exact ⟨c',o',vs,tk,e1,hz _ _ _ e2,e3⟩
 | met f y=>
  have e:h.get? a=some (PySem.W.methodObj (.ref f) (.ref y)):=x
  show h'.get? a=some (PySem.W.methodObj (.ref f) (.ref y))
  exact k a _ (.inl rfl) e
 | ext φ=>obtain ⟨p,⟨o,e⟩,st⟩:=x; exact ⟨st _ _ p fun o q=>k _ _ (.inl rfl) q,⟨o,k _ _ (.inl rfl) e⟩,st⟩
theorem HOk.lt (x:HOk P w H h) (e:H a=some o):a < h.objs.size:=(x a o e).lt
theorem HOk.fresh (x:HOk P w H h) (e:h.objs.size<=a):H a=none:=by
 cases q:H a with
 | none=>rfl
 | some u=>exact absurd (Nat.lt_of_lt_of_le (x.lt q) e) (Nat.lt_irrefl _)
theorem HOk.kept (x:HOk P w H h) (k:∀ b u,h.get? b=some u->h'.get? b=some u):HOk P w H h':=fun a o e=>
 (x a o e).stay (fun b u _ q=>k b u q) (fun _ q=>q) fun _ _ q=>q
theorem HOk.laid (x:HOk P w H h) (k:∀ b u,h.get? b=some u->h'.get? b=some u) (hp:h.objs.size<=a) (new:ObjOk P w (upd H a o) h' a o):HOk P w (upd H a o) h':=fun b u e=>by
 have hn:=x.fresh hp
 by_cases hb:b=a
 ·subst hb; rw [bc] at e; cases e; exact new
 ·rw [aJ hb] at e
  exact (x b u e).stay (fun c v _ q=>k c v q) (fun c q=>by rw [aJ (aM q hn)]; exact q) (fun c xs q=>by rw [aJ (aM q hn)]; exact q) fun c ob u q=>by rw [aJ (aM q hn)]; exact q
end
def Rd (H:Hp) (a:Addr) (u:HO):Prop:=H a=some u\/∃ o,H a=some (.frz o u)
theorem Rd.ok {P:Program} {w:World} {H:Hp} {h:Heap} {a:Addr} {u:HO} (r:Rd H a u) (x:HOk P w H h):ObjOk P w H h a u:=by
 rcases r with r | ⟨o,r⟩
 ·exact x a u r
 ·obtain ⟨_,q⟩:=x a _ r
  exact q
def Mut:Option HO->Prop
 | some (.lst _)=>True
 | some (.dK _)=>True
 | some (.dT _)=>True
 | some (.set _ _)=>True
 | some (.ins _ _ _)=>True
 | some (.ext _)=>True
 | _=>False
section
variable {P:Program} {w:World} {H:Hp} {h h':Heap} {x e:Addr} {o':HO}
theorem HOk.write (ok:HOk P w H h) (mu:Mut (H x)) (he:e=x\/H e=some (.own x)) (k:∀ b u,b ≠ e->h.get? b=some u->h'.get? b=some u) (heo:∃ u,h'.get? e=some u)
  (new:ObjOk P w (upd H x o') h' x o'):HOk P w (upd H x o') h':=fun b u q=>by
 have nown:∀ c y,H c=some (.own y)->c ≠ x:=fun c y r z=>by subst z; rw [r] at mu; exact mu
 have ntup:∀ c xs,H c=some (.tup xs)->c ≠ x:=fun c xs r z=>by subst z; rw [r] at mu; exact mu
 have nfrz:∀ c ob u,H c=some (.frz ob u)->c ≠ x:=fun c ob u r z=>by subst z; rw [r] at mu; exact mu
 by_cases hb:b=x
 ·subst hb; rw [bc] at q; cases q; exact new
 ·rw [aJ hb] at q
  by_cases hbe:b=e
  ·have q':H b=some (.own x):=by
    rcases he with z | z
    ·exact absurd (hbe.trans z) hb
    ·rw [hbe]; exact z
   rw [q] at q'; cases q'
   obtain ⟨v,hv⟩:=heo
   exact ⟨v,by rw [hbe]; exact hv⟩
  ·refine (ok b u q).stay (fun c v hc r=>k c v ?_ r) (fun c r=>by rw [aJ (nown c b r)]; exact r) (fun c xs r=>by rw [aJ (ntup c xs r)]; exact r) fun c ob u r=>by rw [aJ (nfrz c ob u r)]; exact r
   rcases hc with rfl | hc
   ·exact hbe
   ·rintro rfl
    rcases he with z | z
    ·exact nown c b hc z
    ·rw [hc] at z; cases z; exact hb rfl
end
structure Un (fs ex:List Addr) (H H':Hp) (h h':Heap):Prop where
 keep:∀ b o,h.get? b=some o->H b=none->b ∉ fs->b ∉ ex->h'.get? b=some o
 slot:∀ b o,h.get? b=some o->H b=none->b ∈ fs->b ∉ ex->∃ sl,h'.get? b=some { o with slots:=sl }
 free:∀ b o,h.get? b=some o->H b=none->b ∉ ex->H' b=none
 there:∀ b o,h.get? b=some o->b ∉ ex->∃ o',h'.get? b=some o'
 tups:∀ b xs,H b=some (.tup xs)->H' b=some (.tup xs)
 frzs:∀ b o u,H b=some (.frz o u)->H' b=some (.frz o u)
 tbls:∀ b ps,H b=some (.tbl ps)->∃ more,H' b=some (.tbl (ps++more))
section
variable {fs fs' ex ex':List Addr} {H H1 H2:Hp} {h h1 h2 h':Heap} {a x e:Addr} {o:HO}
theorem Un.any (u:Un fs ex H H1 h h1) {b:Addr} {ob:Obj} (q:h.get? b=some ob) (n:H b=none) (hx:b ∉ ex):∃ sl,h1.get? b=some { ob with slots:=sl }:=by
 by_cases hb:b ∈ fs
 ·exact u.slot b ob q n hb hx
 ·exact ⟨ob.slots,u.keep b ob q n hb hx⟩
theorem Un.kept (k:∀ b u,h.get? b=some u->h'.get? b=some u):Un fs ex H H h h':=
 ⟨fun b ob q _ _ _=>k b ob q,fun b ob q _ _ _=>⟨ob.slots,k b ob q⟩,fun _ _ _ n _=>n,fun b ob q _=>⟨ob,k b ob q⟩,fun _ _ q=>q,fun _ _ _ q=>q,fun _ ps q=>⟨#[],by rw [q]; simp⟩⟩
theorem Un.refl:Un fs ex H H h h:=Un.kept fun _ _ q=>q
theorem Un.laid (k:∀ b u,h.get? b=some u->h'.get? b=some u) (hp:h.objs.size<=a) (hn:H a=none):Un fs ex H (upd H a o) h h' where
 keep:=fun b u q _ _ _=>k b u q
 slot:=fun b u q _ _ _=>⟨u.slots,k b u q⟩
 free:=fun b u q n _=>by rw [aJ (Nat.ne_of_lt (Nat.lt_of_lt_of_le (Heap.lt_size q) hp))]; exact n
 there:=fun b u q _=>⟨u,k b u q⟩
 tups:=fun b xs q=>by rw [aJ (aM q hn)]; exact q
 frzs:=fun b u xs q=>by rw [aJ (aM q hn)]; exact q
 tbls:=fun b ps q=>⟨#[],by rw [aJ (aM q hn),q]; simp⟩
theorem Un.write (mu:Mut (H x)) (he:e=x\/H e=some (.own x)) (k:∀ b u,b ≠ e->h.get? b=some u->h'.get? b=some u) (heo:∃ u,h'.get? e=some u):Un fs ex H (upd H x o) h h':=by
 have hx:∀ b,H b=none->b ≠ x:=fun b n z=>by subst z; rw [n] at mu; exact mu
 have hb:∀ b,H b=none->b ≠ e:=fun b n z=>by
  subst z
  rcases he with r | r
  ·exact hx b n r
  ·rw [n] at r; cases r
 have hm:∀ b u,H b=some u->¬ Mut (some u)->b ≠ x:=fun b u q nm z=>by subst z; rw [q] at mu; exact nm mu
 refine ⟨fun b u q n _ _=>k b u (hb b n) q,fun b u q n _ _=>⟨u.slots,k b u (hb b n) q⟩,fun b u q n _=>by rw [aJ (hx b n)]; exact n,fun b u q _=>?_,
  fun b xs q=>by rw [aJ (hm b _ q fun z=>z)]; exact q,fun b u xs q=>by rw [aJ (hm b _ q fun z=>z)]; exact q,fun b ps q=>⟨#[],by rw [aJ (hm b _ q fun z=>z),q]; simp⟩⟩
 by_cases hbe:b=e
 ·subst hbe; exact heo
 ·exact ⟨u,k b u hbe q⟩
end
def trk (h:Heap) (H:Hp):List Addr:=(List.range h.objs.size).filter fun a=>(H a).isSome
def zy (h:Heap) (H:Hp):Heap:=PySem.W.hideAll h (trk h H)
theorem vH (h:Heap) (H:Hp):(zy h H).objs.size=h.objs.size:=PySem.W.hideAll_size _ _
theorem yv {h:Heap} {H:Hp} {b:Addr} {o:Obj} (e:h.get? b=some o) (n:H b=none):(zy h H).get? b=some o:=
 PySem.W.hideAll_get _ e fun hm=>by
  have q:(H b).isSome=true:=(List.mem_filter.mp hm).2
  rw [n] at q; simp at q
theorem C9 {h:Heap} {H:Hp} {b:Addr} {o:Obj} (e:(zy h H).get? b=some o):h.get? b=some o/\H b=none:=by
 have e':h.get? b=some o:=PySem.W.of_hideAll (trk h H) e
 refine ⟨e',?_⟩
 cases q:H b with
 | none=>rfl
 | some x=>
  have hm:b ∈ trk h H:=List.mem_filter.mpr ⟨List.mem_range.mpr (Heap.lt_size e'),by simp [q]⟩
  have z:(zy h H).get? b=none:=PySem.W.hideAll_none (trk h H) hm
  rw [z] at e; cases e
def Cd (g h:Heap) (L:Addr):List (Addr × Obj):=(List.range h.objs.size).filterMap fun a=>if a=L\/(g.get? a).isSome=true then none else (h.get? a).map fun o=>(a,o)
def cq (g h:Heap) (L d:Addr):List (Addr × Obj):=(Cd g h L).filter fun p=>decide (p.1 ≠ d)
end L2
namespace L2
open PySem PySem.Spec PyProof.Rows
structure Mod (K:PySem.W.Frag) (mg:Str->Option Value) (base:Heap):Prop where
 kin:K.In base
 glob:base.Ns mainGlobals mg
 blt:∃ mb,base.Ns builtinsNs mb/\∀ x:Str,x ≠ "__name__"->mb x=bootBuiltins x
 nolimit:base.NoLimit
structure Cx where
 prog:Program
 w:World
 K:PySem.W.Frag
 mg:Str->Option Value
 base:Heap
 A:Around
 N:List Str
 s₀:Shared
 H₀:Hp
 env:Env
 outer:List Env
 stack:List Env
 ex:List Addr
 fn:Str->Bool
 calm:Bool
 pn:List (Addr × Obj)
 xe:Value->Shared->Prop
def frs (l:List Env):List Addr:=l.filterMap (·.frame)
abbrev Cx.fs (X:Cx):List Addr:=frs X.outer
def Vis (sc:Scope) (x:Str):Prop:=sc.names.lookup x=some .local\/sc.names.lookup x=some .cell\/sc.names.lookup x=some .free
def Loc (sc:Scope) (x:Str):Prop:=sc.names.lookup x=some .local\/sc.names.lookup x=some .cell
def Hz (env:Env) (h:Heap) (m:Str->Option Value) (x:Str) (u:Value):Prop:=
 (env.kindOf x=some .local/\m x=some u)\/((env.kindOf x=some .cell\/env.kindOf x=some .free)/\∃ c,env.cells.lookup x=some c/\h.IsCell c (some u))
structure Cx.Ok (X:Cx):Prop where
 mod:Mod X.K X.mg X.base
 kind:X.env.scope.kind=.function
 glob:X.env.globals=mainGlobals
 blt:X.env.builtins=builtinsNs
 above:X.s₀.heap.objs.size<=X.env.locals
 inj:∀ x y c,X.env.cells.lookup x=some c->X.env.cells.lookup y=some c->x=y
 has:∀ x,(X.env.kindOf x=some .cell\/X.env.kindOf x=some .free)->∃ c,X.env.cells.lookup x=some c
 cab:∀ x c,X.fn x=true->X.env.cells.lookup x=some c->X.s₀.heap.objs.size<=c
 hd:X.calm=true->X.A.handled=none
 frames:X.A.frames=some X.stack
 stk:X.stack=X.outer\/(X.stack=X.env::X.outer/\X.env.frame=some X.env.locals)
 exf:∀ b ∈ X.ex,b ≠ X.env.locals/\∀ x c,X.env.cells.lookup x=some c->c ≠ b
 bs:∀ b o,X.base.get? b=some o->X.s₀.heap.get? b=some o/\X.H₀ b=none
 bsz:X.base.objs.size<=X.s₀.heap.objs.size
 noex:∀ b o,X.base.get? b=some o->b ∉ X.ex
 exfs:∀ b ∈ X.ex,b ∉ X.fs
 funs:X.s₀.heap.FunFrames X.base X.outer
 frf:∀ b ∈ X.fs,X.H₀ b=none
structure Inv (X:Cx) (pins:List (Addr × Obj)) (σ:List (Option V)) (H:Hp) (s:Shared):Prop where
 ok:X.Ok
 os:s.os=X.s₀.os
 bare:AllBare s.gens
 base:Un X.fs X.ex X.H₀ H X.s₀.heap s.heap
 loc:∃ m,s.heap.Ns X.env.locals m/\∀ (i:Nat) (x:Str) (v:V),X.N[i]?=some x->σ[i]?=some (some v)->Vis X.env.scope x->∃ u,RelV v u/\Hz X.env s.heap m x u
 cell:∀ x c,X.env.cells.lookup x=some c->∃ v,s.heap.IsCell c v
 free:H X.env.locals=none
 freeC:∀ x c,X.env.cells.lookup x=some c->H c=none
 pin:∀ p ∈ X.pn++pins,s.heap.get? p.1=some p.2/\H p.1=none/\p.1 ≠ X.env.locals/\p.1 ∉ X.fs/\∀ v,p.2.data ≠ .cell v
 hok:HOk X.prog X.w H s.heap
 len:σ.length=X.N.length
section
variable {X:Cx} {pins:List (Addr × Obj)} {σ:List (Option V)} {H H':Hp} {s:Shared} {h':Heap}
theorem Cx.Ok.nofr (ok:X.Ok) {b:Addr} {o:Obj} (e:X.base.get? b=some o):b ∉ X.fs:=fun hb=>by
 have:=(ok.funs.mem hb).1
 rw [e] at this; cases this
theorem Inv.bs (I:Inv X pins σ H s):∀ b o,X.base.get? b=some o->s.heap.get? b=some o/\H b=none:=fun b o e=>
 ⟨I.base.keep b o (I.ok.bs b o e).1 (I.ok.bs b o e).2 (I.ok.nofr e) (I.ok.noex b o e),I.base.free b o (I.ok.bs b o e).1 (I.ok.bs b o e).2 (I.ok.noex b o e)⟩
theorem Inv.bk (I:Inv X pins σ H s):∀ b o,X.base.get? b=some o->s.heap.get? b=some o:=fun b o e=>(I.bs b o e).1
theorem Inv.mod (I:Inv X pins σ H s):Mod X.K X.mg X.base:=I.ok.mod
theorem Inv.kIn (I:Inv X pins σ H s):X.K.In s.heap:=I.ok.mod.kin.keeps I.bk
theorem Inv.lt (I:Inv X pins σ H s):X.env.locals < s.heap.objs.size:=let ⟨_,hn,_⟩:=I.loc; hn.lt
theorem Inv.sz (I:Inv X pins σ H s):X.s₀.heap.objs.size<=s.heap.objs.size:=Nat.le_trans I.ok.above (Nat.le_of_lt I.lt)
theorem Inv.nofs (I:Inv X pins σ H s) {a:Addr} (h:s.heap.objs.size<=a):a ∉ X.fs:=fun hb=>by
 obtain ⟨_,o,ho,_⟩:=I.ok.funs.mem hb
 exact absurd (Nat.lt_of_lt_of_le (Heap.lt_size ho) (Nat.le_trans I.sz h)) (Nat.lt_irrefl _)
theorem Inv.cne (I:Inv X pins σ H s):∀ x c,X.env.cells.lookup x=some c->c ≠ X.env.locals:=fun x c e z=>by
 obtain ⟨v,o,ho,hd⟩:=I.cell x c e
 obtain ⟨m,⟨o',es,ep,ho',hd',_⟩,_⟩:=I.loc
 rw [z,ho'] at ho; cases ho; rw [hd'] at hd; cases hd
theorem Inv.funs (I:Inv X pins σ H s):s.heap.FunFrames X.base X.outer:=by
 have all:∀ (l:List Env),(∀ b ∈ frs l,b ∈ X.fs)->X.s₀.heap.FunFrames X.base l->s.heap.FunFrames X.base l:=by
  intro l
  induction l with
  | nil=>intro _ _; trivial
  | cons env r ih=>
   intro hs hl
   obtain ⟨hk,⟨L,o,hf,hn,ho,hd⟩,hr⟩:=hl
   have hL:L ∈ X.fs:=hs L (by unfold frs; rw [List.filterMap_cons,hf]; exact List.mem_cons_self)
   obtain ⟨sl,e⟩:=I.base.slot L o ho (I.ok.frf L hL) hL fun z=>I.ok.exfs L z hL
   exact ⟨hk,⟨L,_,hf,hn,e,hd⟩,ih (fun b hb=>hs b (by unfold frs; rw [List.filterMap_cons,hf]; exact List.mem_cons_of_mem _ hb)) hr⟩
 exact all X.outer (fun _ hb=>hb) I.ok.funs
theorem Inv.stack (I:Inv X pins σ H s):s.heap.FunFrames X.base X.stack:=by
 rcases I.ok.stk with e | ⟨e,hf⟩
 ·rw [e]; exact I.funs
 ·rw [e]
  obtain ⟨m,hn,_⟩:=I.loc
  refine .cons (by rw [I.ok.kind]; decide) hf hn ?_ I.funs
  exact Heap.get?_none_of_le (Nat.le_trans I.ok.bsz I.ok.above)
theorem Inv.stkSub (I:Inv X pins σ H s):∀ b ∈ frs X.stack,b ∈ X.env.locals::X.fs:=fun b hb=>by
 rcases I.ok.stk with e | ⟨e,hf⟩
 ·rw [e] at hb; exact List.mem_cons_of_mem _ hb
 ·rw [e] at hb
  unfold frs at hb
  rw [List.filterMap_cons,hf] at hb
  exact hb
theorem Inv.stkFree (I:Inv X pins σ H s):∀ b ∈ frs X.stack,H b=none:=fun b hb=>by
 rcases List.mem_cons.mp (I.stkSub b hb) with e | hb
 ·rw [e]; exact I.free
 ·obtain ⟨_,o,ho,_⟩:=I.ok.funs.mem hb
  exact I.base.free b o ho (I.ok.frf b hb) fun z=>I.ok.exfs b z hb
theorem Inv.step {g':Array GenState} {t':Nat} {d':Drawn} {ch:List Addr} (I:Inv X pins σ H s)
  (hch:∀ b ∈ ch,(b ∈ X.ex\/X.s₀.heap.objs.size<=b)/\b ≠ X.env.locals/\(∀ x c,X.env.cells.lookup x=some c->c ≠ b)/\∀ p ∈ X.pn++pins,p.1 ≠ b)
  (keep:∀ b o,b ≠ X.env.locals->b ∉ X.fs->b ∉ ch->s.heap.get? b=some o->H b=none->h'.get? b=some o)
  (slot:∀ b o,b ≠ X.env.locals->b ∈ X.fs->b ∉ ch->s.heap.get? b=some o->H b=none->∃ sl,h'.get? b=some { o with slots:=sl }) (free:∀ b o,b ∉ ch->s.heap.get? b=some o->H b=none->H' b=none)
  (there:∀ b o,b ∉ ch->s.heap.get? b=some o->∃ o',h'.get? b=some o')
  (tups:∀ b xs,H b=some (.tup xs)->H' b=some (.tup xs)) (frzs:∀ b o u,H b=some (.frz o u)->H' b=some (.frz o u)) (tbls:∀ b ps,H b=some (.tbl ps)->∃ more,H' b=some (.tbl (ps++more)))
  (ns:∀ m,s.heap.Ns X.env.locals m->h'.Ns X.env.locals m) (hok:HOk X.prog X.w H' h') (hg:AllBare g') :
  Inv X pins σ H' { s with heap:=h',gens:=g',drawn:=d',toks:=t' }:=by
 have neL:∀ b o,X.s₀.heap.get? b=some o->b ≠ X.env.locals:=fun b o e=>Nat.ne_of_lt (Nat.lt_of_lt_of_le (Heap.lt_size e) I.ok.above)
 have neC:∀ b o,X.s₀.heap.get? b=some o->b ∉ X.ex->b ∉ ch:=fun b o e hx hb=>by
  rcases (hch b hb).1 with z | z
  ·exact hx z
  ·exact absurd (Nat.lt_of_lt_of_le (Heap.lt_size e) z) (Nat.lt_irrefl _)
 have cellK:∀ x c,X.env.cells.lookup x=some c->∀ v,s.heap.IsCell c v->h'.IsCell c v:=fun x c e v ⟨o,ho,hd⟩=>by
  have nch:c ∉ ch:=fun z=>(hch c z).2.2.1 x c e rfl
  by_cases hc:c ∈ X.fs
  ·obtain ⟨sl,q⟩:=slot c o (I.cne x c e) hc nch ho (I.freeC x c e)
   exact ⟨_,q,hd⟩
  ·exact ⟨o,keep c o (I.cne x c e) hc nch ho (I.freeC x c e),hd⟩
 refine ⟨I.ok,I.os,hg,⟨fun b o e n hb hx=>?_,fun b o e n hb hx=>?_,fun b o e n hx=>?_,fun b o e hx=>?_,fun b xs e=>tups b xs (I.base.tups b xs e),fun b o xs e=>frzs b o xs (I.base.frzs b o xs e),fun b ps e=>?_⟩,?_,fun x c e=>?_,?_,fun x c e=>?_,fun p hp=>?_,hok,I.len⟩
 ·exact keep b o (neL b o e) hb (neC b o e hx) (I.base.keep b o e n hb hx) (I.base.free b o e n hx)
 ·obtain ⟨sl,e1⟩:=I.base.slot b o e n hb hx
  obtain ⟨sl',e2⟩:=slot b _ (neL b o e) hb (neC b o e hx) e1 (I.base.free b o e n hx)
  exact ⟨sl',e2⟩
 ·obtain ⟨o',e1⟩:=I.base.there b o e hx
  exact free b o' (neC b o e hx) e1 (I.base.free b o e n hx)
 ·obtain ⟨o',e1⟩:=I.base.there b o e hx
  exact there b o' (neC b o e hx) e1
 ·obtain ⟨m1,e1⟩:=I.base.tbls b ps e
  obtain ⟨m2,e2⟩:=tbls b _ e1
  exact ⟨m1++m2,by rw [e2,Array.append_assoc]⟩
 ·obtain ⟨m,hn,hl⟩:=I.loc
  refine ⟨m,ns m hn,fun i x v e1 e2 e3=>?_⟩
  obtain ⟨u,r,l⟩:=hl i x v e1 e2 e3
  refine ⟨u,r,?_⟩
  rcases l with l | ⟨k,c,e,z⟩
  ·exact .inl l
  ·exact .inr ⟨k,c,e,cellK x c e _ z⟩
 ·obtain ⟨v,z⟩:=I.cell x c e
  exact ⟨v,cellK x c e v z⟩
 ·obtain ⟨m,⟨o,_,_,ho,_⟩,_⟩:=I.loc
  exact free _ o (fun z=>(hch _ z).2.1 rfl) ho I.free
 ·obtain ⟨v,o,ho,hd⟩:=I.cell x c e
  exact free c o (fun z=>(hch c z).2.2.1 x c e rfl) ho (I.freeC x c e)
 ·obtain ⟨e,n,ne,nf,d⟩:=I.pin p hp
  have nch:p.1 ∉ ch:=fun z=>(hch p.1 z).2.2.2 p hp rfl
  exact ⟨keep p.1 p.2 ne nf nch e n,free p.1 p.2 nch e n,ne,nf,d⟩
theorem Inv.un {t':Nat} (I:Inv X pins σ H s) (u:Un X.fs [] H H' s.heap h') (hok:HOk X.prog X.w H' h'):Inv X pins σ H' { s with heap:=h',toks:=t' }:=by
 obtain ⟨m,⟨o,es,ep,ho,r⟩,_⟩:=id I.loc
 obtain ⟨sl,hL⟩:=u.any ho I.free (by simp)
 exact I.step (g':=s.gens) (d':=s.drawn) (ch:=[]) (fun _ z=>nomatch z) (fun b o _ hb _ e n=>u.keep b o e n hb (by simp)) (fun b o _ hb _ e n=>u.slot b o e n hb (by simp)) (fun b o _ e n=>u.free b o e n (by simp)) (fun b o _ e=>u.there b o e (by simp)) u.tups u.frzs u.tbls (fun m' hm=>by
  obtain ⟨o',es',ep',ho',r'⟩:=hm
  rw [ho] at ho'; cases ho'
  exact ⟨_,es',ep',hL,r'⟩) hok I.bare
theorem Inv.call {g':Array GenState} {t':Nat} {d':Drawn} {ch:List Addr} (I:Inv X pins σ H s) (u:Un (frs X.stack) ch H H' s.heap h') (hok:HOk X.prog X.w H' h') (hg:AllBare g')
  (hch:∀ b ∈ ch,(b ∈ X.ex\/X.s₀.heap.objs.size<=b)/\b ≠ X.env.locals/\(∀ x c,X.env.cells.lookup x=some c->c ≠ b)/\∀ p ∈ X.pn++pins,p.1 ≠ b) :
  Inv X pins σ H' { s with heap:=h',gens:=g',drawn:=d',toks:=t' }:=by
 obtain ⟨m,⟨o,es,ep,ho,r⟩,_⟩:=id I.loc
 obtain ⟨sl,hL⟩:=u.any ho I.free fun z=>(hch _ z).2.1 rfl
 exact I.step (ch:=ch) hch (fun b o hL hb hc e n=>u.keep b o e n (fun z=>(List.mem_cons.mp (I.stkSub b z)).elim hL hb) hc) (fun b o _ _ hc e n=>u.any e n hc) (fun b o hc e n=>u.free b o e n hc) (fun b o hc e=>u.there b o e hc) u.tups u.frzs u.tbls (fun m' hm=>by
  obtain ⟨o',es',ep',ho',r'⟩:=hm
  rw [ho] at ho'; cases ho'
  exact ⟨_,es',ep',hL,r'⟩) hok hg
theorem Inv.turned {t':Nat} {it:Addr} (I:Inv X pins σ H s) (k:∀ b o,b ≠ it->s.heap.get? b=some o->h'.get? b=some o) (hn:H it=none) (hL:it ≠ X.env.locals)
  (h1:it ∈ X.ex\/X.s₀.heap.objs.size<=it) (h2:∀ x c,X.env.cells.lookup x=some c->c ≠ it) (h3:∀ p ∈ X.pn++pins,p.1 ≠ it):Inv X pins σ H { s with heap:=h',toks:=t' }:=by
 have nit:∀ b u,H b=some u->b ≠ it:=fun b u e z=>by rw [z,hn] at e; cases e
 refine I.step (g':=s.gens) (d':=s.drawn) (ch:=[it]) (fun b hb=>?_) (fun b o _ _ hc e _=>k b o (fun z=>hc (by simp [z])) e) (fun b o _ _ hc e _=>⟨o.slots,k b o (fun z=>hc (by simp [z])) e⟩) (fun _ _ _ _ n=>n)
  (fun b o hc e=>⟨o,k b o (fun z=>hc (by simp [z])) e⟩) (fun _ _ e=>e) (fun _ _ _ e=>e) (fun b ps e=>⟨#[],by rw [e]; simp⟩) (fun m hm=>?_) (fun b u e=>?_) I.bare
 ·have e:b=it:=by simpa using hb
  subst e
  exact ⟨h1,hL,h2,h3⟩
 ·obtain ⟨o,es,ep,ho,r⟩:=hm
  exact ⟨o,es,ep,k _ o (Ne.symm hL) ho,r⟩
 ·refine (I.hok b u e).stay (fun c v hc q=>k c v ?_ q) (fun _ q=>q) fun _ _ q=>q
  rcases hc with z | z
  ·rw [z]; exact nit b u e
  ·exact nit c _ z
theorem Inv.tok (I:Inv X pins σ H s) (t:Nat):Inv X pins σ H { s with toks:=t }:=I.un (h':=s.heap) (t':=t) Un.refl I.hok
theorem Inv.kept {t':Nat} (I:Inv X pins σ H s) (k:∀ b u,s.heap.get? b=some u->h'.get? b=some u):Inv X pins σ H { s with heap:=h',toks:=t' }:=I.un (Un.kept k) (I.hok.kept k)
theorem Inv.laid {a:Addr} {o:HO} {t':Nat} (I:Inv X pins σ H s) (k:∀ b u,s.heap.get? b=some u->h'.get? b=some u) (hp:s.heap.objs.size<=a) (new:ObjOk X.prog X.w (upd H a o) h' a o) :
  Inv X pins σ (upd H a o) { s with heap:=h',toks:=t' }:=I.un (Un.laid k hp (I.hok.fresh hp)) (I.hok.laid k hp new)
theorem Inv.write {x e:Addr} {o:HO} {t':Nat} (I:Inv X pins σ H s) (mu:Mut (H x)) (he:e=x\/H e=some (.own x)) (k:∀ b u,b ≠ e->s.heap.get? b=some u->h'.get? b=some u) (heo:∃ u,h'.get? e=some u)
  (new:ObjOk X.prog X.w (upd H x o) h' x o):Inv X pins σ (upd H x o) { s with heap:=h',toks:=t' }:=I.un (Un.write mu he k heo) (I.hok.write mu he k heo new)
theorem Inv.pins_of {pins':List (Addr × Obj)} (I:Inv X pins σ H s) (h:∀ p ∈ pins',s.heap.get? p.1=some p.2/\H p.1=none/\p.1 ≠ X.env.locals/\p.1 ∉ X.fs/\∀ v,p.2.data ≠ .cell v):Inv X pins' σ H s:=
 ⟨I.ok,I.os,I.bare,I.base,I.loc,I.cell,I.free,I.freeC,fun p hp=>(List.mem_append.mp hp).elim (fun z=>I.pin p (List.mem_append_left _ z)) (h p),I.hok,I.len⟩
theorem sO {N:List Str} (hN:N.Nodup) {i j:Nat} {x:Str} (a:N[i]?=some x) (b:N[j]?=some x):i=j:=by
 obtain ⟨h1,e1⟩:=List.getElem?_eq_some_iff.mp a
 obtain ⟨h2,e2⟩:=List.getElem?_eq_some_iff.mp b
 exact (List.getElem_inj hN).mp (e1.trans e2.symm)
theorem pj {M:Model} {A:Around} {E:Value->Shared->Prop} {i:Nat} {x:Str} {v:V} {u:Value} {Q:Unit->Shared->Prop} (I:Inv X pins σ H s) (hN:X.N.Nodup) (hi:X.N[i]?=some x) (hx:Loc X.env.scope x) (r:RelV v u)
  (h:∀ s',Inv X pins (σ.set i (some v)) H s'->(∃ a,Heap.SameBut a s.heap s'.heap/\(a=X.env.locals\/X.env.cells.lookup x=some a))->Q () s') (hf:X.fn x=true\/X.env.scope.names.lookup x=some .local:=by first | exact .inl rfl | exact .inr rfl | assumption):wpAny M A (storeName X.env x u) Q E s:=by
 obtain ⟨m,hn,hl⟩:=id I.loc
 have hcls:(X.env.scope.kind==.class || (X.env.scope.kind==.module && X.env.locals != X.env.globals))=false:=by rw [I.ok.kind]; rfl
 have hiσ:i < σ.length:=by rw [I.len]; exact (List.getElem?_eq_some_iff.mp hi).1
 have cne:=I.cne
 have tracked:∀ {a:Addr} {h':Heap},(∃ o,s.heap.get? a=some o/\H a=none)->Heap.SameBut a s.heap h'->HOk X.prog X.w H h':=fun {a h'} ha hs b ob e=>by
  obtain ⟨_,_,hfree⟩:=ha
  refine (I.hok b ob e).stay (fun c w' hc q=>(hs.2 c ?_).trans q) (fun _ q=>q) fun _ _ q=>q
  rintro rfl
  rcases hc with rfl | hc
  ·rw [hfree] at e; cases e
  ·rw [hfree] at hc; cases hc
 rcases hx with hk | hk
 ·refine wpAny_storeName_local hk hn (fun h' hn' hs=>?_) hcls
  obtain ⟨oL,_,_,hoL,_⟩:=id hn
  refine h _ ⟨I.ok,I.os,I.bare,⟨fun b o e n hb hx=>?_,fun b o e n hb hx=>?_,I.base.free,fun b o e hx=>?_,I.base.tups,I.base.frzs,I.base.tbls⟩,⟨_,hn',fun j y v' e1 e2 e3=>?_⟩,fun y c e=>?_,I.free,I.freeC,fun p hp=>?_,tracked ⟨oL,hoL,I.free⟩ hs,by simpa using I.len⟩ ⟨_,hs,.inl rfl⟩
  ·exact (hs.2 b (Nat.ne_of_lt (Nat.lt_of_lt_of_le (Heap.lt_size e) I.ok.above))).trans (I.base.keep b o e n hb hx)
  ·obtain ⟨sl,e1⟩:=I.base.slot b o e n hb hx
   exact ⟨sl,(hs.2 b (Nat.ne_of_lt (Nat.lt_of_lt_of_le (Heap.lt_size e) I.ok.above))).trans e1⟩
  ·obtain ⟨o',e1⟩:=I.base.there b o e hx
   exact ⟨o',(hs.2 b (Nat.ne_of_lt (Nat.lt_of_lt_of_le (Heap.lt_size e) I.ok.above))).trans e1⟩
  ·by_cases hj:j=i
   ·subst hj
    rw [hi] at e1; cases e1
    rw [List.getElem?_set_self hiσ] at e2
    cases e2
    exact ⟨u,r,.inl ⟨hk,by simp⟩⟩
   ·rw [List.getElem?_set_ne (Ne.symm hj)] at e2
    obtain ⟨u',r',q⟩:=hl j y v' e1 e2 e3
    refine ⟨u',r',?_⟩
    rcases q with ⟨k,e⟩ | ⟨k,c,e,z⟩
    ·refine .inl ⟨k,?_⟩
     have:y ≠ x:=fun e=>hj (sO hN e1 (e ▸ hi))
     simp [this,e]
    ·exact .inr ⟨k,c,e,z.sameBut hs (cne y c e)⟩
  ·obtain ⟨w',z⟩:=I.cell y c e
   exact ⟨w',z.sameBut hs (cne y c e)⟩
  ·obtain ⟨e,n,ne,nf,d⟩:=I.pin p hp
   exact ⟨(hs.2 p.1 ne).trans e,n,ne,nf,d⟩
 ·have hfn:X.fn x=true:=by
   rcases hf with z | z
   ·exact z
   ·rw [z] at hk; cases hk
  obtain ⟨c,hc⟩:=I.ok.has x (.inl hk)
  obtain ⟨w',z⟩:=I.cell x c hc
  refine wpAny_storeName_cell I.ok.kind hk hc z (fun h' hc' hs=>?_)
  obtain ⟨oc,hoc,hocd⟩:=id z
  refine h { s with heap:=h' } ⟨I.ok,I.os,I.bare,⟨fun b o e n hb hx=>?_,fun b o e n hb hx=>?_,I.base.free,fun b o e hx=>?_,I.base.tups,I.base.frzs,I.base.tbls⟩,⟨m,hn.sameBut hs (Ne.symm (cne x c hc)),fun j y v' e1 e2 e3=>?_⟩,fun y c' e=>?_,I.free,I.freeC,fun p hp=>?_,tracked ⟨oc,hoc,I.freeC x c hc⟩ hs,by simpa using I.len⟩ ⟨c,hs,.inr hc⟩
  ·exact (hs.2 b (Nat.ne_of_lt (Nat.lt_of_lt_of_le (Heap.lt_size e) (I.ok.cab x c hfn hc)))).trans (I.base.keep b o e n hb hx)
  ·obtain ⟨sl,e1⟩:=I.base.slot b o e n hb hx
   exact ⟨sl,(hs.2 b (Nat.ne_of_lt (Nat.lt_of_lt_of_le (Heap.lt_size e) (I.ok.cab x c hfn hc)))).trans e1⟩
  ·obtain ⟨o',e1⟩:=I.base.there b o e hx
   exact ⟨o',(hs.2 b (Nat.ne_of_lt (Nat.lt_of_lt_of_le (Heap.lt_size e) (I.ok.cab x c hfn hc)))).trans e1⟩
  ·by_cases hj:j=i
   ·subst hj
    rw [hi] at e1; cases e1
    rw [List.getElem?_set_self hiσ] at e2
    cases e2
    exact ⟨u,r,.inr ⟨.inl hk,c,hc,hc'⟩⟩
   ·rw [List.getElem?_set_ne (Ne.symm hj)] at e2
    obtain ⟨u',r',q⟩:=hl j y v' e1 e2 e3
    refine ⟨u',r',?_⟩
    rcases q with q | ⟨k,c',e,z'⟩
    ·exact .inl q
    ·refine .inr ⟨k,c',e,z'.sameBut hs ?_⟩
     rintro rfl
     exact hj (sO hN e1 (I.ok.inj _ _ _ e hc ▸ hi))
  ·by_cases hcc:c'=c
   ·subst hcc; exact ⟨_,hc'⟩
   ·obtain ⟨w2,z2⟩:=I.cell y c' e
    exact ⟨w2,z2.sameBut hs hcc⟩
  ·obtain ⟨e,n,ne,nf,d⟩:=I.pin p hp
   refine ⟨(hs.2 p.1 ?_).trans e,n,ne,nf,d⟩
   intro q
   rw [q,hoc] at e
   have q':oc=p.2:=Option.some.inj e
   exact d w' (by rw [<- q']; exact hocd)
theorem oS {M:Model} {A:Around} {E:Value->Shared->Prop} {i:Nat} {x:Str} {v:V} {u:Value} {Q:Unit->Shared->Prop} (I:Inv X pins σ H s) (hN:X.N.Nodup) (hi:X.N[i]?=some x) (hx:Loc X.env.scope x) (r:RelV v u)
  (h:∀ s',Inv X pins (σ.set i (some v)) H s'->Q () s') (hf:X.fn x=true\/X.env.scope.names.lookup x=some .local:=by first | exact .inl rfl | exact .inr rfl | assumption):wpAny M A (storeName X.env x u) Q E s:=
 pj I hN hi hx r (fun s' I' _=>h s' I') hf
theorem Inv.call' {s':Shared} {ch:List Addr} (I:Inv X pins σ H s) (ho:s'.os=s.os) (u:Un (frs X.stack) ch H H' s.heap s'.heap) (hok:HOk X.prog X.w H' s'.heap) (hg:AllBare s'.gens)
  (hch:∀ b ∈ ch,(b ∈ X.ex\/X.s₀.heap.objs.size<=b)/\b ≠ X.env.locals/\(∀ x c,X.env.cells.lookup x=some c->c ≠ b)/\∀ p ∈ X.pn++pins,p.1 ≠ b):Inv X pins σ H' s':=by
 obtain ⟨h',g',d',t',o'⟩:=s'
 have e:o'=s.os:=ho
 subst e
 exact I.call (g':=g') (t':=t') (d':=d') u hok hg hch
end
abbrev XK:=Value->Option Addr->Hp->Prop
abbrev St:=List (Option V)
abbrev VK:=V->Hp->Prop
abbrev TE:=St->Hp->VK->Prop
abbrev TT:=St->Hp->(Bool->Hp->Prop)->Prop
abbrev TA:=St->Hp->(List V->Hp->Prop)->Prop
structure Ends where
 nx:St->Hp->Prop
 rt:VK
 bk:St->Hp->Prop:=fun _ _=>False
 ct:St->Hp->Prop:=fun _ _=>False
abbrev TS:=Ends->St->Hp->Prop
def EP (X:Cx) (pins:List (Addr × Obj)) (σ:St) (Q:VK) (u:Value) (s':Shared):Prop:=∃ v H',Inv X pins σ H' s'/\RelV v u/\Q v H'
def TP (X:Cx) (pins:List (Addr × Obj)) (σ:St) (Q:Bool->Hp->Prop) (b:Bool) (s':Shared):Prop:=∃ H',Inv X pins σ H' s'/\Q b H'
def AP (X:Cx) (pins:List (Addr × Obj)) (σ:St) (Q:List V->Hp->Prop) (us:List Value) (s':Shared):Prop:=∃ vs H',Inv X pins σ H' s'/\Vals vs us/\Q vs H'
def SP (X:Cx) (pins:List (Addr × Obj)) (D:Ends) (f:Flow) (s':Shared):Prop:=
 match f with
 | .next=>∃ σ' H',Inv X pins σ' H' s'/\D.nx σ' H'
 | .brk=>∃ σ' H',Inv X pins σ' H' s'/\D.bk σ' H'
 | .cont=>∃ σ' H',Inv X pins σ' H' s'/\D.ct σ' H'
 | .ret u=>∃ v σ' H',Inv X pins σ' H' s'/\RelV v u/\D.rt v H'
def PE (X:Cx) (e:Expr) (t:TE):Prop:=
 ∀ (pins:List (Addr × Obj)) (s:Shared) (σ:St) (H:Hp) (Q:VK),Inv X pins σ H s->t σ H Q->wpAny (model X.prog X.w) X.A (eval e X.env) (EP X pins σ Q) X.xe s
def PT (X:Cx) (e:Expr) (t:TT):Prop:=
 ∀ (pins:List (Addr × Obj)) (s:Shared) (σ:St) (H:Hp) (Q:Bool->Hp->Prop),Inv X pins σ H s->t σ H Q->wpAny (model X.prog X.w) X.A (isTrue e X.env (eval e X.env)) (TP X pins σ Q) X.xe s
def PW (X:Cx) (e:Expr) (t:TT):Prop:=
 ∀ (whole:Sem Value) (pins:List (Addr × Obj)) (s:Shared) (σ:St) (H:Hp) (Q:Bool->Hp->Prop),Inv X pins σ H s->t σ H Q->wpAny (model X.prog X.w) X.A (isTrue e X.env whole) (TP X pins σ Q) X.xe s
def PA (X:Cx) (es:List Expr) (t:TA):Prop:=
 ∀ (pos:Pos) (pins:List (Addr × Obj)) (s:Shared) (σ:St) (H:Hp) (Q:List V->Hp->Prop),Inv X pins σ H s->t σ H Q->wpAny (model X.prog X.w) X.A (spliced (backTo pos (starEach es X.env))) (AP X pins σ Q) X.xe s
def PS (X:Cx) (st:Stmt) (t:TS):Prop:=
 ∀ (pins:List (Addr × Obj)) (s:Shared) (σ:St) (H:Hp) (D:Ends),Inv X pins σ H s->t D σ H->wpAny (model X.prog X.w) X.A (exec st X.env) (SP X pins D) X.xe s
def PSs (X:Cx) (st:List Stmt) (t:TS):Prop:=
 ∀ (pins:List (Addr × Obj)) (s:Shared) (σ:St) (H:Hp) (D:Ends),Inv X pins σ H s->t D σ H->wpAny (model X.prog X.w) X.A (execs st X.env) (SP X pins D) X.xe s
theorem thn {α:Type} {t:Sem α} {Q Q':α->Shared->Prop} {M:Model} {A:Around} {E:Value->Shared->Prop} {s:Shared} (h:wpAny M A t Q E s) (hQ:∀ a s,Q a s->Q' a s):wpAny M A t Q' E s:=wpAny_mono h hQ fun _ _ x=>x
end L2
namespace L2
open PySem PySem.Spec PyProof.Rows
section
variable {X:Cx}
def FC (i:Nat):TE:=fun σ H Q=>∃ v,σ[i]?=some (some v)/\Q v H
def tC (v:V):TE:=fun _ H Q=>Q v H
theorem gJ {i:Nat} {x:Str} {pos:Pos} (hN:X.N[i]?=some x) (hv:Vis X.env.scope x) (hd:(x==("__debug__":Str))=false:=by decide) (hcd:(x==("__classdict__":Str))=false:=by decide):PE X (.Name x pos) (FC i):=by
 intro pins s σ H Q I h
 obtain ⟨v,e,h⟩:=h
 obtain ⟨m,hn,hl⟩:=I.loc
 obtain ⟨u,r,l⟩:=hl i x v hN e hv
 have fin:EP X pins σ Q u s:=⟨v,H,I,r,h⟩
 rcases l with ⟨hk,hm⟩ | ⟨hk,c,hc,hcell⟩
 ·exact wpAny_Name (wpAny_loadName_local I.ok.kind hk hn hm fin) hd
 ·rcases hk with hk | hk
  ·exact wpAny_Name (wpAny_loadName_cell I.ok.kind hk hc hcell fin) hd
  ·exact wpAny_Name (wpAny_loadName_free I.ok.kind hk hc hcell fin hcd) hd
theorem EL {i j pos}:PE X (.Constant (.int i) j pos) (tC (.int i)):=fun _ _ _ H _ I h=>wpAny_Constant_int ⟨.int i,H,I.tok _,⟨_,rfl⟩,h⟩
theorem GF {b j pos}:PE X (.Constant (.bool b) j pos) (tC (.bl b)):=fun _ _ _ H _ I h=>Constant_bool ⟨.bl b,H,I,rfl,h⟩
theorem ES {j pos}:PE X (.Constant .none j pos) (tC .non):=fun _ _ _ H _ I h=>Constant_none ⟨.non,H,I,rfl,h⟩
theorem D4 {x j pos}:PE X (.Constant (.str x) j pos) (tC (.str x)):=fun _ _ _ H _ I h=>Calls.Constant_str ⟨.str x,H,I.tok _,⟨_,rfl⟩,h⟩
def Gl (X:Cx) (x:Str):Prop:=X.env.kindOf x=some .globalImplicit
theorem nP {E:Value->Shared->Prop} {pins:List (Addr × Obj)} {s:Shared} {σ:St} {H:Hp} {x:Str} {u:Value} {pos:Pos} {Q:Value->Shared->Prop} (I:Inv X pins σ H s) (hg:Gl X x) (hm:X.mg x=some u) (h:Q u s)
  (hd:(x==("__debug__":Str))=false:=by decide):wpAny (model X.prog X.w) X.A (eval (.Name x pos) X.env) Q E s:=
 Calls.Name_function_global I.ok.kind hg (Calls.loadGlobal_global (by rw [I.ok.glob]; exact I.mod.glob.keeps I.bk) hm h) hd
theorem sT {E:Value->Shared->Prop} {pins:List (Addr × Obj)} {s:Shared} {σ:St} {H:Hp} {x:Str} {u:Value} {pos:Pos} {Q:Value->Shared->Prop} (I:Inv X pins σ H s) (hg:Gl X x) (hm:X.mg x=none) (hv:bootBuiltins x=some u) (h:Q u s)
  (hn:x ≠ "__name__":=by decide) (hd:(x==("__debug__":Str))=false:=by decide):wpAny (model X.prog X.w) X.A (eval (.Name x pos) X.env) Q E s:=by
 obtain ⟨mb,h1,h2⟩:=I.mod.blt
 exact Calls.Name_function_global I.ok.kind hg (Calls.loadGlobal_builtin (by rw [I.ok.glob]; exact I.mod.glob.keeps I.bk) hm (by rw [I.ok.blt]; exact h1.keeps I.bk) ((h2 x hn).trans hv) h) hd
theorem vt {x:Str} {v:V} {u:Value} {pos:Pos} (hg:Gl X x) (hm:X.mg x=some u) (r:RelV v u) (hd:(x==("__debug__":Str))=false:=by decide):PE X (.Name x pos) (tC v):=
 fun _ _ _ H _ I h=>nP I hg hm ⟨v,H,I,r,h⟩ hd
theorem AR {x:Str} {v:V} {u:Value} {pos:Pos} (hg:Gl X x) (hm:X.mg x=none) (hv:bootBuiltins x=some u) (r:RelV v u) (hn:x ≠ "__name__":=by decide) (hd:(x==("__debug__":Str))=false:=by decide):PE X (.Name x pos) (tC v):=
 fun _ _ _ H _ I h=>sT I hg hm hv ⟨v,H,I,r,h⟩ hn hd
variable {a b:Expr} {ta tb:TE} {pos:Pos}
variable {tA tB':TT} {cq:List Expr}
def Il (t u:TT):TT:=fun σ H Q=>t σ H fun c H1=>if c=true then u σ H1 Q else Q false H1
def tOr (t u:TT):TT:=fun σ H Q=>t σ H fun c H1=>if c=true then Q true H1 else u σ H1 Q
def HU (t:TT):TT:=fun σ H Q=>t σ H fun c H1=>Q (!c) H1
theorem BE (ha:PT X a tA):PW X (.BoolOp .And [a] pos) tA:=by
 intro wh pins s σ H Q I h
 refine isTrue_and (thn (ha pins s σ H Q I h) fun c s1 e=>?_)
 cases c with
 | true=>exact isTrue_and_nil e
 | false=>exact e
theorem Eu (ha:PT X a tA):PW X (.BoolOp .Or [a] pos) tA:=by
 intro wh pins s σ H Q I h
 refine isTrue_or (thn (ha pins s σ H Q I h) fun c s1 e=>?_)
 cases c with
 | false=>exact isTrue_or_nil e
 | true=>exact e
theorem DG (ha:PT X a tA) (hb:PW X (.BoolOp .And (b::cq) pos) tB'):PW X (.BoolOp .And (a::b::cq) pos) (Il tA tB'):=by
 intro wh pins s σ H Q I h
 refine isTrue_and (thn (ha pins s σ H _ I h) fun c s1 ⟨H1,I1,q1⟩=>?_)
 cases c with
 | true=>exact hb wh pins s1 σ H1 Q I1 q1
 | false=>exact ⟨H1,I1,q1⟩
theorem GH (ha:PT X a tA) (hb:PW X (.BoolOp .Or (b::cq) pos) tB'):PW X (.BoolOp .Or (a::b::cq) pos) (tOr tA tB'):=by
 intro wh pins s σ H Q I h
 refine isTrue_or (thn (ha pins s σ H _ I h) fun c s1 ⟨H1,I1,q1⟩=>?_)
 cases c with
 | true=>exact ⟨H1,I1,q1⟩
 | false=>exact hb wh pins s1 σ H1 Q I1 q1
theorem EO (ha:PT X a tA):PT X (.UnaryOp .Not a pos) (HU tA):=by
 intro pins s σ H Q I h
 exact isTrue_not (ha pins s σ H (fun c H1=>Q (!c) H1) I h)
def Gh (ta tb:TE):TE:=fun σ H Q=>ta σ H fun x H1=>∃ c,x=.bl c/\if c=true then tb σ H1 Q else Q (.bl false) H1
def Hw (ta tb:TE):TE:=fun σ H Q=>ta σ H fun x H1=>∃ c,x=.bl c/\if c=true then Q (.bl true) H1 else tb σ H1 Q
def FO (ta:TE):TE:=fun σ H Q=>ta σ H fun x H1=>∃ c,x=.bl c/\Q (.bl (!c)) H1
theorem Fk {op} {t:TE} (h:PE X a t):PE X (.BoolOp op [a] pos) t:=fun pins s σ H Q I hw=>BoolOp_one (h pins s σ H Q I hw)
theorem Eb (ha:PE X a ta) (hb:PE X (.BoolOp .And (b::cq) pos) tb):PE X (.BoolOp .And (a::b::cq) pos) (Gh ta tb):=by
 intro pins s σ H Q I h
 refine BoolOp_and (thn (ha pins s σ H _ I h) fun v s1 ⟨x,H1,I1,r1,q1⟩=>?_)
 obtain ⟨c,rfl,q1⟩:=q1
 cases r1
 refine wpAny_truthy_bool ?_
 cases c with
 | true=>exact hb pins s1 σ H1 Q I1 q1
 | false=>exact ⟨.bl false,H1,I1,rfl,q1⟩
theorem Gn (ha:PE X a ta) (hb:PE X (.BoolOp .Or (b::cq) pos) tb):PE X (.BoolOp .Or (a::b::cq) pos) (Hw ta tb):=by
 intro pins s σ H Q I h
 refine BoolOp_or (thn (ha pins s σ H _ I h) fun v s1 ⟨x,H1,I1,r1,q1⟩=>?_)
 obtain ⟨c,rfl,q1⟩:=q1
 cases r1
 refine wpAny_truthy_bool ?_
 cases c with
 | false=>exact hb pins s1 σ H1 Q I1 q1
 | true=>exact ⟨.bl true,H1,I1,rfl,q1⟩
theorem ED (ha:PE X a ta):PE X (.UnaryOp .Not a pos) (FO ta):=by
 intro pins s σ H Q I h
 refine UnaryOp_ (thn (ha pins s σ H _ I h) fun v s1 ⟨x,H1,I1,r1,q1⟩=>?_)
 obtain ⟨c,rfl,q1⟩:=q1
 cases r1
 exact not_of (wpAny_truthy_bool ⟨.bl (!c),H1,I1,rfl,q1⟩)
def tIf (t:TT) (ta tb:TE):TE:=fun σ H Q=>t σ H fun c H1=>if c=true then ta σ H1 Q else tb σ H1 Q
theorem yI {c:Expr} (hc:PT X c tA) (ha:PE X a ta) (hb:PE X b tb):PE X (.IfExp c a b pos) (tIf tA ta tb):=by
 intro pins s σ H Q I h
 refine wpAny_IfExp (thn (hc pins s σ H _ I h) fun d s1 ⟨H1,I1,q1⟩=>?_)
 cases d with
 | true=>exact ha pins s1 σ H1 Q I1 q1
 | false=>exact hb pins s1 σ H1 Q I1 q1
end
end L2
namespace L2
open PySem PySem.Spec PyProof.Rows
def SqL (K:PySem.W.Frag) (H:Hp) (a:Addr) (xs:List V):Prop:=
 Rd H a (.lst xs)\/
  ∃ (o:Obj) (its:Array Value) (n:Nat),K.lookup a=some o/\o.cls=.type "list"/\o.dict=none/\o.data=.seq its n/\its.size<=sizeLine/\Vals xs its.toList
def SqT (K:PySem.W.Frag) (H:Hp) (a:Addr) (xs:List V):Prop:=
 Rd H a (.tup xs)\/
  ∃ (o:Obj) (its:Array Value) (n:Nat),K.lookup a=some o/\o.cls=.type "tuple"/\o.data=.seq its n/\its.size<=sizeLine/\Vals xs its.toList
def HJ:Value->Option V
 | .none=>some .non
 | .bool b=>some (.bl b)
 | .int i _=>some (.int i)
 | .str x _=>some (.str x)
 | .bytes b _=>some (.byt b)
 | .float b _=>some (.flt b)
 | .ref a=>some (.ref a)
 | .type n=>some (.ty n)
 | _=>none
theorem RelV.abs {x:V} {u:Value} (r:RelV x u):HJ u=some x:=by
 cases x with
 | non=>cases r; rfl
 | bl _=>cases r; rfl
 | int _=>obtain ⟨t,rfl⟩:=r; rfl
 | str _=>obtain ⟨t,rfl⟩:=r; rfl
 | byt _=>obtain ⟨t,rfl⟩:=r; rfl
 | flt _=>obtain ⟨t,rfl⟩:=r; rfl
 | ref _=>cases r; rfl
 | ty _=>cases r; rfl
theorem RelV.inj {x y:V} {u:Value} (r:RelV x u) (q:RelV y u):x=y:=Option.some.inj (r.abs.symm.trans q.abs)
theorem Vals.inj:∀ {xs ys:List V} {us:List Value},Vals xs us->Vals ys us->xs=ys
 | _,_,_,.nil,.nil=>rfl
 | _,_,_,.cons r t,.cons r' t'=>by rw [r.inj r',Vals.inj t t']
section
variable {X:Cx} {pins:List (Addr × Obj)} {σ:St} {H:Hp} {s:Shared} {a:Addr} {xs ys:List V}
theorem SqL.of {K:PySem.W.Frag} (h:H a=some (.lst xs)):SqL K H a xs:=.inl (.inl h)
theorem SqT.of {K:PySem.W.Frag} (h:H a=some (.tup xs)):SqT K H a xs:=.inl (.inl h)
theorem Inv.list (I:Inv X pins σ H s) (h:SqL X.K H a xs):∃ its:List Value,Vals xs its/\PlainL s.heap a its.toArray/\xs.length<=sizeLine:=by
 rcases h with h | ⟨o,its,n,hk,hc,hd,hs,hz,r⟩
 ·obtain ⟨z,its,n,r,e⟩:=h.ok I.hok
  exact ⟨its,r,⟨_,n,e,rfl,rfl,rfl⟩,z⟩
 ·refine ⟨its.toList,r,⟨o,n,I.kIn a o hk,hc,hd,by simpa using hs⟩,?_⟩
  have e:=r.length
  simp only [Array.length_toList] at e
  omega
theorem Inv.tuple (I:Inv X pins σ H s) (h:SqT X.K H a xs):∃ its:List Value,Vals xs its/\IsTup s.heap a its.toArray/\xs.length<=sizeLine:=by
 rcases h with h | ⟨o,its,n,hk,hc,hs,hz,r⟩
 ·obtain ⟨z,its,r,p⟩:=h.ok I.hok
  exact ⟨its,r,p,z⟩
 ·refine ⟨its.toList,r,⟨o,I.kIn a o hk,hc,n,by simpa using hs⟩,?_⟩
  have e:=r.length
  simp only [Array.length_toList] at e
  omega
theorem Inv.list_inj (I:Inv X pins σ H s) (h:SqL X.K H a xs) (h':SqL X.K H a ys):xs=ys:=by
 obtain ⟨its,r,⟨o,n,e,_,_,d⟩,_⟩:=I.list h
 obtain ⟨its',r',⟨o',n',e',_,_,d'⟩,_⟩:=I.list h'
 rw [e] at e'; cases e'
 rw [d] at d'
 injection d' with d1 _
 have:its=its':=by simpa using congrArg Array.toList d1
 subst this
 exact r.inj r'
theorem Inv.tuple_inj (I:Inv X pins σ H s) (h:SqT X.K H a xs) (h':SqT X.K H a ys):xs=ys:=by
 obtain ⟨its,r,⟨o,e,_,n,d⟩,_⟩:=I.tuple h
 obtain ⟨its',r',⟨o',e',_,n',d'⟩,_⟩:=I.tuple h'
 rw [e] at e'; cases e'
 rw [d] at d'
 injection d' with d1 _
 have:its=its':=by simpa using congrArg Array.toList d1
 subst this
 exact r.inj r'
end
abbrev Cx.wish (X:Cx) (E:Value->Shared->Prop):Cx:={ X with xe:=E }
section
variable {X:Cx} {pins:List (Addr × Obj)} {σ:St} {H:Hp} {s:Shared} {E:Value->Shared->Prop}
end
section
variable {X:Cx} {st:Stmt} {cq:List Stmt} {t u:TS} {e:Expr} {te:TE} {pos:Pos}
def Gz:TS:=fun D σ H=>D.nx σ H
def Hx (t u:TS):TS:=fun D σ H=>t { D with nx:=u D } σ H
theorem BQ:PSs X [] Gz:=fun _ _ σ H _ I h=>wpAny_execs_nil ⟨σ,H,I,h⟩
theorem oE (h1:PS X st t) (h2:PSs X cq u):PSs X (st::cq) (Hx t u):=by
 intro pins s σ H D I h
 refine wpAny_execs_cons (thn (h1 pins s σ H { D with nx:=u D } I h) fun f s1 q=>?_)
 cases f with
 | next=>
  obtain ⟨σ',H',I',q⟩:=q
  exact h2 pins s1 σ' H' D I' q
 | ret v=>exact q
 | brk=>exact q
 | cont=>exact q
theorem Inv.quiet {pins:List (Addr × Obj)} {σ:St} {H:Hp} {s:Shared} (I:Inv X pins σ H s):interactive X.env=false:=by simp [interactive,I.ok.kind]
def GV (te:TE):TS:=fun D σ H=>te σ H fun _ H1=>D.nx σ H1
theorem kC (he:PE X e te) (hs:swapsWith e none pos.line X.env=pure false:=by rfl):PS X (.Expr e pos) (GV te):=by
 intro pins s σ H D I h
 exact wpAny_Expr_any (thn (he pins s σ H _ I h) fun v s1 ⟨x,H1,I1,r1,q1⟩=>⟨σ,H1,I1,q1⟩) I.quiet hs
def Hy (te:TE):TS:=fun D σ H=>te σ H D.rt
theorem Az (he:PE X e te):PS X (.Return (some e) pos) (Hy te):=by
 intro pins s σ H D I h
 exact wpAny_Return_some (thn (he pins s σ H _ I h) fun v s1 ⟨x,H1,I1,r1,q1⟩=>⟨x,σ,H1,I1,r1,q1⟩)
def HI (c:TT) (t u:TS):TS:=fun D σ H=>c σ H fun b H1=>if b=true then t D σ H1 else u D σ H1
theorem Gx {c:Expr} {a b:List Stmt} {tc:TT} (hc:PT X c tc) (ha:PSs X a t) (hb:PSs X b u):PS X (.If c a b pos) (HI tc t u):=by
 intro pins s σ H D I h
 refine wpAny_If (thn (hc pins s σ H _ I h) fun d s1 ⟨H1,I1,q1⟩=>?_)
 cases d with
 | true=>exact ha pins s1 σ H1 D I1 q1
 | false=>exact hb pins s1 σ H1 D I1 q1
end
abbrev TG:=V->St->Hp->(St->Hp->Prop)->Prop
abbrev TGs:=List V->St->Hp->(St->Hp->Prop)->Prop
def PG (X:Cx) (target:Expr) (t:TG):Prop:=
 ∀ (pins:List (Addr × Obj)) (s:Shared) (σ:St) (H:Hp) (v:V) (u:Value) (Q:St->Hp->Prop),Inv X pins σ H s->RelV v u->t v σ H Q->
  wpAny (model X.prog X.w) X.A (assign target X.env u) (fun _ s'=>∃ σ' H',Inv X pins σ' H' s'/\Q σ' H') X.xe s
def PGs (X:Cx) (ts:List Expr) (t:TGs):Prop:=
 ∀ (pins:List (Addr × Obj)) (s:Shared) (σ:St) (H:Hp) (vs:List V) (us:List Value) (Q:St->Hp->Prop),Inv X pins σ H s->Vals vs us->t vs σ H Q->
  wpAny (model X.prog X.w) X.A (assignInOrder ((assignEach ts X.env).map (·.2)) us) (fun _ s'=>∃ σ' H',Inv X pins σ' H' s'/\Q σ' H') X.xe s
section
variable {X:Cx} {pos:Pos}
def Gg (i:Nat):TG:=fun v σ H Q=>Q (σ.set i (some v)) H
theorem rZ {i:Nat} {x:Str} (hN:X.N.Nodup) (hi:X.N[i]?=some x) (hx:Loc X.env.scope x) (hf:X.fn x=true\/X.env.scope.names.lookup x=some .local:=by first | exact .inl rfl | exact .inr rfl | assumption):PG X (.Name x pos) (Gg i):=by
 intro pins s σ H v u Q I r h
 exact wpAny_assign_Name (oS I hN hi hx r (fun s' I'=>⟨_,H,I',h⟩) hf)
def IH:TGs:=fun vs σ H Q=>vs=[]/\Q σ H
def Gc (t:TG) (u:TGs):TGs:=fun vs σ H Q=>∃ v r,vs=v::r/\t v σ H fun σ' H'=>u r σ' H' Q
theorem Cn:PGs X [] IH:=by
 intro pins s σ H vs us Q I r h
 obtain ⟨e,h⟩:=h
 subst e
 cases r
 exact assignInOrder_nil ⟨σ,H,I,h⟩
theorem zb {e:Expr} {es:List Expr} {t:TG} {u:TGs} (h1:PG X e t) (h2:PGs X es u)
  (hs:(assignEach (e::es) X.env).map (·.2)=assign e X.env::(assignEach es X.env).map (·.2):=by rfl):PGs X (e::es) (Gc t u):=by
 intro pins s σ H vs us Q I r h
 obtain ⟨v,vr,e1,h⟩:=h
 subst e1
 cases r with
 | cons r rr=>
  rw [hs]
  refine assignInOrder_cons (thn (h1 pins s σ H _ _ _ I r h) fun _ s1 ⟨σ1,H1,I1,q1⟩=>?_)
  exact h2 pins s1 σ1 H1 _ _ Q I1 rr q1
def HK (K:PySem.W.Frag) (n:Nat) (t:TGs):TG:=fun v σ H Q=>∃ a xs,v=.ref a/\SqT K H a xs/\xs.length=n/\t xs σ H Q
theorem Du {es:List Expr} {k:Nat} {t:TGs} {n:Nat} (hc:X.calm=true) (h:PGs X es t)
  (hn:(assignEach es X.env).length=n:=by rfl) (hst:(assignEach es X.env).findIdx? (·.1)=none:=by rfl):PG X (.Tuple es k pos) (HK X.K n t):=by
 intro pins s σ H v u Q I r hw
 obtain ⟨a,xs,e1,hq,hl,hw⟩:=hw
 subst e1
 cases r
 obtain ⟨its,rv,ht,hz⟩:=I.tuple hq
 refine assign_Tuple_tuple (I.ok.hd hc) ht (by simp [hn,<- hl,rv.length]) hst fun h' hx=>?_
 have I1:Inv X pins σ H { s with heap:=h' }:=I.kept (t':=s.toks) fun b o e=>hx b o (Nat.ne_of_lt (Heap.lt_size e)) e
 exact h pins _ σ H xs _ Q I1 (by simpa using rv) hw
def Iq (te:TE) (g:TG):TS:=fun D σ H=>te σ H fun x H1=>g x σ H1 D.nx
theorem AE {tg e:Expr} {te:TE} {g:TG} (he:PE X e te) (hg:PG X tg g) (hs:swapsWithSole [tg] e pos.line X.env=pure false:=by rfl) (hw:swappedStores [tg] e X.env=pure none:=by rfl)
  (h1:(assignEach [tg] X.env).map (·.2)=[assign tg X.env]:=by rfl):PS X (.Assign [tg] e pos) (Iq te g):=by
 intro pins s σ H D I h
 refine wpAny_Assign_stores (thn (he pins s σ H _ I h) fun v s1 ⟨x,H1,I1,r1,q1⟩=>?_) hs hw
 rw [h1]
 exact thn (hg pins s1 σ H1 x v _ I1 r1 q1) fun _ s2 q=>q
def Iv (i j:Nat) (ta:TA):TS:=fun D σ H=>ta σ H fun vs H1=>∃ v w,vs=[v,w]/\D.nx ((σ.set i (some v)).set j (some w)) H1
theorem xa {i j:Nat} {x y:Str} {a b:Expr} {ta:TA} {px py pt:Pos} {kt k2 pt2} (hc:X.calm=true) (hN:X.N.Nodup) (hi:X.N[i]?=some x) (hj:X.N[j]?=some y) (hij:i ≠ j)
  (hx:X.env.scope.names.lookup x=some .local) (hy:X.env.scope.names.lookup y=some .local) (ha:PA X [a,b] ta)
  (hw:swappedStores [.Tuple [.Name x px,.Name y py] kt pt] (.Tuple [a,b] k2 pt2) X.env=pure (some [x,y]))
  (hs:swapsWithSole [.Tuple [.Name x px,.Name y py] kt pt] (.Tuple [a,b] k2 pt2) pos.line X.env=pure false:=by rfl) :
  PS X (.Assign [.Tuple [.Name x px,.Name y py] kt pt] (.Tuple [a,b] k2 pt2) pos) (Iv i j ta):=by
 intro pins s σ H D I h
 rw [exec_Assign_arm]
 refine wpAny_bind (wpAny_standAt ?_)
 rw [hs]
 refine wpAny_bind (wpAny_pure ?_)
 rw [if_neg (by decide)]
 refine wpAny_bind (Tuple_ (thn (ha _ pins s σ H _ I h) fun us s1 ⟨vs,H1,I1,r1,q1⟩=>?_))
 obtain ⟨v,w,e1,q1⟩:=q1
 subst e1
 obtain ⟨u1,u2,rfl,rv,rw'⟩:∃ u1 u2,us=[u1,u2]/\RelV v u1/\RelV w u2:=by
  cases r1 with
  | cons p q=>
   cases q with
   | cons p' q'=>
    cases q'
    exact ⟨_,_,rfl,p,p'⟩
 refine wpAny_newObj_type ?_ (by show 2<=sizeLine; decide)
 have I2:Inv X pins σ H1 { s1 with heap:=s1.heap.push { cls:=.type "tuple",data:=.seq [u1,u2].toArray } }:=I1.kept (t':=s1.toks) fun b o e=>Heap.get?_push_of_some _ e
 rw [hw]
 refine wpAny_bind (wpAny_pure ?_)
 show wpAny (model X.prog X.w) X.A (do rule "assign.swapped-stores"; let items <- unpackItems (.ref s1.heap.objs.size) 2 none; assignInOrder [fun v=>bindName X.env y v,fun v=>bindName X.env x v] items.reverse; pure Flow.next) _ _ _
 refine wpAny_bind (wpAny_rule (wpAny_bind (unpackItems_tuple (items:=#[u1,u2]) (I.ok.hd hc) (IsTup.new s1.heap _) fun h' hx'=>?_)))
 have I3:=I2.kept (h':=h') (t':=s1.toks) fun b o e=>hx' b o (Nat.ne_of_lt (Heap.lt_size e)) e
 show wpAny _ _ (assignInOrder [fun v=>bindName X.env y v,fun v=>bindName X.env x v] [u2,u1]>>=fun _=>pure Flow.next) _ _ _
 refine wpAny_bind (assignInOrder_cons (wpAny_bindName (oS I3 hN hj (.inl hy) rw' (fun s2 I4=>?_) (.inr hy))))
 refine assignInOrder_cons (wpAny_bindName (oS I4 hN hi (.inl hx) rv (fun s3 I5=>assignInOrder_nil (wpAny_pure ?_)) (.inr hx)))
 rw [List.set_comm _ _ (Ne.symm hij)] at I5
 exact ⟨_,H1,I5,q1⟩
end
section
variable {X:Cx} {pos:Pos}
end
structure It where
 go:Nat->Hp->Prop
 yld:Nat->Hp->V->Hp->Prop
 stop:Nat->Hp->Prop
def uQ (X:Cx) (pins:List (Addr × Obj)) (H:Hp) (b:Addr):Prop:=
 H b=none/\b ≠ X.env.locals/\b ∉ X.fs/\(b ∈ X.ex\/X.s₀.heap.objs.size<=b)/\(∀ x c,X.env.cells.lookup x=some c->c ≠ b)/\∀ p ∈ X.pn++pins,p.1 ≠ b
theorem Inv.fpOk {X:Cx} {pins:List (Addr × Obj)} {σ:St} {H H':Hp} {s:Shared} {b:Addr} (I:Inv X pins σ H s) (hb:s.heap.objs.size<=b) (hn:H' b=none):uQ X pins H' b:=by
 refine ⟨hn,Nat.ne_of_gt (Nat.lt_of_lt_of_le I.lt hb),I.nofs hb,.inr (Nat.le_trans I.sz hb),fun x c e z=>?_,fun p hp z=>?_⟩
 ·obtain ⟨v,q⟩:=I.cell x c e
  exact absurd (Nat.lt_of_lt_of_le q.lt (by rw [z]; exact hb)) (Nat.lt_irrefl _)
 ·exact absurd (Nat.lt_of_lt_of_le (Heap.lt_size (I.pin p hp).1) (by rw [z]; exact hb)) (Nat.lt_irrefl _)
structure Turn (P:Program) (w:World) (K:PySem.W.Frag) (tg:Expr) (J:It) (fp:List Addr) (it:Addr) (tn:Nat->Heap->Prop):Prop where
 mem:it ∈ fp
 obj:∀ i h,tn i h->∀ b ∈ fp,∃ o,h.get? b=some o/\∀ v,o.data ≠ .cell v
 keep:∀ i h h',tn i h->(∀ b ∈ fp,∀ o,h.get? b=some o->h'.get? b=some o)->tn i h'
 item:∀ (X:Cx),X.prog=P->X.w=w->X.K=K->X.calm=true->∀ (i:Nat) (pins:List (Addr × Obj)) (s:Shared) (σ:St) (H:Hp) (E:Value->Shared->Prop),Inv X pins σ H s->(∀ b ∈ fp,uQ X pins H b)->tn i s.heap->J.go i H->
  wpAny (model P w) X.A (pyNext (.ref it)) (fun r s1=>∃ u,r=some u/\
   wpAny (model P w) X.A (letOwnedTupleGo tg (.ref it) u) (fun _ s2=>∃ x H',Inv X pins σ H' s2/\RelV x u/\J.yld i H x H'/\tn (i+1) s2.heap/\∀ b ∈ fp,H' b=none) E s1) E s
 done:∀ (X:Cx),X.prog=P->X.w=w->X.K=K->X.calm=true->∀ (i:Nat) (pins:List (Addr × Obj)) (s:Shared) (σ:St) (H:Hp) (E:Value->Shared->Prop),Inv X pins σ H s->(∀ b ∈ fp,uQ X pins H b)->tn i s.heap->J.stop i H->
  wpAny (model P w) X.A (pyNext (.ref it)) (fun r s1=>r=none/\Inv X pins σ H s1) E s
 self:∀ (A:Around) (i:Nat) (s:Shared) (Q:Value->Shared->Prop) (E:Value->Shared->Prop),tn i s.heap->Q (.ref it) s->wpAny (model P w) A (pyIter (.ref it)) Q E s
abbrev TI:=St->Hp->(It->Hp->Prop)->Prop
def PIE (X:Cx) (pins:List (Addr × Obj)) (σ:St) (tg:Expr) (R:It->Hp->Prop) (itv:Value) (s2:Shared):Prop:=
 ∃ (it:Addr) (fp:List Addr) (tn:Nat->Heap->Prop) (J:It) (H':Hp),itv=.ref it/\Inv X pins σ H' s2/\Turn X.prog X.w X.K tg J fp it tn/\tn 0 s2.heap/\(∀ b ∈ fp,uQ X pins H' b)/\R J H'
def PI (X:Cx) (tg iter:Expr) (wi:TI):Prop:=
 ∀ (pins:List (Addr × Obj)) (s:Shared) (σ:St) (H:Hp) (R:It->Hp->Prop),Inv X pins σ H s->wi σ H R->
  wpAny (model X.prog X.w) X.A (eval iter X.env) (fun v s1=>wpAny (model X.prog X.w) X.A (pyIter v) (PIE X pins σ tg R) X.xe s1) X.xe s
theorem vU {M : Model} {A : Around} {E : Value -> Shared -> Prop} {s : Shared} {tg : Expr} {it : Addr} {u : Value} {o : Obj} {n : String} {vs : Array Value} {Q : Unit -> Shared -> Prop} (ho : s.heap.get? it = some o) (hc : o.cls = .type n) (hd : o.data = .fields vs)
    (hn : ["enumerate", "zip", "dict_itemiterator", "dict_reverseitemiterator", "odict_iterator", "itertools.zip_longest", "itertools.pairwise"].contains n = false) (hQ : Q () s) : wpAny M A (letOwnedTupleGo tg (.ref it) u) Q E s := by
  unfold letOwnedTupleGo
  cases tg <;> first
    | exact wpAny_pure hQ
    | (cases u <;> first
        | exact wpAny_pure hQ
        | (refine wpAny_bind (wpAny_load ho ?_)
           rw [hc, hd]
           show wpAny M A (if (["enumerate", "zip", "dict_itemiterator", "dict_reverseitemiterator", "odict_iterator", "itertools.zip_longest", "itertools.pairwise"].contains n && vs[0]? == some (rawInt _)) = true then _ else _) Q E s
           rw [if_neg (by intro h; rw [hn, Bool.false_and] at h; cases h)]
           exact wpAny_pure hQ))

def Itl (K:PySem.W.Frag) (a:Addr):It:=
 ⟨fun i H=>∃ xs x,SqL K H a xs/\xs[i]?=some x,fun i H x H'=>H'=H/\∀ xs,SqL K H a xs->xs[i]?=some x,fun i H=>∃ xs,SqL K H a xs/\xs.length<=i⟩
def Itt (K:PySem.W.Frag) (a:Addr):It:=
 ⟨fun i H=>∃ xs x,SqT K H a xs/\xs[i]?=some x,fun i H x H'=>H'=H/\∀ xs,SqT K H a xs->xs[i]?=some x,fun i H=>∃ xs,SqT K H a xs/\xs.length<=i⟩
def Itr (lo:Int) (n:Nat):It:=⟨fun i _=>i < n,fun i H x H'=>H'=H/\x=.int (lo+i),fun i _=>n<=i⟩
theorem xF {P:Program} {w:World} {K:PySem.W.Frag} {tg:Expr} (a it:Addr):Turn P w K tg (Itl K a) [it] it (fun i h=>h.IsListIter it a i) where
 mem:=by simp
 obj:=fun i h st b hb=>by
  have e:b=it:=by simpa using hb
  subst e
  obtain ⟨o,e,c,d⟩:=st
  exact ⟨o,e,fun v z=>by rw [d] at z; cases z⟩
 keep:=fun i h h' st k=>st.at fun o e=>k it (by simp) o e
 item:=by
  intro X hP hw hK hc i pins s σ H E I hf st hg
  subst hP hw hK
  obtain ⟨xs,x,hq,hx⟩:=hg
  obtain ⟨its,rv,p,hz⟩:=I.list hq
  obtain ⟨u,hu,ru⟩:=rv.get hx
  obtain ⟨f0,f1,f2,f3,f4,f5⟩:=hf it (by simp)
  refine wpAny_pyNext_list_item st p.isList (x:=u) (by simpa using hu) fun h' st' sb=>?_
  have I1:Inv X pins σ H { s with heap:=h' }:=I.turned (t':=s.toks) (fun b o hb e=>(sb.2 b hb).trans e) f0 f1 f3 f4 f5
  obtain ⟨o,e,c,d⟩:=id st'
  exact ⟨u,rfl,vU (s:={ s with heap:=h' }) e c d (by decide) ⟨x,H,I1,ru,⟨rfl,fun ys hy=>by rw [I.list_inj hy hq]; exact hx⟩,st',fun b hb=>(hf b hb).1⟩⟩
 done:=by
  intro X hP hw hK hc i pins s σ H E I hf st hg
  subst hP hw hK
  obtain ⟨xs,hq,hx⟩:=hg
  obtain ⟨its,rv,p,hz⟩:=I.list hq
  obtain ⟨f0,f1,f2,f3,f4,f5⟩:=hf it (by simp)
  have hl:=rv.length
  exact wpAny_pyNext_list_end (I.ok.hd hc) st p.isList (by simp; omega) fun h' eb=>⟨rfl,I.turned (t':=s.toks) (fun b o hb e=>eb b o hb e) f0 f1 f3 f4 f5⟩
 self:=fun _ _ _ _ _ st h=>wpAny_pyIter_listiter st h
theorem ua {P:Program} {w:World} {K:PySem.W.Frag} {tg:Expr} (a it:Addr):Turn P w K tg (Itt K a) [it] it (fun i h=>h.IsTupleIter it a i) where
 mem:=by simp
 obj:=fun i h st b hb=>by
  have e:b=it:=by simpa using hb
  subst e
  obtain ⟨o,e,c,d⟩:=st
  exact ⟨o,e,fun v z=>by rw [d] at z; cases z⟩
 keep:=fun i h h' st k=>st.at fun o e=>k it (by simp) o e
 item:=by
  intro X hP hw hK hc i pins s σ H E I hf st hg
  subst hP hw hK
  obtain ⟨xs,x,hq,hx⟩:=hg
  obtain ⟨its,rv,p,hz⟩:=I.tuple hq
  obtain ⟨u,hu,ru⟩:=rv.get hx
  obtain ⟨f0,f1,f2,f3,f4,f5⟩:=hf it (by simp)
  refine wpAny_pyNext_tuple_item st (show s.heap.IsTuple a its.toArray from p) (x:=u) (by simpa using hu) fun h' st' sb=>?_
  have I1:Inv X pins σ H { s with heap:=h' }:=I.turned (t':=s.toks) (fun b o hb e=>(sb.2 b hb).trans e) f0 f1 f3 f4 f5
  obtain ⟨o,e,c,d⟩:=id st'
  exact ⟨u,rfl,vU (s:={ s with heap:=h' }) e c d (by decide) ⟨x,H,I1,ru,⟨rfl,fun ys hy=>by rw [I.tuple_inj hy hq]; exact hx⟩,st',fun b hb=>(hf b hb).1⟩⟩
 done:=by
  intro X hP hw hK hc i pins s σ H E I hf st hg
  subst hP hw hK
  obtain ⟨xs,hq,hx⟩:=hg
  obtain ⟨its,rv,p,hz⟩:=I.tuple hq
  obtain ⟨f0,f1,f2,f3,f4,f5⟩:=hf it (by simp)
  have hl:=rv.length
  exact wpAny_pyNext_tuple_end (I.ok.hd hc) st (show s.heap.IsTuple a its.toArray from p) (by simp; omega) fun h' eb=>⟨rfl,I.turned (t':=s.toks) (fun b o hb e=>eb b o hb e) f0 f1 f3 f4 f5⟩
 self:=fun _ _ _ _ _ st h=>wpAny_pyIter_tupleiter st h
theorem uA {P:Program} {w:World} {K:PySem.W.Frag} {tg:Expr} (it:Addr) (lo:Int) (n:Nat):Turn P w K tg (Itr lo n) [it] it (fun i h=>IsRangeIter h it (lo+(i:Nat) * 1) ((n:Int) - (i:Nat)) 1) where
 mem:=by simp
 obj:=fun i h st b hb=>by
  have e:b=it:=by simpa using hb
  subst e
  exact ⟨_,st,fun v z=>by
   have z':Data.fields _=Data.cell v:=z
   cases z'⟩
 keep:=fun i h h' st k=>k it (by simp) _ st
 item:=by
  intro X hP hw hK hc i pins s σ H E I hf st hg
  subst hP hw hK
  obtain ⟨f0,f1,f2,f3,f4,f5⟩:=hf it (by simp)
  have W:=Walks.range (prog:=X.prog) (w:=X.w) (I.ok.hd hc) it lo 1 n
  refine W.item i s _ _ hg st fun v h' tk hv st' kk=>?_
  obtain ⟨t,rfl⟩:=hv
  have I1:Inv X pins σ H { s with heap:=h',toks:=tk }:=I.turned (fun b o hb e=>kk b o (by simpa using hb) e) f0 f1 f3 f4 f5
  refine ⟨_,rfl,vU (s:={ s with heap:=h',toks:=tk }) (n:="range_iterator") st' rfl rfl (by decide) ⟨.int (lo+i),H,I1,⟨t,?_⟩,⟨rfl,rfl⟩,st',fun b hb=>(hf b hb).1⟩⟩
  rw [Int.mul_one]
 done:=by
  intro X hP hw hK hc i pins s σ H E I hf st hg
  subst hP hw hK
  obtain ⟨f0,f1,f2,f3,f4,f5⟩:=hf it (by simp)
  exact wpAny_pyNext_range_end (I.ok.hd hc) st (by have:n<=i:=hg; omega) fun h' eb=>⟨rfl,I.turned (t':=s.toks) (fun b o hb e=>eb b o hb e) f0 f1 f3 f4 f5⟩
 self:=fun _ _ _ _ _ st h=>wpAny_pyIter_rangeiter st h
end L2
namespace L2
open PySem PySem.Spec PyProof.Rows
section
variable {X:Cx} {tg:Expr}
theorem zh {pins:List (Addr × Obj)} {σ:St} {H:Hp} {s:Shared} {R:It->Hp->Prop} {E:Value->Shared->Prop} {lo hi:Int} {t u v:Tok} {tk:Nat} (I:Inv X pins σ H s) (h1 : -(2 ^ 62)<=lo) (h2:lo < 2 ^ 62) (h3 : -(2 ^ 62)<=hi) (h4:hi < 2 ^ 62)
  (q:R (Itr lo (hi - lo).toNat) H):wpAny (model X.prog X.w) X.A (pyIter (.ref s.heap.objs.size)) (PIE X pins σ tg R) E { s with heap:=s.heap.push { cls:=.type "range",data:=.fields #[.int lo t,.int hi u,.int 1 v] },toks:=tk }:=by
 refine wpAny_pyIter_range (IsRange.new ..) (small_one h1 h2 h3 h4) ?_
 have I1:Inv X pins σ H { s with heap:=s.heap.push { cls:=.type "range",data:=.fields #[.int lo t,.int hi u,.int 1 v] },toks:=tk }:=I.kept fun b o e=>Heap.get?_push_of_some _ e
 refine ⟨(s.heap.push { cls:=.type "range",data:=.fields #[.int lo t,.int hi u,.int 1 v] }).objs.size,[(s.heap.push { cls:=.type "range",data:=.fields #[.int lo t,.int hi u,.int 1 v] }).objs.size],_,_,H,rfl,
  I1.kept (t':=tk) fun b o e=>Heap.get?_push_of_some _ e,uA _ lo (hi - lo).toNat,?_,fun b hb=>?_,q⟩
 ·have e1:lo+((0:Nat):Int) * 1=lo:=by simp
  have e2:(((hi - lo).toNat:Nat):Int) - ((0:Nat):Int)=Builtin.Range.rangeSize lo hi 1:=by rw [rangeSize_one]; split <;> omega
  show IsRangeIter _ _ (lo+((0:Nat):Int) * 1) ((((hi - lo).toNat:Nat):Int) - ((0:Nat):Int)) 1
  rw [e1,e2]
  exact Heap.get?_push_size _ rfl
 ·have e:b=(s.heap.push { cls:=.type "range",data:=.fields #[.int lo t,.int hi u,.int 1 v] }).objs.size:=by simpa using hb
  subst e
  exact I1.fpOk (Nat.le_refl _) (I1.hok.fresh (Nat.le_refl _))
def FU (ta:TA):TI:=fun σ H R=>ta σ H fun vs H1=>∃ j:Int,vs=[.int j]/\-(2 ^ 62)<=j/\j < 2 ^ 62/\R (Itr 0 j.toNat) H1
theorem vz {a:Expr} {ta:TA} {p pos:Pos} (hg:Gl X "range") (hm:X.mg "range"=none) (ha:PA X [a] ta) (hs:starEach [a] X.env=[(false,eval a X.env)]:=by rfl):PI X tg (.Call (.Name "range" p) [a] [] pos) (FU ta):=by
 intro pins s σ H R I h
 refine Call_ (sT I hg hm boot_range (PyProof.Rows.callWith_type1 (thn (ha pos pins s σ H _ I h) fun us s1 ⟨vs,H1,I1,r1,q1⟩=>?_) hs rfl))
 obtain ⟨j,e,q1,q2,q⟩:=q1
 subst e
 cases r1 with
 | cons r rr=>
  cases rr
  obtain ⟨t,rfl⟩:=r
  exact call_range_1 (zh I1 (by omega) (by omega) q1 q2 (by simpa using q))
def HH (wi:TI) (g:TG) (tb:TS):TS:=fun D σ H=>wi σ H fun J H1=>∃ W:Nat->Nat->St->Hp->Prop,(∃ m,W 0 m σ H1)/\∀ i m σ H,W i m σ H->
 (J.stop i H/\D.nx σ H)\/(J.go i H/\∃ N:St->Hp->Prop,(∀ σ' H',N σ' H'->∃ m',m' < m/\W (i+1) m' σ' H')/\∀ x H',J.yld i H x H'->g x σ H' fun σ2 H2=>tb { D with nx:=N,ct:=N,bk:=D.nx } σ2 H2)
def dH (fp:List Addr) (h:Heap):List (Addr × Obj):=fp.filterMap fun b=>(h.get? b).map fun o=>(b,o)
theorem di {fp:List Addr} {h:Heap} {b:Addr} {o:Obj} (hb:b ∈ fp) (e:h.get? b=some o):(b,o) ∈ dH fp h:=List.mem_filterMap.mpr ⟨b,hb,by rw [e]; rfl⟩
theorem xG {fp:List Addr} {h:Heap} {p:Addr × Obj} (hp:p ∈ dH fp h):p.1 ∈ fp/\h.get? p.1=some p.2:=by
 obtain ⟨b,hb,e⟩:=List.mem_filterMap.mp hp
 cases q:h.get? b with
 | none=>rw [q] at e; cases e
 | some o=>
  rw [q] at e
  have e':(b,o)=p:=Option.some.inj e
  subst e'
  exact ⟨hb,q⟩
theorem Inv.pinned {pins:List (Addr × Obj)} {σ:St} {H:Hp} {s:Shared} {fp:List Addr} (I:Inv X pins σ H s) (hf:∀ b ∈ fp,uQ X pins H b) (ho:∀ b ∈ fp,∃ o,s.heap.get? b=some o/\∀ v,o.data ≠ .cell v):Inv X (pins++dH fp s.heap) σ H s:=
 I.pins_of fun p hp=>(List.mem_append.mp hp).elim (fun z=>I.pin p (List.mem_append_right _ z)) fun z=>by
  obtain ⟨hb,e⟩:=xG z
  obtain ⟨f0,f1,f2,_⟩:=hf p.1 hb
  obtain ⟨o,e',d⟩:=ho p.1 hb
  rw [e] at e'; cases e'
  exact ⟨e,f0,f1,f2,d⟩
theorem Inv.unpinned {pins pl:List (Addr × Obj)} {σ:St} {H:Hp} {s:Shared} (I:Inv X (pins++pl) σ H s):Inv X pins σ H s:=I.pins_of fun p hp=>I.pin p (List.mem_append_right _ (List.mem_append_left _ hp))
theorem An {iter:Expr} {body:List Stmt} {wi:TI} {g:TG} {tb:TS} {pos:Pos} (hp:PassesOwn (model X.prog X.w) X.A X.env X.xe) (hc:X.calm=true) (hi:PI X tg iter wi) (hg:PG X tg g) (hb:PSs X body tb)
  (hs:∀ x,foldedSetIterable iter X.env x=pure x:=by intro _; rfl):PS X (.For tg iter body [] pos) (HH wi g tb):=by
 intro pins s σ H D I h
 refine wpAny_For (thn (hi pins s σ H _ I h) fun v s1 h1=>thn h1 fun itv s2 h2=>?_) hs
 obtain ⟨it,fp,tn,J,H2,e,I2,T,st2,f2,W,⟨m0,w0⟩,turn⟩:=h2
 subst e
 have stat:∀ {H':Hp},(∀ b ∈ fp,H' b=none)->∀ b ∈ fp,uQ X pins H' b:=fun hn b hb=>⟨hn b hb,(f2 b hb).2⟩
 refine codeAny_forLoop_any (fun n s'=>∃ i σ' H',Inv X pins σ' H' s'/\tn i s'.heap/\(∀ b ∈ fp,H' b=none)/\W i n σ' H') ?_ m0 ⟨0,σ,H2,I2,st2,fun b hb=>(f2 b hb).1,w0⟩
 rintro n s3 ⟨i,σ3,H3,I3,st3,fr3,w3⟩
 rcases turn i n σ3 H3 w3 with ⟨stop,qn⟩ | ⟨go,N,hN,step⟩
 ·refine wpAny_passesOwn hp (thn (T.done X rfl rfl rfl hc i pins s3 σ3 H3 X.xe I3 (stat fr3) st3 stop) fun r s4 ⟨hr,I4⟩=>?_)
  subst hr
  exact wpAny_execs_nil ⟨σ3,H3,I4,qn⟩
 ·refine wpAny_passesOwn hp (thn (T.item X rfl rfl rfl hc i pins s3 σ3 H3 X.xe I3 (stat fr3) st3 go) fun r s4 ⟨u,hr,h4⟩=>?_)
  subst hr
  refine wpAny_passesOwn hp (thn h4 fun _ s5 ⟨x,H5,I5,r5,y5,st5,fr5⟩=>?_)
  have I5':=I5.pinned (stat fr5) (T.obj _ _ st5)
  refine wpAny_passesOwn hp (thn (hg _ s5 σ3 H5 x u _ I5' r5 (step x H5 y5)) fun _ s6 ⟨σ6,H6,I6,q6⟩=>?_)
  refine wpAny_passesOwn hp (thn (hb _ s6 σ6 H6 _ I6 q6) fun f s7 q7=>?_)
  have again:∀ {σ7:St} {H7:Hp},Inv X (pins++dH fp s5.heap) σ7 H7 s7->N σ7 H7->∃ m,m < n/\∃ i σ' H',Inv X pins σ' H' s7/\tn i s7.heap/\(∀ b ∈ fp,H' b=none)/\W i m σ' H':=fun {σ7 H7} I7 n7=>by
   obtain ⟨m',hm,w7⟩:=hN σ7 H7 n7
   refine ⟨m',hm,i+1,σ7,H7,I7.unpinned,T.keep _ _ _ st5 fun b hb o e=>(I7.pin (b,o) (List.mem_append_right _ (List.mem_append_right _ (di hb e)))).1,fun b hb=>?_,w7⟩
   obtain ⟨o,e,d⟩:=T.obj _ _ st5 b hb
   exact (I7.pin (b,o) (List.mem_append_right _ (List.mem_append_right _ (di hb e)))).2.1
  cases f with
  | next=>obtain ⟨σ7,H7,I7,n7⟩:=q7; exact again I7 n7
  | cont=>obtain ⟨σ7,H7,I7,n7⟩:=q7; exact again I7 n7
  | brk=>obtain ⟨σ7,H7,I7,q7⟩:=q7; exact ⟨σ7,H7,I7.unpinned,q7⟩
  | ret v=>obtain ⟨x7,σ7,H7,I7,r7,q7⟩:=q7; exact ⟨x7,σ7,H7,I7.unpinned,r7,q7⟩
end
end L2
namespace L2
open PySem PySem.Spec PyProof.Rows
abbrev R2:=V->V->Hp->VK->Prop
def OpR (X:Cx) (f:Value->Value->Sem Value) (r:R2):Prop:=
 ∀ (pins:List (Addr × Obj)) (s:Shared) (σ:St) (H:Hp) (x y:V) (v u:Value) (Q:VK),Inv X pins σ H s->RelV x v->RelV y u->r x y H Q->
  wpAny (model X.prog X.w) X.A (f v u) (EP X pins σ Q) X.xe s
def UnR (X:Cx) (f:Value->Sem Value) (r:V->Hp->VK->Prop):Prop:=
 ∀ (pins:List (Addr × Obj)) (s:Shared) (σ:St) (H:Hp) (x:V) (v:Value) (Q:VK),Inv X pins σ H s->RelV x v->r x H Q->
  wpAny (model X.prog X.w) X.A (f v) (EP X pins σ Q) X.xe s
def im (X:Cx) (f:Value) (r:List V->Hp->VK->Prop):Prop:=
 ∀ (pins:List (Addr × Obj)) (s:Shared) (σ:St) (H:Hp) (xs:List V) (us:List Value) (Q:VK),Inv X pins σ H s->Vals xs us->r xs H Q->
  wpAny (model X.prog X.w) X.A (call f us) (EP X pins σ Q) X.xe s
def HW (X:Cx) (r:V->Hp->(Bool->Hp->Prop)->Prop):Prop:=
 ∀ (pins:List (Addr × Obj)) (s:Shared) (σ:St) (H:Hp) (x:V) (v:Value) (Q:Bool->Hp->Prop),Inv X pins σ H s->RelV x v->r x H Q->
  wpAny (model X.prog X.w) X.A (truthy v) (TP X pins σ Q) X.xe s
def tOp (r:R2) (ta tb:TE):TE:=fun σ H Q=>ta σ H fun x H1=>tb σ H1 fun y H2=>r x y H2 Q
def tUn (r:V->Hp->VK->Prop) (ta:TE):TE:=fun σ H Q=>ta σ H fun x H1=>r x H1 Q
def rI (C:Int->Int->Prop) (g:Int->Int->V):R2:=fun x y H Q=>∃ i j,x=.int i/\y=.int j/\C i j/\Q (g i j) H
def rI0 (g:Int->Int->V):R2:=fun x y H Q=>∃ i j,x=.int i/\y=.int j/\Q (g i j) H
def rU (g:Int->V):V->Hp->VK->Prop:=fun x H Q=>∃ i,x=.int i/\Q (g i) H
section
variable {X:Cx} {a b c:Expr} {ta tb tc:TE} {pos:Pos}
theorem Gw (ha:PE X a ta) (hb:PE X b tb) {pins:List (Addr × Obj)} {s:Shared} {σ:St} {H:Hp} {R:V->V->Hp->Prop} (I:Inv X pins σ H s)
  (h:ta σ H fun x H1=>tb σ H1 fun y H2=>R x y H2) {Q:Value->Shared->Prop} {f:Value->Value->Sem Value}
  (hf:∀ v u s2 x y H2,Inv X pins σ H2 s2->RelV x v->RelV y u->R x y H2->wpAny (model X.prog X.w) X.A (f v u) Q X.xe s2) :
  wpAny (model X.prog X.w) X.A (eval a X.env) (fun v s₁=>wpAny (model X.prog X.w) X.A (eval b X.env) (fun u s₂=>wpAny (model X.prog X.w) X.A (f v u) Q X.xe s₂) X.xe s₁) X.xe s:=by
 refine thn (ha pins s σ H _ I h) fun v s1 ⟨x,H1,I1,r1,q1⟩=>?_
 refine thn (hb pins s1 σ H1 _ I1 q1) fun u s2 ⟨y,H2,I2,r2,q2⟩=>?_
 exact hf v u s2 x y H2 I2 r1 r2 q2
theorem Gd {op:Operator} {r:R2} (ho:OpR X (binaryOp op) r) (ha:PE X a ta) (hb:PE X b tb):PE X (.BinOp a op b pos) (tOp r ta tb):=by
 intro pins s σ H Q I h
 exact wpAny_BinOp (Gw ha hb I h fun v u s2 x y H2 I2 rx ry q=>ho pins s2 σ H2 x y v u Q I2 rx ry q)
theorem GD {op:UnaryOp} {r:V->Hp->VK->Prop} (ho:UnR X (unaryOp op) r) (ha:PE X a ta):PE X (.UnaryOp op a pos) (tUn r ta):=by
 intro pins s σ H Q I h
 exact UnaryOp_ (thn (ha pins s σ H _ I h) fun v s1 ⟨x,H1,I1,r1,q1⟩=>ho pins s1 σ H1 x v Q I1 r1 q1)
theorem opI {f:Value->Value->Sem Value} {C:Int->Int->Prop} {g:Int->Int->Int}
  (rule:∀ (i j:Int) (t u:Tok) (s:Shared) (Q:Value->Shared->Prop) (E:Value->Shared->Prop),C i j->Q (.int (g i j) s.toks) { s with toks:=s.toks+1 }->wpAny (model X.prog X.w) X.A (f (.int i t) (.int j u)) Q E s) :
  OpR X f (rI C fun i j=>.int (g i j)):=by
 intro pins s σ H x y v u Q I rx ry h
 obtain ⟨i,j,rfl,rfl,hc,q⟩:=h
 obtain ⟨t,rfl⟩:=rx
 obtain ⟨t',rfl⟩:=ry
 exact rule i j t t' s _ _ hc ⟨.int (g i j),H,I.tok _,⟨_,rfl⟩,q⟩
theorem Hn {f:Value->Value->Sem Value} {g:Int->Int->Int}
  (rule:∀ (i j:Int) (t u:Tok) (s:Shared) (Q:Value->Shared->Prop) (E:Value->Shared->Prop),Q (.int (g i j) s.toks) { s with toks:=s.toks+1 }->wpAny (model X.prog X.w) X.A (f (.int i t) (.int j u)) Q E s) :
  OpR X f (rI0 fun i j=>.int (g i j)):=by
 intro pins s σ H x y v u Q I rx ry h
 obtain ⟨i,j,rfl,rfl,q⟩:=h
 obtain ⟨t,rfl⟩:=rx
 obtain ⟨t',rfl⟩:=ry
 exact rule i j t t' s _ _ ⟨.int (g i j),H,I.tok _,⟨_,rfl⟩,q⟩
theorem Fz {f:Value->Value->Sem Value} {g:Int->Int->Bool}
  (rule:∀ (i j:Int) (t u:Tok) (s:Shared) (Q:Value->Shared->Prop) (E:Value->Shared->Prop),Q (.bool (g i j)) s->wpAny (model X.prog X.w) X.A (f (.int i t) (.int j u)) Q E s) :
  OpR X f (rI0 fun i j=>.bl (g i j)):=by
 intro pins s σ H x y v u Q I rx ry h
 obtain ⟨i,j,rfl,rfl,q⟩:=h
 obtain ⟨t,rfl⟩:=rx
 obtain ⟨t',rfl⟩:=ry
 exact rule i j t t' s _ _ ⟨.bl (g i j),H,I,rfl,q⟩
def IK (i j:Int):Prop:=0 < j/\j < 1073741824
def CMul (i j:Int):Prop:=(-(2 ^ 64) < i/\i < 2 ^ 64)\/(-(2 ^ 64) < j/\j < 2 ^ 64)
theorem CMul.ok {i j:Int} (h:CMul i j):IntMulOk i j:=by
 rcases h with ⟨h1,h2⟩ | ⟨h1,h2⟩
 ·exact .of_left (intBits_le_64 h1 h2)
 ·exact .of_right (intBits_le_64 h1 h2)
theorem op_add:OpR X (binaryOp .Add) (rI0 fun i j=>.int (i+j)):=Hn fun _ _ _ _ _ _ _ q=>add_int q
theorem E9:OpR X (binaryOp .Sub) (rI0 fun i j=>.int (i - j)):=Hn fun _ _ _ _ _ _ _ q=>sub_int q
theorem op_mul:OpR X (binaryOp .Mult) (rI CMul fun i j=>.int (i * j)):=opI fun _ _ _ _ _ _ _ hc q=>mul_int q hc.ok
theorem CU:OpR X (binaryOp .FloorDiv) (rI IK fun i j=>.int (i / j)):=opI fun i j _ _ _ _ _ hc q=>by
 have h1:(0:Int) < j:=hc.1
 have h2:j < 1073741824:=hc.2
 exact floordiv_int (by omega) (by rw [Int.fdiv_eq_ediv_of_nonneg i (by omega)]; exact q) (.inl (PyProof.noPylong_small (by omega)))
theorem Dw:OpR X (binaryOp .Mod) (rI (fun _ j=>0 < j) fun i j=>.int (i % j)):=opI fun i j _ _ _ _ _ hc q=>by
 have h1:(0:Int) < j:=hc
 exact mod_int' (by omega) (by rw [Int.fmod_eq_emod_of_nonneg i (by omega)]; exact q)
theorem unI {f:Value->Sem Value} {g:Int->Int}
  (rule:∀ (i:Int) (t:Tok) (s:Shared) (Q:Value->Shared->Prop) (E:Value->Shared->Prop),Q (.int (g i) s.toks) { s with toks:=s.toks+1 }->wpAny (model X.prog X.w) X.A (f (.int i t)) Q E s) :
  UnR X f (rU fun i=>.int (g i)):=by
 intro pins s σ H x v Q I rx h
 obtain ⟨i,rfl,q⟩:=h
 obtain ⟨t,rfl⟩:=rx
 exact rule i t s _ _ ⟨.int (g i),H,I.tok _,⟨_,rfl⟩,q⟩
theorem DR:UnR X (unaryOp .USub) (rU fun i=>.int (-i)):=unI fun _ _ _ _ _ q=>neg_int q
end
section
variable {X:Cx} {a b c:Expr} {ta tb tc:TE} {pos:Pos}
theorem tj {pins:List (Addr × Obj)} {σ:St} {H:Hp} {s:Shared} {Q:VK} {k k':Bool} (I:Inv X pins σ H s) (q:Q (.bl k) H) (e:k=k'):EP X pins σ Q (.bool k') s:=by
 subst e
 exact ⟨.bl k,H,I,rfl,q⟩
theorem op_lt:OpR X (compareOp .Lt) (rI0 fun i j=>.bl (decide (i < j))):=Fz fun _ _ _ _ _ _ _ q=>lt_int q
theorem op_le:OpR X (compareOp .LtE) (rI0 fun i j=>.bl (decide (i<=j))):=Fz fun _ _ _ _ _ _ _ q=>le_int q
theorem GT:OpR X (compareOp .Gt) (rI0 fun i j=>.bl (decide (j < i))):=Fz fun _ _ _ _ _ _ _ q=>gt_int q
theorem FG:OpR X (compareOp .GtE) (rI0 fun i j=>.bl (decide (j<=i))):=Fz fun _ _ _ _ _ _ _ q=>ge_int q
theorem wP:OpR X (compareOp .Lt) (fun x y H Q=>∃ i j,x=.str i/\y=.str j/\Q (.bl (decide (i.cps.toList < j.cps.toList))) H):=by
 intro pins s σ H x y v u Q I rx ry h
 obtain ⟨i,j,rfl,rfl,q⟩:=h
 obtain ⟨t,rfl⟩:=rx
 obtain ⟨t',rfl⟩:=ry
 exact lt_str (tj I q rfl)
theorem xh:OpR X (compareOp .In) (fun x y H Q=>∃ i j,x=.str i/\y=.str j/\Q (.bl (!(Builtin.Str.occurrences j i 0 j.length 1).isEmpty)) H):=by
 intro pins s σ H x y v u Q I rx ry h
 obtain ⟨i,j,rfl,rfl,q⟩:=h
 obtain ⟨t,rfl⟩:=rx
 obtain ⟨t',rfl⟩:=ry
 exact in_str (tj I q rfl)
theorem op_isN:OpR X (compareOp .Is) (fun x y H Q=>y=.non/\Q (.bl (decide (x=.non))) H):=by
 intro pins s σ H x y v u Q I rx ry h
 obtain ⟨rfl,q⟩:=h
 cases ry
 refine is_none_gen (tj I q ?_)
 cases x <;> first
  | (cases rx; rfl)
  | (obtain ⟨t,rfl⟩:=rx; rfl)
theorem OpR.or {f:Value->Value->Sem Value} {r r':R2} (h:OpR X f r) (h':OpR X f r'):OpR X f (fun x y H Q=>r x y H Q\/r' x y H Q):=by
 intro pins s σ H x y v u Q I rx ry q
 rcases q with q | q
 ·exact h pins s σ H x y v u Q I rx ry q
 ·exact h' pins s σ H x y v u Q I rx ry q
theorem gH (b:Expr) {op:CmpOp} (h:op ≠ .In:=by decide) (h2:op ≠ .NotIn:=by decide):behindInMarks op b=false:=by
 have e1:(op==CmpOp.In)=false:=by cases op <;> first | rfl | exact absurd rfl h
 have e2:(op==CmpOp.NotIn)=false:=by cases op <;> first | rfl | exact absurd rfl h2
 cases b <;> simp [behindInMarks,e1,e2]
theorem CK {op:CmpOp} {r:R2} (ho:OpR X (compareOp op) r) (ha:PE X a ta) (hb:PE X b tb) (hm:behindInMarks op b=false):PE X (.Compare a [op] [b] pos) (tOp r ta tb):=by
 intro pins s σ H Q I h
 exact wpAny_Compare1 (Gw ha hb I h fun v u s2 x y H2 I2 rx ry q=>ho pins s2 σ H2 x y v u Q I2 rx ry q) hm
def Dz (t:TE):TT:=fun σ H Q=>t σ H fun x H'=>∃ k,x=.bl k/\Q k H'
theorem Bk {op:CmpOp} {r:R2} (ho:OpR X (compareOp op) r) (ha:PE X a ta) (hb:PE X b tb) (hm:behindInMarks op b=false):PT X (.Compare a [op] [b] pos) (Dz (tOp r ta tb)):=by
 intro pins s σ H Q I h
 refine wpAny_isTrue_Compare1 (thn (ha pins s σ H _ I h) fun v s1 ⟨x,H1,I1,r1,q1⟩=>thn (hb pins s1 σ H1 _ I1 q1) fun u s2 ⟨y,H2,I2,r2,q2⟩=>
  thn (ho pins s2 σ H2 x y v u _ I2 r1 r2 q2) fun c s3 ⟨z,H3,I3,r3,k,e,q3⟩=>?_) hm
 subst e
 cases r3
 exact wpAny_truthy_bool ⟨H3,I3,q3⟩
def AI (r r':R2) (ta tb tc:TE):TE:=fun σ H Q=>ta σ H fun x H1=>tb σ H1 fun y H2=>r x y H2 fun z H3=>∃ k,z=.bl k/\
 (if k=true then tc σ H3 fun w' H4=>r' y w' H4 Q else Q (.bl false) H3)
theorem yT {op op':CmpOp} {r r':R2} (ho:OpR X (compareOp op) r) (ho':OpR X (compareOp op') r') (ha:PE X a ta) (hb:PE X b tb) (hc:PE X c tc)
  (hm:lastMarks [op,op'] [b,c]=false:=by with_unfolding_all rfl):PE X (.Compare a [op,op'] [b,c] pos) (AI r r' ta tb tc):=by
 intro pins s σ H Q I h
 refine Compare_chain (thn (ha pins s σ H _ I h) fun v s1 ⟨x,H1,I1,r1,q1⟩=>chain_link (thn (hb pins s1 σ H1 _ I1 q1) fun u s2 ⟨y,H2,I2,r2,q2⟩=>
  thn (ho pins s2 σ H2 x y v u _ I2 r1 r2 q2) fun d s3 ⟨z,H3,I3,r3,k,e,q3⟩=>?_)) hm
 subst e
 cases r3
 refine wpAny_truthy_bool ?_
 cases k with
 | false=>exact ite_ff ⟨.bl false,H3,I3,rfl,q3⟩
 | true=>exact ite_tt (chain_last (thn (hc pins s3 σ H3 _ I3 q3) fun w' s4 ⟨z',H4,I4,r4,q4⟩=>ho' pins s4 σ H4 y z' u w' Q I4 r2 r4 q4))
theorem zG {op op':CmpOp} {r r':R2} (ho:OpR X (compareOp op) r) (ho':OpR X (compareOp op') r') (ha:PE X a ta) (hb:PE X b tb) (hc:PE X c tc)
  (hm:lastMarks [op,op'] [b,c]=false:=by with_unfolding_all rfl):PT X (.Compare a [op,op'] [b,c] pos) (Dz (AI r r' ta tb tc)):=by
 intro pins s σ H Q I h
 refine isTrue_chain (thn (ha pins s σ H _ I h) fun v s1 ⟨x,H1,I1,r1,q1⟩=>test_link (thn (hb pins s1 σ H1 _ I1 q1) fun u s2 ⟨y,H2,I2,r2,q2⟩=>
  thn (ho pins s2 σ H2 x y v u _ I2 r1 r2 q2) fun d s3 ⟨z,H3,I3,r3,k,e,q3⟩=>?_)) hm
 subst e
 cases r3
 refine wpAny_truthy_bool ?_
 cases k with
 | false=>
  obtain ⟨k',e',q'⟩:=q3
  cases e'
  exact ite_ff ⟨H3,I3,q'⟩
 | true=>
  refine ite_tt (test_last (thn (hc pins s3 σ H3 _ I3 q3) fun w' s4 ⟨z',H4,I4,r4,q4⟩=>thn (ho' pins s4 σ H4 y z' u w' _ I4 r2 r4 q4) fun d' s5 ⟨z2,H5,I5,r5,k2,e2,q5⟩=>?_))
  subst e2
  cases r5
  exact wpAny_truthy_bool ⟨H5,I5,q5⟩
def Ha (K:PySem.W.Frag) (x:V) (H:Hp) (k:Bool):Prop:=
 match x with
 | .non=>k=false
 | .bl b=>k=b
 | .int i=>k=(i != 0)
 | .str y=>y.length<=sizeLine/\k=((y.length:Int) != 0)
 | .byt y=>y.size<=sizeLine/\k=((y.size:Int) != 0)
 | .ref p=>(∃ xs,SqL K H p xs/\k = !xs.isEmpty)\/(∃ xs,SqT K H p xs/\k = !xs.isEmpty)\/∃ kvs,H p=some (.dK kvs)/\k = !kvs.isEmpty
 | _=>False
theorem vc {κ:Type} {kvs:List (κ × V)} {vs:List (κ × Value)} (r:KV kvs vs):(!vs.isEmpty) = !kvs.isEmpty:=by
 cases r <;> rfl
theorem mK {xs:List V} {its:List Value} (r:Vals xs its):(!its.toArray.isEmpty) = !xs.isEmpty:=by
 cases r <;> simp
theorem nc:(sizeLine:Nat) < 2 ^ 63:=by rw [sizeLine_eq]; decide
theorem Fm:HW X (fun x H Q=>∃ k,Ha X.K x H k/\Q k H):=by
 intro pins s σ H x v Q I rx h
 obtain ⟨k,e,q⟩:=h
 have hl:=nc
 have hs:sizeLine=16777216:=sizeLine_eq
 cases x with
 | non=>
  cases rx
  have e':k=false:=e
  subst e'
  exact truthy_none ⟨H,I,q⟩
 | bl b=>
  cases rx
  have e':k=b:=e
  subst e'
  exact wpAny_truthy_bool ⟨H,I,q⟩
 | int i=>
  obtain ⟨t,rfl⟩:=rx
  have e':k=(i != 0):=e
  subst e'
  exact PySem.P.truthy_int ⟨H,I,q⟩
 | str y=>
  obtain ⟨t,rfl⟩:=rx
  obtain ⟨hy,e'⟩:y.length<=sizeLine/\k=((y.length:Int) != 0):=e
  subst e'
  exact PySem.P.truthy_str (by omega) ⟨H,I.tok _,q⟩
 | byt y=>
  obtain ⟨t,rfl⟩:=rx
  obtain ⟨hy,e'⟩:y.size<=sizeLine/\k=((y.size:Int) != 0):=e
  subst e'
  exact PySem.W.truthy_bytes (by omega) ⟨H,I.tok _,q⟩
 | ref p=>
  cases rx
  have e':(∃ xs,SqL X.K H p xs/\k = !xs.isEmpty)\/(∃ xs,SqT X.K H p xs/\k = !xs.isEmpty)\/∃ kvs,H p=some (.dK kvs)/\k = !kvs.isEmpty:=e
  rcases e' with ⟨xs,hx,e'⟩ | ⟨xs,hx,e'⟩ | ⟨kvs,hx,e'⟩
  ·subst e'
   obtain ⟨its,r,pl,hz⟩:=I.list hx
   have hlen:=r.length
   exact wpAny_truthy_list pl.isList (by simp only [List.size_toArray]; omega) ⟨H,I.tok _,by rw [mK r]; exact q⟩
  ·subst e'
   obtain ⟨its,r,pl,hz⟩:=I.tuple hx
   have hlen:=r.length
   exact truthy_tuple pl (by simp only [List.size_toArray]; omega) ⟨H,I.tok _,by rw [mK r]; exact q⟩
  ·subst e'
   obtain ⟨hz,hS,vs,r,m⟩:kvs.length<=sizeLine/\(p==sysModules)=false/\∃ vs,KV kvs vs/\s.heap.DictOf (rV X.prog X.w) p vs:=I.hok p _ hx
   have hlen:kvs.length=vs.length:=Paired.length r
   exact wpAny_truthy_dict hS m (by omega) ⟨H,I.tok _,by rw [vc r]; exact q⟩
 | _=>exact (show False from e).elim
theorem yn (ha:PE X a ta) (he:∀ whole,isTrue a X.env whole=(do let v <- whole; standAt a.pos; holding [v] (truthy v))) :
  PT X a (fun σ H Q=>ta σ H fun x H'=>∃ k,Ha X.K x H' k/\Q k H'):=by
 intro pins s σ H Q I h
 exact isTrue_plain (thn (ha pins s σ H _ I h) fun v s1 ⟨x,H1,I1,r1,q1⟩=>Fm pins s1 σ H1 x v Q I1 r1 q1) (he _)
theorem op_add_str:OpR X (binaryOp .Add) (fun x y H Q=>∃ i j,x=.str i/\y=.str j/\i.length+j.length<=sizeLine/\Q (.str (i++j)) H):=by
 intro pins s σ H x y v u Q I rx ry h
 obtain ⟨i,j,rfl,rfl,hz,q⟩:=h
 obtain ⟨t,rfl⟩:=rx
 obtain ⟨t',rfl⟩:=ry
 exact add_str (fun t' tk=>⟨.str (i++j),H,I.tok _,⟨_,rfl⟩,q⟩) hz
theorem Be {x:V} {us:List Value} (r:Vals [x] us):∃ u,us=[u]/\RelV x u:=by
 cases r with
 | cons r1 r2=>cases r2; exact ⟨_,rfl,r1⟩
theorem FT {x y:V} {us:List Value} (r:Vals [x,y] us):∃ u w',us=[u,w']/\RelV x u/\RelV y w':=by
 cases r with
 | cons r1 r2=>
  cases r2 with
  | cons r3 r4=>cases r4; exact ⟨_,_,rfl,r1,r3⟩
theorem wt (hc:X.calm=true):im X (.builtin "min") (fun xs H Q=>∃ i j,xs=[.int i,.int j]/\Q (.int (if j < i then j else i)) H):=by
 intro pins s σ H xs us Q I r h
 obtain ⟨i,j,rfl,q⟩:=h
 obtain ⟨u,w',rfl,⟨t,rfl⟩,⟨t',rfl⟩⟩:=FT r
 refine min_two_ints (I.ok.hd hc) fun h' tk k=>⟨_,H,I.kept k,?_,q⟩
 by_cases hj:j < i
 ·rw [if_pos hj,if_pos hj]; exact ⟨_,rfl⟩
 ·rw [if_neg hj,if_neg hj]; exact ⟨_,rfl⟩
def HM (K:PySem.W.Frag) (x:V) (H:Hp) (n:Nat):Prop:=
 match x with
 | .str y=>y.length<=sizeLine/\n=y.length
 | .byt y=>y.size<=sizeLine/\n=y.size
 | .ref p=>(∃ xs,SqL K H p xs/\n=xs.length)\/∃ xs,SqT K H p xs/\n=xs.length
 | _=>False
theorem zK:im X (.builtin "len") (fun xs H Q=>∃ x n,xs=[x]/\HM X.K x H n/\Q (.int n) H):=by
 intro pins s σ H xs us Q I r h
 obtain ⟨x,n,rfl,e,q⟩:=h
 obtain ⟨u,rfl,rx⟩:=Be r
 have hl:=nc
 have hs:sizeLine=16777216:=sizeLine_eq
 cases x with
 | str y=>
  obtain ⟨t,rfl⟩:=rx
  obtain ⟨hy,e'⟩:y.length<=sizeLine/\n=y.length:=e
  subst e'
  exact len_str (by omega) ⟨.int _,H,I.tok _,⟨_,rfl⟩,q⟩
 | byt y=>
  obtain ⟨t,rfl⟩:=rx
  obtain ⟨hy,e'⟩:y.size<=sizeLine/\n=y.size:=e
  subst e'
  exact PySem.W.len_bytes (by omega) ⟨.int _,H,I.tok _,⟨_,rfl⟩,q⟩
 | ref p=>
  cases rx
  have e':(∃ xs,SqL X.K H p xs/\n=xs.length)\/∃ xs,SqT X.K H p xs/\n=xs.length:=e
  rcases e' with ⟨xs,hx,e'⟩ | ⟨xs,hx,e'⟩
  ·subst e'
   obtain ⟨its,r',pl,hz⟩:=I.list hx
   have hlen:=r'.length
   exact Calls.call_len_list pl.isList (by simp only [List.size_toArray]; omega) ⟨.int xs.length,H,I.tok _,⟨_,by simp only [List.size_toArray]; rw [hlen]⟩,q⟩
  ·subst e'
   obtain ⟨its,r',pl,hz⟩:=I.tuple hx
   have hlen:=r'.length
   exact len_tuple pl (by simp only [List.size_toArray]; omega) ⟨.int xs.length,H,I.tok _,⟨_,by simp only [List.size_toArray]; rw [hlen]⟩,q⟩
 | _=>exact (show False from e).elim
end
end L2
namespace L2
open PySem PySem.Spec PyProof.Rows
structure ObjM (h:Heap) (x dx C:Addr) (mA:Str->Option Value):Prop where
 obj:h.get? x=some (PySem.W.instObj C dx)
 ns:h.Ns1 dx mA
 ne:dx ≠ x
theorem vm {h:Heap} {dx:Addr} {mA:Str->Option Value} (n:h.Ns1 dx mA):∃ od,h.get? dx=some od/\∀ name,PySem.W.lookIn name od=some (mA name):=by
 obtain ⟨o,es,ep,ho,hd,hk,_,hm⟩:=n
 refine ⟨o,ho,fun name=>?_⟩
 have e:=hm name
 unfold nsFind findBy at e
 rw [<- Array.find?_toList] at e
 unfold PySem.W.lookIn
 rw [hd]
 dsimp only
 split
 ·rename_i y q
  rw [q] at e
  exact congrArg some e
 ·rename_i q
  rw [q] at e
  have a:es.toList.any (·.refKey)=false:=by
   rw [List.any_eq_false]
   intro y hy
   obtain ⟨z,t,hkey⟩:=hk y (Array.mem_toList_iff.mp hy)
   simp [DictEntry.refKey,hkey]
  have a' : ¬ es.toList.any (·.refKey)=true:=by rw [a]; exact Bool.false_ne_true
  rw [if_neg a']
  exact congrArg some e
theorem ObjM.look {h:Heap} {x dx C:Addr} {mA:Str->Option Value} (I:ObjM h x dx C mA):∃ od,PySem.W.InstAt h x (PySem.W.instObj C dx) C (some od)/\∀ name,PySem.W.lookIn name od=some (mA name):=
 let ⟨od,ho,hl⟩:=vm I.ns
 ⟨od,⟨I.obj,rfl,rfl,ho⟩,hl⟩
section
variable {prog:Program} {w:World} {A:Around} {E:Value->Shared->Prop} {s:Shared} {K:PySem.W.Frag} {x dx C f:Addr} {mA:Str->Option Value} {name:Str} {v:Value}
theorem Dh {expr:Bool} {Q:Value->Shared->Prop} (X:K.In s.heap) (I:ObjM s.heap x dx C mA) (hg:PySem.W.plainGet K C name=true) (hh:PySem.W.hasDictIn K C=true)
  (ha:PySem.W.findIn K (.ref C) name=some none) (hv:mA name=some v) (hv':PySem.W.handedIn v=true) (h:Q v { s with toks:=s.toks+1 }) :
  wpAny (model prog w) A (getAttr (.ref x) name expr) Q E s:=by
 obtain ⟨od,J,hl⟩:=I.look
 exact PySem.W.get_value X J (PySem.W.plainGet_of hg).1 (PySem.W.findObj_own hh ha rfl (by rw [hl,hv])) hv' h
theorem zC {pl:Sem Bool} {Q:Value × List Value->Shared->Prop} (X:K.In s.heap) (I:ObjM s.heap x dx C mA) (hg:PySem.W.plainGet K C name=true)
  (hf:PySem.W.findIn K (.ref C) name=some (some (.ref f))) (ht:PySem.W.isFn K (.ref f)=true) (hv:mA name=none) (h:Q (.ref f,[.ref x]) s) :
  wpAny (model prog w) A (getMethod (.ref x) name pl) Q E s:=by
 obtain ⟨od,J,hl⟩:=I.look
 exact PySem.W.method_fn X J (PySem.W.plainGet_of hg).1 (PySem.W.plainGet_of hg).2 hf (beq_iff_eq.mp ht) (by show (PySem.W.lookIn name od).map (·.isSome)=some false; rw [hl,hv]; rfl) h
theorem CQ {ns:List Str} {Q:Unit->Shared->Prop} (X:K.In s.heap) (I:ObjM s.heap x dx C mA)
  (hs:PySem.W.findIn K (.ref C) "__setattr__"=some (some (.builtin "object.__setattr__"))) (hp:PySem.W.plainOver K C=true) (ht:PySem.W.takerIn K C name=some none) (hh:PySem.W.hasDictIn K C=true)
  (hw:PySem.Within mA ns) (hsz:ns.length<=sizeLine)
  (h:∀ h',ObjM h' x dx C (fun y=>if y=name then some v else mA y)->Heap.SameBut dx s.heap h'->Q () { s with heap:=h',toks:=s.toks+2 }) :
  wpAny (model prog w) A (setAttr (.ref x) name v) Q E s:=by
 obtain ⟨od,J,hl⟩:=I.look
 refine PySem.W.set_plain X J hs (PySem.W.osa_open (s:={ s with toks:=s.toks+1 }) (r:=none) X J hp ht fun b=>?_)
 obtain ⟨cd,hc,hd'⟩:=PySem.W.any_some hh
 have hx:s.heap.get? x=some ⟨.ref C,some dx,.plain,#[]⟩:=I.obj
 refine wpAny_bind (wpAny_pure (wpAny_bind (wpAny_bind (wpAny_loadPart hx (wpAny_bind (PySem.W.Looks.here (s:={ s with toks:=s.toks+1 }) (PySem.W.looks_clsIn X hc) ?_))))))
 rw [hd']
 refine wpAny_pure (a:=some dx) (wpAny_bind (wpAny_pure (wpAny_bind ?_)))
 refine wpAny_nsSet1 (s:={ s with toks:=s.toks+1 }) I.ns fun h' hn2 hs2=>?_
 obtain ⟨oD,esD,epD,hoD,hdD,hcD⟩:=hn2.count (PySem.Within.cons name v hw)
 refine wpAny_bind (wpAny_lookBehind hoD (by rw [hdD]; exact pastItsLine_dict (Nat.le_trans hcD (by rw [List.length_cons]; omega))) ?_)
 exact wpAny_pure (h _ ⟨(hs2.2 _ (Ne.symm I.ne)).trans I.obj,hn2,I.ne⟩ hs2)
theorem yf {R:Result->Shared->Prop} {vs:List Value} {kw:List (Str × Value)} (X:K.In s.heap) (hm:PySem.W.makesIn K C=true)
  (hi:PySem.W.findIn K (.ref C) "__init__"=some (some (.ref f))) (hf:PySem.W.typeIn K (.ref f)=some (.type "function"))
  (h:codeAny (model prog w) (A.under (.builtin "type.__call__" ⟨.ref C::vs,kw⟩)) (.call (.ref f) ⟨.ref (s.heap.objs.size+1)::vs,kw⟩) (PySem.W.InitBack (s.heap.objs.size+1) R)
   { s with heap:=(s.heap.push PySem.W.emptyDict).push (PySem.W.instObj C s.heap.objs.size) }) :
  codeAny (model prog w) A (.call (.ref C) ⟨vs,kw⟩) R s:=by
 obtain ⟨hh,g,d,t,os⟩:=s
 exact PySem.W.make_core (PySem.W.makes_of X hm) (PySem.W.looks_findIn X hi) (fun self=>PySem.W.bind_fn X self hf) (.inl rfl) h
end
def mL (f:Str) (v:V):List (Str × V)->List (Str × V)
 | []=>[(f,v)]
 | (g,x)::r=>if g=f then (g,v)::r else (g,x)::mL f v r
theorem lg (f g:Str) (v:V):∀ fs:List (Str × V),(mL f v fs).lookup g=if g=f then some v else fs.lookup g
 | []=>by
  show List.lookup g [(f,v)]=_
  by_cases h:g=f
  ·have hb:(g==f)=true:=beq_iff_eq.mpr h
   simp only [List.lookup,hb,if_pos h]
  ·have hb:(g==f)=false:=beq_eq_false_iff_ne.mpr h
   simp only [List.lookup,hb,if_neg h]
 | (k,x)::r=>by
  have ih:=lg f g v r
  rw [show mL f v ((k,x)::r)=(if k=f then (k,v)::r else (k,x)::mL f v r) from rfl]
  by_cases hk:k=f
  ·rw [if_pos hk]
   by_cases h:g=k
   ·have hb:(g==k)=true:=beq_iff_eq.mpr h
    simp only [List.lookup,hb,if_pos (h.trans hk)]
   ·have hb:(g==k)=false:=beq_eq_false_iff_ne.mpr h
    simp only [List.lookup,hb,if_neg (fun e:g=f=>h (e.trans hk.symm))]
  ·rw [if_neg hk]
   by_cases h:g=k
   ·have hb:(g==k)=true:=beq_iff_eq.mpr h
    simp only [List.lookup,hb,if_neg (fun e:g=f=>hk (h.symm.trans e))]
   ·have hb:(g==k)=false:=beq_eq_false_iff_ne.mpr h
    simp only [List.lookup,hb]
    exact ih
theorem kT (f:Str) (v:V):∀ fs:List (Str × V),f ∈ (mL f v fs).map (·.1)/\∀ g,g ∈ fs.map (·.1)->g ∈ (mL f v fs).map (·.1)
 | []=>⟨by simp [mL],fun g h=>by simp at h⟩
 | (k,x)::r=>by
  obtain ⟨i1,i2⟩:=kT f v r
  rw [show mL f v ((k,x)::r)=(if k=f then (k,v)::r else (k,x)::mL f v r) from rfl]
  by_cases hk:k=f
  ·rw [if_pos hk]
   subst hk
   exact ⟨by simp,fun g h=>by simpa using h⟩
  ·rw [if_neg hk]
   refine ⟨?_,fun g h=>?_⟩
   ·rw [List.map_cons]
    exact List.mem_cons_of_mem _ i1
   ·rw [List.map_cons] at h ⊢
    rcases List.mem_cons.mp h with e | e
    ·exact List.mem_cons.mpr (.inl e)
    ·exact List.mem_cons_of_mem _ (i2 g e)
theorem kr (f:Str) (v:V):∀ fs:List (Str × V),(mL f v fs).length<=fs.length+1
 | []=>by simp [mL]
 | (k,x)::r=>by
  have ih:=kr f v r
  rw [show mL f v ((k,x)::r)=(if k=f then (k,v)::r else (k,x)::mL f v r) from rfl]
  by_cases hk:k=f
  ·rw [if_pos hk,List.length_cons,List.length_cons]; omega
  ·rw [if_neg hk,List.length_cons,List.length_cons]; omega
theorem RelO.some_of {v:V} {o:Option Value} (r:RelO (some v) o):∃ u,o=some u/\RelV v u:=by
 cases o with
 | none=>exact (show False from r).elim
 | some u=>exact ⟨u,rfl,r⟩
theorem RelO.none_of {o:Option Value} (r:RelO none o):o=none:=by
 cases o with
 | none=>rfl
 | some u=>exact (show False from r).elim
theorem vX {v:V} {u:Value} (r:RelV v u):PySem.W.handedIn u=true:=by
 cases v with
 | non=>cases (show u=Value.none from r); rfl
 | bl b=>cases (show u=Value.bool b from r); rfl
 | int i=>obtain ⟨t,e⟩:=(show ∃ t,u=Value.int i t from r); cases e; rfl
 | str x=>obtain ⟨t,e⟩:=(show ∃ t,u=Value.str x t from r); cases e; rfl
 | byt b=>obtain ⟨t,e⟩:=(show ∃ t,u=Value.bytes b t from r); cases e; rfl
 | flt b=>obtain ⟨t,e⟩:=(show ∃ t,u=Value.float b t from r); cases e; rfl
 | ref a=>cases (show u=Value.ref a from r); rfl
 | ty n=>cases (show u=Value.type n from r); rfl
section
variable {P:Program} {w:World} {H H':Hp} {h h':Heap} {a C dx:Addr} {fs fs':List (Str × V)}
theorem rA (hok:HOk P w H h) (e:H a=some (.ins C dx fs)):∃ mA,ObjM h a dx C mA/\(∀ f,RelO (fs.lookup f) (mA f))/\PySem.Within mA (fs.map (·.1))/\fs.length<=1000/\H dx=some (.own a):=by
 obtain ⟨d,z,ne,ob,mA,n,r,q⟩:=(show ObjOk P w H h a (.ins C dx fs) from hok a _ e)
 exact ⟨mA,⟨ob,n,ne⟩,r,q,z,d⟩
end
structure Cls (K:PySem.W.Frag) (C:Addr):Prop where
 pg:PySem.W.plainGet K C Str.empty=true
 hd:PySem.W.hasDictIn K C=true
 po:PySem.W.plainOver K C=true
 sa:PySem.W.findIn K (.ref C) "__setattr__"=some (some (.builtin "object.__setattr__"))
theorem Cls.get {K:PySem.W.Frag} {C:Addr} (c:Cls K C) (f:Str):PySem.W.plainGet K C f=true:=c.pg
def NoAttr (K:PySem.W.Frag) (C:Addr) (f:Str):Prop:=PySem.W.findIn K (.ref C) f=some none
theorem NoAttr.taker {K:PySem.W.Frag} {C:Addr} {f:Str} (n:NoAttr K C f):PySem.W.takerIn K C f=some none:=by
 unfold PySem.W.takerIn
 rw [show PySem.W.findIn K (.ref C) f=some none from n]
 rfl
structure Con (K:PySem.W.Frag) (C:Addr) (f:Str) (v:V) (u:Value):Prop where
 at_:PySem.W.findIn K (.ref C) f=some (some u)
 rel:RelV v u
 get:PySem.W.specialIn K u "__get__"=some none
 cp:PySem.W.copiedNames.contains f=false
structure Meth (K:PySem.W.Frag) (C:Addr) (m:Str) (f:Addr):Prop where
 at_:PySem.W.findIn K (.ref C) m=some (some (.ref f))
 fn:PySem.W.isFn K (.ref f)=true
 kp:PySem.W.keepIn K (.ref f)=true
section
variable {X:Cx} {pins:List (Addr × Obj)} {σ:St} {H:Hp} {s:Shared} {a C dx:Addr} {fs:List (Str × V)} {f:Str} {v:V} {A:Around} {E:Value->Shared->Prop}
theorem uS {b:Bool} {Q:Value->Shared->Prop} (I:Inv X pins σ H s) (e:H a=some (.ins C dx fs)) (c:Cls X.K C) (n:NoAttr X.K C f) (l:fs.lookup f=some v)
  (h:∀ u s',Inv X pins σ H s'->RelV v u->Q u s'):wpAny (model X.prog X.w) A (getAttr (.ref a) f b) Q E s:=by
 obtain ⟨mA,O,r,_,_,_⟩:=rA I.hok e
 obtain ⟨u,hu,ru⟩:=RelO.some_of (v:=v) (o:=mA f) (by rw [<- l]; exact r f)
 exact Dh I.kIn O (c.get f) c.hd n hu (vX ru) (h u _ (I.tok _) ru)
theorem jc {m:Str} {g:Addr} {pl:Sem Bool} {Q:Value × List Value->Shared->Prop} (I:Inv X pins σ H s) (e:H a=some (.ins C dx fs)) (c:Cls X.K C) (k:Meth X.K C m g) (l:fs.lookup m=none)
  (h:Q (.ref g,[.ref a]) s):wpAny (model X.prog X.w) A (getMethod (.ref a) m pl) Q E s:=by
 obtain ⟨mA,O,r,_,_,_⟩:=rA I.hok e
 have hn:mA m=none:=RelO.none_of (by rw [<- l]; exact r m)
 exact zC I.kIn O (c.get m) k.at_ k.fn hn h
theorem uc {y:V} {u:Value} {Q:Unit->Shared->Prop} (I:Inv X pins σ H s) (e:H a=some (.ins C dx fs)) (c:Cls X.K C) (n:NoAttr X.K C f) (hl:fs.length < 1000) (ry:RelV y u)
  (h:∀ s',Inv X pins σ (upd H a (.ins C dx (mL f y fs))) s'->Q () s'):wpAny (model X.prog X.w) A (setAttr (.ref a) f u) Q E s:=by
 obtain ⟨mA,O,r,wi,_,ho⟩:=rA I.hok e
 have hz:(fs.map (·.1)).length<=sizeLine:=by rw [List.length_map,sizeLine_eq]; omega
 refine CQ I.kIn O c.sa c.po n.taker c.hd wi hz fun h' O' sb=>h _ ?_
 have hd:∃ o,h'.get? dx=some o:=let ⟨o,_,_,e',_⟩:=O'.ns; ⟨o,e'⟩
 refine I.write (x:=a) (e:=dx) (by rw [e]; exact True.intro) (.inr ho) (fun b q hb z=>(sb.2 b hb).trans z) hd ?_
 refine ⟨by rw [aJ O.ne]; exact ho,?_,O.ne,O'.obj,_,O'.ns,fun g=>?_,fun g hg=>?_⟩
 ·have:=kr f y fs; omega
 ·show RelO ((mL f y fs).lookup g) (if g=f then some u else mA g)
  rw [lg]
  by_cases q:g=f
  ·rw [if_pos q,if_pos q]; exact ry
  ·rw [if_neg q,if_neg q]; exact r g
 ·by_cases q:g=f
  ·rw [q]; exact (kT f y fs).1
  ·refine (kT f y fs).2 g (wi g fun z=>hg ?_)
   show (if g=f then some u else mA g)=none
   rw [if_neg q]; exact z
theorem Inv.made (I:Inv X pins σ H s):Inv X pins σ (upd (upd H s.heap.objs.size (.own (s.heap.objs.size+1))) (s.heap.objs.size+1) (.ins C s.heap.objs.size []))
  { s with heap:=(s.heap.push PySem.W.emptyDict).push (PySem.W.instObj C s.heap.objs.size) }:=by
 have e1:(s.heap.push PySem.W.emptyDict).get? s.heap.objs.size=some PySem.W.emptyDict:=Heap.get?_push_size s.heap rfl
 have e2:((s.heap.push PySem.W.emptyDict).push (PySem.W.instObj C s.heap.objs.size)).get? (s.heap.objs.size+1)=some (PySem.W.instObj C s.heap.objs.size):=by
  have:=Heap.get?_push_size (s.heap.push PySem.W.emptyDict) (o:=PySem.W.instObj C s.heap.objs.size) rfl
  rwa [Heap.size_push] at this
 have e3:(s.heap.push PySem.W.emptyDict).Ns s.heap.objs.size (fun _=>none):=⟨PySem.W.emptyDict,#[],_,e1,rfl,(fun e he=>absurd he (by simp)),fun _=>rfl⟩
 have I1:=I.laid (a:=s.heap.objs.size) (o:=.own (s.heap.objs.size+1)) (h':=s.heap.push PySem.W.emptyDict) (t':=s.toks) (fun b u q=>Heap.get?_push_of_some _ q) (Nat.le_refl _) ⟨_,e1⟩
 refine I1.laid (a:=s.heap.objs.size+1) (o:=.ins C s.heap.objs.size []) (t':=s.toks) (fun b u q=>Heap.get?_push_of_some _ q) (Nat.le_of_eq (Heap.size_push _ _)) ?_
 have ne:s.heap.objs.size ≠ s.heap.objs.size+1:=Nat.ne_of_lt (Nat.lt_succ_self _)
 refine ⟨by rw [aJ ne,bc],Nat.zero_le _,ne,e2,fun _=>none,(Heap.Ns1.of_empty e3).at fun o q=>Heap.get?_push_of_some _ q,fun _=>True.intro,fun y hy=>absurd rfl hy⟩
theorem BS {prog:Program} {w:World} {env:Env} {e:Expr} {f:Str} {pos:Pos} {s:Shared} {Q:Value->Shared->Prop} (hb:attributeBase e f env (eval e env)=eval e env)
  (h:wpAny (model prog w) A (eval e env) (fun o s₁=>wpAny (model prog w) A (getAttr o f true) Q E s₁) E s):wpAny (model prog w) A (eval (.Attribute e f pos) env) Q E s:=
 Attribute_any_ h (by rw [arm_eval_Attribute,hb])
end
def HD (K:PySem.W.Frag) (ta:TE) (f:Str):TE:=fun σ H Q=>ta σ H fun x H1=>∃ a C dx fs v,x=.ref a/\H1 a=some (.ins C dx fs)/\Cls K C/\NoAttr K C f/\fs.lookup f=some v/\Q v H1
def IB (K:PySem.W.Frag) (ta tv:TE) (f:Str):TS:=fun D σ H=>tv σ H fun y H1=>ta σ H1 fun x H2=>∃ a C dx fs,x=.ref a/\H2 a=some (.ins C dx fs)/\Cls K C/\NoAttr K C f/\fs.length < 1000/\
 D.nx σ (upd H2 a (.ins C dx (mL f y fs)))
section
variable {X:Cx} {o e value:Expr} {f:Str} {pos pos' tpos:Pos} {ta tv:TE}
theorem tw (he:PE X e ta) (hb:attributeBase e f X.env (eval e X.env)=eval e X.env):PE X (.Attribute e f pos) (HD X.K ta f):=by
 intro pins s σ H Q I h
 refine BS hb (thn (he pins s σ H _ I h) fun u s1 ⟨x,H1,I1,rx,a,C,dx,fs,v,ex,ea,c,n,l,q⟩=>?_)
 subst ex
 obtain rfl:u=Value.ref a:=rx
 exact uS I1 ea c n l fun u' s2 I2 ru=>⟨v,H1,I2,ru,q⟩
theorem Ep (ha:PE X o ta) (hv:PE X value tv) (hs:swapsWith value (some (.Attribute o f pos')) pos.line X.env=pure false):PS X (.Assign [.Attribute o f pos'] value pos) (IB X.K ta tv f):=by
 intro pins s σ H D I h
 refine plainObj_wpAny_Assign_Attribute (thn (hv pins s σ H _ I h) fun u s1 ⟨y,H1,I1,ry,q⟩=>thn (ha pins s1 σ H1 _ I1 q) fun ov s2 ⟨x,H2,I2,rx,a,C,dx,fs,ex,ea,c,n,l,q2⟩=>?_) hs
 subst ex
 obtain rfl:ov=Value.ref a:=rx
 exact uc I2 ea c n l ry fun s3 I3=>⟨σ,_,I3,q2⟩
end
section
variable {X:Cx} {pins:List (Addr × Obj)} {σ:St} {H:Hp} {s:Shared} {A:Around} {E:Value->Shared->Prop} {Q:Value->Shared->Prop} {c:Value} {b:Bool}
inductive TyOf (K:PySem.W.Frag) (H:Hp):V->Value->Prop where
 | non:TyOf K H .non (.type "NoneType")
 | bl (x:Bool):TyOf K H (.bl x) (.type "bool")
 | int (i:Int):TyOf K H (.int i) (.type "int")
 | str (x:Str):TyOf K H (.str x) (.type "str")
 | flt (x:UInt64):TyOf K H (.flt x) (.type "float")
 | lst {a:Addr} {xs:List V} (e:H a=some (.lst xs)):TyOf K H (.ref a) (.type "list")
 | frz {a:Addr} {o:Obj} {xs:List V} (e:H a=some (.frz o (.lst xs))):TyOf K H (.ref a) (.type "list")
 | tup {a:Addr} {xs:List V} (e:H a=some (.tup xs)):TyOf K H (.ref a) (.type "tuple")
 | dK {a:Addr} {kvs:List (Key × V)} (e:H a=some (.dK kvs)):TyOf K H (.ref a) (.type "dict")
 | dT {a:Addr} {kvs:List (List Key × V)} (e:H a=some (.dT kvs)):TyOf K H (.ref a) (.type "dict")
 | ins {a C dx:Addr} {fs:List (Str × V)} (e:H a=some (.ins C dx fs)) (cl:Cls K C) (ha:PySem.W.findIn K (.ref C) "__class__"=some (some (.builtin "object.__class__")))
   (hn:PySem.W.specialIn K (.builtin "object.__class__") "__get__"=some (some (.builtin "getset_descriptor.__get__"))) (htk:PySem.W.takesIn K (.builtin "object.__class__")=some true)
   (hm:PySem.W.mroIn K C (.type "object")=some true):TyOf K H (.ref a) (.ref C)
end
end L2
namespace L2
open PySem PySem.Spec PyProof.Rows
structure Room (k:Nat) (A:Around):Prop where
 hd:A.handled=none
 dp:A.depth+3 * k+5 < recursionLimit
 un:A.units+16 * k+200 < cLine
theorem Room.mono {j k:Nat} {A:Around} (r:Room k A) (h:j<=k):Room j A:=⟨r.hd,by have:=r.dp; omega,by have:=r.un; omega⟩
theorem Room.deeper {k:Nat} {A:Around} (r:Room (k+1) A) (env:Env):Room k (A.deeper env):=
 ⟨r.hd,by have:=r.dp; show A.depth+1+3 * k+5 < _; omega,by have:=r.un; show A.units+3+16 * k+200 < _; omega⟩
theorem uJ {A:Around} {C:Addr} {us:List Value} {kw:List (Str × Value)}:(A.under (.builtin "type.__call__" ⟨.ref C::us,kw⟩)).depth=A.depth+1:=by
 first | rfl | simp [Around.under,Code.weight,Code.isCreation,Code.isGuard,Code.isCaller,Code.frames,Code.isFrame,guardIds]
theorem tX {A:Around} {C:Addr} {us:List Value} {kw:List (Str × Value)}:(A.under (.builtin "type.__call__" ⟨.ref C::us,kw⟩)).units=A.units+1:=by
 first | rfl | simp [Around.under,Code.cUnits,Code.frames,Code.isFrame]
theorem Room.make {k:Nat} {A:Around} (r:Room (k+1) A) (C:Addr) (us:List Value) (kw:List (Str × Value)):Room k (A.under (.builtin "type.__call__" ⟨.ref C::us,kw⟩)):=
 ⟨r.hd,by have:=r.dp; rw [uJ]; omega,by have:=r.un; rw [tX]; omega⟩
theorem Room.depth {k:Nat} {A:Around} (r:Room k A):A.depth < recursionLimit:=by have:=r.dp; omega
theorem Room.units {k:Nat} {A:Around} (r:Room k A):A.units+64 < cLine:=by have:=r.un; omega
def H9:TA:=fun _ H Q=>Q [] H
def FW (ta:TE) (tr:TA):TA:=fun σ H Q=>ta σ H fun x H1=>tr σ H1 fun xs H2=>Q (x::xs) H2
section
variable {X:Cx} {e:Expr} {es:List Expr} {te:TE} {t:TA} {pos:Pos}
theorem kQ:PA X [] H9:=fun _ _ _ _ H Q I h=>Calls.spliced_nil ⟨[],H,I,.nil,h⟩
theorem ee (ha:PE X e te) (hr:PA X es t) (hs:starEach (e::es) X.env=(false,eval e X.env)::starEach es X.env:=by rfl):PA X (e::es) (FW te t):=by
 intro pos pins s σ H Q I h
 rw [hs]
 show wpAny _ _ (spliced ((false,eval e X.env)::backTo pos (starEach es X.env))) _ _ s
 refine Calls.spliced_cons (thn (ha pins s σ H _ I h) fun u s1 ⟨x,H1,I1,r1,q1⟩=>?_)
 exact thn (hr pos pins s1 σ H1 _ I1 q1) fun us s2 ⟨xs,H2,I2,r2,q2⟩=>⟨x::xs,H2,I2,.cons r1 r2,q2⟩
def Ii (t:TA):TE:=fun σ H Q=>t σ H fun xs H1=>xs.length<=sizeLine/\∀ p,H1 p=none->Q (.ref p) (upd H1 p (.tup xs))
def Ip (t:TA):TE:=fun σ H Q=>t σ H fun xs H1=>xs.length<=sizeLine/\∀ p,H1 p=none->Q (.ref p) (upd H1 p (.lst xs))
theorem DS {x1} (h:PA X es t):PE X (.Tuple es x1 pos) (Ii t):=by
 intro pins s σ H Q I hq
 refine wpAny_Tuple_spliced (thn (h pos pins s σ H _ I hq) fun us s1 ⟨xs,H1,I1,r,z,q⟩=>⟨by rw [<- r.length]; exact z,?_⟩)
 have hf:H1 s1.heap.objs.size=none:=I1.hok.fresh (Nat.le_refl _)
 refine ⟨.ref s1.heap.objs.size,upd H1 s1.heap.objs.size (.tup xs),I1.laid (t':=s1.toks) (fun b u e=>Heap.get?_push_of_some _ e) (Nat.le_refl _) ?_,rfl,q _ hf⟩
 exact ⟨z,us,r,⟨_,Heap.get?_push_size _ rfl,rfl,_,rfl⟩⟩
theorem Em (h:PA X es t):PE X (.List es pos) (Ip t):=by
 intro pins s σ H Q I hq
 refine wpAny_List_spliced (thn (h pos pins s σ H _ I hq) fun us s1 ⟨xs,H1,I1,r,z,q⟩=>⟨by rw [<- r.length]; exact z,?_⟩)
 have hf:H1 s1.heap.objs.size=none:=I1.hok.fresh (Nat.le_refl _)
 refine ⟨.ref s1.heap.objs.size,upd H1 s1.heap.objs.size (.lst xs),I1.laid (t':=s1.toks) (fun b u e=>Heap.get?_push_of_some _ e) (Nat.le_refl _) ?_,rfl,q _ hf⟩
 exact ⟨z,us,0,r,Heap.get?_push_size _ rfl⟩
end
abbrev Sp:=List V->Hp->VK->XK->Prop
abbrev CXT:=List Env->Hp->Shared->XK->Value->Shared->Prop
structure Env0 (P:Program) (w:World) (K:PySem.W.Frag) (mg:Str->Option Value) (base:Heap) (A:Around) (outer:List Env) (s:Shared) (H:Hp):Prop where
 frames:A.frames=some outer
 mod:Mod K mg base
 bs:∀ b o,base.get? b=some o->s.heap.get? b=some o/\H b=none
 bsz:base.objs.size<=s.heap.objs.size
 funs:s.heap.FunFrames base outer
 frf:∀ b ∈ frs outer,H b=none
 hok:HOk P w H s.heap
 bare:AllBare s.gens
def CE (outer:List Env) (P:Program) (w:World) (H:Hp) (s:Shared) (Q:VK) (u:Value) (s':Shared):Prop:=
 ∃ v H',s'.os=s.os/\AllBare s'.gens/\Un (frs outer) [] H H' s.heap s'.heap/\HOk P w H' s'.heap/\RelV v u/\Q v H'
def CR (CX:CXT) (outer:List Env) (P:Program) (w:World) (H:Hp) (s:Shared) (Q:VK) (E:XK) (r:Result) (s':Shared):Prop:=
 match r with
 | .ok (.ret u)=>CE outer P w H s Q u s'
 | .ok _=>False
 | .error e=>CX outer H s E e s'
structure FnOk (P:Program) (w:World) (K:PySem.W.Frag) (mg:Str->Option Value) (base:Heap) (CX:CXT) (k:Nat) (f:Addr) (fd:FuncData) (ps:List Str) (sp:Sp):Prop where
 len:∀ vs H Q E,sp vs H Q E->vs.length=ps.length
 run:∀ (A:Around) (outer:List Env) (s:Shared) (H:Hp) (args:Args) (us:List Value) (vs:List V) (Q:VK) (E:XK),Room k A->Env0 P w K mg base A outer s H->BindsTo s fd args (ps.zip us)->Vals vs us->sp vs H Q E->
  codeAny (model P w) A (.call (.ref f) args) (CR CX outer P w H s Q E) s
theorem FnOk.imp {P:Program} {w:World} {K:PySem.W.Frag} {mg:Str->Option Value} {base:Heap} {CX:CXT} {k:Nat} {f:Addr} {fd:FuncData} {ps:List Str} {sp sp':Sp} (F:FnOk P w K mg base CX k f fd ps sp)
  (h:∀ vs H Q E,sp' vs H Q E->sp vs H Q E):FnOk P w K mg base CX k f fd ps sp':=
 ⟨fun vs H Q E q=>F.len vs H Q E (h _ _ _ _ q),fun A outer s H args us vs Q E hr he hb hv hs=>F.run A outer s H args us vs Q E hr he hb hv (h _ _ _ _ hs)⟩
theorem Env0.make {P:Program} {w:World} {K:PySem.W.Frag} {mg:Str->Option Value} {base:Heap} {A:Around} {outer:List Env} {s:Shared} {H:Hp} (e:Env0 P w K mg base A outer s H) (C:Addr) (us:List Value) (kw:List (Str × Value)) :
  Env0 P w K mg base (A.under (.builtin "type.__call__" ⟨.ref C::us,kw⟩)) outer s H:=⟨by first | exact e.frames | (simpa [Around.under,Code.envs,Code.isFrame,pushEnvs] using e.frames),e.mod,e.bs,e.bsz,e.funs,e.frf,e.hok,e.bare⟩
section
variable {X:Cx} {pins:List (Addr × Obj)} {σ:St} {H:Hp} {s s':Shared}
theorem Inv.env0 (I:Inv X pins σ H s):Env0 X.prog X.w X.K X.mg X.base X.A X.stack s H:=
 ⟨I.ok.frames,I.ok.mod,I.bs,Nat.le_trans I.ok.bsz I.sz,I.stack,I.stkFree,I.hok,I.bare⟩
theorem Inv.after {Q:VK} {u:Value} (I:Inv X pins σ H s) (h:CE X.stack X.prog X.w H s Q u s'):EP X pins σ Q u s':=by
 obtain ⟨v,H',os,bare,un,hok,r,q⟩:=h
 obtain ⟨hh,g,d,t,os'⟩:=s'
 obtain rfl:os'=s.os:=os
 exact ⟨v,H',I.call (h':=hh) (g':=g) (d':=d) (t':=t) (ch:=[]) un hok bare (fun b z=>absurd z (by simp)),r,q⟩
end
def Binds (K:PySem.W.Frag) (fd:FuncData) (ps:List Str) (ds:List Value):Prop:=
 ∀ (s:Shared) (us:List Value),K.In s.heap->(us++ds).length=ps.length->BindsTo s fd ⟨us,[]⟩ (ps.zip (us++ds))
theorem Binds.all {K:PySem.W.Frag} {fd:FuncData} {ps:List Str} (h:∀ us:List Value,us.length=ps.length->bindArgs fd ⟨us,[]⟩=pure (ps.zip us)):Binds K fd ps []:=fun s us _ hl=>by
 rw [List.append_nil] at hl ⊢
 exact .of_eq (h us hl)
section
variable {X:Cx} {CX:CXT} {k:Nat} {f C:Addr} {fd:FuncData} {ps:List Str} {sp:Sp} {dvs:List V} {ds:List Value} {E:XK} {x m:Str} {p pos apos:Pos} {e o:Expr} {es:List Expr} {ta:TE} {t:TA}
structure Mk (K:PySem.W.Frag) (C f:Addr):Prop where
 makes:PySem.W.makesIn K C=true
 init:PySem.W.findIn K (.ref C) "__init__"=some (some (.ref f))
 fn:PySem.W.isFn K (.ref f)=true
 kp:PySem.W.keepIn K (.ref C)=true
end
section
variable {X:Cx} {CX:CXT} {k:Nat} {f C:Addr} {fd:FuncData} {ps ks:List Str} {sp:Sp} {E:XK} {x m:Str} {p pos apos kpos:Pos} {e o:Expr} {es:List Expr} {kws:List Keyword} {te ta:TE} {t tk:TA} {nm:Option Str}
structure KBinds (K:PySem.W.Frag) (fd:FuncData) (ps ks:List Str) (g:List Value->List Value->List Value) (gV:List V->List V->List V):Prop where
 to:∀ (s:Shared) (us ws:List Value),K.In s.heap->(g us ws).length=ps.length->BindsTo s fd ⟨us,ks.zip ws⟩ (ps.zip (g us ws))
 rel:∀ {vs:List V} {us:List Value} {zs:List V} {ws:List Value},Vals vs us->Vals zs ws->Vals (gV vs zs) (g us ws)
variable {g:List Value->List Value->List Value} {gV:List V->List V->List V}
end
structure FnScope (N P:List Str) (sc:Scope):Prop where
 kind:sc.kind=.function
 co:sc.isCoroutine=false
 gen:sc.isGenerator=false
 nd:N.Nodup
 pre:N.take P.length=P
 par:∀ x ∈ P,sc.names.lookup x=some .local\/sc.names.lookup x=some .cell
 nofree:∀ y ∈ sc.names,y.2 ≠ .free
theorem qg {kindOf:Str->Option NameKind} {x:Str}:∀ {binds:List (Str × Value)} {m:Str->Option Value},(∀ v,(x,v) ∉ binds)->bindL kindOf binds m x=m x
 | [],_,_=>rfl
 | (n,v)::r,m,h=>by
  unfold bindL
  rw [qg fun w hw=>h w (List.mem_cons_of_mem _ hw)]
  split
  ·have:x ≠ n:=by rintro rfl; exact h v List.mem_cons_self
   simp [this]
  ·rfl
theorem qa {kindOf:Str->Option NameKind} {x:Str}:∀ {binds:List (Str × Value)} {m:Str->Option Value},(∀ v,(x,v) ∉ binds)->bindC kindOf binds m x=m x
 | [],_,_=>rfl
 | (n,v)::r,m,h=>by
  unfold bindC
  rw [qa fun w hw=>h w (List.mem_cons_of_mem _ hw)]
  split
  ·rfl
  ·have:x ≠ n:=by rintro rfl; exact h v List.mem_cons_self
   simp [this]
theorem pM {kindOf:Str->Option NameKind} {x:Str} {v:Value}:∀ {P:List Str} {vs:List Value} {i:Nat} {m:Str->Option Value},P.Nodup->P[i]?=some x->vs[i]?=some v->kindOf x=some .local->
  bindL kindOf (P.zip vs) m x=some v
 | [],_,_,_,_,h,_,_=>by simp at h
 | _::_,[],_,_,_,_,h,_=>by simp at h
 | p::P,w::vs,0,m,nd,h1,h2,hk=>by
  simp at h1 h2; subst h1; subst h2
  show bindL kindOf ((p,w)::P.zip vs) m p=_
  unfold bindL
  rw [qg fun v hv=>(List.nodup_cons.mp nd).1 (List.of_mem_zip hv).1,if_pos hk]
  simp
 | p::P,w::vs,i+1,m,nd,h1,h2,hk=>by
  show bindL kindOf ((p,w)::P.zip vs) m x=_
  unfold bindL
  exact pM (i:=i) (List.nodup_cons.mp nd).2 (by simpa using h1) (by simpa using h2) hk
theorem pf {kindOf:Str->Option NameKind} {x:Str} {v:Value}:∀ {P:List Str} {vs:List Value} {i:Nat} {m:Str->Option Value},P.Nodup->P[i]?=some x->vs[i]?=some v->kindOf x ≠ some .local->
  bindC kindOf (P.zip vs) m x=some v
 | [],_,_,_,_,h,_,_=>by simp at h
 | _::_,[],_,_,_,_,h,_=>by simp at h
 | p::P,w::vs,0,m,nd,h1,h2,hk=>by
  simp at h1 h2; subst h1; subst h2
  show bindC kindOf ((p,w)::P.zip vs) m p=_
  unfold bindC
  rw [qa fun v hv=>(List.nodup_cons.mp nd).1 (List.of_mem_zip hv).1,if_neg hk]
  simp
 | p::P,w::vs,i+1,m,nd,h1,h2,hk=>by
  show bindC kindOf ((p,w)::P.zip vs) m x=_
  unfold bindC
  exact pf (i:=i) (List.nodup_cons.mp nd).2 (by simpa using h1) (by simpa using h2) hk
def ia (N:List Str) (vs:List V):St:=vs.map some++List.replicate (N.length - vs.length) none
def ib (CX:CXT) (P:Program) (w:World) (K:PySem.W.Frag) (mg:Str->Option Value) (base:Heap) (N:List Str) (qual:Str) (scope:Scope) (f:Addr) (cd:Value) (A:Around) (outer:List Env) (s:Shared) (H:Hp) (E:XK):Cx where
 prog:=P
 w:=w
 K:=K
 mg:=mg
 base:=base
 A:=A.deeper (envOfC qual scope s.heap.objs.size f cd)
 N:=N
 s₀:=s
 H₀:=H
 env:=envOfC qual scope s.heap.objs.size f cd
 outer:=outer
 stack:=envOfC qual scope s.heap.objs.size f cd::outer
 ex:=[]
 calm:=true
 fn:=fun _=>true
 pn:=[]
 xe:=fun e s'=>wpAny (model P w) (A.deeper (envOfC qual scope s.heap.objs.size f cd)) (leaving (envOfC qual scope s.heap.objs.size f cd) e) (fun _ s''=>CX outer H s E e s'') (fun e' s''=>CX outer H s E e' s'') s'
theorem ti {sc:Scope} {n:Nat} {x:Str} (h:sc.names.lookup x=some .cell):∃ c,(cellsFrom n sc.names []).lookup x=some c:=by
 have q:=PySem.W.cellsFrom_some sc.names n [] (.inl h)
 exact Option.isSome_iff_exists.mp q
theorem vR {CX:CXT} {P:Program} {w:World} {K:PySem.W.Frag} {mg:Str->Option Value} {base:Heap} {N ps:List Str} {qual:Str} {scope:Scope} {f:Addr} {cd:Value} {A:Around} {outer:List Env} {s s1:Shared} {H:Hp} {E:XK} {us:List Value} {vs:List V}
  (S:FnScope N ps scope) (hd:A.handled=none) (e0:Env0 P w K mg base A outer s H) (hl:vs.length=ps.length) (r:Vals vs us)
  (x:InCallC s s.heap.objs.size (bindL (envOfC qual scope s.heap.objs.size f cd).kindOf (ps.zip us) fun _=>none) (cellsFrom (s.heap.objs.size+1) scope.names []) (bindC (envOfC qual scope s.heap.objs.size f cd).kindOf (ps.zip us) fun _=>none) s1) :
  Inv (ib CX P w K mg base N qual scope f cd A outer s H E) [] (ia N vs) H s1:=by
 have hpl:ps.length<=N.length:=by have:=congrArg List.length S.pre; rw [List.length_take] at this; omega
 obtain ⟨h1,tk,rfl,hk⟩:=x.done
 have noA:∀ b:Addr,b ∉ (ib CX P w K mg base N qual scope f cd A outer s H E).ex:=fun b z=>absurd (show b ∈ ([]:List Addr) from z) (by simp)
 refine ⟨⟨e0.mod,S.kind,rfl,rfl,Nat.le_refl _,fun y z c h1 h2=>?_,fun y hy=>?_,fun y c _ h=>?_,fun _=>hd,Around.frames_deeper e0.frames,.inr ⟨rfl,rfl⟩,fun b z=>absurd z (noA b),e0.bs,e0.bsz,fun b _ _=>noA b,fun b z=>absurd z (noA b),e0.funs,e0.frf⟩,
  rfl,e0.bare,Un.kept hk,⟨_,x.toInCall.ns,fun i y v h1 h2 h3=>?_⟩,fun y c h=>⟨_,x.cell y c h⟩,e0.hok.fresh (Nat.le_refl _),fun y c h=>?_,fun p hp=>absurd (show p ∈ ([]:List (Addr × Obj)) from hp) (by simp),e0.hok.kept hk,?_⟩
 ·exact name_of_addr x.apart (PySem.mem_of_lookup h1) (PySem.mem_of_lookup h2)
 ·have hy:scope.names.lookup y=some .cell\/scope.names.lookup y=some .free:=hy
  rcases hy with hy | hy
  ·exact ti hy
  ·exact absurd rfl (S.nofree _ (PySem.mem_of_lookup hy))
 ·exact Nat.le_of_lt (x.above y c (PySem.mem_of_lookup h))
 ·have hi:i < vs.length:=by
   unfold ia at h2
   by_cases hi:i < vs.length
   ·exact hi
   ·rw [List.getElem?_append_right (by simpa using hi)] at h2
    rw [List.getElem?_replicate] at h2
    split at h2 <;> cases h2
  have ha:vs[i]?=some v:=by
   unfold ia at h2
   rw [List.getElem?_append_left (by simpa using hi),List.getElem?_map] at h2
   cases e:vs[i]? with
   | none=>rw [e] at h2; cases h2
   | some a=>rw [e] at h2; cases h2; rfl
  obtain ⟨u,hu,rv⟩:=r.get ha
  have hp:ps[i]?=some y:=by
   rw [<- S.pre,List.getElem?_take_of_lt (by omega)]; exact h1
  have ndP:ps.Nodup:=by rw [<- S.pre]; exact S.nd.sublist (List.take_sublist _ _)
  refine ⟨u,rv,?_⟩
  rcases S.par y (List.mem_of_getElem? hp) with k | k
  ·exact .inl ⟨k,pM ndP hp hu k⟩
  ·obtain ⟨c,e⟩:=ti (n:=s.heap.objs.size+1) k
   refine .inr ⟨.inl k,c,e,?_⟩
   have q:=x.cell y c e
   rw [pf ndP hp hu (by show scope.names.lookup y ≠ _; rw [k]; decide)] at q
   exact q
 ·exact e0.hok.fresh (Nat.le_of_lt (x.above y c (PySem.mem_of_lookup h)))
 ·unfold ia
  show _=N.length
  rw [List.length_append,List.length_map,List.length_replicate]
  omega
theorem BV {CX:CXT} {P:Program} {w:World} {K:PySem.W.Frag} {mg:Str->Option Value} {base:Heap} {k:Nat} {f:Addr} {name qual:Str} {params:Arguments} {body:List Stmt} {scope:Scope} {dV kV doc pm cdv ct oc:Value} {an od:Option Addr}
  {osl:Array (Option Value)} {N ps:List Str} {sp:Sp} (lk:K.lookup f=some ⟨oc,od,.func (PySem.W.fnOf name qual params body scope dV kV doc pm an cdv ct),osl⟩) (hcd:PySem.W.codeIn K cdv qual=true) (S:FnScope N ps scope)
  (len:∀ vs H Q E,sp vs H Q E->vs.length=ps.length)
  (hbody:∀ (A:Around) (outer:List Env) (s:Shared) (H:Hp) (vs:List V) (Q:VK) (E:XK),Room k (A.deeper (envOfC qual scope s.heap.objs.size f cdv))->sp vs H Q E->
   ∃ t,PSs (ib CX P w K mg base N qual scope f cdv A outer s H E) body t/\t { nx:=fun _ H'=>Q .non H',rt:=Q } (ia N vs) H) :
  FnOk P w K mg base CX (k+1) f (PySem.W.fnOf name qual params body scope dV kV doc pm an cdv ct) ps sp:=by
 refine ⟨len,fun A outer s H args us vs Q E hr e0 hb r hsp=>?_⟩
 have hl:=len _ _ _ _ hsp
 have KX:K.In s.heap:=e0.mod.kin.keeps fun b o e=>(e0.bs b o e).1
 have lim:s.heap.NoLimit:=e0.mod.nolimit.keeps fun b o e=>(e0.bs b o e).1
 have hkind:∀ y ∈ ps.zip us,scope.names.lookup y.1=some .local\/(scope.names.lookup y.1=some .cell/\((cellsFrom (s.heap.objs.size+1) scope.names []).lookup y.1).isSome=true):=fun ⟨n,v⟩ hy=>by
  rcases S.par n (List.of_mem_zip hy).1 with q | q
  ·exact .inl q
  ·exact .inr ⟨q,PySem.W.cellsFrom_some _ _ _ (.inl q)⟩
 refine codeAny_call_function hr.depth (KX _ _ lk) rfl S.co S.gen rfl (PySem.W.codeRec_of KX hcd) (hb _ _ _ _ ?_)
 refine wpAny_newFunctionEnv_cells S.kind hkind fun env he s1 x=>?_
 subst he
 refine ⟨lim.keeps x.toInCall.keep,codeAny_func ?_⟩
 obtain ⟨t,ht,hq⟩:=hbody A outer s H vs Q E (hr.deeper _) hsp
 have I:Inv (ib CX P w K mg base N qual scope f cdv A outer s H E) [] (ia N vs) H s1:=vR S hr.hd e0 hl r x
 refine wpAny_mono (ht [] s1 (ia N vs) H _ I hq) (fun fl s' hs=>?_) fun e s' hs=>hs
 have fin:∀ {σ':St} {H':Hp} {v:V} {u:Value},Inv (ib CX P w K mg base N qual scope f cdv A outer s H E) [] σ' H' s'->RelV v u->Q v H'->CE outer P w H s Q u s':=
  fun {σ' H' v u} J rv q=>⟨v,H',J.os,J.bare,J.base,J.hok,rv,q⟩
 cases fl with
 | ret u=>
  obtain ⟨v,σ',H',J,rv,q⟩:=hs
  exact fin J rv q
 | next=>
  obtain ⟨σ',H',J,q⟩:=hs
  exact fin (v:=V.non) (u:=Value.none) J rfl q
 | brk=>
  obtain ⟨_,_,_,q⟩:=hs
  exact False.elim q
 | cont=>
  obtain ⟨_,_,_,q⟩:=hs
  exact False.elim q
end L2
namespace L2
open PySem PySem.Spec PyProof.Rows
section
variable {X:Cx} {x:Str} {p pos:Pos} {e:Expr} {es:List Expr} {t:TA} {id T:String} {r:List V->Hp->VK->Prop}
def tCB (r:List V->Hp->VK->Prop) (t:TA):TE:=fun σ H Q=>t σ H fun vs H1=>r vs H1 Q
theorem nX (hc:im X (.builtin id) r) (hg:Gl X x) (hm:X.mg x=none) (hv:bootBuiltins x=some (.builtin id)) (ha:PA X (e::es) t) (hn:x ≠ "__name__":=by decide) (hdb:(x==("__debug__":Str))=false:=by decide)
  (he:starEach (e::es) X.env=(false,eval e X.env)::starEach es X.env:=by rfl) (hpl:(backTo pos (starEach es X.env)).any (·.1)=false:=by rfl):PE X (.Call (.Name x p) (e::es) [] pos) (tCB r t):=by
 intro pins s σ H Q I h
 refine wpAny_Call_Name_kw (sT I hg hm hv ?_ hn hdb)
 exact PyProof.Rows.callWith_builtin1 (thn (ha pos pins s σ H _ I h) fun us s1 ⟨vs,H1,I1,r1,q1⟩=>hc pins s1 σ H1 vs us Q I1 r1 q1) he hpl
theorem wK (hc:im X (.type T) r) (hg:Gl X x) (hm:X.mg x=none) (hv:bootBuiltins x=some (.type T)) (ha:PA X (e::es) t) (hn:x ≠ "__name__":=by decide) (hdb:(x==("__debug__":Str))=false:=by decide)
  (he:starEach (e::es) X.env=(false,eval e X.env)::starEach es X.env:=by rfl) (hpl:(backTo pos (starEach es X.env)).any (·.1)=false:=by rfl):PE X (.Call (.Name x p) (e::es) [] pos) (tCB r t):=by
 intro pins s σ H Q I h
 refine wpAny_Call_Name_kw (sT I hg hm hv ?_ hn hdb)
 exact PyProof.Rows.callWith_type1 (thn (ha pos pins s σ H _ I h) fun us s1 ⟨vs,H1,I1,r1,q1⟩=>hc pins s1 σ H1 vs us Q I1 r1 q1) he hpl
end
end L2
namespace HT
open PySem PyProof.Rows
section
open PySem.SeqAt
open PySem.AutoSeq1 (wpAny_loadPart')
open PySem.MeetsSeq PySem.MeetsSeq2 PySem.MeetsSeq3
end
section
variable {prog:Program} {w:World} {A:Around} {E:Value->Shared->Prop} {s:Shared}
theorem cat_tup {t b:Addr} {vs ws:List Value} {Q:Value->Shared->Prop} (ht:IsTup s.heap t vs.toArray) (hb:IsTup s.heap b ws.toArray) (hv:vs ≠ [])
  (h1:ws=[]->Q (.ref t) s) (h2:ws ≠ []->Q (.ref s.heap.objs.size) { s with heap:=s.heap.push { cls:=.type "tuple",data:=.seq (vs++ws).toArray } })
  (hsz:vs.length+ws.length<=sizeLine):wpAny (model prog w) A (binaryOp .Add (.ref t) (.ref b)) Q E s:=by
 obtain ⟨⟨cls,dd,data,sl⟩,ho,hc,n,hd⟩:=id ht
 obtain ⟨⟨cls2,dd2,data2,sl2⟩,ho2,hc2,n2,hd2⟩:=id hb
 simp only at hc hd hc2 hd2
 subst hc hd hc2 hd2
 have e:vs.toArray++ws.toArray=(vs++ws).toArray:=by simp
 by_cases hw:ws=[]
 ·exact concat_meets ⟨_,ho,rfl⟩ ⟨_,ho2,rfl⟩ noFill_tuple_add seq_tuple_add PySem.F.slot_tuple_add PySem.F.entry_tuple_add (PySem.F.args_tuple_add_2 _ _)
   (tuple_addW1 t b vs.toArray ws.toArray n n2 dd dd2 sl sl2 (by simpa using hv) (by simp [hw])) ⟨ho,ho2,h1 hw⟩
 ·refine concat_meets ⟨_,ho,rfl⟩ ⟨_,ho2,rfl⟩ noFill_tuple_add seq_tuple_add PySem.F.slot_tuple_add PySem.F.entry_tuple_add (PySem.F.args_tuple_add_2 _ _)
   (tuple_addW2 t b vs.toArray ws.toArray n n2 dd dd2 sl sl2 (by simpa using hv) (by simpa using hw) (by rw [List.size_toArray,List.size_toArray]; exact hsz)) ⟨ho,ho2,?_⟩
  rw [e]
  exact h2 hw
def sIx (n d:Nat):Option Int->Nat
 | none=>d
 | some v=>if v < 0 then (v+(n:Int)).toNat else min v.toNat n
theorem sIx_none (n d:Nat):sIx n d none=d:=rfl
theorem sIx_nat (n d k:Nat):sIx n d (some (k:Int))=min k n:=by
 show (if (k:Int) < 0 then ((k:Int)+(n:Int)).toNat else min (k:Int).toNat n)=min k n
 rw [if_neg (by omega),Int.toNat_natCast]
theorem sIx_le (n d:Nat) (hd:d<=n) (o:Option Int):sIx n d o<=n:=by
 cases o with
 | none=>exact hd
 | some v=>
  show (if v < 0 then (v+(n:Int)).toNat else min v.toNat n)<=n
  by_cases hv:v < 0
  ·rw [if_pos hv]; omega
  ·rw [if_neg hv]; exact Nat.min_le_right _ _
theorem xP (v:Int) (n d:Nat):(if v < 0 then max (v+(n:Int)) 0 else min v (n:Int))=((sIx n d (some v):Nat):Int):=by
 show (if v < 0 then max (v+(n:Int)) 0 else min v (n:Int))=(((if v < 0 then (v+(n:Int)).toNat else min v.toNat n):Nat):Int)
 by_cases hv:v < 0
 ·simp only [if_pos hv]; omega
 ·simp only [if_neg hv]; omega
theorem uF (lo hi:Option Int) (n:Nat):Builtin.Slice.sliceAdjust lo hi 1 (n:Int)=(((sIx n 0 lo:Nat):Int),((sIx n n hi:Nat):Int)):=by
 have h1 : ¬ ((1:Int) < 0):=by omega
 unfold Builtin.Slice.sliceAdjust
 simp only [h1,if_false]
 refine Prod.ext ?_ ?_
 ·cases lo with
  | none=>rfl
  | some v=>exact xP v n 0
 ·cases hi with
  | none=>rfl
  | some v=>exact xP v n n
theorem va (i j:Nat):Builtin.Slice.slicePlaces (i:Int) (j:Int) 1=j - i:=by
 unfold Builtin.Slice.slicePlaces
 have h1:(1:Int) > 0:=by omega
 simp only [h1,if_true,Int.ediv_one]
 split <;> omega
theorem mR {v:Value} {o:Option Int} {Q:Option Int->Shared->Prop} (p:IsPart v o) (h:Q o s):wpAny (model prog w) A (Builtin.Slice.slicePartIndex v) Q E s:=by
 cases p with
 | none=>exact slicePart_none h
 | int i t=>exact slicePart_int h
theorem sliceApplied_gen {sl:Addr} {vl vu:Value} {lo hi:Option Int} {n:Nat} {Q:Int × Int × Nat->Shared->Prop} (hs:s.heap.IsSliceOf sl vl vu .none) (pl:IsPart vl lo) (pu:IsPart vu hi)
  (h:Q (((sIx n 0 lo:Nat):Int),1,sIx n n hi - sIx n 0 lo) s):wpAny (model prog w) A (Builtin.Slice.sliceApplied (.ref sl) (pure (n:Int))) Q E s:=by
 obtain ⟨os,hos,hcs,hds⟩:=id hs
 unfold Builtin.Slice.sliceApplied Builtin.Slice.sliceFields
 refine wpAny_bind (wpAny_bind (wpAny_field hos hds (x:=vl) rfl (wpAny_bind (wpAny_field hos hds (x:=vu) rfl (wpAny_bind (wpAny_field hos hds (x:=.none) rfl (wpAny_pure ?_)))))))
 refine wpAny_bind (slicePart_none ?_)
 show wpAny _ _ (if ((1:Int)==0)=true then _ else _) _ _ s
 rw [if_neg (by decide)]
 refine wpAny_bind (mR pl (wpAny_bind (mR pu (wpAny_bind (wpAny_pure ?_)))))
 show wpAny _ _ (match Builtin.Slice.sliceAdjust lo hi 1 (n:Int) with | (lo,hi)=>pure (lo,(1:Int),Builtin.Slice.slicePlaces lo hi 1)) _ _ s
 rw [uF lo hi n]
 show wpAny _ _ (pure (((sIx n 0 lo:Nat):Int),(1:Int),Builtin.Slice.slicePlaces ((sIx n 0 lo:Nat):Int) ((sIx n n hi:Nat):Int) 1)) _ _ s
 rw [va]
 exact wpAny_pure h
theorem yQ (xs:Array Value) (i k:Nat):((List.range k).filterMap fun (m:Nat)=>xs[((i:Int)+(m:Int) * 1).toNat]?).toArray=((xs.toList.drop i).take k).toArray:=by
 have e:(fun (m:Nat)=>xs[((i:Int)+(m:Int) * 1).toNat]?)=fun m=>xs[i+m]?:=by
  funext m
  have:((i:Int)+(m:Int) * 1).toNat=i+m:=by omega
  rw [this]
 rw [e]
 have:=pick_run xs i k
 rw [List.filterMap_map] at this
 have e2:((fun x=>xs[x]?) ∘ fun x=>i+x)=fun m=>xs[i+m]?:=rfl
 rw [e2] at this
 rw [this]
theorem getItem_tuple_cut {t sl:Addr} {items:Array Value} {vl vu:Value} {lo hi:Option Int} {Q:Value->Shared->Prop} (ht:IsTup s.heap t items) (hs:s.heap.IsSliceOf sl vl vu .none) (pl:IsPart vl lo) (pu:IsPart vu hi)
  (hw : ¬ (sIx items.size 0 lo=0/\sIx items.size items.size hi=items.size))
  (h:Q (.ref s.heap.objs.size) { s with heap:=s.heap.push { cls:=.type "tuple",data:=.seq ((items.toList.drop (sIx items.size 0 lo)).take (sIx items.size items.size hi - sIx items.size 0 lo)).toArray } })
  (hsz:items.size<=sizeLine):wpAny (model prog w) A (getItem (.ref t) (.ref sl)) Q E s:=by
 have htake:sizeOk (.seq ((items.toList.drop (sIx items.size 0 lo)).take (sIx items.size items.size hi - sIx items.size 0 lo)).toArray):=by
  show ((items.toList.drop (sIx items.size 0 lo)).take (sIx items.size items.size hi - sIx items.size 0 lo)).toArray.size<=sizeLine
  rw [List.size_toArray,List.length_take,List.length_drop,Array.length_toList]
  omega
 have hj:sIx items.size items.size hi<=items.size:=sIx_le _ _ (Nat.le_refl _) hi
 obtain ⟨os,hos,hcs,hds⟩:=id hs
 have hTs:s.TypeIs (.ref sl) "slice":=⟨os,hos,hcs⟩
 unfold getItem
 try with_reducible refine wpAny_holding ?_
 first | refine wpAny_bind (wpAny_pure ?_) | skip
 refine wpAny_bind (wpAny_sequenceKey ht.typeIs (by decide) ?_)
 refine wpAny_bind (wpAny_callSpecial?_slot (name:=Str.ofString "__getitem__") ht.typeIs PyProof.Rows.slot_tuple_getitem
  (wpAny_call_entry PyProof.Rows.slot_tuple_getitem ht.typeIs entry_tuple_getitem ?_ (args_tuple_getitem _ _)))
 show wpAny _ _ (Builtin.Tuple.tupleItemsOf (.ref t)>>=_) _ _ s
 refine wpAny_bind (tupleItemsOf_ ht ?_)
 refine wpAny_bind (wpAny_typeOf hTs ?_)
 rw [if_pos (by decide)]
 refine wpAny_bind (sliceApplied_gen hs pl pu ?_)
 have hno : ¬ ((((sIx items.size 0 lo:Nat):Int)==0 && (1:Int)==1 && (sIx items.size items.size hi - sIx items.size 0 lo)==items.size)=true):=by
  intro q
  rw [Bool.and_eq_true,Bool.and_eq_true] at q
  have q1:((sIx items.size 0 lo:Nat):Int)=0:=eq_of_beq q.1.1
  have q2:sIx items.size items.size hi - sIx items.size 0 lo=items.size:=eq_of_beq q.2
  exact hw ⟨by omega,by omega⟩
 show wpAny _ _ (if (((sIx items.size 0 lo:Nat):Int)==0 && (1:Int)==1 && (sIx items.size items.size hi - sIx items.size 0 lo)==items.size)=true then _ else _) _ _ s
 rw [if_neg hno,yQ]
 first
  | exact wpAny_bind (m:=Builtin.Tuple.tupleExact _) (wpAny_newObj_type (wpAny_pure ⟨_,rfl,wpAny_pure h⟩) htake)
  | exact wpAny_bind (m:=Builtin.Tuple.tupleExact _) (wpAny_newObj_type (wpAny_bind (wpAny_pure (wpAny_pure ⟨_,rfl,wpAny_pure h⟩))) htake)
  | exact wpAny_bind (wpAny_bind (m:=Builtin.Tuple.tupleExact _) (wpAny_newObj_type (wpAny_pure (wpAny_pure ⟨_,rfl,wpAny_pure h⟩)) htake))
  | exact wpAny_bind (wpAny_bind (m:=Builtin.Tuple.tupleExact _) (wpAny_newObj_type (wpAny_pure ⟨_,rfl,wpAny_pure h⟩) htake))
end
end HT
namespace L2
open PySem PySem.Spec PyProof.Rows
abbrev TO:=St->Hp->(Option Int->Hp->Prop)->Prop
def PO (X:Cx) (e:Option Expr) (t:TO):Prop:=
 ∀ (pins:List (Addr × Obj)) (s:Shared) (σ:St) (H:Hp) (Q:Option Int->Hp->Prop),Inv X pins σ H s->t σ H Q->
  wpAny (model X.prog X.w) X.A (evalPart e X.env) (fun u s'=>∃ o H',Inv X pins σ H' s'/\IsPart u o/\Q o H') X.xe s
def Dc:TO:=fun _ H Q=>Q none H
def GR (t:TE):TO:=fun σ H Q=>t σ H fun x H1=>∃ i,x=.int i/\Q (some i) H1
section
variable {X:Cx} {e:Expr} {te:TE} {lo hi:Option Expr} {tl th:TO} {pos p2:Pos}
theorem AZ:PO X none Dc:=by
 intro pins s σ H Q I h
 rw [evalPart_none]
 exact wpAny_pure ⟨none,H,I,.none,h⟩
theorem CI (h:PE X e te):PO X (some e) (GR te):=by
 intro pins s σ H Q I hw
 rw [evalPart_some]
 refine thn (h pins s σ H _ I hw) fun u s1 ⟨x,H1,I1,r1,q1⟩=>?_
 obtain ⟨i,rfl,q⟩:=q1
 obtain ⟨t,rfl⟩:=r1
 exact ⟨some i,H1,I1,.int i t,q⟩
def SlR (X:Cx) (r:V->Option Int->Option Int->Hp->VK->Prop):Prop:=
 ∀ (pins:List (Addr × Obj)) (s:Shared) (σ:St) (H:Hp) (x:V) (v vl vu:Value) (lo hi:Option Int) (sl:Addr) (Q:VK),Inv X pins σ H s->RelV x v->s.heap.IsSliceOf sl vl vu .none->IsPart vl lo->IsPart vu hi->r x lo hi H Q->
  ∃ T id,typeLookup (.type T) "__getitem__"=pure (some (.builtin id))/\s.TypeIs v T/\wpAny (model X.prog X.w) X.A (getItem v (.ref sl)) (EP X pins σ Q) X.xe s
theorem SlR.or {r r':V->Option Int->Option Int->Hp->VK->Prop} (h:SlR X r) (h':SlR X r'):SlR X (fun x lo hi H Q=>r x lo hi H Q\/r' x lo hi H Q):=by
 intro pins s σ H x v vl vu lo hi sl Q I rx hs pl pu q
 rcases q with q | q
 ·exact h pins s σ H x v vl vu lo hi sl Q I rx hs pl pu q
 ·exact h' pins s σ H x v vl vu lo hi sl Q I rx hs pl pu q
def tSl (r:V->Option Int->Option Int->Hp->VK->Prop) (te:TE) (tl th:TO):TE:=fun σ H Q=>te σ H fun x H1=>tl σ H1 fun l H2=>th σ H2 fun u H3=>r x l u H3 Q
theorem yG {r:V->Option Int->Option Int->Hp->VK->Prop} (hr:SlR X r) (he:PE X e te) (hl:PO X lo tl) (hu:PO X hi th):PE X (.Subscript e (.Slice lo hi none p2) pos) (tSl r te tl th):=by
 intro pins s σ H Q I h
 refine Subscript_ (thn (he pins s σ H _ I h) fun v s1 ⟨x,H1,I1,r1,q1⟩=>?_)
 refine wpAny_Slice (thn (hl pins s1 σ H1 _ I1 q1) fun vl s2 ⟨l,H2,I2,pl,q2⟩=>thn (hu pins s2 σ H2 _ I2 q2) fun vu s3 ⟨u,H3,I3,pu,q3⟩=>?_)
 rw [evalPart_none]
 refine wpAny_pure ?_
 have I4:Inv X pins σ H3 { s3 with heap:=s3.heap.push { cls:=.type "slice",data:=.fields #[vl,vu,.none] } }:=I3.kept (t':=s3.toks) fun b ob q=>Heap.get?_push_of_some _ q
 obtain ⟨T,id,hT,ht,hg⟩:=hr pins { s3 with heap:=s3.heap.push { cls:=.type "slice",data:=.fields #[vl,vu,.none] } } σ H3 x v vl vu l u s3.heap.objs.size Q I4 r1 (Heap.IsSliceOf.new ..) pl pu q3
 show wpAny (model X.prog X.w) X.A (subscriptTail e (.Slice lo hi none p2) v (.ref s3.heap.objs.size)) (EP X pins σ Q) X.xe { s3 with heap:=s3.heap.push { cls:=.type "slice",data:=.fields #[vl,vu,.none] } }
 exact tail_any (ops:=[.ref s3.heap.objs.size,v]) ht hT hg (by with_unfolding_all rfl)
def AA (xs:List V) (lo hi:Option Int):List V:=(xs.drop (HT.sIx xs.length 0 lo)).take (HT.sIx xs.length xs.length hi - HT.sIx xs.length 0 lo)
theorem lV (xs:List V) (lo hi:Option Int):(AA xs lo hi).length<=xs.length:=by
 unfold AA
 rw [List.length_take,List.length_drop]
 omega
def Ht (K:PySem.W.Frag):V->Option Int->Option Int->Hp->VK->Prop:=fun x lo hi H Q=>∃ a xs,x=.ref a/\SqT K H a xs/\
 ¬ (HT.sIx xs.length 0 lo=0/\HT.sIx xs.length xs.length hi=xs.length)/\∀ p,H p=none->Q (.ref p) (upd H p (.tup (AA xs lo hi)))
theorem sl_tup:SlR X (Ht X.K):=by
 intro pins s σ H x v vl vu lo hi sl Q I rx hs pl pu h
 obtain ⟨a,xs,rfl,hx,hw,q⟩:=h
 cases rx
 obtain ⟨its,r,ht,hz⟩:=I.tuple hx
 have hlen:its.toArray.size=xs.length:=by rw [List.size_toArray]; exact r.length.symm
 refine ⟨"tuple",_,PyProof.Rows.slot_tuple_getitem.lookup,ht.typeIs,?_⟩
 refine HT.getItem_tuple_cut ht hs pl pu (by rw [hlen]; exact hw) ?_ (by rw [hlen]; exact hz)
 rw [hlen]
 refine ⟨.ref s.heap.objs.size,_,I.laid (t':=s.toks) (o:=.tup (AA xs lo hi)) (fun b ob q=>Heap.get?_push_of_some _ q) (Nat.le_refl _) ?_,rfl,q _ (I.hok.fresh (Nat.le_refl _))⟩
 exact ⟨Nat.le_trans (lV xs lo hi) hz,_,(r.drop (HT.sIx xs.length 0 lo)).take (HT.sIx xs.length xs.length hi - HT.sIx xs.length 0 lo),IsTup.new _ _⟩
def GO (K:PySem.W.Frag):R2:=fun x y H Q=>∃ a b xs ys,x=.ref a/\y=.ref b/\SqT K H a xs/\SqT K H b ys/\xs ≠ []/\xs.length+ys.length<=sizeLine/\
 (ys=[]->Q (.ref a) H)/\(ys ≠ []->∀ p,H p=none->Q (.ref p) (upd H p (.tup (xs++ys))))
theorem Vals.nil_iff {xs:List V} {us:List Value} (r:Vals xs us):us=[] ↔ xs=[]:=by
 cases r with
 | nil=>simp
 | cons _ _=>simp
theorem BJ:OpR X (binaryOp .Add) (GO X.K):=by
 intro pins s σ H x y v u Q I rx ry h
 obtain ⟨a,b,xs,ys,rfl,rfl,ha,hb,hx,hz,q1,q2⟩:=h
 cases rx
 cases ry
 obtain ⟨its,r1,p1,_⟩:=I.tuple ha
 obtain ⟨its2,r2,p2,_⟩:=I.tuple hb
 refine HT.cat_tup p1 p2 (fun z=>hx (r1.nil_iff.mp z)) (fun z=>⟨.ref a,H,I,rfl,q1 (r2.nil_iff.mp z)⟩) (fun z=>?_) (by rw [<- r1.length,<- r2.length]; exact hz)
 refine ⟨.ref s.heap.objs.size,_,I.laid (t':=s.toks) (o:=.tup (xs++ys)) (fun b ob q=>Heap.get?_push_of_some _ q) (Nat.le_refl _) ?_,rfl,q2 (fun w=>z (r2.nil_iff.mpr w)) _ (I.hok.fresh (Nat.le_refl _))⟩
 exact ⟨by rw [List.length_append]; exact hz,_,r1.append r2,IsTup.new _ _⟩
end
end L2
namespace L2
open PySem PySem.Spec PyProof.Rows
def ixN (n:Nat) (i:Int):Option Nat:=if 0<=i then (if i < n then some i.toNat else none) else if -(n:Int)<=i then some (i+n).toNat else none
def atI {α:Type} (xs:List α) (i:Int):Option α:=(ixN xs.length i).bind fun j=>xs[j]?
theorem CG {n:Nat} {i:Int} {j:Nat} (h:ixN n i=some j):seqIndex? i n=some j/\j < n/\-(n:Int)<=i/\i < n:=by
 unfold ixN at h
 by_cases h0:0<=i
 ·rw [if_pos h0] at h
  by_cases h1:i < n
  ·rw [if_pos h1] at h
   have e:i.toNat=j:=Option.some.inj h
   exact ⟨by rw [seqIndex_of h0 h1,e],by omega,by omega,h1⟩
  ·rw [if_neg h1] at h; cases h
 ·rw [if_neg h0] at h
  by_cases h1 : -(n:Int)<=i
  ·rw [if_pos h1] at h
   have e:(i+n).toNat=j:=Option.some.inj h
   exact ⟨by rw [seqIndex_neg (by omega) h1,e],by omega,h1,by omega⟩
  ·rw [if_neg h1] at h; cases h
theorem rj {α:Type} {xs:List α} {i:Int} {v:α} (h:atI xs i=some v):∃ j,seqIndex? i xs.length=some j/\xs[j]?=some v/\j < xs.length/\-(xs.length:Int)<=i/\i < xs.length:=by
 unfold atI at h
 cases e:ixN xs.length i with
 | none=>rw [e] at h; cases h
 | some j=>
  rw [e] at h
  obtain ⟨h1,h2,h3,h4⟩:=CG e
  exact ⟨j,h1,h,h2,h3,h4⟩
theorem xy {α:Type} {xs:List α} {j:Nat} {v:α} (h:xs[j]?=some v):atI xs (j:Int)=some v:=by
 have hj:j < xs.length:=(List.getElem?_eq_some_iff.mp h).1
 have e:ixN xs.length (j:Int)=some j:=by
  unfold ixN
  rw [if_pos (by omega),if_pos (by omega)]; simp
 unfold atI; rw [e]; exact h
def lK (b:Expr):Prop:=∀ o i,subscripted b false o i=operate [o,i] (getItem o i)
def IxR (X:Cx) (r:R2):Prop:=
 ∀ (value slice:Expr) (pins:List (Addr × Obj)) (s:Shared) (σ:St) (H:Hp) (x y:V) (v u:Value) (Q:VK),Inv X pins σ H s->RelV x v->RelV y u->r x y H Q->
  subscripted slice false v u=operate [v,u] (getItem v u)->wpAny (model X.prog X.w) X.A (subscriptTail value slice v u) (EP X pins σ Q) X.xe s
def MtR (X:Cx) (id:String) (r:V->List V->Hp->VK->Prop):Prop:=
 ∀ (pins:List (Addr × Obj)) (s:Shared) (σ:St) (H:Hp) (x:V) (xs:List V) (v:Value) (us:List Value) (Q:VK),Inv X pins σ H s->RelV x v->Vals xs us->r x xs H Q->
  wpAny (model X.prog X.w) X.A (call (.builtin id) (v::us)) (EP X pins σ Q) X.xe s
section
variable {X:Cx} {a b:Expr} {ta tb:TE} {pos:Pos}
theorem IxR.or {r r':R2} (h:IxR X r) (h':IxR X r'):IxR X (fun x y H Q=>r x y H Q\/r' x y H Q):=by
 intro value slice pins s σ H x y v u Q I rx ry q hs
 rcases q with q | q
 ·exact h value slice pins s σ H x y v u Q I rx ry q hs
 ·exact h' value slice pins s σ H x y v u Q I rx ry q hs
theorem E6 {r:R2} (hr:IxR X r) (ha:PE X a ta) (hb:PE X b tb) (hs:lK b):PE X (.Subscript a b pos) (tOp r ta tb):=by
 intro pins s σ H Q I h
 exact Subscript_ (Gw ha hb I h fun v u s2 x y H2 I2 rx ry q=>hr a b pins s2 σ H2 x y v u Q I2 rx ry q (hs _ _))
def Hm (K:PySem.W.Frag):R2:=fun x y H Q=>∃ p xs i v,x=.ref p/\y=.int i/\SqL K H p xs/\atI xs i=some v/\Q v H
def Hd (K:PySem.W.Frag):R2:=fun x y H Q=>∃ p xs i v,x=.ref p/\y=.int i/\SqT K H p xs/\atI xs i=some v/\Q v H
def Hu:R2:=fun x y H Q=>∃ z i c,x=.str z/\y=.int i/\z.length<=sizeLine/\atI z.cps.toList i=some c/\Q (.str ⟨#[c]⟩) H
theorem ix_list:IxR X (Hm X.K):=by
 intro value slice pins s σ H x y v u Q I rx ry h hs
 obtain ⟨p,xs,i,z,rfl,rfl,hq,he,q⟩:=h
 cases rx
 obtain ⟨t,rfl⟩:=ry
 obtain ⟨its,r,pl,hz⟩:=I.list hq
 obtain ⟨j,h1,h2,h3,h4,h5⟩:=rj he
 obtain ⟨w,ew,rw'⟩:=r.get h2
 have hl:=r.length
 have hn:=nc
 have fin:EP X pins σ Q w s:=⟨z,H,I,rw',q⟩
 by_cases h0:0<=i
 ·have hj:i.toNat=j:=by
   rw [seqIndex_of h0 h5] at h1
   exact Option.some.inj h1
  exact item_listR pl.isList h0 (by omega) (by rw [hj]; simpa using ew) fin hs
 ·have hj:(i+(its.toArray.size:Int)).toNat=j:=by
   rw [seqIndex_neg (by omega) h4] at h1
   rw [List.size_toArray,<- hl]
   exact Option.some.inj h1
  exact subscriptTail_builtinR (x:=w) pl.isList.typeIs slot_list_getitem.lookup
   (wpAny_getItem_list_neg (Q:=fun r s'=>r=w/\EP X pins σ Q r s') pl.isList (by omega) (by rw [List.size_toArray] <;> omega) (by omega) (by rw [hj]; simpa using ew) ⟨rfl,fin⟩) hs
theorem ix_tup:IxR X (Hd X.K):=by
 intro value slice pins s σ H x y v u Q I rx ry h hs
 obtain ⟨p,xs,i,z,rfl,rfl,hq,he,q⟩:=h
 cases rx
 obtain ⟨t,rfl⟩:=ry
 obtain ⟨its,r,pl,hz⟩:=I.tuple hq
 obtain ⟨j,h1,h2,h3,h4,h5⟩:=rj he
 obtain ⟨w,ew,rw'⟩:=r.get h2
 have hl:=r.length
 have hn:=nc
 have fin:EP X pins σ Q w s:=⟨z,H,I,rw',q⟩
 exact subscriptTail_builtinR (x:=w) pl.typeIs slot_tuple_getitem.lookup
  (getItem_tuple (j:=j) (Q:=fun r s'=>r=w/\EP X pins σ Q r s') pl (by omega) (by omega) (by rw [List.size_toArray,<- hl]; exact h1) (by simpa using ew) ⟨rfl,fin⟩) hs
theorem Ea:IxR X Hu:=by
 intro value slice pins s σ H x y v u Q I rx ry h hs
 obtain ⟨z,i,c,rfl,rfl,hz,he,q⟩:=h
 obtain ⟨t,rfl⟩:=rx
 obtain ⟨t',rfl⟩:=ry
 obtain ⟨j,h1,h2,h3,h4,h5⟩:=rj he
 have hl:z.cps.toList.length=z.length:=by simp [Str.length]
 rw [hl] at h1 h4 h5
 have hn:=nc
 exact tail_any (typeIs_str s z t) slot_str_getitem.lookup (getItem_str (c:=c) (by
  have e1:decide (i < -(2 ^ 63:Int))=false:=decide_eq_false (by omega)
  have e2:decide (i ≥ 2 ^ 63)=false:=decide_eq_false (by omega)
  rw [e1,e2,Bool.or_false]) (by rw [h1]; simpa using h2) ⟨.str ⟨#[c]⟩,H,I.tok _,⟨_,rfl⟩,q⟩) hs
def rIx (K:PySem.W.Frag):R2:=fun x y H Q=>Hm K x y H Q\/Hd K x y H Q\/Hu x y H Q
theorem EB:IxR X (rIx X.K):=ix_list.or (ix_tup.or Ea)
theorem pv (lo hi:Option Int) (n:Nat):(sliceBounds lo hi none n).1=((HT.sIx n 0 lo:Nat):Int)/\(sliceBounds lo hi none n).2.1=((HT.sIx n n hi:Nat):Int)/\(sliceBounds lo hi none n).2.2=1:=by
 refine ⟨?_,?_,rfl⟩
 ·cases lo with
  | none=>simp [sliceBounds,HT.sIx]
  | some i=>
   simp only [sliceBounds,HT.sIx,Option.getD_none,show (1:Int) > 0 by decide,if_true]
   by_cases h:i < 0
   ·simp only [h,if_true] <;> omega
   ·simp only [h,if_false] <;> omega
 ·cases hi with
  | none=>simp [sliceBounds,HT.sIx]
  | some i=>
   simp only [sliceBounds,HT.sIx,Option.getD_none,show (1:Int) > 0 by decide,if_true]
   by_cases h:i < 0
   ·simp only [h,if_true] <;> omega
   ·simp only [h,if_false] <;> omega
theorem oh (its:List Value) (lo hi:Option Int):slicePick its.toArray lo hi none=((its.drop (HT.sIx its.length 0 lo)).take (HT.sIx its.length its.length hi - HT.sIx its.length 0 lo)).toArray:=by
 obtain ⟨h1,h2,h3⟩:=pv lo hi its.toArray.size
 unfold slicePick
 rw [h1,h2,h3]
 simp only [sliceRange_one,pick_run,List.size_toArray] <;> rfl
def Hc (K:PySem.W.Frag):V->Option Int->Option Int->Hp->VK->Prop:=fun x lo hi H Q=>∃ a xs,x=.ref a/\SqL K H a xs/\∀ p,H p=none->Q (.ref p) (upd H p (.lst (AA xs lo hi)))
theorem Dg:SlR X (Hc X.K):=by
 intro pins s σ H x v vl vu lo hi sl Q I rx hs pl pu h
 obtain ⟨a,xs,rfl,hx,q⟩:=h
 cases rx
 obtain ⟨its,r,ht,hz⟩:=I.list hx
 have hlen:=r.length
 refine ⟨"list",_,slot_list_getitem.lookup,ht.isList.typeIs,?_⟩
 refine wpAny_getItem_list_slice ht.isList hs pl pu .none (by simp) ?_ (by rw [List.size_toArray] <;> omega)
 rw [oh,<- hlen]
 refine ⟨.ref s.heap.objs.size,_,I.laid (t':=s.toks) (o:=.lst (AA xs lo hi)) (fun b ob q=>Heap.get?_push_of_some _ q) (Nat.le_refl _) ?_,rfl,q _ (I.hok.fresh (Nat.le_refl _))⟩
 exact ⟨Nat.le_trans (lV xs lo hi) hz,_,0,(r.drop (HT.sIx xs.length 0 lo)).take (HT.sIx xs.length xs.length hi - HT.sIx xs.length 0 lo),Heap.get?_push_size _ rfl⟩
theorem pB:im X (.builtin "len") (fun xs H Q=>∃ p ys,xs=[.ref p]/\(SqL X.K H p ys\/SqT X.K H p ys)/\Q (.int ys.length) H):=by
 intro pins s σ H xs us Q I r h
 obtain ⟨p,ys,rfl,hq,q⟩:=h
 obtain ⟨u,rfl,rx⟩:=Be r
 cases rx
 have hn:=nc
 rcases hq with hq | hq
 ·obtain ⟨its,r',pl,hz⟩:=I.list hq
  have hlen:=r'.length
  exact Calls.call_len_list pl.isList (by simp only [List.size_toArray] <;> omega) ⟨.int ys.length,H,I.tok _,⟨s.toks+1,by rw [List.size_toArray,hlen]⟩,q⟩
 ·obtain ⟨its,r',pl,hz⟩:=I.tuple hq
  have hlen:=r'.length
  exact len_tuple pl (by simp only [List.size_toArray] <;> omega) ⟨.int ys.length,H,I.tok _,⟨s.toks+1,by rw [List.size_toArray,hlen]⟩,q⟩
theorem oP:im X (.type "tuple") (fun xs H Q=>∃ p ys,xs=[.ref p]/\((SqL X.K H p ys/\∀ l,H l=none->Q (.ref l) (upd H l (.tup ys)))\/(SqT X.K H p ys/\Q (.ref p) H))):=by
 intro pins s σ H xs us Q I r h
 obtain ⟨p,ys,rfl,h⟩:=h
 obtain ⟨u,rfl,rx⟩:=Be r
 cases rx
 rcases h with ⟨hq,q⟩ | ⟨hq,q⟩
 ·obtain ⟨its,r',pl,hz⟩:=I.list hq
  have hlen:=r'.length
  refine call_tuple_list pl.isList (fun h' kp=>?_) (by simp only [List.size_toArray] <;> omega)
  have I1:Inv X pins σ H { s with heap:=h' }:=I.kept (t':=s.toks) kp
  have I2:Inv X pins σ (upd H h'.objs.size (.tup ys)) { s with heap:=h'.push { cls:=.type "tuple",data:=.seq its.toArray } }:=
   I1.laid (t':=s.toks) (fun b o e=>Heap.get?_push_of_some _ e) (Nat.le_refl _) (show ObjOk X.prog X.w _ _ _ (.tup ys) from ⟨hz,its,r',IsTup.new _ _⟩)
  exact ⟨.ref h'.objs.size,_,I2,rfl,q _ (I1.hok.fresh (Nat.le_refl _))⟩
 ·obtain ⟨its,r',pl,hz⟩:=I.tuple hq
  exact call_tuple_same pl ⟨.ref p,H,I,rfl,q⟩
def tyV (K:PySem.W.Frag) (T:String) (x:V) (H:Hp):Prop:=match x with
 | .str _=>T="str"
 | .int _=>T="int"
 | .ref p=>(T="list"/\∃ xs,SqL K H p xs)\/(T="tuple"/\∃ o,K.lookup p=some o/\o.cls=.type "tuple"/\o.dict=none)\/
   (T="dict"/\((∃ kvs,H p=some (.dK kvs))\/∃ kvs,H p=some (.dT kvs)))\/(T="set"/\∃ S n,H p=some (.set S n))
 | _=>False
theorem Ax {pins:List (Addr × Obj)} {σ:St} {H:Hp} {s:Shared} {T:String} {x:V} {v:Value} (I:Inv X pins σ H s) (r:RelV x v) (ty:tyV X.K T x H) :
  s.TypeIs v T/\∀ a,v=.ref a->∃ ob,s.heap.get? a=some ob/\ob.dict=none:=by
 cases x with
 | str z=>
  obtain ⟨t,rfl⟩:=r
  cases (show T="str" from ty)
  exact ⟨typeIs_str s z t,fun _ e=>nomatch e⟩
 | int i=>
  obtain ⟨t,rfl⟩:=r
  cases (show T="int" from ty)
  exact ⟨typeIs_int s i t,fun _ e=>nomatch e⟩
 | ref p=>
  cases r
  rcases ty with ⟨rfl,xs,hq⟩ | ⟨rfl,o,hk,hc,hd⟩ | ⟨rfl,hk⟩ | ⟨rfl,S,n,hk⟩
  ·obtain ⟨its,_,pl,_⟩:=I.list hq
   refine ⟨pl.isList.typeIs,fun a e=>?_⟩
   cases e
   obtain ⟨o,n,e,c,hd,_⟩:=pl
   exact ⟨o,e,hd⟩
  ·refine ⟨⟨o,I.kIn p o hk,hc⟩,fun a e=>?_⟩
   cases e
   exact ⟨o,I.kIn _ o hk,hd⟩
  ·have z:∃ o,s.heap.get? p=some o/\o.ExactDict:=by
    rcases hk with ⟨kvs,hk⟩ | ⟨kvs,hk⟩
    ·obtain ⟨_,_,_,_,o,_,_,e,ex,_⟩:=I.hok p _ hk
     exact ⟨o,e,ex⟩
    ·obtain ⟨_,_,_,_,o,_,_,e,ex,_⟩:=I.hok p _ hk
     exact ⟨o,e,ex⟩
   obtain ⟨o,e,ex⟩:=z
   refine ⟨⟨o,e,ex.1⟩,fun a e2=>?_⟩
   cases e2
   exact ⟨o,e,ex.2.1⟩
  ·obtain ⟨o,_,_,_,e,ex,_⟩:=I.hok p _ hk
   refine ⟨⟨o,e,ex.1⟩,fun a e2=>?_⟩
   cases e2
   exact ⟨o,e,ex.2.1⟩
 | _=>exact False.elim ty
def II (K:PySem.W.Frag) (T:String) (r:V->List V->Hp->VK->Prop) (to:TE):TE:=fun σ H Q=>to σ H fun x H1=>tyV K T x H1/\r x [] H1 Q
def tBM (K:PySem.W.Frag) (T:String) (r:V->List V->Hp->VK->Prop) (to:TE) (t:TA):TE:=fun σ H Q=>to σ H fun x H1=>tyV K T x H1/\t σ H1 fun xs H2=>r x xs H2 Q
variable {o e:Expr} {es:List Expr} {to:TE} {t:TA} {name:Str} {apos cpos:Pos} {T id:String} {r:V->List V->Hp->VK->Prop}
theorem DW (pa:PlainAttrs T) (slot:Slot T name id) (hty:typeOf (.builtin id)=pure (.type "method_descriptor")) (hm:MtR X id r) (ho:PE X o to)
  (hbase:attributeBase o name X.env (eval o X.env)=eval o X.env:=by rfl) (hline:(apos.endLine==cpos.line)=true:=by rfl):PE X (.Call (.Attribute o name apos) [] [] cpos) (II X.K T r to):=by
 intro pins s σ H Q I h
 refine wpAny_Call_method0_late hbase hline (thn (ho pins s σ H _ I h) fun v s1 ⟨x,H1,I1,r1,ty,q1⟩=>?_)
 obtain ⟨h1,h2⟩:=Ax I1 r1 ty
 exact ⟨T,id,pa,slot,hty,h1,h2,Calls.callWith_builtin rfl (PySem.evalArgs_none (hm pins s1 σ H1 x [] v [] Q I1 r1 .nil q1))⟩
theorem Bw (pa:PlainAttrs T) (slot:Slot T name id) (hty:typeOf (.builtin id)=pure (.type "method_descriptor")) (hm:MtR X id r) (ho:PE X o to) (ha:PA X (e::es) t)
  (hbase:attributeBase o name X.env (eval o X.env)=eval o X.env:=by rfl)
  (hfew:((backTo cpos (starEach (e::es) X.env)).all (fun x=>!x.1) && (backToKw cpos (keywordEach [] X.env)).all (fun x=>x.1.isSome)
   && decide ((e::es).length+([]:List Keyword).length+(if ([]:List Keyword).isEmpty then 0 else 1) < 30))=true:=by rfl)
  (hline:(apos.endLine==cpos.line)=true:=by rfl) (hs:starEach (e::es) X.env=(false,eval e X.env)::starEach es X.env:=by rfl) (hplain:(backTo cpos (starEach es X.env)).any (·.1)=false:=by rfl) :
  PE X (.Call (.Attribute o name apos) (e::es) [] cpos) (tBM X.K T r to t):=by
 intro pins s σ H Q I h
 refine wpAny_Call_method_late hbase hfew hline rfl (thn (ho pins s σ H _ I h) fun v s1 ⟨x,H1,I1,r1,ty,q1⟩=>?_)
 obtain ⟨h1,h2⟩:=Ax I1 r1 ty
 refine ⟨T,id,pa,slot,hty,h1,h2,?_⟩
 have hA:=ha cpos pins s1 σ H1 _ I1 q1
 rw [hs] at hA ⊢
 refine Calls.callWith_builtin (by show (false || (backTo cpos (starEach es X.env)).any (·.1))=false; rw [hplain] <;> rfl) (Calls.evalArgs_plain ?_)
 exact thn hA fun us s2 ⟨vs,H2,I2,r2,q2⟩=>hm pins s2 σ H2 x vs v us Q I2 r1 r2 q2
/- xs.append(e),list.index on a module's tuple .. are MtR facts of 06m -/
end
end L2
namespace L2
open PySem PySem.Spec PyProof.Rows
def MtM (X:Cx) (id:String) (r:V->List V->Hp->VK->Prop):Prop:=
 ∀ (pins:List (Addr × Obj)) (s:Shared) (σ:St) (H:Hp) (x:V) (xs:List V) (v:Value) (us:List Value) (Q:VK),Inv X pins σ H s->RelV x v->Vals xs us->r x xs H Q->
  wpAny (model X.prog X.w) X.A (call (.builtin id) (v::us)) (EP X pins σ Q) X.xe s
theorem Vals.one:∀ {x:V} {us:List Value},Vals [x] us->∃ u,us=[u]/\RelV x u
 | _,_,.cons r .nil=>⟨_,rfl,r⟩
theorem Vals.two:∀ {x y:V} {us:List Value},Vals [x,y] us->∃ u v,us=[u,v]/\RelV x u/\RelV y v
 | _,_,_,.cons r (.cons q .nil)=>⟨_,_,rfl,r,q⟩
theorem Vals.zero:∀ {us:List Value},Vals [] us->us=[]
 | _,.nil=>rfl
theorem Vals.dropLast {xs:List V} {us:List Value} (h:Vals xs us):Vals xs.dropLast us.dropLast:=by
 induction h with
 | nil=>exact .nil
 | cons r t ih=>
  cases t with
  | nil=>exact .nil
  | cons q t'=>exact .cons r ih
theorem Vals.rep {xs:List V} {us:List Value} (h:Vals xs us):∀ k:Nat,Vals (List.replicate k xs).flatten (List.replicate k us).flatten
 | 0=>.nil
 | k+1=>by
  rw [List.replicate_succ,List.replicate_succ,List.flatten_cons,List.flatten_cons]
  exact Vals.append h (Vals.rep h k)
theorem uk {α:Type} (l:List α):l.eraseIdx (l.length - 1)=l.dropLast:=by
 induction l with
 | nil=>rfl
 | cons a r ih=>
  cases r with
  | nil=>rfl
  | cons b r=>
   have e:(a::b::r).length - 1=((b::r).length - 1)+1:=by
    have h1:(a::b::r).length=r.length+2:=rfl
    have h2:(b::r).length=r.length+1:=rfl
    omega
   rw [e,List.eraseIdx_cons_succ,ih]
   all_goals rfl
theorem iT (its:List Value):∀ (k:Nat) (acc:List Value),
  List.foldl (fun x1 x2=>x1++x2) acc.toArray (List.replicate k its.toArray)=(acc++(List.replicate k its).flatten).toArray
 | 0,acc=>by simp
 | k+1,acc=>by
  have e:acc.toArray++its.toArray=(acc++its).toArray:=by simp
  have e2:(acc++its)++(List.replicate k its).flatten=acc++(List.replicate (k+1) its).flatten:=by
   rw [List.replicate_succ,List.flatten_cons,List.append_assoc]
  rw [<- e2,<- iT its k (acc++its),<- e,List.replicate_succ,List.foldl_cons]
section
variable {X:Cx} {pins:List (Addr × Obj)} {σ:St} {H:Hp} {s:Shared} {l b:Addr} {xs ys zs:List V}
theorem Inv.lset {its its':List Value} {n:Nat} {f:Array Value->Array Value} {t':Nat} (I:Inv X pins σ H s) (hH:H l=some (.lst xs))
  (e:s.heap.get? l=some { cls:=.type "list",data:=.seq its.toArray n }) (hf:f its.toArray=its'.toArray) (hv:Vals ys its') (hz:ys.length<=sizeLine) :
  Inv X pins σ (upd H l (.lst ys)) { s with heap:=s.heap.update l (Obj.mapSeq f),toks:=t' }:=by
 have q:=PySem.IsL.update e f
 rw [hf] at q
 refine I.write (x:=l) (e:=l) (by rw [hH]; exact trivial) (.inl rfl) (fun b' u hb hu=>(Heap.get?_update_other s.heap (Obj.mapSeq f) (Ne.symm hb)).trans hu) ⟨_,q⟩ ?_
 exact ⟨hz,its',_,hv,q⟩
theorem Inv.lnew {its:List Value} {t':Nat} (I:Inv X pins σ H s) (hv:Vals ys its) (hz:ys.length<=sizeLine) :
  Inv X pins σ (upd H s.heap.objs.size (.lst ys)) { s with heap:=s.heap.push { cls:=.type "list",data:=.seq its.toArray },toks:=t' }:=
 I.laid (fun _ _ q=>Heap.get?_push_of_some _ q) (Nat.le_refl _) ⟨hz,its,0,hv,Heap.get?_push_size _ rfl⟩
theorem Inv.fresh (I:Inv X pins σ H s):H s.heap.objs.size=none:=I.hok.fresh (Nat.le_refl _)
theorem Inv.lstM (I:Inv X pins σ H s) (hH:H l=some (.lst xs)):xs.length<=sizeLine/\∃ (its:List Value) (n:Nat),Vals xs its/\xs.length=its.length/\s.heap.get? l=some { cls:=.type "list",data:=.seq its.toArray n }:=by
 obtain ⟨z,its,n,r,e⟩:=I.hok l _ hH
 exact ⟨z,its,n,r,r.length,e⟩
theorem zd {n:Nat} (h:n<=sizeLine):Builtin.List.listTooLong n=false:=by
 unfold Builtin.List.listTooLong
 exact decide_eq_false (by omega)
end
section
variable {X:Cx}
def Bm:V->List V->Hp->VK->Prop:=fun x vs H Q=>∃ l xs y,x=.ref l/\vs=[y]/\H l=some (.lst xs)/\xs.length < sizeLine/\Q .non (upd H l (.lst (xs++[y])))
theorem ij:MtM X "list.append" Bm:=by
 intro pins s σ H x vs v us Q I rx rv h
 obtain ⟨l,xs,y,rfl,rfl,hH,hz,q⟩:=h
 cases rx
 obtain ⟨u,rfl,ru⟩:=rv.one
 obtain ⟨z,its,n,r,hl,e⟩:=I.lstM hH
 refine call_meets F.slot_list_append ⟨_,e,rfl⟩ F.entry_list_append (F.args_list_append_2 _ _) (PySem.list_append l its.toArray n u (by rw [List.size_toArray]; omega)) ⟨e,?_⟩
 refine ⟨.non,_,I.lset (its':=its++[u]) hH e (by simp) (r.append (.cons ru .nil)) ?_,rfl,q⟩
 rw [List.length_append,List.length_singleton]
 omega
def Ih:V->List V->Hp->VK->Prop:=fun x vs H Q=>∃ l xs y,x=.ref l/\vs=[]/\H l=some (.lst xs)/\xs[xs.length - 1]?=some y/\Q y (upd H l (.lst xs.dropLast))
theorem EX:MtM X "list.pop" Ih:=by
 intro pins s σ H x vs v us Q I rx rv h
 obtain ⟨l,xs,y,rfl,rfl,hH,hy,q⟩:=h
 cases rx
 have hus:=rv.zero
 subst hus
 obtain ⟨z,its,n,r,hl,e⟩:=I.lstM hH
 obtain ⟨u,hu,ru⟩:=r.get hy
 have hy':its.toArray[its.toArray.size - 1]?=some u:=by
  show its.toArray[its.length - 1]?=some u
  rw [<- Array.getElem?_toList,<- hl]
  exact hu
 refine call_meets F.slot_list_pop ⟨_,e,rfl⟩ F.entry_list_pop (F.args_list_pop_1 _) (MeetsSeq.list_pop_last l its.toArray n u hy' (by rw [List.size_toArray]; omega)) ⟨e,?_⟩
 refine ⟨y,_,I.lset (its':=its.dropLast) hH e ?_ r.dropLast ?_,ru,q⟩
 ·show its.toArray.eraseIdxIfInBounds (its.toArray.size - 1)=its.dropLast.toArray
  rw [List.size_toArray,List.eraseIdxIfInBounds_toArray,uk]
 ·rw [List.length_dropLast]
  omega
def Hi:R2:=fun x y H Q=>∃ l b xs zs,x=.ref l/\y=.ref b/\H l=some (.lst xs)/\H b=some (.lst zs)/\xs.length+zs.length<=sizeLine/\∀ p,H p=none->Q (.ref p) (upd H p (.lst (xs++zs)))
theorem op_cat:OpR X (binaryOp .Add) Hi:=by
 intro pins s σ H x y v u Q I rx ry h
 obtain ⟨l,b,xs,zs,rfl,rfl,hH,hB,hz,q⟩:=h
 cases rx
 cases ry
 obtain ⟨z,its,n,r,hl,e⟩:=I.lstM hH
 obtain ⟨z2,its2,n2,r2,hl2,e2⟩:=I.lstM hB
 refine PySem.P.add_list e e2 ?_ (by rw [List.size_toArray,List.size_toArray]; omega)
 have ea:its.toArray++its2.toArray=(its++its2).toArray:=by simp
 rw [ea]
 exact ⟨.ref _,_,I.lnew (t':=s.toks) (r.append r2) (by rw [List.length_append]; omega),rfl,q _ I.fresh⟩
def Hr:R2:=fun x y H Q=>∃ l k xs,x=.ref l/\y=.int k/\H l=some (.lst xs)/\-(2 ^ 63)<=k/\k < 2 ^ 63/\xs.length * k.toNat<=sizeLine/\
 ∀ p,H p=none->Q (.ref p) (upd H p (.lst (List.replicate k.toNat xs).flatten))
theorem nR {α:Type} (xs:List α) (k:Nat):(List.replicate k xs).flatten.length=k * xs.length:=by
 induction k with
 | zero=>simp
 | succ k ih=>rw [List.replicate_succ,List.flatten_cons,List.length_append,ih,Nat.succ_mul,Nat.add_comm]
theorem D6:OpR X (binaryOp .Mult) Hr:=by
 intro pins s σ H x y v u Q I rx ry h
 obtain ⟨l,k,xs,rfl,rfl,hH,h1,h2,hz,q⟩:=h
 cases rx
 obtain ⟨t,rfl⟩:=ry
 obtain ⟨z,its,n,r,hl,e⟩:=I.lstM hH
 have hlen:its.toArray.size * k.toNat<=sizeLine:=by rw [List.size_toArray,<- hl]; exact hz
 have hcap : ¬ its.toArray.size * k.toNat > (2 ^ 63 - 1) / 8:=by
  have:(sizeLine:Nat)<=(2 ^ 63 - 1) / 8:=by decide
  omega
 have hfit : ¬ (!Builtin.List.listFitsIndex k)=true:=by
  rw [fitsIndex_both h1 h2]
  exact Bool.false_ne_true
 have hlong : ¬ Builtin.List.listTooLong (its.toArray.size * k.toNat)=true:=by
  rw [zd hlen]
  exact Bool.false_ne_true
 have hnew:List.foldl (fun x1 x2=>x1++x2) #[] (List.replicate (if its.toArray.isEmpty=true then 0 else k.toNat) its.toArray)=(List.replicate k.toNat its).flatten.toArray:=by
  have f0:∀ m:Nat,List.foldl (fun x1 x2=>x1++x2) #[] (List.replicate m its.toArray)=(List.replicate m its).flatten.toArray:=fun m=>by
   have:=iT its m []
   rw [List.nil_append] at this
   exact this
  rw [f0]
  cases its with
  | nil=>simp
  | cons a r'=>rw [if_neg (by simp)]
 refine wpAny_binaryOp_repeat_ref (T:="list") (U:="int") (by decide) ⟨_,e,rfl⟩ (fun s'=>typeIs_int s' k t) noFill_list_mul F.fills_int_mul F.slot_int_rmul repeat_list F.slot_int_index.lookup
  (call_meets F.slot_int_rmul (typeIs_int s k t) F.entry_int_rmul (F.args_int_rmul_2 _ _) (int___rmul___int_list k t l its.toArray n)
   ⟨e,rfl,⟨_,e,rfl⟩,call_meets F.slot_list_mul ⟨_,e,rfl⟩ F.entry_list_mul (F.args_list_mul_2 _ _) (AutoListH.list___mul___list_int_3 l its.toArray n k t hfit hcap hlong) ⟨e,?_⟩⟩)
 rw [hnew]
 exact ⟨.ref _,_,I.lnew (t':=s.toks) (r.rep k.toNat) (by rw [nR,Nat.mul_comm]; exact hz),rfl,q _ I.fresh⟩
end
section
variable {prog:Program} {w:World} {A:Around} {E:Value->Shared->Prop} {s:Shared}
end
section
variable {X:Cx}
end
end L2
namespace Att
open PySem PySem.W PySem.Calls PyProof.Rows
theorem lQ {P:Params} {h:Heap}:∀ (ns:List Int) (vs:List Value),WellAll P h vs (ns.map WData.int)->IntsAre vs ns:=by
 intro ns
 induction ns with
 | nil=>
  intro vs w
  rw [List.map_nil] at w
  cases w
  exact .nil
 | cons n ns ih=>
  intro vs w
  rw [List.map_cons] at w
  cases w with
  | cons a b=>
   cases a
   exact .cons _ _ (ih _ b)
theorem wv {l:OpenLaw} {n:Nat} (hn:l.most=some n) {P:Params} {h:Heap} {args:List WData} {vals:List Value}
  (hpre:l.row.toRowW.claim.pre args=true) (hwl:WellAll P h vals args) :
  ∃ a vs ns,vals=[Value.ref a]/\args=[WData.list (ns.map WData.int)]/\h.get? a=some { cls:=.type "list",data:=.seq vs.toArray }/\IntsAre vs ns/\ns.length<=n:=by
 have hsh:WShape.hasAll [] args [.list .int]=true:=(pre_splitW hpre).1
 have hc:l.pre.holds [] { args:=args }=true:=(pre_splitW hpre).2
 obtain ⟨d,r,rfl,h1,h2⟩:=hasAllW_cons hsh
 obtain rfl:=hasAllW_nil h2
 obtain ⟨xs,rfl,h3⟩:=hasW_list h1
 obtain ⟨ns,rfl⟩:=items_int h3
 have hlen:ns.length<=n:=by
  unfold OpenLaw.pre at hc
  have h4:(WTm.not (.lt (.lit (.int (n:Int))) (.len (.arg 0)))).holds [] { args:=[.list (ns.map .int)] }=true:=by
   have h4:=(holds_andW hc).1
   rw [hn] at h4
   exact h4
  have h5:=condW_of h4 (w_not (w_lt w_lit (w_len_list (w_arg rfl))))
  rw [List.length_map] at h5
  refine Nat.le_of_not_lt fun q=>?_
  have q':(n:Int) < ((ns.length:Nat):Int):=by omega
  first
   | (rw [decide_eq_true q'] at h5; exact absurd h5 (by decide))
   | (simp at h5; omega)
 cases hwl with
 | cons w1 w2=>
  cases w2
  cases w1 with
  | list ho hall=>exact ⟨_,_,ns,rfl,rfl,ho,lQ ns _ hall,hlen⟩
theorem vI (l:OpenLaw) (args:List WData):l.row.toRowW.claim.post args (.bool true) args=true:=
 postW_of (r:=l.row.toRowW) (X:=(true==true))
  (show WShape.has [] (.bool true) .bool=true by first | rfl | decide | simp [WShape.has,WShape.arms,WShape.armsAll])
  (show (WTm.eq .res (.lit (.bool true))).value [] { args:=args,res:=some (.bool true),after:=args }=some (.bool (true==true)) from w_eq_bool (w_res rfl) w_lit) rfl
theorem attach_call {l:OpenLaw} {n:Nat} {q:Program} {loose:List Str} {XP:(Str->Option Value)->Heap->Prop} {YP:World->Heap->Prop} {d:DefRec}
  (hn:l.most=some n) (hdf:d.params.defaults=[])
  (call:∀ (w:World) (s₀ s₁:Shared) (mg mb:Str->Option Value) (fa:Addr) (o:Obj) (pm cd doc:Value) (a:Addr) (vs:List Value) (ns:List Int),
   Ground q loose [] XP w s₀ mg mb s₁.heap->YP w s₁.heap->
   s₁.heap.get? fa=some o->o.data=.func (docDef d.name d.params d.body d.scope pm cd doc)->s₁.heap.CodeRec cd d.name->mg d.name=some (.ref fa)->
   s₁.heap.get? a=some { cls:=.type "list",data:=.seq vs.toArray }->IntsAre vs ns->ns.length<=n->s₁.gens = #[]->
   codeAny (model l.prog w) callerA (.call (.ref fa) ⟨[.ref a],[]⟩) (fun r s'=>r=.ok (.ret (.bool true))/\OldK s₁.heap s'.heap/\s'.os=s₁.os/\AllBare s'.gens) s₁) :
  WalkO q loose XP YP l.row.toRowW d [] (fun f vs=>PySem.call f vs):=by
 intro w s₀ s₁ mg mb G Y fa o pm cd doc dV kV ho hd hcd hD hmg hg args vals as hpre hlay hrd hwl hlo
 obtain rfl:dV=.none:=Dflts.none hD hdf
 obtain rfl:kV=.none:=Dflts.noKw hD
 obtain ⟨a,vs,ns,rfl,rfl,hobj,hints,hlen⟩:=wv hn hpre hwl
 refine enter_call (codeAny_mono (call w s₀ s₁ mg mb fa o pm cd doc a vs ns G Y ho (fd_plain hd) hcd hmg hobj hints hlen hg) fun r s' hq=>?_)
 obtain ⟨rfl,h2,h3,h4⟩:=hq
 exact ⟨.inl ⟨.bool true,.bool true,[],rfl,fun _=>rfl,.bool true,vI l _,fun _=>⟨List.Pairwise.nil,fun _ hm=>(nomatch hm)⟩⟩,h2,h3,h4⟩
section
variable {prog:Program} {w:World} {A:Around} {E:Value->Shared->Prop} {s:Shared} {K:Frag}
def He (h:Heap) (L d:Addr):List (Addr × Obj):=(List.range h.objs.size).filterMap fun a=>if a=L\/a=d then none else (h.get? a).map fun o=>(a,o)
end
end Att
namespace L2
open PySem PySem.Spec PyProof.Rows
theorem oY:∀ {vs:List Value} {ns:List Int},IntsAre vs ns->Vals (ns.map V.int) vs
 | _,_,.nil=>.nil
 | _,_,.cons n t h=>.cons ⟨t,rfl⟩ (oY h)
def Gk (H:Hp):Prop:=∀ b,H b=none\/∃ o xs,H b=some (.frz o (.lst xs))
theorem yW {P:Program} {w:World} {K:PySem.W.Frag} {mg mb:Str->Option Value} {CX:CXT} {k:Nat} {fa a:Addr} {fd:FuncData} {x:Str} {sp:Sp} {s₁:Shared} {vs:List Value} {ns:List Int}
  (KX:K.In s₁.heap) (hns:s₁.heap.Ns mainGlobals mg) (hb:s₁.heap.Ns builtinsNs mb) (hbb:∀ x:Str,x ≠ "__name__"->mb x=bootBuiltins x) (hlim:s₁.heap.NoLimit) (hg:s₁.gens = #[])
  (ha:s₁.heap.get? a=some { cls:=.type "list",data:=.seq vs.toArray }) (hi:IntsAre vs ns) (hl:ns.length<=sizeLine) (hr:Room k callerA)
  (F:∀ base:Heap,K.In base->base.Ns mainGlobals mg->FnOk P w K mg base CX k fa fd [x] sp) (hbind:∀ (s:Shared) (u:Value),BindsTo s fd ⟨[u],[]⟩ [(x,u)])
  (hsp:∀ H:Hp,Gk H->SqL K H a (ns.map V.int)->sp [.ref a] H (fun v _=>v=.bl true) fun _ _ _=>False)
  (hCX:∀ H e s',CX [] H s₁ (fun _ _ _=>False) e s'->False) :
  codeAny (model P w) callerA (.call (.ref fa) ⟨[.ref a],[]⟩) (fun r s'=>r=.ok (.ret (.bool true))/\OldK s₁.heap s'.heap/\s'.os=s₁.os/\AllBare s'.gens) s₁:=by
 have rv:=oY hi
 have lenV:=hi.length
 have core:∀ H:Hp,Gk H->SqL K H a (ns.map V.int)->HOk P w H s₁.heap->(∀ b,H b ≠ none->b=a)->(H a ≠ none->K.lookup a=none)->
   codeAny (model P w) callerA (.call (.ref fa) ⟨[.ref a],[]⟩) (fun r s'=>r=.ok (.ret (.bool true))/\OldK s₁.heap s'.heap/\s'.os=s₁.os/\AllBare s'.gens) s₁:=by
  intro H hO hS hok hA hK
  have base_of:∀ {b:Addr} {o:Obj},s₁.heap.get? b=some o->H b=none->(zy s₁.heap H).get? b=some o:=fun e n=>yv e n
  have noA:∀ {b:Addr} {o:Obj} {es:Array DictEntry} {ep:Nat},s₁.heap.get? b=some o->o.data=.dict es ep->H b=none:=fun {b o es ep} e d=>by
   cases q:H b with
   | none=>rfl
   | some u=>
    have e':b=a:=hA b (by rw [q]; simp)
    subst e'
    rw [ha] at e; cases e
    have d':Data.seq vs.toArray _=Data.dict es ep:=d
    cases d'
  have nsK:∀ {b:Addr} {m:Str->Option Value},s₁.heap.Ns b m->(zy s₁.heap H).Ns b m:=fun {b m} ⟨o,es,ep,e,d,r⟩=>⟨o,es,ep,base_of e (noA e d),d,r⟩
  have hKb:K.In (zy s₁.heap H):=fun b o e=>base_of (KX b o e) (by
   cases q:H b with
   | none=>rfl
   | some u=>
    have e':b=a:=hA b (by rw [q]; simp)
    subst e'
    rw [hK (by rw [q]; simp)] at e; cases e)
  have hM:Mod K mg (zy s₁.heap H):=⟨hKb,nsK hns,⟨mb,nsK hb,hbb⟩,let ⟨mc,h1,h2⟩:=hlim; ⟨mc,nsK h1,h2⟩⟩
  have e0:Env0 P w K mg (zy s₁.heap H) callerA [] s₁ H:=⟨rfl,hM,fun b o e=>C9 e,Nat.le_of_eq (vH _ _),trivial,fun b hb=>absurd (show b ∈ ([]:List Addr) from hb) (by simp),hok,.of_eq hg⟩
  refine codeAny_mono ((F _ hKb (nsK hns)).run callerA [] s₁ H ⟨[.ref a],[]⟩ [.ref a] [.ref a] _ _ hr e0 (hbind s₁ (.ref a)) (.cons rfl .nil) (hsp H hO hS)) fun r s' h=>?_
  cases r with
  | error e=>exact (hCX H e s' h).elim
  | ok fl=>
   cases fl with
   | next=>exact False.elim h
   | brk=>exact False.elim h
   | cont=>exact False.elim h
   | ret u=>
    obtain ⟨v,H',os,bare,un,hok',r',q⟩:=h
    have q':v=.bl true:=q
    subst q'
    obtain rfl:u=Value.bool true:=r'
    refine ⟨rfl,OldK.of_keep fun b o e=>?_,os,bare⟩
    cases q:H b with
    | none=>exact un.keep b o e q (by intro z; exact absurd (show b ∈ ([]:List Addr) from z) (by simp)) (by simp)
    | some u=>
     rcases hO b with z | ⟨ob,xs,z⟩
     ·rw [q] at z; cases z
     ·have z2:=un.frzs b ob _ z
      obtain ⟨e1,_⟩:=hok b _ z
      obtain ⟨e2,_⟩:=hok' b _ z2
      rw [e] at e1; cases e1
      exact e2
 cases hk:K.lookup a with
 | some o=>
  have e:=KX a o hk
  rw [ha] at e
  cases e
  refine core (fun _=>none) (fun _=>.inl rfl) (.inr ⟨_,vs.toArray,_,hk,rfl,rfl,rfl,by rw [List.size_toArray,lenV]; exact hl,by simpa using rv⟩) (fun b u z=>by have z':(none:Option HO)=some u:=z; cases z') (fun b z=>absurd rfl z) fun z=>absurd rfl z
 | none=>
  refine core (fun b=>if b=a then some (.frz { cls:=.type "list",data:=.seq vs.toArray } (.lst (ns.map V.int))) else none) (fun b=>?_) (.inl (.inr ⟨{ cls:=.type "list",data:=.seq vs.toArray },if_pos rfl⟩)) (fun b u z=>?_) (fun b z=>?_) fun _=>hk
  ·by_cases hb:b=a
   ·exact .inr ⟨_,_,if_pos hb⟩
   ·exact .inl (if_neg hb)
  ·by_cases hb:b=a
   ·have z':=(if_pos hb).symm.trans z
    cases z'
    subst hb
    exact ⟨ha,by rw [List.length_map]; exact hl,vs,_,rv,ha⟩
   ·have z':=(if_neg hb).symm.trans z
    cases z'
  ·by_cases hb:b=a
   ·exact hb
   ·exact absurd (if_neg hb) z
end L2
namespace L2
open PySem PySem.Spec PyProof.Rows
abbrev KOf {K:PySem.W.Frag} {h:Heap} (_:K.In h):PySem.W.Frag:=K
theorem vN {l:PySem.W.OpenLaw} {n k:Nat} {q:Program} {loose:List Str} {XP:(Str->Option Value)->Heap->Prop} {YP:World->Heap->Prop} {d:DefRec} {K:Params->PySem.W.Frag} {CX:World->CXT} {sp:World->Sp} {x:Str}
  (hn:l.most=some n) (hn2:n<=sizeLine) (hdf:d.params.defaults=[]) (hr:Room k callerA)
  (hY:∀ (w:World) (h:Heap),YP w h->(K w.params).In h)
  (F:∀ (w:World) (mg:Str->Option Value) (fa:Addr) (h:Heap),(K w.params).In h->h.Ns mainGlobals mg->mg d.name=some (.ref fa)->
   ∃ fd:FuncData,(∀ (s:Shared) (u:Value),BindsTo s fd ⟨[u],[]⟩ [(x,u)])/\
    ∀ base:Heap,(K w.params).In base->base.Ns mainGlobals mg->FnOk l.prog w (K w.params) mg base (CX w) k fa fd [x] (sp w))
  (hsp:∀ (w:World) (H:Hp) (a:Addr) (ns:List Int),ns.length<=n->Gk H->SqL (K w.params) H a (ns.map V.int)->sp w [.ref a] H (fun v _=>v=.bl true) fun _ _ _=>False)
  (hCX:∀ (w:World) (H:Hp) (s:Shared) (e:Value) (s':Shared),CX w [] H s (fun _ _ _=>False) e s'->False) :
  PySem.W.WalkO q loose XP YP l.row.toRowW d [] (fun f vs=>PySem.call f vs):=by
 refine Att.attach_call hn hdf fun w s₀ s₁ mg mb fa o pm cd doc a vs ns G Y ho hd hcd hmg hobj hints hlen hg=>?_
 have KX:=hY w _ Y
 obtain ⟨fd,hb,hF⟩:=F w mg fa _ KX G.T.g hmg
 exact yW KX G.T.g G.T.b G.T.builtins G.T.nolimit hg hobj hints (Nat.le_trans hlen hn2) hr hF hb (fun H hO hS=>hsp w H a ns hlen hO hS) fun H e s'=>hCX w H s₁ e s'
end L2
/- THE LAST THEOREM (shape; LID,My.* are yours):
  My.Adr: a structure of the addresses that your layer names (classes,functions); My.Txt K t: a structure (Prop) of the equations over K;
  My.txt_mk:{K} {implicit addresses ..} (e1:nsIn K mainGlobals "law"=some (some (.ref f))) (e2:K.lookup f=some ⟨oc,od,.func (fnOf "law" "law" params body scope dV kV doc pm an cdv ct),sl⟩) (e3:codeIn K cdv "law"=true) .. : ∃ t,My.Txt K t
set_option maxRecDepth 100000 in
set_option maxHeartbeats 0 in
theorem PySem.Challenge.cw_LID_holds : PySem.Challenge.rw_LID.Holds := by
 w_on; o_law; k_head; (case hw=>w_witness2)
 k_fill
 refine L2.vN (l:=PySem.Challenge.rw_LID) (n:=63) (k:=40) (x:="script") (CX:=fun w=>..) (sp:=fun _=>My.sp_law) rfl (by decide) rfl ⟨rfl,by decide,by decide⟩ (fun w h Y=>PySem.W.kIn_of Y) ?F ?S ?C
 case F=>
  intro w mg fa h KX G hmg
  have T:∃ t,My.Txt (L2.KOf KX) t:=by
   dsimp only [L2.KOf]
   refine' My.txt_mk ?e1 ?e2 ?e3 ..
   (case e1=>PySem.W.k_is)
   (case e2=>PySem.W.k_is)
   ..
  obtain ⟨t,T⟩:=T
  have e0:=hmg.symm.trans (PySem.W.mg_of KX G T.law)
  cases e0
  exact ⟨_,fun s u=>.of_eq rfl,fun base kb nb=>My.law_fn T kb nb⟩
 case S=>exact fun w H a ns hl hO hS=>..
 case C=>exact ..
(the tactic k_is has no namespace: write k_is) -/
namespace L2
open PySem PySem.Spec PyProof.Rows
def bn (s:Stmt) (j:Nat):Stmt:=match s with
 | .ClassDef _ _ _ body _ _ _ _ _ _ _=>body.getD j (.Pass ⟨0,0,0,0⟩)
 | _=>.Pass ⟨0,0,0,0⟩
def ef (s:Stmt):Arguments:=match s with
 | .FunctionDef _ a _ _ _ _ _ _ _ _=>a
 | _=>{ posonlyargs:=[],args:=[],vararg:=none,kwonlyargs:=[],kw_defaults:=[],kwarg:=none,defaults:=[] }
def cr (s:Stmt):List Stmt:=match s with
 | .FunctionDef _ _ b _ _ _ _ _ _ _=>b
 | _=>[]
def ar (s:Stmt):Scope:=match s with
 | .FunctionDef _ _ _ _ _ _ sc _ _ _=>sc
 | _=>{ kind:=.function,names:=[],isGenerator:=false,isCoroutine:=false }
structure Fun (K:PySem.W.Frag) (x qual:Str) (st:Stmt) (f:Addr) (fd:FuncData):Prop where
 ex:∃ (oc:Value) (od:Option Addr) (kV doc pm:Value) (an:Option Addr) (cdv ct:Value) (osl:Array (Option Value)),
  fd=PySem.W.fnOf x qual (ef st) (cr st) (ar st) .none kV doc pm an cdv ct/\K.lookup f=some ⟨oc,od,.func fd,osl⟩/\PySem.W.codeIn K cdv qual=true
 kp:PySem.W.keepIn K (.ref f)=true
section
variable {P:Program} {w:World} {K:PySem.W.Frag} {mg:Str->Option Value} {base:Heap}
theorem Fun.binds {x qual:Str} {st:Stmt} {f:Addr} {fd:FuncData} {ps:List Str} (F:Fun K x qual st f fd)
  (h:∀ (kV doc pm:Value) (an:Option Addr) (cdv ct:Value) (us:List Value),us.length=ps.length->bindArgs (PySem.W.fnOf x qual (ef st) (cr st) (ar st) .none kV doc pm an cdv ct) ⟨us,[]⟩=pure (ps.zip us)):Binds K fd ps []:=by
 obtain ⟨oc,od,kV,doc,pm,an,cdv,ct,osl,rfl,lk,hcd⟩:=F.ex
 exact .all (h kV doc pm an cdv ct)
theorem vW {x qual:Str} {st:Stmt} {f:Addr} {oc:Value} {od an:Option Addr} {osl:Array (Option Value)} {kV doc pm cdv ct:Value} (l:K.lookup f=some ⟨oc,od,.func (PySem.W.fnOf x qual (ef st) (cr st) (ar st) .none kV doc pm an cdv ct),osl⟩)
  (c:PySem.W.codeIn K cdv qual=true) (k:PySem.W.keepIn K (.ref f)=true):Fun K x qual st f (PySem.W.fnOf x qual (ef st) (cr st) (ar st) .none kV doc pm an cdv ct):=⟨⟨oc,od,kV,doc,pm,an,cdv,ct,osl,rfl,l,c⟩,k⟩
end
section
variable {X:Cx}
end
def Same (H H':Hp):Prop:=∀ b o,H b=some o->H' b=some o
theorem Same.refl (H:Hp):Same H H:=fun _ _ h=>h
theorem Same.trans {H H1 H2:Hp} (a:Same H H1) (b:Same H1 H2):Same H H2:=fun c o h=>b c o (a c o h)
theorem Same.free {H H':Hp} (e:Same H H') {l:Addr} (h:H' l=Option.none):H l=Option.none:=by
 cases q:H l with
 | none=>rfl
 | some o=>
  rw [e l o q] at h
  cases h
theorem Same.seq {K:PySem.W.Frag} {H H':Hp} {a:Addr} {xs:List V} (e:Same H H') (h:SqL K H a xs):SqL K H' a xs:=by
 rcases h with (h | ⟨o,h⟩) | h
 ·exact .inl (.inl (e _ _ h))
 ·exact .inl (.inr ⟨o,e _ _ h⟩)
 ·exact .inr h
end L2
set_option maxRecDepth 100000
set_option maxHeartbeats 4000000
namespace L2
open PySem PySem.Spec PyProof.Rows
inductive D where
 | non | bl (b:Bool) | int (i:Int) | str (x:List Nat) | tup (xs:List D) | lst (fz:Bool) (xs:List D) | exc (C:Addr)
def D9 (a C:Addr):Heap->Prop:=fun h=>∃ ob,h.get? a=some ob/\ob.cls=.ref C
mutual
inductive Rep (K:PySem.W.Frag) (G:Hp):V->D->Prop
 | non:Rep K G .non .non
 | bl (b:Bool):Rep K G (.bl b) (.bl b)
 | int (i:Int):Rep K G (.int i) (.int i)
 | str (x:Str) (h:x.length<=sizeLine):Rep K G (.str x) (.str x.cps.toList)
 | tup {a:Addr} {vs:List V} {ds:List D} (h:SqT K G a vs) (r:Reps K G vs ds):Rep K G (.ref a) (.tup ds)
 | lst {a:Addr} {vs:List V} {ds:List D} (h:G a=some (.lst vs)) (r:Reps K G vs ds):Rep K G (.ref a) (.lst false ds)
 | fls {a:Addr} {vs:List V} {ds:List D} (h:SqL K G a vs) (r:Reps K G vs ds):Rep K G (.ref a) (.lst true ds)
 | exc {a C:Addr} (h:G a=some (.ext (D9 a C))):Rep K G (.ref a) (.exc C)
inductive Reps (K:PySem.W.Frag) (G:Hp):List V->List D->Prop
 | nil:Reps K G [] []
 | cons {v:V} {d:D} {vs:List V} {ds:List D} (r:Rep K G v d) (t:Reps K G vs ds):Reps K G (v::vs) (d::ds)
end
section
variable {K:PySem.W.Frag} {G G' H H' G1 H1 G2 H2:Hp}
theorem SqT.mono {a:Addr} {xs:List V} (e:Same G G') (h:SqT K G a xs):SqT K G' a xs:=by
 rcases h with (h | ⟨o,h⟩) | h
 ·exact .inl (.inl (e _ _ h))
 ·exact .inl (.inr ⟨o,e _ _ h⟩)
 ·exact .inr h
theorem SqL.mono {a:Addr} {xs:List V} (e:Same G G') (h:SqL K G a xs):SqL K G' a xs:=e.seq h
mutual
theorem Rep.mono (e:Same G G'):∀ {v:V} {d:D},Rep K G v d->Rep K G' v d
 | _,_,.non=>.non
 | _,_,.bl b=>.bl b
 | _,_,.int i=>.int i
 | _,_,.str x h=>.str x h
 | _,_,.tup h r=>.tup (h.mono e) (Reps.mono e r)
 | _,_,.lst h r=>.lst (e _ _ h) (Reps.mono e r)
 | _,_,.fls h r=>.fls (h.mono e) (Reps.mono e r)
 | _,_,.exc h=>.exc (e _ _ h)
theorem Reps.mono (e:Same G G'):∀ {vs:List V} {ds:List D},Reps K G vs ds->Reps K G' vs ds
 | _,_,.nil=>.nil
 | _,_,.cons r t=>.cons (Rep.mono e r) (Reps.mono e t)
end
section inv
variable {v:V}
theorem Rep.int_inv {i:Int} (r:Rep K G v (.int i)):v=.int i:=by cases r; rfl
theorem Rep.bl_inv {b:Bool} (r:Rep K G v (.bl b)):v=.bl b:=by cases r; rfl
theorem Rep.non_inv (r:Rep K G v .non):v=.non:=by cases r; rfl
theorem Rep.str_inv {x:List Nat} (r:Rep K G v (.str x)):∃ y:Str,v=.str y/\y.cps.toList=x/\y.length<=sizeLine:=by
 generalize e:D.str x=d at r
 cases r with
 | str y h=>cases e; exact ⟨y,rfl,rfl,h⟩
 | _=>cases e
theorem Rep.tup_inv {ds:List D} (r:Rep K G v (.tup ds)):∃ a vs,v=.ref a/\SqT K G a vs/\Reps K G vs ds:=by
 cases r with
 | tup h t=>exact ⟨_,_,rfl,h,t⟩
theorem Rep.lst_inv {ds:List D} (r:Rep K G v (.lst false ds)):∃ a vs,v=.ref a/\G a=some (.lst vs)/\Reps K G vs ds:=by
 cases r with
 | lst h t=>exact ⟨_,_,rfl,h,t⟩
theorem Rep.seq_inv {f:Bool} {ds:List D} (r:Rep K G v (.lst f ds)):∃ a vs,v=.ref a/\SqL K G a vs/\Reps K G vs ds:=by
 cases r with
 | lst h t=>exact ⟨_,_,rfl,.of h,t⟩
 | fls h t=>exact ⟨_,_,rfl,h,t⟩
theorem Rep.strL {x:List Nat} {y:Str} (e:y.cps.toList=x) (h:x.length<=sizeLine):Rep K G (.str y) (.str x):=by
 subst e; exact .str y (by simpa [Str.length] using h)
end inv
theorem Reps.length:∀ {vs:List V} {ds:List D},Reps K G vs ds->vs.length=ds.length
 | _,_,.nil=>rfl
 | _,_,.cons _ t=>by simp [Reps.length t]
theorem Reps.get:∀ {vs:List V} {ds:List D} {i:Nat} {d:D},Reps K G vs ds->ds[i]?=some d->∃ v,vs[i]?=some v/\Rep K G v d
 | _,_,_,_,.nil,e=>by simp at e
 | _,_,0,_,.cons r _,e=>by simp at e; subst e; exact ⟨_,rfl,r⟩
 | _,_,i+1,d,.cons _ t,e=>by
  obtain ⟨v,h1,h2⟩:=Reps.get (i:=i) (d:=d) t (by simpa using e)
  exact ⟨v,by simpa using h1,h2⟩
theorem Reps.append:∀ {vs ws:List V} {ds es:List D},Reps K G vs ds->Reps K G ws es->Reps K G (vs++ws) (ds++es)
 | _,_,_,_,.nil,s=>s
 | _,_,_,_,.cons r t,s=>.cons r (Reps.append t s)
theorem Reps.take:∀ {vs:List V} {ds:List D} (n:Nat),Reps K G vs ds->Reps K G (vs.take n) (ds.take n)
 | _,_,0,_=>by simpa using Reps.nil
 | _,_,_+1,.nil=>.nil
 | _,_,n+1,.cons r t=>.cons r (Reps.take n t)
theorem Reps.drop:∀ {vs:List V} {ds:List D} (n:Nat),Reps K G vs ds->Reps K G (vs.drop n) (ds.drop n)
 | _,_,0,r=>r
 | _,_,_+1,.nil=>.nil
 | _,_,n+1,.cons _ t=>Reps.drop n t
theorem Reps.rep {vs:List V} {ds:List D} (r:Reps K G vs ds):∀ n:Nat,Reps K G (List.replicate n vs).flatten (List.replicate n ds).flatten
 | 0=>.nil
 | n+1=>by
  simp only [List.replicate_succ,List.flatten_cons]
  exact Reps.append r (Reps.rep r n)
structure Up (G H G' H':Hp):Prop where
 sub:Same G' H'
 gg:Same G G'
 hh:Same H H'
 fr:∀ a o,G' a=some o->G a=some o\/H a=none
theorem Up.refl (s:Same G H):Up G H G H:=⟨s,.refl _,.refl _,fun _ _ h=>.inl h⟩
theorem Up.trans (a:Up G H G1 H1) (b:Up G1 H1 G2 H2):Up G H G2 H2:=⟨b.sub,a.gg.trans b.gg,a.hh.trans b.hh,fun c o h=>by
 rcases b.fr c o h with h | h
 ·exact a.fr c o h
 ·exact .inr (a.hh.free h)⟩
theorem Same.both {p:Addr} {o:HO} (s:Same G H):Same (upd G p o) (upd H p o):=fun a u h=>by
 unfold L2.upd at h ⊢
 split
 ·rename_i e; rw [if_pos e] at h; exact h
 ·rename_i e; rw [if_neg e] at h; exact s a u h
theorem Same.into {p:Addr} {o:HO} (h:H p=none):Same H (upd H p o):=fun a u e=>by
 rw [aJ (aM e h)]; exact e
theorem Up.new {p:Addr} {o:HO} (s:Same G H) (hp:H p=none):Up G H (upd G p o) (upd H p o):=
 ⟨s.both,.into (s.free hp),.into hp,fun a u h=>by
  by_cases e:a=p
  ·subst e; exact .inr hp
  ·rw [aJ e] at h; exact .inl h⟩
end
inductive R (α:Type) where
 | ok (a:α) | ex (C:Addr) | no
def R.bind {α β:Type}:R α->(α->R β)->R β
 | .ok a,f=>f a
 | .ex C,_=>.ex C
 | .no,_=>.no
instance:Monad R where
 pure:=.ok
 bind:=R.bind
section
variable {α β:Type}
@[simp] theorem R.ok_bind (a:α) (f:α->R β):(R.ok a>>=f)=f a:=rfl
@[simp] theorem R.ex_bind (C:Addr) (f:α->R β):((R.ex C:R α)>>=f)=.ex C:=rfl
def R.post (m:R α) (P:α->Prop) (E:Addr->Prop):Prop:=match m with
 | .ok a=>P a
 | .ex C=>E C
 | .no=>False
theorem R.post.mono {m:R α} {P P':α->Prop} {E E':Addr->Prop} (h:m.post P E) (hp:∀ a,P a->P' a) (he:∀ C,E C->E' C):m.post P' E':=by
 cases m with
 | ok a=>exact hp a h
 | ex C=>exact he C h
 | no=>exact h
def ofO:Option α->R α
 | some a=>.ok a
 | none=>.no
@[simp] theorem cf (a:α):ofO (some a)=R.ok a:=rfl
theorem ofO.ok {o:Option α} {P:α->Prop} {E:Addr->Prop} (h:(ofO o).post P E):∃ a,o=some a/\P a:=by
 cases o with
 | none=>exact h.elim
 | some a=>exact ⟨a,rfl,h⟩
end
inductive Fd where
 | val (d:D) | own (ds:List D)
inductive Sl where
  | val (d : D)
  /-- a list that no other name, and no datum, holds -/
  | own (ds : List D)
  /-- an instance of the class at C, at p, that no other name, and no datum, holds; m: it may be changed -/
  | obj (m : Bool) (C p : Addr) (fs : List (Nat × Fd))
abbrev Ev:=List (Option Sl)
def rdV (ρ:Ev) (i:Nat):R D:=match ρ[i]? with
 | some (some (.val d))=>.ok d
 | _=>.no
def fnames:List Str:=["states","taken_back","width","screen","last_notes","tasks","numbers_given"]
def bP (k:Nat):Str:=fnames.getD k ""
abbrev hW:=Addr->Option (Nat × Nat)
def FdAt (K:PySem.W.Frag) (H₀ G H:Hp) (ow:hW) (i:Nat) (m:Bool) (k:Nat):Fd->V->Prop
 | .val d,v=>Rep K G v d
 | .own ds,v=>∃ l ws,v=.ref l/\H l=some (.lst ws)/\G l=none/\(m=true->H₀ l=none)/\Reps K G ws ds/\ow l=some (i,k+1)
inductive FdsAt (K:PySem.W.Frag) (H₀ G H:Hp) (ow:hW) (i:Nat) (m:Bool):List (Nat × Fd)->List (Str × V)->Prop
 | nil:FdsAt K H₀ G H ow i m [] []
 | cons {k:Nat} {fd:Fd} {v:V} {fs:List (Nat × Fd)} {vs:List (Str × V)} (h:k < fnames.length) (nk:fs.lookup k=none) (r:FdAt K H₀ G H ow i m k fd v) (t:FdsAt K H₀ G H ow i m fs vs):FdsAt K H₀ G H ow i m ((k,fd)::fs) ((bP k,v)::vs)
def ObjAt (K:PySem.W.Frag) (H₀ G H:Hp) (ow:hW) (i:Nat) (m:Bool) (C p:Addr) (fs:List (Nat × Fd)):Prop:=
 ∃ dx vs,H p=some (.ins C dx vs)/\H dx=some (.own p)/\G p=none/\G dx=none/\(m=true->H₀ p=none/\H₀ dx=none)/\ow p=some (i,0)/\ow dx=some (i,0)/\FdsAt K H₀ G H ow i m fs vs
section
variable {K:PySem.W.Frag} {H₀ H₀' G H G' H':Hp} {ow ow':hW} {i:Nat}
structure ObKeep (H₀ H₀' G H G' H':Hp) (ow ow':hW) (i:Nat):Prop where
 hh:∀ a t o,ow a=some (i,t)->H a=some o->H' a=some o
 gg:Same G G'
 gn:∀ a t o,ow a=some (i,t)->H a=some o->G a=none->G' a=none
 oo:∀ a t o,ow a=some (i,t)->H a=some o->ow' a=some (i,t)
 h0:∀ a o,H a=some o->G a=none->H₀ a=none->H₀' a=none
theorem FdAt.keep (k:ObKeep H₀ H₀' G H G' H' ow ow' i) {m:Bool} {n:Nat}:∀ {fd:Fd} {v:V},FdAt K H₀ G H ow i m n fd v->FdAt K H₀' G' H' ow' i m n fd v
 | .val d,v,r=>Rep.mono k.gg (show Rep K G v d from r)
 | .own ds,v,⟨l,ws,e,h1,h2,h3,h4,h5⟩=>⟨l,ws,e,k.hh l _ _ h5 h1,k.gn l _ _ h5 h1 h2,fun z=>k.h0 l _ h1 h2 (h3 z),h4.mono k.gg,k.oo l _ _ h5 h1⟩
theorem FdsAt.keep (k:ObKeep H₀ H₀' G H G' H' ow ow' i) {m:Bool}:∀ {fs:List (Nat × Fd)} {vs:List (Str × V)},FdsAt K H₀ G H ow i m fs vs->FdsAt K H₀' G' H' ow' i m fs vs
 | _,_,.nil=>.nil
 | _,_,.cons h nk r t=>.cons h nk (FdAt.keep k r) (FdsAt.keep k t)
theorem ObjAt.keep (k:ObKeep H₀ H₀' G H G' H' ow ow' i) {m:Bool} {C p:Addr} {fs:List (Nat × Fd)} (h:ObjAt K H₀ G H ow i m C p fs):ObjAt K H₀' G' H' ow' i m C p fs:=by
 obtain ⟨dx,vs,h1,h2,h3,h4,h5,h6,h7,h8⟩:=h
 exact ⟨dx,vs,k.hh p _ _ h6 h1,k.hh dx _ _ h7 h2,k.gn p _ _ h6 h1 h3,k.gn dx _ _ h7 h2 h4,fun z=>⟨k.h0 p _ h1 h3 (h5 z).1,k.h0 dx _ h2 h4 (h5 z).2⟩,k.oo p _ _ h6 h1,k.oo dx _ _ h7 h2,h8.keep k⟩
theorem ObKeep.up (u:Up G H G' H'):ObKeep H₀ H₀ G H G' H' ow ow i:=by
 have gn:∀ a o,H a=some o->G a=none->G' a=none:=fun a o e n=>by
  cases q:G' a with
  | none=>rfl
  | some o'=>
   rcases u.fr a o' q with z | z
   ·rw [n] at z; cases z
   ·rw [e] at z; cases z
 exact ⟨fun a t o _ e=>u.hh a o e,u.gg,fun a t o _ e n=>gn a o e n,fun a t o e _=>e,fun a o _ _ n=>n⟩
end
theorem ObjAt.rd {K:PySem.W.Frag} {H₀ G H:Hp} {ow:hW} {i:Nat} {m:Bool} {C p:Addr} {fs:List (Nat × Fd)} (h:ObjAt K H₀ G H ow i m C p fs):ObjAt K (fun _=>none) G H ow i m C p fs:=
 h.keep ⟨fun _ _ _ _ e=>e,.refl _,fun _ _ _ _ _ n=>n,fun _ _ _ e _=>e,fun _ _ _ _ _=>rfl⟩
structure StE (K:PySem.W.Frag) (G H:Hp) (σ:St) (ρ:Ev):Prop where
 sub:Same G H
 len:σ.length=ρ.length
 val:∀ (i:Nat) d,ρ[i]?=some (some (.val d))->∃ v,σ[i]?=some (some v)/\Rep K G v d
 obs:∀ (i:Nat) m C p fs,ρ[i]?=some (some (.obj m C p fs))->σ[i]?=some (some (.ref p))/\∃ ow,ObjAt K (fun _=>none) G H ow i m C p fs
theorem StE.up {K:PySem.W.Frag} {G H G' H':Hp} {σ:St} {ρ:Ev} (s:StE K G H σ ρ) (u:Up G H G' H'):StE K G' H' σ ρ:=
 ⟨u.sub,s.len,fun i d e=>let ⟨v,h1,h2⟩:=s.val i d e; ⟨v,h1,h2.mono u.gg⟩,fun i m C p fs e=>let ⟨h1,ow,h2⟩:=s.obs i m C p fs e; ⟨h1,ow,h2.keep (.up u)⟩⟩
def yB (P:Program) (w:World) (outer:List Env) (H:Hp) (s:Shared) (a C:Addr) (H':Hp) (s':Shared):Prop:=
 s'.os=s.os/\AllBare s'.gens/\Un (frs outer) [] H H' s.heap s'.heap/\HOk P w H' s'.heap/\H' a=none/\
 ∃ (B:Heap) (a0:Value),Heap.FlyingW B outer a (.ref C) a0 s'.heap/\∀ b o,b ∉ frs outer->((∃ o0,s.heap.get? b=some o0)\/∃ u,H' b=some u)->s'.heap.get? b=some o->B.get? b=some o
def CXo (P:Program) (w:World):CXT:=fun outer H s E e s'=>∃ a C H',e=.ref a/\yB P w outer H s a C H' s'/\E (.ref C) none H'
def FQ (X:Cx) (pins:List (Addr × Obj)) (b:Addr):Prop:=
 (b ∈ X.ex\/X.s₀.heap.objs.size<=b)/\b ≠ X.env.locals/\(∀ x c,X.env.cells.lookup x=some c->c ≠ b)/\∀ p ∈ X.pn++pins,p.1 ≠ b
def wH (X:Cx) (pins:List (Addr × Obj)) (L:Addr) (H:Hp) (s:Shared) (a C:Addr) (H':Hp) (s':Shared):Prop:=
 s'.os=s.os/\AllBare s'.gens/\(∃ ch,(∀ b ∈ ch,FQ X pins b)/\Un (frs X.stack) ch H H' s.heap s'.heap)/\HOk X.prog X.w H' s'.heap/\H' a=none/\s.heap.get? a=none/\
 ∃ (B:Heap) (a0:Value),Heap.HeldW B X.stack a (.ref C) a0 L s'.heap/\∀ b o,b ∉ frs X.stack->((∃ o0,s.heap.get? b=some o0)\/∃ u,H' b=some u)->s'.heap.get? b=some o->B.get? b=some o
def Hb (X:Cx) (σ:St) (G₁ H₁:Hp) (C:Addr) (e:Value) (s':Shared):Prop:=
 ∃ pins s₁ a,e=.ref a/\Inv X pins σ H₁ s₁/\
  ((∃ h' vs,Heap.MadeExcOf s₁.heap h' a (.ref C) vs/\s'={ s₁ with heap:=h' })\/(∃ G' H',yB X.prog X.w X.stack H₁ s₁ a C H' s'/\Up G₁ H₁ G' H')\/∃ G' H' L,X.env.frame=some L/\wH X pins L H₁ s₁ a C H' s'/\Up G₁ H₁ G' H')
def Fly (X:Cx) (σ:St) (G H:Hp) (C:Addr) (e:Value) (s':Shared):Prop:=∃ G₁ H₁,Up G H G₁ H₁/\Hb X σ G₁ H₁ C e s'
theorem Fly.up {X:Cx} {σ:St} {G H G1 H1:Hp} {C:Addr} {e:Value} {s':Shared} (u:Up G H G1 H1) (f:Fly X σ G1 H1 C e s'):Fly X σ G H C e s':=
 let ⟨G2,H2,v,q⟩:=f; ⟨G2,H2,u.trans v,q⟩
section
variable {α β:Type}
def Fin (G H:Hp) (rep:Hp->β->α->Prop) (Q:β->Hp->Prop):α->Prop:=fun d=>∀ v G' H',Up G H G' H'->rep G' v d->Q v H'
def Exx (X:Cx) (σ:St) (G H:Hp):Addr->Prop:=fun C=>∀ e s',Fly X σ G H C e s'->X.xe e s'
theorem Fin.up {G H G1 H1:Hp} {rep:Hp->β->α->Prop} {Q:β->Hp->Prop} {d:α} (u:Up G H G1 H1) (h:Fin G H rep Q d):Fin G1 H1 rep Q d:=fun v G' H' u' r=>h v G' H' (u.trans u') r
theorem Exx.up {X:Cx} {σ:St} {G H G1 H1:Hp} {C:Addr} (u:Up G H G1 H1) (h:Exx X σ G H C):Exx X σ G1 H1 C:=fun e s' f=>h e s' (f.up u)
theorem nD {X:Cx} {σ:St} {G H G1 H1:Hp} {rep:Hp->β->α->Prop} {Q:β->Hp->Prop} {m:R α} (u:Up G H G1 H1) (h:m.post (Fin G H rep Q) (Exx X σ G H)):m.post (Fin G1 H1 rep Q) (Exx X σ G1 H1):=
 h.mono (fun _=>Fin.up u) fun _=>Exx.up u
def tG (X:Cx) (rep:Hp->β->α->Prop) (g:Ev->R α):St->Hp->(β->Hp->Prop)->Prop:=fun σ H Q=>∃ G ρ,StE X.K G H σ ρ/\(g ρ).post (Fin G H rep Q) (Exx X σ G H)
theorem tG.intro {γ δ:Type} {X:Cx} {σ:St} {G H:Hp} {ρ:Ev} {rep:Hp->β->α->Prop} {rep':Hp->δ->γ->Prop} {g:Ev->R α} {k:α->R γ} {Q:β->Hp->Prop} {Q':δ->Hp->Prop} (st:StE X.K G H σ ρ)
  (h:(g ρ>>=k).post (Fin G H rep' Q') (Exx X σ G H)) (hk:∀ a,∀ v G1 H1,Up G H G1 H1->StE X.K G1 H1 σ ρ->rep G1 v a->(k a).post (Fin G1 H1 rep' Q') (Exx X σ G1 H1)->Q v H1):tG X rep g σ H Q:=by
 refine ⟨G,ρ,st,?_⟩
 cases e:g ρ with
 | ok a=>rw [e] at h; exact fun v G' H' u r=>hk a v G' H' u (st.up u) r (nD u h)
 | ex C=>rw [e] at h; exact h
 | no=>rw [e] at h; exact h
theorem tG.last {X:Cx} {σ:St} {G H:Hp} {ρ:Ev} {rep:Hp->β->α->Prop} {g:Ev->R α} {Q:β->Hp->Prop} (st:StE X.K G H σ ρ) (h:(g ρ).post (Fin G H rep Q) (Exx X σ G H)):tG X rep g σ H Q:=⟨G,ρ,st,h⟩
end
abbrev tF (X:Cx) (g:Ev->R D):TE:=tG X (Rep X.K) g
abbrev tTF (X:Cx) (g:Ev->R Bool):TT:=tG X (fun _ b c=>b=c) g
abbrev tAF (X:Cx) (g:Ev->R (List D)):TA:=tG X (Reps X.K) g
def QF (X:Cx) (e:Expr) (g:Ev->R D):Prop:=PE X e (tF X g)
def QB (X:Cx) (e:Expr) (g:Ev->R Bool):Prop:=PT X e (tTF X g)
def QBW (X:Cx) (e:Expr) (g:Ev->R Bool):Prop:=PW X e (tTF X g)
def QFA (X:Cx) (es:List Expr) (g:Ev->R (List D)):Prop:=PA X es (tAF X g)
end L2
namespace L2
open PySem PySem.Spec PyProof.Rows
theorem rdV.ok {ρ:Ev} {i:Nat} {P:D->Prop} {E:Addr->Prop} (h:(rdV ρ i).post P E):∃ d,ρ[i]?=some (some (.val d))/\P d:=by
 unfold rdV at h
 split at h
 ·rename_i d e; exact ⟨d,e,h⟩
 ·exact h.elim
section
variable {X:Cx} {e a b c:Expr} {ga gb gc:Ev->R D} {pos:Pos}
theorem nF (i:Nat) {x:Str} (hN:X.N[i]?=some x:=by rfl) (hv:Vis X.env.scope x:=by first | exact Or.inl rfl | exact Or.inr (Or.inl rfl) | exact Or.inr (Or.inr rfl)) (hd:(x==("__debug__":Str))=false:=by decide)
  (hcd:(x==("__classdict__":Str))=false:=by decide):QF X (.Name x pos) (fun ρ=>rdV ρ i):=by
 intro pins s σ H Q I h
 obtain ⟨G,ρ,st,h⟩:=h
 refine gJ hN hv hd hcd pins s σ H Q I ?_
 obtain ⟨d,e,q⟩:=rdV.ok h
 obtain ⟨v,e',r⟩:=st.val i d e
 exact ⟨v,e',q v G H (.refl st.sub) r⟩
theorem dh {v:V} {d:D} (h:PE X e (tC v)) (hr:∀ K G,Rep K G v d):QF X e (fun _=>.ok d):=by
 intro pins s σ H Q I q
 obtain ⟨G,ρ,st,q⟩:=q
 exact h pins s σ H Q I (q v G H (.refl st.sub) (hr _ _))
theorem yx {i:Int} {j:Nat}:QF X (.Constant (.int i) j pos) (fun _=>.ok (.int i)):=dh EL fun _ _=>.int i
theorem BW {k:Bool} {j:Nat}:QF X (.Constant (.bool k) j pos) (fun _=>.ok (.bl k)):=dh GF fun _ _=>.bl k
theorem yC {j:Nat}:QF X (.Constant .none j pos) (fun _=>.ok .non):=dh ES fun _ _=>.non
theorem zJ {x:Str} {j:Nat} {l:List Nat} (hl:x.cps.toList=l:=by rfl) (hz:l.length<=1000:=by decide):QF X (.Constant (.str x) j pos) (fun _=>.ok (.str l)):=
 dh D4 fun _ _=>.strL hl (Nat.le_trans hz (by decide))
theorem vb {x:Str} {i:Int} {t:Tok} (hg:Gl X x) (hm:X.mg x=some (.int i t)) (hd:(x==("__debug__":Str))=false:=by decide):QF X (.Name x pos) (fun _=>.ok (.int i)):=
 dh (vt (v:=.int i) hg hm ⟨t,rfl⟩ hd) fun _ _=>.int i
def ROk (K:PySem.W.Frag) (r:R2) (f:D->D->Option D):Prop:=∀ (G H:Hp) (x y:V) (dx dy d:D) (Q:VK),Same G H->Rep K G x dx->Rep K G y dy->f dx dy=some d->Fin G H (Rep K) Q d->r x y H Q
def g2 (f:D->D->Option D) (ga gb:Ev->R D):Ev->R D:=fun ρ=>ga ρ>>=fun x=>gb ρ>>=fun y=>ofO (f x y)
theorem yV {r:R2} {f:D->D->Option D} (hf:ROk X.K r f) {σ:St} {H:Hp} {Q:VK} (h:tF X (g2 f ga gb) σ H Q):tOp r (tF X ga) (tF X gb) σ H Q:=by
 obtain ⟨G,ρ,st,h⟩:=h
 refine tG.intro st h fun x v G1 H1 u1 st1 r1 h1=>?_
 refine tG.intro st1 h1 fun y w G2 H2 u2 st2 r2 h2=>?_
 obtain ⟨d,e,q⟩:=ofO.ok h2
 exact hf G2 H2 v w x y d Q st2.sub (r1.mono u2.gg) r2 e q
theorem iC {op:Operator} {r:R2} {f:D->D->Option D} (ho:OpR X (binaryOp op) r) (hf:ROk X.K r f) (ha:QF X a ga) (hb:QF X b gb):QF X (.BinOp a op b pos) (g2 f ga gb):=
 fun pins s σ H Q I h=>Gd ho ha hb pins s σ H Q I (yV hf h)
theorem iS {op:CmpOp} {r:R2} {f:D->D->Option D} (ho:OpR X (compareOp op) r) (hf:ROk X.K r f) (ha:QF X a ga) (hb:QF X b gb) (hm:behindInMarks op b=false):QF X (.Compare a [op] [b] pos) (g2 f ga gb):=
 fun pins s σ H Q I h=>CK ho ha hb hm pins s σ H Q I (yV hf h)
def g3 (f f':D->D->Option D) (ga gb gc:Ev->R D):Ev->R D:=fun ρ=>ga ρ>>=fun x=>gb ρ>>=fun y=>ofO (f x y)>>=fun z=>match z with
 | .bl true=>gc ρ>>=fun w=>ofO (f' y w)
 | .bl false=>.ok (.bl false)
 | _=>.no
theorem uW {op op':CmpOp} {r r':R2} {f f':D->D->Option D} (ho:OpR X (compareOp op) r) (ho':OpR X (compareOp op') r') (hf:ROk X.K r f) (hf':ROk X.K r' f') (ha:QF X a ga) (hb:QF X b gb) (hc:QF X c gc)
  (hm:lastMarks [op,op'] [b,c]=false:=by with_unfolding_all rfl):QF X (.Compare a [op,op'] [b,c] pos) (g3 f f' ga gb gc):=by
 intro pins s σ H Q I h
 refine yT ho ho' ha hb hc hm pins s σ H Q I ?_
 obtain ⟨G,ρ,st,h⟩:=h
 refine tG.intro st h fun x v G1 H1 u1 st1 r1 h1=>?_
 refine tG.intro st1 h1 fun y w G2 H2 u2 st2 r2 h2=>?_
 cases e:f x y with
 | none=>rw [e] at h2; exact h2.elim
 | some d=>
  rw [e] at h2
  refine hf G2 H2 v w x y d _ st2.sub (r1.mono u2.gg) r2 e fun z G3 H3 u3 r3=>?_
  have h3:=nD u3 h2
  have st3:=st2.up u3
  cases r3 with
  | bl k=>
   refine ⟨k,rfl,?_⟩
   cases k with
   | false=>rw [if_neg Bool.false_ne_true]; exact h3 _ G3 H3 (.refl st3.sub) (.bl false)
   | true=>
    rw [if_pos rfl]
    refine tG.intro st3 (show (gc ρ>>=fun w=>ofO (f' y w)).post _ _ from h3) fun q vq G4 H4 u4 st4 r4 h4=>?_
    obtain ⟨d,e',q'⟩:=ofO.ok h4
    exact hf' G4 H4 w vq y q d Q st4.sub ((r2.mono u3.gg).mono u4.gg) r4 e' q'
  | _=>exact h3.elim
end
section
variable {X:Cx}
def bE:D->D->Option D
 | .int i,.int j=>some (.int (i+j))
 | .str x,.str y=>if x.length+y.length<=sizeLine then some (.str (x++y)) else none
 | .lst false xs,.lst false ys=>if xs.length+ys.length<=sizeLine then some (.lst false (xs++ys)) else none
 | .tup xs,.tup ys=>if xs.length+ys.length<=sizeLine then some (.tup (xs++ys)) else none
 | _,_=>none
def Af (K:PySem.W.Frag):R2:=fun x y H Q=>∃ a b xs ys,x=.ref a/\y=.ref b/\SqT K H a xs/\SqT K H b ys/\xs.length+ys.length<=sizeLine/\
 (xs=[]->Q (.ref b) H)/\(xs ≠ []->ys=[]->Q (.ref a) H)/\(xs ≠ []->ys ≠ []->∀ p,H p=none->Q (.ref p) (upd H p (.tup (xs++ys))))
theorem Aa:OpR X (binaryOp .Add) (Af X.K):=by
 intro pins s σ H x y v u Q I rx ry h
 obtain ⟨a,b,xs,ys,rfl,rfl,ha,hb,hz,q0,q1,q2⟩:=h
 by_cases hx:xs=[]
 ·cases rx
  cases ry
  obtain ⟨its,r1,p1,_⟩:=I.tuple ha
  obtain ⟨its2,r2,p2,_⟩:=I.tuple hb
  have hi:its=[]:=r1.nil_iff.mpr hx
  obtain ⟨⟨cls,dd,data,sl⟩,ho,hc,n,hd⟩:=id p1
  obtain ⟨⟨cls2,dd2,data2,sl2⟩,ho2,hc2,n2,hd2⟩:=id p2
  simp only at hc hd hc2 hd2
  subst hc hd hc2 hd2
  exact concat_meets ⟨_,ho,rfl⟩ ⟨_,ho2,rfl⟩ noFill_tuple_add seq_tuple_add PySem.F.slot_tuple_add PySem.F.entry_tuple_add (PySem.F.args_tuple_add_2 _ _)
   (tuple_addW0 a b its.toArray its2.toArray n n2 dd dd2 sl sl2 (by simp [hi])) ⟨ho,ho2,.ref b,H,I,rfl,q0 hx⟩
 ·exact BJ pins s σ H _ _ v u Q I rx ry ⟨a,b,xs,ys,rfl,rfl,ha,hb,hx,hz,q1 hx,q2 hx⟩
def EF (K:PySem.W.Frag):R2:=fun x y H Q=>(rI0 fun i j=>.int (i+j)) x y H Q\/(∃ i j,x=.str i/\y=.str j/\i.length+j.length<=sizeLine/\Q (.str (i++j)) H)\/Hi x y H Q\/Af K x y H Q
theorem AK:OpR X (binaryOp .Add) (EF X.K):=op_add.or (op_add_str.or (op_cat.or Aa))
theorem Str.app_list (x y:Str):(x++y).cps.toList=x.cps.toList++y.cps.toList:=by
 show (x.cps++y.cps).toList=_
 simp
theorem Str.len_list (x:Str):x.cps.toList.length=x.length:=by simp [Str.length]
theorem Dv (K:PySem.W.Frag):ROk K (EF K) bE:=by
 intro G H x y dx dy d Q s rx ry e q
 unfold bE at e
 split at e
 ·cases e
  exact .inl ⟨_,_,rx.int_inv,ry.int_inv,q _ G H (.refl s) (.int _)⟩
 ·split at e
  ·rename_i hz
   cases e
   obtain ⟨i,rfl,ei,hi⟩:=rx.str_inv
   obtain ⟨j,rfl,ej,hj⟩:=ry.str_inv
   subst ei ej
   rw [Str.len_list,Str.len_list] at hz
   exact .inr (.inl ⟨i,j,rfl,rfl,hz,q _ G H (.refl s) (.strL (Str.app_list i j) (by rw [List.length_append,Str.len_list,Str.len_list]; exact hz))⟩)
  ·cases e
 ·split at e
  ·rename_i hz
   cases e
   obtain ⟨a,vs,rfl,ha,ra⟩:=rx.lst_inv
   obtain ⟨b,ws,rfl,hb,rb⟩:=ry.lst_inv
   refine .inr (.inr (.inl ⟨a,b,vs,ws,rfl,rfl,s _ _ ha,s _ _ hb,by rw [ra.length,rb.length]; exact hz,fun p hp=>q _ _ _ (.new s hp) (.lst bc ?_)⟩))
   exact (ra.append rb).mono (.into (s.free hp))
  ·cases e
 ·split at e
  ·rename_i hz
   cases e
   obtain ⟨a,vs,rfl,ha,ra⟩:=rx.tup_inv
   obtain ⟨b,ws,rfl,hb,rb⟩:=ry.tup_inv
   refine .inr (.inr (.inr ⟨a,b,vs,ws,rfl,rfl,ha.mono s,hb.mono s,by rw [ra.length,rb.length]; exact hz,fun z=>?_,fun _ z=>?_,fun _ _ p hp=>?_⟩))
   ·subst z
    cases ra
    exact q _ G H (.refl s) (.tup hb rb)
   ·subst z
    cases rb
    rw [List.append_nil] at q
    exact q _ G H (.refl s) (.tup ha ra)
   ·exact q _ _ _ (.new s hp) (.tup (.of bc) ((ra.append rb).mono (.into (s.free hp))))
  ·cases e
 ·cases e
theorem Ab {a b:Expr} {ga gb:Ev->R D} {pos:Pos} (ha:QF X a ga) (hb:QF X b gb):QF X (.BinOp a .Add b pos) (g2 bE ga gb):=iC AK (Dv _) ha hb
def we:D->D->Option D
 | .int i,.int j=>some (.int (i - j))
 | _,_=>none
theorem zN {a b:Expr} {ga gb:Ev->R D} {pos:Pos} (ha:QF X a ga) (hb:QF X b gb):QF X (.BinOp a .Sub b pos) (g2 we ga gb):=iC E9 (by
 intro G H x y dx dy d Q s rx ry e q
 unfold we at e
 split at e
 ·cases e
  exact ⟨_,_,rx.int_inv,ry.int_inv,q _ G H (.refl s) (.int _)⟩
 ·cases e) ha hb
def wf:D->D->Option D
 | .int i,.int j=>if 0 < j/\j < 1073741824 then some (.int (i / j)) else none
 | _,_=>none
theorem vv {a b:Expr} {ga gb:Ev->R D} {pos:Pos} (ha:QF X a ga) (hb:QF X b gb):QF X (.BinOp a .FloorDiv b pos) (g2 wf ga gb):=iC CU (by
 intro G H x y dx dy d Q s rx ry e q
 unfold wf at e
 split at e
 ·split at e
  ·rename_i hc
   cases e
   exact ⟨_,_,rx.int_inv,ry.int_inv,hc,q _ G H (.refl s) (.int _)⟩
  ·cases e
 ·cases e) ha hb
def vg:D->D->Option D
 | .int i,.int j=>if 0 < j then some (.int (i % j)) else none
 | _,_=>none
theorem zk {a b:Expr} {ga gb:Ev->R D} {pos:Pos} (ha:QF X a ga) (hb:QF X b gb):QF X (.BinOp a .Mod b pos) (g2 vg ga gb):=iC Dw (by
 intro G H x y dx dy d Q s rx ry e q
 unfold vg at e
 split at e
 ·split at e
  ·rename_i hc
   cases e
   exact ⟨_,_,rx.int_inv,ry.int_inv,hc,q _ G H (.refl s) (.int _)⟩
  ·cases e
 ·cases e) ha hb
end
end L2
namespace L2
open PySem PySem.Spec PyProof.Rows
section
variable {X:Cx} {a b c e:Expr} {ga gb gc:Ev->R D} {pos:Pos}
def leD:D->D->Option D
 | .int i,.int j=>some (.bl (decide (i<=j)))
 | .str x,.str y=>some (.bl (!decide (y < x)))
 | _,_=>none
def ltD:D->D->Option D
 | .int i,.int j=>some (.bl (decide (i < j)))
 | .str x,.str y=>some (.bl (decide (x < y)))
 | _,_=>none
def gtD:D->D->Option D
 | .int i,.int j=>some (.bl (decide (j < i)))
 | _,_=>none
def geD:D->D->Option D
 | .int i,.int j=>some (.bl (decide (j<=i)))
 | _,_=>none
theorem vn:OpR X (compareOp .LtE) (fun x y H Q=>∃ i j:Str,x=.str i/\y=.str j/\Q (.bl (!decide (j.cps.toList < i.cps.toList))) H):=by
 intro pins s σ H x y v u Q I rx ry h
 obtain ⟨i,j,rfl,rfl,q⟩:=h
 obtain ⟨t,rfl⟩:=rx
 obtain ⟨t',rfl⟩:=ry
 exact PySem.P.le_str (tj I q rfl)
theorem xO (K:PySem.W.Frag):ROk K (fun x y H Q=>(rI0 fun i j=>.bl (decide (i<=j))) x y H Q\/∃ i j:Str,x=.str i/\y=.str j/\Q (.bl (!decide (j.cps.toList < i.cps.toList))) H) leD:=by
 intro G H x y dx dy d Q s rx ry e q
 unfold leD at e
 split at e
 ·cases e
  exact .inl ⟨_,_,rx.int_inv,ry.int_inv,q _ G H (.refl s) (.bl _)⟩
 ·cases e
  obtain ⟨i,rfl,ei,hi⟩:=rx.str_inv
  obtain ⟨j,rfl,ej,hj⟩:=ry.str_inv
  subst ei ej
  exact .inr ⟨i,j,rfl,rfl,q _ G H (.refl s) (.bl _)⟩
 ·cases e
theorem D0 (K:PySem.W.Frag):ROk K (fun x y H Q=>(rI0 fun i j=>.bl (decide (i < j))) x y H Q\/∃ i j:Str,x=.str i/\y=.str j/\Q (.bl (decide (i.cps.toList < j.cps.toList))) H) ltD:=by
 intro G H x y dx dy d Q s rx ry e q
 unfold ltD at e
 split at e
 ·cases e
  exact .inl ⟨_,_,rx.int_inv,ry.int_inv,q _ G H (.refl s) (.bl _)⟩
 ·cases e
  obtain ⟨i,rfl,ei,hi⟩:=rx.str_inv
  obtain ⟨j,rfl,ej,hj⟩:=ry.str_inv
  subst ei ej
  exact .inr ⟨i,j,rfl,rfl,q _ G H (.refl s) (.bl _)⟩
 ·cases e
theorem Gq (K:PySem.W.Frag):ROk K (rI0 fun i j=>.bl (decide (j < i))) gtD:=by
 intro G H x y dx dy d Q s rx ry e q
 unfold gtD at e
 split at e
 ·cases e
  exact ⟨_,_,rx.int_inv,ry.int_inv,q _ G H (.refl s) (.bl _)⟩
 ·cases e
theorem FK (K:PySem.W.Frag):ROk K (rI0 fun i j=>.bl (decide (j<=i))) geD:=by
 intro G H x y dx dy d Q s rx ry e q
 unfold geD at e
 split at e
 ·cases e
  exact ⟨_,_,rx.int_inv,ry.int_inv,q _ G H (.refl s) (.bl _)⟩
 ·cases e
theorem qb:OpR X (compareOp .LtE) (fun x y H Q=>(rI0 fun i j=>.bl (decide (i<=j))) x y H Q\/∃ i j:Str,x=.str i/\y=.str j/\Q (.bl (!decide (j.cps.toList < i.cps.toList))) H):=op_le.or vn
theorem Ac:OpR X (compareOp .Lt) (fun x y H Q=>(rI0 fun i j=>.bl (decide (i < j))) x y H Q\/∃ i j:Str,x=.str i/\y=.str j/\Q (.bl (decide (i.cps.toList < j.cps.toList))) H):=op_lt.or wP
theorem B8 (ha:QF X a ga) (hb:QF X b gb):QF X (.Compare a [.LtE] [b] pos) (g2 leD ga gb):=iS qb (xO _) ha hb (gH _)
theorem AS (ha:QF X a ga) (hb:QF X b gb):QF X (.Compare a [.Lt] [b] pos) (g2 ltD ga gb):=iS Ac (D0 _) ha hb (gH _)
theorem xw (ha:QF X a ga) (hb:QF X b gb) (hc:QF X c gc) (hm:lastMarks [.LtE,.LtE] [b,c]=false:=by with_unfolding_all rfl):QF X (.Compare a [.LtE,.LtE] [b,c] pos) (g3 leD leD ga gb gc):=uW qb qb (xO _) (xO _) ha hb hc hm
end
def eqZ (f:D->D->Option Bool):List D->List D->Option (List Bool)
 | x::xs,y::ys=>(f x y).bind fun b=>(eqZ f xs ys).map (b::·)
 | _,_=>some []
def eqD:Nat->D->D->Option Bool
 | 0,_,_=>none
 | n+1,a,b=>match a,b with
  | .non,.non=>some true
  | .bl x,.bl y=>some (x==y)
  | .int i,.int j=>some (i==j)
  | .str x,.str y=>some (x==y)
  | .bl x,.int j=>some ((if x then 1 else 0)==j)
  | .int i,.bl y=>some (i==(if y then 1 else 0))
  | .lst _ xs,.lst _ ys=>if xs.length=ys.length then (eqZ (eqD n) xs ys).map fun bs=>bs.all id else some false
  | .tup xs,.tup ys=>(eqZ (eqD n) xs ys).map fun bs=>bs.all id && xs.length==ys.length
  | .exc _,_=>none
  | _,.exc _=>none
  | _,_=>some false
theorem eqZ.get {f:D->D->Option Bool}:∀ {xs ys:List D} {bs:List Bool},eqZ f xs ys=some bs->bs.length=min xs.length ys.length/\∀ (j:Nat) (x y:D),xs[j]?=some x->ys[j]?=some y->∃ b,bs[j]?=some b/\f x y=some b
 | [],_,_,e=>by simp [eqZ] at e; subst e; exact ⟨by simp,fun j x y h=>by simp at h⟩
 | _::_,[],_,e=>by simp [eqZ] at e; subst e; exact ⟨by simp,fun j x y _ h=>by simp at h⟩
 | x::xs,y::ys,bs,e=>by
  unfold eqZ at e
  cases e1:f x y with
  | none=>rw [e1] at e; cases e
  | some b=>
   rw [e1] at e
   cases e2:eqZ f xs ys with
   | none=>rw [e2] at e; cases e
   | some cs=>
    rw [e2] at e
    cases e
    obtain ⟨h1,h2⟩:=eqZ.get e2
    refine ⟨by simp [h1],fun j=>?_⟩
    cases j with
    | zero=>intro x' y' hx hy; simp at hx hy; subst hx hy; exact ⟨b,rfl,e1⟩
    | succ j=>intro x' y' hx hy; exact h2 j x' y' (by simpa using hx) (by simpa using hy)
theorem kz {bs:List Bool} {n:Nat} (h:bs.length=n):(List.range n).all (fun j=>bs.getD j true)=bs.all id:=by
 subst h
 rw [Bool.eq_iff_iff,List.all_eq_true,List.all_eq_true]
 constructor
 ·intro h b hb
  obtain ⟨i,hi,rfl⟩:=List.mem_iff_getElem.mp hb
  have:=h i (by simpa using hi)
  simpa [List.getD_eq_getElem?_getD,hi] using this
 ·intro h j hj
  have hj':j < bs.length:=by simpa using hj
  have:=h bs[j] (List.getElem_mem hj')
  simpa [List.getD_eq_getElem?_getD,hj'] using this
theorem cZ:(Value.type "list":Value) ≠ .type "tuple":=by
 intro h
 injection h with h
 exact absurd h (by decide)
section
variable {X:Cx} {pins:List (Addr × Obj)} {σ:St} {G H:Hp} {s:Shared}
open SeqAt
theorem eZ (I:Inv X pins σ H s) (sub:Same G H):∀ (n:Nat) (a b:D) (k:Bool) (x:V),eqD n a b=some k->Rep X.K G x a->Rep X.K G x b->k=true:=by
 intro n
 induction n with
 | zero=>intro a b k x e; cases e
 | succ n ih=>
  have sq:∀ (vs:List V) (xs ys:List D),Reps X.K G vs xs->Reps X.K G vs ys->∀ bs,eqZ (eqD n) xs ys=some bs->bs.all id=true:=by
   intro vs
   induction vs with
   | nil=>intro xs ys h1 h2 bs e; cases h1; cases h2; simp [eqZ] at e; subst e; rfl
   | cons v vs ihv=>
    intro xs ys h1 h2 bs e
    cases h1 with
    | cons r1 t1=>
     cases h2 with
     | cons r2 t2=>
      unfold eqZ at e
      rename_i d1 ds1 d2 ds2
      cases e1:eqD n d1 d2 with
      | none=>rw [e1] at e; cases e
      | some b=>
       rw [e1] at e
       cases e2:eqZ (eqD n) ds1 ds2 with
       | none=>rw [e2] at e; cases e
       | some cs=>
        rw [e2] at e
        cases e
        rw [List.all_cons,ih _ _ _ _ e1 r1 r2,ihv _ _ t1 t2 _ e2]
        rfl
  intro a b k x e ra rb
  cases ra with
  | non=>cases rb; simp [eqD] at e; exact e
  | bl y=>cases rb; simp [eqD] at e; exact e
  | int i=>cases rb; simp [eqD] at e; exact e
  | str y h=>
   cases rb with
   | str z h'=>simp [eqD] at e; exact e
  | tup h r=>
   cases rb with
   | tup h' r'=>
    have q:=I.tuple_inj (h.mono sub) (h'.mono sub)
    subst q
    simp only [eqD] at e
    rename_i ds es
    cases e2:eqZ (eqD n) ds es with
    | none=>rw [e2] at e; cases e
    | some cs=>
     rw [e2] at e
     have this:(cs.all id && ds.length==es.length)=k:=Option.some.inj e
     rw [sq _ _ _ r r' _ e2,Bool.true_and] at this
     rw [<- this,<- r.length,<- r'.length]
     simp
   | lst h' r'=>
    obtain ⟨its,_,⟨o,e1,c1,_⟩,_⟩:=I.tuple (h.mono sub)
    obtain ⟨_,its',n',_,e2⟩:=I.hok _ _ (sub _ _ h')
    rw [e1] at e2; cases e2; exact absurd c1 cZ
   | fls h' r'=>
    obtain ⟨its,_,⟨o,e1,c1,_⟩,_⟩:=I.tuple (h.mono sub)
    obtain ⟨its',_,⟨o',n',e2,c2,_⟩,_⟩:=I.list (h'.mono sub)
    rw [e1] at e2; cases e2; rw [c1] at c2; exact absurd c2.symm cZ
   | exc h'=>simp [eqD] at e
  | lst h r=>
   have hl:SqL X.K G _ _:=SqL.of h
   cases rb with
   | tup h' r'=>
    obtain ⟨its,_,⟨o,e1,c1,_⟩,_⟩:=I.tuple (h'.mono sub)
    obtain ⟨_,its',n',_,e2⟩:=I.hok _ _ (sub _ _ h)
    rw [e1] at e2; cases e2; exact absurd c1 cZ
   | lst h' r'=>
    rw [h] at h'; cases h'
    simp only [eqD] at e
    rw [if_pos (by rw [<- r.length,<- r'.length])] at e
    rename_i ds es
    cases e2:eqZ (eqD n) ds es with
    | none=>rw [e2] at e; cases e
    | some cs=>rw [e2] at e; have:=Option.some.inj e; rw [<- this]; exact sq _ _ _ r r' _ e2
   | fls h' r'=>
    have q:=I.list_inj (hl.mono sub) (h'.mono sub)
    subst q
    simp only [eqD] at e
    rw [if_pos (by rw [<- r.length,<- r'.length])] at e
    rename_i ds es
    cases e2:eqZ (eqD n) ds es with
    | none=>rw [e2] at e; cases e
    | some cs=>rw [e2] at e; have:=Option.some.inj e; rw [<- this]; exact sq _ _ _ r r' _ e2
   | exc h'=>simp [eqD] at e
  | fls h r=>
   cases rb with
   | tup h' r'=>
    obtain ⟨its,_,⟨o,e1,c1,_⟩,_⟩:=I.tuple (h'.mono sub)
    obtain ⟨its',_,⟨o',n',e2,c2,_⟩,_⟩:=I.list (h.mono sub)
    rw [e1] at e2; cases e2; rw [c1] at c2; exact absurd c2.symm cZ
   | lst h' r'=>
    have q:=I.list_inj (h.mono sub) ((SqL.of h':SqL X.K G _ _).mono sub)
    subst q
    simp only [eqD] at e
    rw [if_pos (by rw [<- r.length,<- r'.length])] at e
    rename_i ds es
    cases e2:eqZ (eqD n) ds es with
    | none=>rw [e2] at e; cases e
    | some cs=>rw [e2] at e; have:=Option.some.inj e; rw [<- this]; exact sq _ _ _ r r' _ e2
   | fls h' r'=>
    have q:=I.list_inj (h.mono sub) (h'.mono sub)
    subst q
    simp only [eqD] at e
    rw [if_pos (by rw [<- r.length,<- r'.length])] at e
    rename_i ds es
    cases e2:eqZ (eqD n) ds es with
    | none=>rw [e2] at e; cases e
    | some cs=>rw [e2] at e; have:=Option.some.inj e; rw [<- this]; exact sq _ _ _ r r' _ e2
   | exc h'=>simp [eqD] at e
  | exc h=>simp [eqD] at e
structure Eqs (A:Around) (s:Shared) (v u:Value) (k:Bool):Prop where
 eq:EqAt A s v u k
 rc:RcAt A s v u k
 ne:RcNeAt A s v u (!k)
theorem hZ {f:Bool} {x:V} {u:Value} {ds:List D} (I:Inv X pins σ H s) (sub:Same G H) (r:Rep X.K G x (.lst f ds)) (ru:RelV x u):∃ a its vs,u=.ref a/\s.heap.IsList a (List.toArray its)/\Vals vs its/\Reps X.K G vs ds:=by
 obtain ⟨a,vs,rfl,h,t⟩:=r.seq_inv
 cases ru
 obtain ⟨its,rv,⟨o,n,e1,c1,_,d1⟩,_⟩:=I.list (h.mono sub)
 exact ⟨a,its,vs,rfl,⟨o,e1,c1,n,d1⟩,rv,t⟩
theorem kq {x:V} {u:Value} {ds:List D} (I:Inv X pins σ H s) (sub:Same G H) (r:Rep X.K G x (.tup ds)) (ru:RelV x u):∃ a its vs,u=.ref a/\s.heap.IsTuple a (List.toArray its)/\Vals vs its/\Reps X.K G vs ds:=by
 obtain ⟨a,vs,rfl,h,t⟩:=r.tup_inv
 cases ru
 obtain ⟨its,rv,p,_⟩:=I.tuple (h.mono sub)
 exact ⟨a,its,vs,rfl,p,rv,t⟩
theorem wJ (I:Inv X pins σ H s) (sub:Same G H):∀ (n:Nat) (A:Around) (a b:D) (k:Bool) (x y:V) (v u:Value),A.units+n < cLine->eqD n a b=some k->Rep X.K G x a->Rep X.K G y b->RelV x v->RelV y u->Eqs A s v u k:=by
 intro n
 induction n with
 | zero=>intro A a b k x y v u _ e; cases e
 | succ n ih=>
  have sq:∀ (A:Around) (vs ws:List V) (xs ys:List D) (is js:List Value) (bs:List Bool),A.units+(n+1) < cLine->Reps X.K G vs xs->Reps X.K G ws ys->Vals vs is->Vals ws js->eqZ (eqD n) xs ys=some bs->
    bs.length=min is.length js.length/\∀ j (h1:j < is.toArray.size) (h2:j < js.toArray.size),EqAt A.in1 s is.toArray[j] js.toArray[j] (bs.getD j true):=by
   intro A vs ws xs ys is js bs hA r1 r2 v1 v2 e
   obtain ⟨h1,h2⟩:=eqZ.get e
   refine ⟨by rw [h1,<- r1.length,<- r2.length,v1.length,v2.length],fun j q1 q2=>?_⟩
   rw [List.size_toArray] at q1 q2
   have p1:j < xs.length:=by rw [<- r1.length,v1.length]; exact q1
   have p2:j < ys.length:=by rw [<- r2.length,v2.length]; exact q2
   obtain ⟨b,e1,e2⟩:=h2 j xs[j] ys[j] (by simp [p1]) (by simp [p2])
   obtain ⟨x',ex,rx⟩:=r1.get (i:=j) (d:=xs[j]) (by simp [p1])
   obtain ⟨y',ey,ry⟩:=r2.get (i:=j) (d:=ys[j]) (by simp [p2])
   obtain ⟨u1,eu1,ru1⟩:=v1.get ex
   obtain ⟨u2,eu2,ru2⟩:=v2.get ey
   have g1:is.toArray[j]=u1:=by simpa [q1] using eu1
   have g2:js.toArray[j]=u2:=by simpa [q2] using eu2
   rw [List.getD_eq_getElem?_getD,e1]
   simp only [List.getElem_toArray] at g1 g2 ⊢
   rw [g1,g2]
   exact (ih A.in1 _ _ b x' y' u1 u2 (by show A.units+1+n < cLine; omega) e2 rx ry ru1 ru2).eq
  intro A a b k x y v u hA e ra rb rv ru
  have hu:A.units < cLine:=by omega
  have same:∀ c d:Addr,v=.ref c->u=.ref d->c=d->k=true:=fun c d h1 h2 h3=>by
   subst h1 h2 h3
   cases ra with
   | tup h r=>cases rv; cases rb with
    | tup h' r'=>cases ru; exact eZ I sub (n+1) _ _ k _ e (.tup h r) (.tup h' r')
    | lst h' r'=>cases ru; exact eZ I sub (n+1) _ _ k _ e (.tup h r) (.lst h' r')
    | fls h' r'=>cases ru; exact eZ I sub (n+1) _ _ k _ e (.tup h r) (.fls h' r')
    | exc h'=>simp [eqD] at e
    | str _ _=>obtain ⟨t,z⟩:=ru; cases z
    | int _=>obtain ⟨t,z⟩:=ru; cases z
    | non=>cases ru
    | bl _=>cases ru
   | lst h r=>cases rv; cases rb with
    | tup h' r'=>cases ru; exact eZ I sub (n+1) _ _ k _ e (.lst h r) (.tup h' r')
    | lst h' r'=>cases ru; exact eZ I sub (n+1) _ _ k _ e (.lst h r) (.lst h' r')
    | fls h' r'=>cases ru; exact eZ I sub (n+1) _ _ k _ e (.lst h r) (.fls h' r')
    | exc h'=>simp [eqD] at e
    | str _ _=>obtain ⟨t,z⟩:=ru; cases z
    | int _=>obtain ⟨t,z⟩:=ru; cases z
    | non=>cases ru
    | bl _=>cases ru
   | fls h r=>cases rv; cases rb with
    | tup h' r'=>cases ru; exact eZ I sub (n+1) _ _ k _ e (.fls h r) (.tup h' r')
    | lst h' r'=>cases ru; exact eZ I sub (n+1) _ _ k _ e (.fls h r) (.lst h' r')
    | fls h' r'=>cases ru; exact eZ I sub (n+1) _ _ k _ e (.fls h r) (.fls h' r')
    | exc h'=>simp [eqD] at e
    | str _ _=>obtain ⟨t,z⟩:=ru; cases z
    | int _=>obtain ⟨t,z⟩:=ru; cases z
    | non=>cases ru
    | bl _=>cases ru
   | exc h=>simp [eqD] at e
   | str _ _=>obtain ⟨t,z⟩:=rv; cases z
   | int _=>obtain ⟨t,z⟩:=rv; cases z
   | non=>cases rv
   | bl _=>cases rv
  have refs:∀ c d:Addr,v=.ref c->u=.ref d->RcAt A s v u k->EqAt A s v u k:=fun c d h1 h2 h=>by
   subst h1 h2
   by_cases h3:c=d
   ·have:=same c d rfl rfl h3
    subst h3 this
    exact EqAt.same _
   ·exact EqAt.of_refs h3 h
  cases a with
  | exc C=>simp [eqD] at e
  | non=>
   obtain rfl:=ra.non_inv
   cases rv
   cases b with
   | exc C=>simp [eqD] at e
   | non=>obtain rfl:=rb.non_inv; cases ru; simp [eqD] at e; subst e; exact ⟨EqAt.same _,RcAt.none_none,RcNeAt.none_none⟩
   | bl z=>obtain rfl:=rb.bl_inv; cases ru; simp [eqD] at e; subst e; exact ⟨EqAt.none_bool _,RcAt.none_bool _,RcNeAt.none_bool _⟩
   | int z=>obtain rfl:=rb.int_inv; obtain ⟨t,rfl⟩:=ru; simp [eqD] at e; subst e; exact ⟨EqAt.none_int _ _,RcAt.none_int _ _,RcNeAt.none_int _ _⟩
   | str z=>obtain ⟨z,rfl,-,-⟩:=rb.str_inv; obtain ⟨t,rfl⟩:=ru; simp [eqD] at e; subst e; exact ⟨EqAt.none_str _ _,RcAt.none_str _ _,RcNeAt.none_str _ _⟩
   | tup ds=>obtain ⟨c,its,vs,rfl,p,_,_⟩:=kq I sub rb ru; simp [eqD] at e; subst e; exact ⟨EqAt.none_tuple p hu,RcAt.none_tuple p hu,RcNeAt.none_tuple p hu⟩
   | lst f ds=>obtain ⟨c,its,vs,rfl,p,_,_⟩:=hZ I sub rb ru; simp [eqD] at e; subst e; exact ⟨EqAt.none_list p hu,RcAt.none_list p hu,RcNeAt.none_list p hu⟩
  | bl w=>
   obtain rfl:=ra.bl_inv
   cases rv
   cases b with
   | exc C=>simp [eqD] at e
   | non=>obtain rfl:=rb.non_inv; cases ru; simp [eqD] at e; subst e; exact ⟨EqAt.bool_none _,RcAt.bool_none _,RcNeAt.bool_none _⟩
   | bl z=>obtain rfl:=rb.bl_inv; cases ru; simp only [eqD] at e; cases e; exact ⟨EqAt.bool_bool _ _,RcAt.bool_bool _ _,RcNeAt.bool_bool _ _⟩
   | int z=>obtain rfl:=rb.int_inv; obtain ⟨t,rfl⟩:=ru; simp only [eqD] at e; cases e; exact ⟨EqAt.bool_int _ _ _,RcAt.bool_int _ _ _,RcNeAt.bool_int _ _ _⟩
   | str z=>obtain ⟨z,rfl,-,-⟩:=rb.str_inv; obtain ⟨t,rfl⟩:=ru; simp [eqD] at e; subst e; exact ⟨EqAt.bool_str _ _ _,RcAt.bool_str _ _ _,RcNeAt.bool_str _ _ _⟩
   | tup ds=>obtain ⟨c,its,vs,rfl,p,_,_⟩:=kq I sub rb ru; simp [eqD] at e; subst e; exact ⟨EqAt.bool_tuple _ p hu,RcAt.bool_tuple _ p hu,RcNeAt.bool_tuple _ p hu⟩
   | lst f ds=>obtain ⟨c,its,vs,rfl,p,_,_⟩:=hZ I sub rb ru; simp [eqD] at e; subst e; exact ⟨EqAt.bool_list _ p hu,RcAt.bool_list _ p hu,RcNeAt.bool_list _ p hu⟩
  | int w=>
   obtain rfl:=ra.int_inv
   obtain ⟨t0,rfl⟩:=rv
   cases b with
   | exc C=>simp [eqD] at e
   | non=>obtain rfl:=rb.non_inv; cases ru; simp [eqD] at e; subst e; exact ⟨EqAt.int_none _ _,RcAt.int_none _ _,RcNeAt.int_none _ _⟩
   | bl z=>obtain rfl:=rb.bl_inv; cases ru; simp only [eqD] at e; cases e; exact ⟨EqAt.int_bool _ _ _,RcAt.int_bool _ _ _,RcNeAt.int_bool _ _ _⟩
   | int z=>obtain rfl:=rb.int_inv; obtain ⟨t,rfl⟩:=ru; simp only [eqD] at e; cases e; exact ⟨EqAt.int_int _ _ _ _,RcAt.int_int _ _ _ _,RcNeAt.int_int _ _ _ _⟩
   | str z=>obtain ⟨z,rfl,-,-⟩:=rb.str_inv; obtain ⟨t,rfl⟩:=ru; simp [eqD] at e; subst e; exact ⟨EqAt.int_str _ _ _ _,RcAt.int_str _ _ _ _,RcNeAt.int_str _ _ _ _⟩
   | tup ds=>obtain ⟨c,its,vs,rfl,p,_,_⟩:=kq I sub rb ru; simp [eqD] at e; subst e; exact ⟨EqAt.int_tuple _ _ p hu,RcAt.int_tuple _ _ p hu,RcNeAt.int_tuple _ _ p hu⟩
   | lst f ds=>obtain ⟨c,its,vs,rfl,p,_,_⟩:=hZ I sub rb ru; simp [eqD] at e; subst e; exact ⟨EqAt.int_list _ _ p hu,RcAt.int_list _ _ p hu,RcNeAt.int_list _ _ p hu⟩
  | str w=>
   obtain ⟨w,rfl,ew,-⟩:=ra.str_inv
   obtain ⟨t0,rfl⟩:=rv
   cases b with
   | exc C=>simp [eqD] at e
   | non=>obtain rfl:=rb.non_inv; cases ru; simp [eqD] at e; subst e; exact ⟨EqAt.str_none _ _,RcAt.str_none _ _,RcNeAt.str_none _ _⟩
   | bl z=>obtain rfl:=rb.bl_inv; cases ru; simp [eqD] at e; subst e; exact ⟨EqAt.str_bool _ _ _,RcAt.str_bool _ _ _,RcNeAt.str_bool _ _ _⟩
   | int z=>obtain rfl:=rb.int_inv; obtain ⟨t,rfl⟩:=ru; simp [eqD] at e; subst e; exact ⟨EqAt.str_int _ _ _ _,RcAt.str_int _ _ _ _,RcNeAt.str_int _ _ _ _⟩
   | str z=>
    obtain ⟨z,rfl,ez,-⟩:=rb.str_inv; obtain ⟨t,rfl⟩:=ru
    simp only [eqD] at e
    subst ew ez
    rw [str_beq] at e
    cases e
    exact ⟨EqAt.str_str _ _ _ _,RcAt.str_str _ _ _ _,RcNeAt.str_str _ _ _ _⟩
   | tup ds=>obtain ⟨c,its,vs,rfl,p,_,_⟩:=kq I sub rb ru; simp [eqD] at e; subst e; exact ⟨EqAt.str_tuple _ _ p hu,RcAt.str_tuple _ _ p hu,RcNeAt.str_tuple _ _ p hu⟩
   | lst f ds=>obtain ⟨c,its,vs,rfl,p,_,_⟩:=hZ I sub rb ru; simp [eqD] at e; subst e; exact ⟨EqAt.str_list _ _ p hu,RcAt.str_list _ _ p hu,RcNeAt.str_list _ _ p hu⟩
  | tup ds1=>
   obtain ⟨c1,its1,vs1,rfl,p1,w1,q1⟩:=kq I sub ra rv
   cases b with
   | exc C=>simp [eqD] at e
   | non=>obtain rfl:=rb.non_inv; cases ru; simp [eqD] at e; subst e; exact ⟨EqAt.tuple_none p1 hu,RcAt.tuple_none p1 hu,RcNeAt.tuple_none p1 hu⟩
   | bl z=>obtain rfl:=rb.bl_inv; cases ru; simp [eqD] at e; subst e; exact ⟨EqAt.tuple_bool _ p1 hu,RcAt.tuple_bool _ p1 hu,RcNeAt.tuple_bool _ p1 hu⟩
   | int z=>obtain rfl:=rb.int_inv; obtain ⟨t,rfl⟩:=ru; simp [eqD] at e; subst e; exact ⟨EqAt.tuple_int _ _ p1 hu,RcAt.tuple_int _ _ p1 hu,RcNeAt.tuple_int _ _ p1 hu⟩
   | str z=>obtain ⟨z,rfl,-,-⟩:=rb.str_inv; obtain ⟨t,rfl⟩:=ru; simp [eqD] at e; subst e; exact ⟨EqAt.tuple_str _ _ p1 hu,RcAt.tuple_str _ _ p1 hu,RcNeAt.tuple_str _ _ p1 hu⟩
   | lst f ds=>obtain ⟨c,its,vs,rfl,p,_,_⟩:=hZ I sub rb ru; simp [eqD] at e; subst e; exact ⟨EqAt.tuple_list p1 p hu,RcAt.tuple_list p1 p hu,RcNeAt.tuple_list p1 p hu⟩
   | tup ds2=>
    obtain ⟨c2,its2,vs2,rfl,p2,w2,q2⟩:=kq I sub rb ru
    simp only [eqD] at e
    cases e2:eqZ (eqD n) ds1 ds2 with
    | none=>rw [e2] at e; cases e
    | some bs=>
     rw [e2] at e
     have ek:=Option.some.inj e
     obtain ⟨hl,he⟩:=sq A _ _ _ _ _ _ bs hA q1 q2 w1 w2 e2
     have e3:((List.range (min its1.toArray.size its2.toArray.size)).all (fun j=>bs.getD j true) && its1.toArray.size==its2.toArray.size)=k:=by
      rw [<- ek,List.size_toArray,List.size_toArray,kz hl,<- w1.length,<- w2.length,q1.length,q2.length]
     have hrc:RcAt A s (.ref c1) (.ref c2) k:=by rw [<- e3]; exact RcAt.tuples p1 p2 hu he
     have hne:RcNeAt A s (.ref c1) (.ref c2) (!k):=by rw [<- e3]; exact RcNeAt.tuples p1 p2 hu he
     exact ⟨refs _ _ rfl rfl hrc,hrc,hne⟩
  | lst f1 ds1=>
   obtain ⟨c1,its1,vs1,rfl,p1,w1,q1⟩:=hZ I sub ra rv
   cases b with
   | exc C=>simp [eqD] at e
   | non=>obtain rfl:=rb.non_inv; cases ru; simp [eqD] at e; subst e; exact ⟨EqAt.list_none p1 hu,RcAt.list_none p1 hu,RcNeAt.list_none p1 hu⟩
   | bl z=>obtain rfl:=rb.bl_inv; cases ru; simp [eqD] at e; subst e; exact ⟨EqAt.list_bool _ p1 hu,RcAt.list_bool _ p1 hu,RcNeAt.list_bool _ p1 hu⟩
   | int z=>obtain rfl:=rb.int_inv; obtain ⟨t,rfl⟩:=ru; simp [eqD] at e; subst e; exact ⟨EqAt.list_int _ _ p1 hu,RcAt.list_int _ _ p1 hu,RcNeAt.list_int _ _ p1 hu⟩
   | str z=>obtain ⟨z,rfl,-,-⟩:=rb.str_inv; obtain ⟨t,rfl⟩:=ru; simp [eqD] at e; subst e; exact ⟨EqAt.list_str _ _ p1 hu,RcAt.list_str _ _ p1 hu,RcNeAt.list_str _ _ p1 hu⟩
   | tup ds=>obtain ⟨c,its,vs,rfl,p,_,_⟩:=kq I sub rb ru; simp [eqD] at e; subst e; exact ⟨EqAt.list_tuple p1 p hu,RcAt.list_tuple p1 p hu,RcNeAt.list_tuple p1 p hu⟩
   | lst f2 ds2=>
    obtain ⟨c2,its2,vs2,rfl,p2,w2,q2⟩:=hZ I sub rb ru
    simp only [eqD] at e
    by_cases hlen:ds1.length=ds2.length
    ·rw [if_pos hlen] at e
     cases e2:eqZ (eqD n) ds1 ds2 with
     | none=>rw [e2] at e; cases e
     | some bs=>
      rw [e2] at e
      have ek:=Option.some.inj e
      obtain ⟨hl,he⟩:=sq A _ _ _ _ _ _ bs hA q1 q2 w1 w2 e2
      have hz:its1.toArray.size=its2.toArray.size:=by rw [List.size_toArray,List.size_toArray,<- w1.length,<- w2.length,q1.length,q2.length]; exact hlen
      have e3:(List.range its1.toArray.size).all (fun j=>bs.getD j true)=k:=by
       rw [<- ek,kz]
       rw [hl,List.size_toArray]
       simp only [List.size_toArray] at hz
       omega
      have hrc:RcAt A s (.ref c1) (.ref c2) k:=by rw [<- e3]; exact RcAt.lists p1 p2 hz hu he
      have hne:RcNeAt A s (.ref c1) (.ref c2) (!k):=by rw [<- e3]; exact RcNeAt.lists p1 p2 hz hu he
      exact ⟨refs _ _ rfl rfl hrc,hrc,hne⟩
    ·rw [if_neg hlen] at e
     cases e
     have hz:(its1.toArray.size != its2.toArray.size)=true:=by
      rw [List.size_toArray,List.size_toArray,<- w1.length,<- w2.length,q1.length,q2.length]
      simpa using hlen
     have hrc:RcAt A s (.ref c1) (.ref c2) false:=RcAt.lists_lengths p1 p2 hz hu
     exact ⟨refs _ _ rfl rfl hrc,hrc,RcNeAt.lists_lengths p1 p2 hz hu⟩
end
section
variable {X:Cx} {a b:Expr} {ga gb:Ev->R D} {pos:Pos}
def eqF (x y:D):Option D:=(eqD 40 x y).map .bl
def neF (x y:D):Option D:=(eqD 40 x y).map fun k=>.bl (!k)
def GY (K:PySem.W.Frag) (neg:Bool):R2:=fun x y H Q=>∃ G dx dy k,Same G H/\Rep K G x dx/\Rep K G y dy/\eqD 40 dx dy=some k/\Q (.bl (if neg then !k else k)) H
theorem AG (hu:X.A.units+64 < cLine):OpR X (compareOp .Eq) (GY X.K false):=by
 intro pins s σ H x y v u Q I rx ry h
 obtain ⟨G,dx,dy,k,sub,r1,r2,e,q⟩:=h
 exact (wJ I sub 40 X.A dx dy k x y v u (by omega) e r1 r2 rx ry).rc _ _ _ _ ⟨.bl k,H,I,rfl,q⟩
theorem Am (hu:X.A.units+64 < cLine):OpR X (compareOp .NotEq) (GY X.K true):=by
 intro pins s σ H x y v u Q I rx ry h
 obtain ⟨G,dx,dy,k,sub,r1,r2,e,q⟩:=h
 exact (wJ I sub 40 X.A dx dy k x y v u (by omega) e r1 r2 rx ry).ne _ _ _ _ ⟨.bl (!k),H,I,rfl,q⟩
theorem Cy (hu:X.A.units+64 < cLine) (ha:QF X a ga) (hb:QF X b gb):QF X (.Compare a [.Eq] [b] pos) (g2 eqF ga gb):=iS (AG hu) (by
 intro G H x y dx dy d Q s rx ry e q
 unfold eqF at e
 cases e1:eqD 40 dx dy with
 | none=>rw [e1] at e; cases e
 | some k=>rw [e1] at e; cases e; exact ⟨G,dx,dy,k,s,rx,ry,e1,q _ G H (.refl s) (.bl k)⟩) ha hb (gH _)
theorem A6 (hu:X.A.units+64 < cLine) (ha:QF X a ga) (hb:QF X b gb):QF X (.Compare a [.NotEq] [b] pos) (g2 neF ga gb):=iS (Am hu) (by
 intro G H x y dx dy d Q s rx ry e q
 unfold neF at e
 cases e1:eqD 40 dx dy with
 | none=>rw [e1] at e; cases e
 | some k=>rw [e1] at e; cases e; exact ⟨G,dx,dy,k,s,rx,ry,e1,q _ G H (.refl s) (.bl (!k))⟩) ha hb (gH _)
end
end L2
namespace L2
open PySem PySem.Spec PyProof.Rows
section
variable {X:Cx} {a b c e:Expr} {es cq:List Expr} {ga gb gc:Ev->R D} {gt gu:Ev->R Bool} {gl:Ev->R (List D)} {pos:Pos}
def isD:D->D->Option Bool
 | .non,.non=>some true
 | _,.non=>some false
 | .bl x,.bl y=>some (x==y)
 | _,_=>none
def isF (x y:D):Option D:=(isD x y).map .bl
def rIs (neg:Bool):R2:=fun x y H Q=>(y=.non/\Q (.bl (if neg then !decide (x=.non) else decide (x=.non))) H)\/∃ i j,x=.bl i/\y=.bl j/\Q (.bl (if neg then !(i==j) else (i==j))) H
theorem EG:OpR X (compareOp .Is) (rIs false):=op_isN.or (r':=fun x y H Q=>∃ i j,x=.bl i/\y=.bl j/\Q (.bl (i==j)) H) (by
 intro pins s σ H x y v u Q I rx ry h
 obtain ⟨i,j,rfl,rfl,q⟩:=h
 cases rx
 cases ry
 exact is_bool ⟨.bl _,H,I,rfl,q⟩)
theorem Gy (K:PySem.W.Frag) (neg:Bool):ROk K (rIs neg) (fun x y=>(isD x y).map fun k=>.bl (if neg then !k else k)):=by
 intro G H x y dx dy d Q s rx ry e q
 dsimp only at e
 cases e1:isD dx dy with
 | none=>rw [e1] at e; cases e
 | some k=>
  rw [e1] at e
  have ed:D.bl (if neg=true then !k else k)=d:=Option.some.inj e
  subst ed
  unfold isD at e1
  split at e1
  ·cases e1
   exact .inl ⟨ry.non_inv,by rw [rx.non_inv]; exact q _ G H (.refl s) (.bl _)⟩
  ·rename_i hx
   cases e1
   have hn:x ≠ .non:=fun z=>by subst z; cases rx; exact hx rfl
   refine .inl ⟨ry.non_inv,?_⟩
   rw [decide_eq_false hn]
   exact q _ G H (.refl s) (.bl _)
  ·cases e1
   exact .inr ⟨_,_,rx.bl_inv,ry.bl_inv,q _ G H (.refl s) (.bl _)⟩
  ·cases e1
def asB:D->R Bool
 | .bl k=>.ok k
 | _=>.no
def lJ (ga gb:Ev->R D):Ev->R D:=fun ρ=>ga ρ>>=fun x=>asB x>>=fun k=>if k=true then gb ρ else .ok (.bl false)
def gOr (ga gb:Ev->R D):Ev->R D:=fun ρ=>ga ρ>>=fun x=>asB x>>=fun k=>if k=true then .ok (.bl true) else gb ρ
def Gf (ga:Ev->R D):Ev->R D:=fun ρ=>ga ρ>>=fun x=>asB x>>=fun k=>.ok (.bl (!k))
theorem asB.ok {β:Type} {K:PySem.W.Frag} {G:Hp} {v:V} {d:D} {k:Bool->R β} {P:β->Prop} {E:Addr->Prop} (r:Rep K G v d) (h:(asB d>>=k).post P E):∃ c,v=.bl c/\d=.bl c/\(k c).post P E:=by
 cases r with
 | bl c=>exact ⟨c,rfl,rfl,h⟩
 | _=>exact h.elim
theorem yg {op:BoolOp} (h:QF X a ga):QF X (.BoolOp op [a] pos) ga:=Fk h
theorem yu (ha:QF X a ga) (hb:QF X (.BoolOp .And (b::cq) pos) gb):QF X (.BoolOp .And (a::b::cq) pos) (lJ ga gb):=by
 intro pins s σ H Q I h
 refine Eb ha hb pins s σ H Q I ?_
 obtain ⟨G,ρ,st,h⟩:=h
 refine tG.intro st h fun x v G1 H1 u1 st1 r1 h1=>?_
 obtain ⟨c,ec,ed,h2⟩:=asB.ok r1 h1
 subst ec ed
 refine ⟨c,rfl,?_⟩
 cases c with
 | true=>rw [if_pos rfl] at h2 ⊢; exact tG.last st1 h2
 | false=>rw [if_neg Bool.false_ne_true] at h2 ⊢; exact h2 _ G1 H1 (.refl st1.sub) (.bl false)
theorem Cq (ha:QF X a ga) (hb:QF X (.BoolOp .Or (b::cq) pos) gb):QF X (.BoolOp .Or (a::b::cq) pos) (gOr ga gb):=by
 intro pins s σ H Q I h
 refine Gn ha hb pins s σ H Q I ?_
 obtain ⟨G,ρ,st,h⟩:=h
 refine tG.intro st h fun x v G1 H1 u1 st1 r1 h1=>?_
 obtain ⟨c,ec,ed,h2⟩:=asB.ok r1 h1
 subst ec ed
 refine ⟨c,rfl,?_⟩
 cases c with
 | true=>rw [if_pos rfl] at h2 ⊢; exact h2 _ G1 H1 (.refl st1.sub) (.bl true)
 | false=>rw [if_neg Bool.false_ne_true] at h2 ⊢; exact tG.last st1 h2
theorem zS (ha:QF X a ga):QF X (.UnaryOp .Not a pos) (Gf ga):=by
 intro pins s σ H Q I h
 refine ED ha pins s σ H Q I ?_
 obtain ⟨G,ρ,st,h⟩:=h
 refine tG.intro st h fun x v G1 H1 u1 st1 r1 h1=>?_
 obtain ⟨c,ec,ed,h2⟩:=asB.ok r1 h1
 subst ec ed
 exact ⟨c,rfl,h2 _ G1 H1 (.refl st1.sub) (.bl _)⟩
def rR:D->R D
 | .int i=>.ok (.int (-i))
 | _=>.no
theorem yF (ha:QF X a ga):QF X (.UnaryOp .USub a pos) (fun ρ=>ga ρ>>=rR):=by
 intro pins s σ H Q I h
 refine GD DR ha pins s σ H Q I ?_
 obtain ⟨G,ρ,st,h⟩:=h
 refine tG.intro st h fun x v G1 H1 u1 st1 r1 h1=>?_
 cases r1 with
 | int i=>exact ⟨i,rfl,h1 _ G1 H1 (.refl st1.sub) (.int _)⟩
 | _=>exact h1.elim
def iW:D->R Bool
 | .non=>.ok false
 | .bl k=>.ok k
 | .int i=>.ok (i != 0)
 | .str x=>.ok (!x.isEmpty)
 | .tup xs=>.ok (!xs.isEmpty)
 | .lst _ xs=>.ok (!xs.isEmpty)
 | .exc _=>.no
theorem Reps.isEmpty {K:PySem.W.Frag} {G:Hp} {vs:List V} {ds:List D} (r:Reps K G vs ds):vs.isEmpty=ds.isEmpty:=by cases r <;> rfl
theorem tV (h:QF X e ga) (he:∀ whole,isTrue e X.env whole=(do let v <- whole; standAt e.pos; holding [v] (truthy v)):=by intro _; rfl):QB X e (fun ρ=>ga ρ>>=iW):=by
 intro pins s σ H Q I hq
 refine yn h he pins s σ H Q I ?_
 obtain ⟨G,ρ,st,hq⟩:=hq
 refine tG.intro st hq fun x v G1 H1 u1 st1 r1 h1=>?_
 have fin:∀ k,iW x=.ok k->Q k H1:=fun k ek=>by rw [ek] at h1; exact h1 k G1 H1 (.refl st1.sub) rfl
 cases r1 with
 | non=>exact ⟨_,rfl,fin _ rfl⟩
 | bl k=>exact ⟨_,rfl,fin _ rfl⟩
 | int i=>exact ⟨_,rfl,fin _ rfl⟩
 | str y hy=>
  refine ⟨_,⟨hy,rfl⟩,fin _ ?_⟩
  show R.ok _=R.ok _
  congr 1
  have:y.cps.toList.length=y.length:=Str.len_list y
  cases h:y.cps.toList with
  | nil=>rw [h] at this; rw [<- this]; rfl
  | cons c cs=>rw [h] at this; rw [<- this]; simp; omega
 | tup h r=>exact ⟨_,.inr (.inl ⟨_,h.mono st1.sub,rfl⟩),fin _ (by show R.ok _=R.ok _; rw [r.isEmpty])⟩
 | lst h r=>exact ⟨_,.inl ⟨_,.of (st1.sub _ _ h),rfl⟩,fin _ (by show R.ok _=R.ok _; rw [r.isEmpty])⟩
 | fls h r=>exact ⟨_,.inl ⟨_,h.mono st1.sub,rfl⟩,fin _ (by show R.ok _=R.ok _; rw [r.isEmpty])⟩
 | exc h=>exact h1.elim
theorem fY {op:CmpOp} {r:R2} {f:D->D->Option D} (ho:OpR X (compareOp op) r) (hf:ROk X.K r f) (ha:QF X a ga) (hb:QF X b gb) (hm:behindInMarks op b=false):QB X (.Compare a [op] [b] pos) (fun ρ=>g2 f ga gb ρ>>=asB):=by
 intro pins s σ H Q I h
 refine Bk ho ha hb hm pins s σ H Q I ?_
 obtain ⟨G,ρ,st,h⟩:=h
 refine yV hf ?_
 refine tG.intro st h fun x v G1 H1 u1 st1 r1 h1=>?_
 cases r1 with
 | bl k=>exact ⟨k,rfl,h1 k G1 H1 (.refl st1.sub) rfl⟩
 | _=>exact h1.elim
theorem Br (ha:QF X a ga) (hb:QF X b gb):QB X (.Compare a [.Lt] [b] pos) (fun ρ=>g2 ltD ga gb ρ>>=asB):=fY Ac (D0 _) ha hb (gH _)
theorem C4 (ha:QF X a ga) (hb:QF X b gb):QB X (.Compare a [.Gt] [b] pos) (fun ρ=>g2 gtD ga gb ρ>>=asB):=fY GT (Gq _) ha hb (gH _)
theorem Ci (ha:QF X a ga) (hb:QF X b gb):QB X (.Compare a [.GtE] [b] pos) (fun ρ=>g2 geD ga gb ρ>>=asB):=fY FG (FK _) ha hb (gH _)
theorem As (K:PySem.W.Frag) (neg:Bool):ROk K (GY K neg) (fun x y=>(eqD 40 x y).map fun k=>.bl (if neg then !k else k)):=by
 intro G H x y dx dy d Q s rx ry e q
 dsimp only at e
 cases e1:eqD 40 dx dy with
 | none=>rw [e1] at e; cases e
 | some k=>rw [e1] at e; cases e; exact ⟨G,dx,dy,k,s,rx,ry,e1,q _ G H (.refl s) (.bl _)⟩
theorem Cf (hu:X.A.units+64 < cLine) (ha:QF X a ga) (hb:QF X b gb):QB X (.Compare a [.Eq] [b] pos) (fun ρ=>g2 eqF ga gb ρ>>=asB):=fY (AG hu) (As _ false) ha hb (gH _)
theorem BD (hu:X.A.units+64 < cLine) (ha:QF X a ga) (hb:QF X b gb):QB X (.Compare a [.NotEq] [b] pos) (fun ρ=>g2 neF ga gb ρ>>=asB):=fY (Am hu) (As _ true) ha hb (gH _)
theorem Bi (ha:QF X a ga) (hb:QF X b gb):QB X (.Compare a [.Is] [b] pos) (fun ρ=>g2 isF ga gb ρ>>=asB):=fY EG (Gy _ false) ha hb (gH _)
theorem tZ {op op':CmpOp} {r r':R2} {f f':D->D->Option D} (ho:OpR X (compareOp op) r) (ho':OpR X (compareOp op') r') (hf:ROk X.K r f) (hf':ROk X.K r' f') (ha:QF X a ga) (hb:QF X b gb) (hc:QF X c gc)
  (hm:lastMarks [op,op'] [b,c]=false:=by with_unfolding_all rfl):QB X (.Compare a [op,op'] [b,c] pos) (fun ρ=>g3 f f' ga gb gc ρ>>=asB):=by
 intro pins s σ H Q I h
 refine zG ho ho' ha hb hc hm pins s σ H Q I ?_
 obtain ⟨G,ρ,st,h⟩:=h
 have h':(ga ρ>>=fun x=>gb ρ>>=fun y=>ofO (f x y)>>=fun z=>(match z with | .bl true=>gc ρ>>=fun w=>ofO (f' y w) | .bl false=>.ok (.bl false) | _=>.no)>>=asB).post (Fin G H (fun _ b c=>b=c) Q) (Exx X σ G H):=by
  have e:(g3 f f' ga gb gc ρ>>=asB)=(ga ρ>>=fun x=>gb ρ>>=fun y=>ofO (f x y)>>=fun z=>(match z with | .bl true=>gc ρ>>=fun w=>ofO (f' y w) | .bl false=>.ok (.bl false) | _=>.no)>>=asB):=by
   unfold g3
   cases ga ρ with
   | ok x=>cases gb ρ with
    | ok y=>simp only [R.ok_bind]; cases ofO (f x y) <;> rfl
    | _=>rfl
   | _=>rfl
  rw [<- e]; exact h
 refine tG.intro st h' fun x v G1 H1 u1 st1 r1 h1=>?_
 refine tG.intro st1 h1 fun y w G2 H2 u2 st2 r2 h2=>?_
 cases e:f x y with
 | none=>rw [e] at h2; exact h2.elim
 | some d=>
  rw [e] at h2
  refine hf G2 H2 v w x y d _ st2.sub (r1.mono u2.gg) r2 e fun z G3 H3 u3 r3=>?_
  have h3:=nD u3 h2
  have st3:=st2.up u3
  cases r3 with
  | bl k=>
   refine ⟨k,rfl,?_⟩
   cases k with
   | false=>rw [if_neg Bool.false_ne_true]; exact ⟨false,rfl,h3 _ G3 H3 (.refl st3.sub) rfl⟩
   | true=>
    rw [if_pos rfl]
    have h3':(gc ρ>>=fun w=>ofO (f' y w)>>=asB).post (Fin G3 H3 (fun _ b c=>b=c) Q) (Exx X σ G3 H3):=by
     have e:((gc ρ>>=fun w=>ofO (f' y w))>>=asB)=(gc ρ>>=fun w=>ofO (f' y w)>>=asB):=by cases gc ρ <;> rfl
     rw [<- e]; exact h3
    refine tG.intro st3 h3' fun q vq G4 H4 u4 st4 r4 h4=>?_
    cases e':f' y q with
    | none=>rw [e'] at h4; exact h4.elim
    | some d'=>
     rw [e'] at h4
     refine hf' G4 H4 w vq y q d' _ st4.sub ((r2.mono u3.gg).mono u4.gg) r4 e' fun z' G5 H5 u5 r5=>?_
     have h5:=nD u5 h4
     cases r5 with
     | bl k'=>exact ⟨k',rfl,h5 k' G5 H5 (.refl u5.sub) rfl⟩
     | _=>exact h5.elim
  | _=>exact h3.elim
theorem wA (ha:QF X a ga) (hb:QF X b gb) (hc:QF X c gc) (hm:lastMarks [.LtE,.LtE] [b,c]=false:=by with_unfolding_all rfl):QB X (.Compare a [.LtE,.LtE] [b,c] pos) (fun ρ=>g3 leD leD ga gb gc ρ>>=asB):=tZ qb qb (xO _) (xO _) ha hb hc hm
def xK (t u:Ev->R Bool):Ev->R Bool:=fun ρ=>t ρ>>=fun k=>if k=true then u ρ else .ok false
def mZ (t u:Ev->R Bool):Ev->R Bool:=fun ρ=>t ρ>>=fun k=>if k=true then .ok true else u ρ
theorem uq (ha:QB X a gt):QBW X (.BoolOp .And [a] pos) gt:=BE ha
theorem xr (ha:QB X a gt):QBW X (.BoolOp .Or [a] pos) gt:=Eu ha
theorem xb (ha:QB X a gt) (hb:QBW X (.BoolOp .And (b::cq) pos) gu):QBW X (.BoolOp .And (a::b::cq) pos) (xK gt gu):=by
 intro whole pins s σ H Q I h
 refine DG ha hb whole pins s σ H Q I ?_
 obtain ⟨G,ρ,st,h⟩:=h
 refine tG.intro st h fun x v G1 H1 u1 st1 r1 h1=>?_
 subst r1
 cases v with
 | true=>rw [if_pos rfl] at h1 ⊢; exact tG.last st1 h1
 | false=>rw [if_neg Bool.false_ne_true] at h1 ⊢; exact h1 _ G1 H1 (.refl st1.sub) rfl
theorem zW (ha:QB X a gt) (hb:QBW X (.BoolOp .Or (b::cq) pos) gu):QBW X (.BoolOp .Or (a::b::cq) pos) (mZ gt gu):=by
 intro whole pins s σ H Q I h
 refine GH ha hb whole pins s σ H Q I ?_
 obtain ⟨G,ρ,st,h⟩:=h
 refine tG.intro st h fun x v G1 H1 u1 st1 r1 h1=>?_
 subst r1
 cases v with
 | true=>rw [if_pos rfl] at h1 ⊢; exact h1 _ G1 H1 (.refl st1.sub) rfl
 | false=>rw [if_neg Bool.false_ne_true] at h1 ⊢; exact tG.last st1 h1
theorem ze (ha:QB X a gt):QB X (.UnaryOp .Not a pos) (fun ρ=>gt ρ>>=fun k=>.ok (!k)):=by
 intro pins s σ H Q I h
 refine EO ha pins s σ H Q I ?_
 obtain ⟨G,ρ,st,h⟩:=h
 refine tG.intro st h fun x v G1 H1 u1 st1 r1 h1=>?_
 subst r1
 exact h1 _ G1 H1 (.refl st1.sub) rfl
def gIf (gt:Ev->R Bool) (ga gb:Ev->R D):Ev->R D:=fun ρ=>gt ρ>>=fun k=>if k=true then ga ρ else gb ρ
theorem Bp (hc:QB X c gt) (ha:QF X a ga) (hb:QF X b gb):QF X (.IfExp c a b pos) (gIf gt ga gb):=by
 intro pins s σ H Q I h
 refine yI hc ha hb pins s σ H Q I ?_
 obtain ⟨G,ρ,st,h⟩:=h
 refine tG.intro st h fun x v G1 H1 u1 st1 r1 h1=>?_
 subst r1
 cases v with
 | true=>rw [if_pos rfl] at h1 ⊢; exact tG.last st1 h1
 | false=>rw [if_neg Bool.false_ne_true] at h1 ⊢; exact tG.last st1 h1
theorem pF:QFA X [] (fun _=>.ok []):=by
 intro pos pins s σ H Q I h
 obtain ⟨G,ρ,st,h⟩:=h
 exact kQ pos pins s σ H Q I (h [] G H (.refl st.sub) .nil)
theorem uh (ha:QF X e ga) (hr:QFA X es gl) (hs:starEach (e::es) X.env=(false,eval e X.env)::starEach es X.env:=by rfl):QFA X (e::es) (fun ρ=>ga ρ>>=fun x=>gl ρ>>=fun xs=>.ok (x::xs)):=by
 intro pos pins s σ H Q I h
 refine ee ha hr hs pos pins s σ H Q I ?_
 obtain ⟨G,ρ,st,h⟩:=h
 refine tG.intro st h fun x v G1 H1 u1 st1 r1 h1=>?_
 refine tG.intro st1 h1 fun y w G2 H2 u2 st2 r2 h2=>?_
 exact h2 _ G2 H2 (.refl st2.sub) (.cons (r1.mono u2.gg) r2)
def mkT (ds:List D):R D:=if ds.length<=sizeLine then .ok (.tup ds) else .no
theorem za {k:Nat} (h:QFA X es gl):QF X (.Tuple es k pos) (fun ρ=>gl ρ>>=mkT):=by
 intro pins s σ H Q I hq
 refine DS h pins s σ H Q I ?_
 obtain ⟨G,ρ,st,hq⟩:=hq
 refine tG.intro st hq fun ds vs G1 H1 u1 st1 r1 h1=>?_
 unfold mkT at h1
 split at h1
 ·rename_i hz
  exact ⟨by rw [r1.length]; exact hz,fun p hp=>h1 _ _ _ (.new st1.sub hp) (.tup (.of bc) (r1.mono (.into (st1.sub.free hp))))⟩
 ·exact h1.elim
theorem Ak {c:Nat}:[c].length<=sizeLine:=by show 1<=sizeLine; decide
def ixD:D->D->Option D
 | .lst _ xs,.int i=>atI xs i
 | .tup xs,.int i=>atI xs i
 | .str x,.int i=>(atI x i).map fun c=>.str [c]
 | _,_=>none
theorem Reps.atI {K:PySem.W.Frag} {G:Hp} {vs:List V} {ds:List D} {i:Int} {d:D} (r:Reps K G vs ds) (h:atI ds i=some d):∃ v,atI vs i=some v/\Rep K G v d:=by
 unfold L2.atI at h ⊢
 rw [r.length]
 cases e:ixN ds.length i with
 | none=>rw [e] at h; cases h
 | some j=>rw [e] at h; exact r.get h
theorem FY (K:PySem.W.Frag):ROk K (rIx K) ixD:=by
 intro G H x y dx dy d Q s rx ry e q
 unfold ixD at e
 split at e
 ·obtain ⟨a,vs,rfl,h,r⟩:=rx.seq_inv
  obtain ⟨v,e1,r1⟩:=r.atI e
  exact .inl ⟨a,vs,_,v,rfl,ry.int_inv,h.mono s,e1,q v G H (.refl s) r1⟩
 ·obtain ⟨a,vs,rfl,h,r⟩:=rx.tup_inv
  obtain ⟨v,e1,r1⟩:=r.atI e
  exact .inr (.inl ⟨a,vs,_,v,rfl,ry.int_inv,h.mono s,e1,q v G H (.refl s) r1⟩)
 ·rename_i z i
  obtain ⟨y',rfl,ey,hy⟩:=rx.str_inv
  subst ey
  cases e1:L2.atI y'.cps.toList i with
  | none=>rw [e1] at e; cases e
  | some c=>
   rw [e1] at e
   cases e
   exact .inr (.inr ⟨y',i,c,rfl,ry.int_inv,hy,e1,q _ G H (.refl s) (.strL (by simp) Ak)⟩)
 ·cases e
theorem Bn (ha:QF X a ga) (hb:QF X b gb) (hs:lK b:=by exact fun _ _=>rfl):QF X (.Subscript a b pos) (g2 ixD ga gb):=
 fun pins s σ H Q I h=>E6 EB ha hb hs pins s σ H Q I (yV (FY _) h)
end
end L2
namespace L2
open PySem PySem.Spec PyProof.Rows
def io {α:Type} (xs:List α) (lo hi:Option Int):List α:=(xs.drop (HT.sIx xs.length 0 lo)).take (HT.sIx xs.length xs.length hi - HT.sIx xs.length 0 lo)
theorem A4 {α:Type} (xs:List α) (lo hi:Option Int):(io xs lo hi).length<=xs.length:=by
 unfold io
 rw [List.length_take,List.length_drop]
 omega
theorem Reps.cut {K:PySem.W.Frag} {G:Hp} {vs:List V} {ds:List D} (r:Reps K G vs ds) (lo hi:Option Int):Reps K G (AA vs lo hi) (io ds lo hi):=by
 unfold AA io
 rw [r.length]
 exact (r.drop _).take _
section
variable {X:Cx} {a b c e:Expr} {es cq:List Expr} {lo hi:Option Expr} {ga gb gc:Ev->R D} {go gp:Ev->R (Option Int)} {gl:Ev->R (List D)} {pos p2:Pos}
def Dx (K:PySem.W.Frag):V->Option Int->Option Int->Hp->VK->Prop:=fun x lo hi H Q=>∃ a xs,x=.ref a/\SqT K H a xs/\
 (HT.sIx xs.length 0 lo=0/\HT.sIx xs.length xs.length hi=xs.length)/\Q (.ref a) H
theorem sl_tup_whole:SlR X (Dx X.K):=by
 intro pins s σ H x v vl vu lo hi sl Q I rx hs pl pu h
 obtain ⟨a,xs,rfl,hx,⟨hw1,hw2⟩,q⟩:=h
 cases rx
 obtain ⟨its,r,ht,hz⟩:=I.tuple hx
 have hlen:its.toArray.size=xs.length:=by rw [List.size_toArray]; exact r.length.symm
 refine ⟨"tuple",_,PyProof.Rows.slot_tuple_getitem.lookup,ht.typeIs,?_⟩
 obtain ⟨os,hos,hcs,hds⟩:=id hs
 have hTs:s.TypeIs (.ref sl) "slice":=⟨os,hos,hcs⟩
 unfold getItem
 try with_reducible refine wpAny_holding ?_
 first | refine wpAny_bind (wpAny_pure ?_) | skip
 refine wpAny_bind (wpAny_sequenceKey ht.typeIs (by decide) ?_)
 refine wpAny_bind (wpAny_callSpecial?_slot (name:=Str.ofString "__getitem__") ht.typeIs PyProof.Rows.slot_tuple_getitem
  (wpAny_call_entry PyProof.Rows.slot_tuple_getitem ht.typeIs entry_tuple_getitem ?_ (args_tuple_getitem _ _)))
 show wpAny _ _ (Builtin.Tuple.tupleItemsOf (.ref a)>>=_) _ _ s
 refine wpAny_bind (tupleItemsOf_ ht ?_)
 refine wpAny_bind (wpAny_typeOf hTs ?_)
 rw [if_pos (by decide)]
 refine wpAny_bind (HT.sliceApplied_gen hs pl pu ?_)
 rw [hlen,hw1,hw2]
 dsimp only
 rw [if_pos (by simp)]
 have fin:EP X pins σ Q (.ref a) s:=⟨.ref a,H,I,rfl,q⟩
 obtain ⟨o,ho,hc,n,hd⟩:=id ht
 unfold Builtin.Tuple.tupleIsExact
 refine wpAny_bind (wpAny_bind (wpAny_typeOf ht.typeIs (wpAny_pure ?_)))
 rw [if_pos (by decide)]
 exact wpAny_bind (wpAny_rule (wpAny_pure ⟨_,rfl,wpAny_pure fin⟩))
theorem Fr {α:Type} (xs:List α) (a:Nat):∀ k:Nat,((List.range k).map (a + ·)).filterMap (fun i:Nat=>xs[i]?)=(xs.drop a).take k
 | 0=>by simp
 | k+1=>by
  rw [List.range_succ,List.map_append,List.filterMap_append,Fr xs a k,List.take_add_one,List.getElem?_drop]
  congr 1
  try (simp only [List.map_cons,List.map_nil,List.filterMap_cons,List.filterMap_nil]; cases xs[a+k]? <;> rfl)
theorem tf (n d:Nat) (v:Option Int):(match v with | none=>(d:Int) | some i=>max 0 (min (if i < 0 then i+(n:Int) else i) (n:Int)))=((HT.sIx n d v:Nat):Int):=by
 cases v with
 | none=>rfl
 | some i=>
  show max 0 (min (if i < 0 then i+(n:Int) else i) (n:Int))=(((if i < 0 then (i+(n:Int)).toNat else min i.toNat n):Nat):Int)
  split <;> omega
theorem BR (lo hi:Option Int) (n:Nat):Builtin.Str.strSliceIndices lo hi 1 n=(List.range (HT.sIx n n hi - HT.sIx n 0 lo)).map (HT.sIx n 0 lo + ·):=by
 have e:Builtin.Str.strSliceIndices lo hi 1 n=sliceRange ((HT.sIx n 0 lo:Nat):Int) ((HT.sIx n n hi:Nat):Int) 1:=by
  rw [<- tf n 0 lo,<- tf n n hi]
  rfl
 rw [e]
 generalize HT.sIx n 0 lo=a
 generalize HT.sIx n n hi=b
 unfold sliceRange
 have hc:(if (1:Int) > 0 then (if (a:Int) < (b:Int) then ((b:Int) - (a:Int)+1 - 1) / 1 else 0) else (if (a:Int) > (b:Int) then ((a:Int) - (b:Int) - 1 - 1) / (-1) else 0)).toNat=b - a:=by
  rw [if_pos (by decide)]
  split
  ·rw [Int.ediv_one]; omega
  ·omega
 simp only [hc]
 apply List.map_congr_left
 intro k _
 omega
theorem xR (x:Str) (lo hi:Option Int):(Txt.slice x lo hi).cps.toList=io x.cps.toList lo hi:=by
 have hn:x.cps.toList.length=x.length:=Str.len_list x
 unfold Txt.slice io
 rw [hn,BR]
 have hb:HT.sIx x.length x.length hi<=x.length:=HT.sIx_le _ _ (Nat.le_refl _) hi
 by_cases hc:((1:Int)==1 && ((List.range (HT.sIx x.length x.length hi - HT.sIx x.length 0 lo)).map (HT.sIx x.length 0 lo + ·)).length==x.length)=true
 ·rw [if_pos hc]
  have h2:HT.sIx x.length x.length hi - HT.sIx x.length 0 lo=x.length:=by simpa using hc
  have h3:HT.sIx x.length 0 lo=0\/x.length=0:=by omega
  rw [h2]
  rcases h3 with h3 | h3
  ·rw [h3,List.drop_zero,<- hn,List.take_length]
  ·have:x.cps.toList=[]:=List.eq_nil_of_length_eq_zero (by rw [hn]; exact h3)
   rw [this]; simp
 ·rw [if_neg hc]
  have e:(fun i:Nat=>x.cps[i]?)=(fun i:Nat=>x.cps.toList[i]?):=by funext i; simp
  show (List.filterMap (fun i:Nat=>x.cps[i]?) _).toArray.toList=_
  rw [List.toList_toArray,e,Fr]
def Hh:V->Option Int->Option Int->Hp->VK->Prop:=fun x lo hi H Q=>∃ y:Str,x=.str y/\y.length<=sizeLine/\Q (.str (Txt.slice y lo hi)) H
theorem sl_str:SlR X Hh:=by
 intro pins s σ H x v vl vu lo hi sl Q I rx hs pl pu h
 obtain ⟨y,rfl,hz,q⟩:=h
 obtain ⟨t,rfl⟩:=rx
 refine ⟨"str",_,F.slot_str_getitem.lookup,typeIs_str _ _ _,?_⟩
 cases pl with
 | none=>
  cases pu with
  | none=>exact wpAny_getItem_str_slice (l:=none) (u:=none) (st:=none) hs rfl (post_val_or_str ⟨Nat.le_trans (Txt.slice_le y _ _) hz,fun t' k=>⟨.str _,H,I.tok k,⟨t',rfl⟩,q⟩⟩)
  | int j uj=>exact wpAny_getItem_str_slice (l:=none) (u:=some (j,uj)) (st:=none) hs rfl (post_val_or_str ⟨Nat.le_trans (Txt.slice_le y _ _) hz,fun t' k=>⟨.str _,H,I.tok k,⟨t',rfl⟩,q⟩⟩)
 | int i ui=>
  cases pu with
  | none=>exact wpAny_getItem_str_slice (l:=some (i,ui)) (u:=none) (st:=none) hs rfl (post_val_or_str ⟨Nat.le_trans (Txt.slice_le y _ _) hz,fun t' k=>⟨.str _,H,I.tok k,⟨t',rfl⟩,q⟩⟩)
  | int j uj=>exact wpAny_getItem_str_slice (l:=some (i,ui)) (u:=some (j,uj)) (st:=none) hs rfl (post_val_or_str ⟨Nat.le_trans (Txt.slice_le y _ _) hz,fun t' k=>⟨.str _,H,I.tok k,⟨t',rfl⟩,q⟩⟩)
def Dn (lo hi:Option Int):D->Option D
 | .str x=>some (.str (io x lo hi))
 | .tup xs=>some (.tup (io xs lo hi))
 | .lst _ xs=>some (.lst false (io xs lo hi))
 | _=>none
def rSl (K:PySem.W.Frag):V->Option Int->Option Int->Hp->VK->Prop:=fun x lo hi H Q=>Hh x lo hi H Q\/Dx K x lo hi H Q\/Ht K x lo hi H Q\/Hc K x lo hi H Q
theorem E4:SlR X (rSl X.K):=sl_str.or (sl_tup_whole.or (sl_tup.or Dg))
def QFO (X:Cx) (o:Option Expr) (g:Ev->R (Option Int)):Prop:=PO X o (tG X (fun _ b c=>b=c) g)
theorem um:QFO X none (fun _=>.ok none):=by
 intro pins s σ H Q I h
 obtain ⟨G,ρ,st,h⟩:=h
 exact AZ pins s σ H Q I (h none G H (.refl st.sub) rfl)
def asI:D->R Int
 | .int i=>.ok i
 | _=>.no
theorem uV (h:QF X e ga):QFO X (some e) (fun ρ=>ga ρ>>=fun x=>asI x>>=fun i=>.ok (some i)):=by
 intro pins s σ H Q I hq
 refine CI h pins s σ H Q I ?_
 obtain ⟨G,ρ,st,hq⟩:=hq
 refine tG.intro st hq fun x v G1 H1 u1 st1 r1 h1=>?_
 cases r1 with
 | int i=>exact ⟨i,rfl,h1 (some i) G1 H1 (.refl st1.sub) rfl⟩
 | _=>exact h1.elim
def gSl (ga:Ev->R D) (go gp:Ev->R (Option Int)):Ev->R D:=fun ρ=>ga ρ>>=fun x=>go ρ>>=fun l=>gp ρ>>=fun u=>ofO (Dn l u x)
theorem ul (ha:QF X a ga) (hl:QFO X lo go) (hu:QFO X hi gp):QF X (.Subscript a (.Slice lo hi none p2) pos) (gSl ga go gp):=by
 intro pins s σ H Q I h
 refine yG E4 ha hl hu pins s σ H Q I ?_
 obtain ⟨G,ρ,st,h⟩:=h
 refine tG.intro st h fun x v G1 H1 u1 st1 r1 h1=>?_
 refine tG.intro st1 h1 fun l l' G2 H2 u2 st2 r2 h2=>?_
 subst r2
 refine tG.intro st2 h2 fun u u' G3 H3 u3 st3 r3 h3=>?_
 subst r3
 obtain ⟨d,e,q⟩:=ofO.ok h3
 have r:=(r1.mono u2.gg).mono u3.gg
 unfold Dn at e
 split at e
 ·cases e
  obtain ⟨y,rfl,ey,hy⟩:=r.str_inv
  subst ey
  exact .inl ⟨y,rfl,hy,q _ G3 H3 (.refl st3.sub) (.strL (xR y _ _) (Nat.le_trans (A4 _ _ _) (by rw [Str.len_list]; exact hy)))⟩
 ·rename_i xs0
  cases e
  obtain ⟨a,vs,rfl,h,t⟩:=r.tup_inv
  by_cases hw:HT.sIx vs.length 0 l'=0/\HT.sIx vs.length vs.length u'=vs.length
  ·refine .inr (.inl ⟨a,vs,rfl,h.mono st3.sub,hw,q _ G3 H3 (.refl st3.sub) ?_⟩)
   have e1:io xs0 l' u'=xs0:=by
    unfold io
    rw [<- t.length,hw.1,hw.2,List.drop_zero,Nat.sub_zero,t.length,List.take_length]
   rw [e1]
   exact .tup h t
  ·exact .inr (.inr (.inl ⟨a,vs,rfl,h.mono st3.sub,hw,fun p hp=>q _ _ _ (.new st3.sub hp) (.tup (.of bc) ((t.cut _ _).mono (.into (st3.sub.free hp))))⟩))
 ·cases e
  obtain ⟨a,vs,rfl,h,t⟩:=r.seq_inv
  exact .inr (.inr (.inr ⟨a,vs,rfl,h.mono st3.sub,fun p hp=>q _ _ _ (.new st3.sub hp) (.lst bc ((t.cut _ _).mono (.into (st3.sub.free hp))))⟩))
 ·cases e
def AH (K:PySem.W.Frag) (r:List V->Hp->VK->Prop) (f:List D->Option D):Prop:=∀ (G H:Hp) (xs:List V) (ds:List D) (d:D) (Q:VK),Same G H->Reps K G xs ds->f ds=some d->Fin G H (Rep K) Q d->r xs H Q
theorem fW {id:String} {x:Str} {p:Pos} {r:List V->Hp->VK->Prop} {f:List D->Option D} (hc:im X (.builtin id) r) (hf:AH X.K r f) (hg:Gl X x) (hm:X.mg x=none) (hv:bootBuiltins x=some (.builtin id)) (ha:QFA X (e::es) gl)
  (hn:x ≠ "__name__":=by decide) (hdb:(x==("__debug__":Str))=false:=by decide)
  (he:starEach (e::es) X.env=(false,eval e X.env)::starEach es X.env:=by rfl) (hpl:(backTo pos (starEach es X.env)).any (·.1)=false:=by rfl):QF X (.Call (.Name x p) (e::es) [] pos) (fun ρ=>gl ρ>>=fun ds=>ofO (f ds)):=by
 intro pins s σ H Q I h
 refine nX hc hg hm hv ha hn hdb he hpl pins s σ H Q I ?_
 obtain ⟨G,ρ,st,h⟩:=h
 refine tG.intro st h fun ds vs G1 H1 u1 st1 r1 h1=>?_
 obtain ⟨d,e,q⟩:=ofO.ok h1
 exact hf G1 H1 vs ds d Q st1.sub r1 e q
theorem lP {T:String} {x:Str} {p:Pos} {r:List V->Hp->VK->Prop} {f:List D->Option D} (hc:im X (.type T) r) (hf:AH X.K r f) (hg:Gl X x) (hm:X.mg x=none) (hv:bootBuiltins x=some (.type T)) (ha:QFA X (e::es) gl)
  (hn:x ≠ "__name__":=by decide) (hdb:(x==("__debug__":Str))=false:=by decide)
  (he:starEach (e::es) X.env=(false,eval e X.env)::starEach es X.env:=by rfl) (hpl:(backTo pos (starEach es X.env)).any (·.1)=false:=by rfl):QF X (.Call (.Name x p) (e::es) [] pos) (fun ρ=>gl ρ>>=fun ds=>ofO (f ds)):=by
 intro pins s σ H Q I h
 refine wK hc hg hm hv ha hn hdb he hpl pins s σ H Q I ?_
 obtain ⟨G,ρ,st,h⟩:=h
 refine tG.intro st h fun ds vs G1 H1 u1 st1 r1 h1=>?_
 obtain ⟨d,e,q⟩:=ofO.ok h1
 exact hf G1 H1 vs ds d Q st1.sub r1 e q
theorem Reps.one {K:PySem.W.Frag} {G:Hp} {vs:List V} {d:D} (r:Reps K G vs [d]):∃ v,vs=[v]/\Rep K G v d:=by
 cases r with
 | cons r t=>cases t; exact ⟨_,rfl,r⟩
theorem Reps.two {K:PySem.W.Frag} {G:Hp} {vs:List V} {d d':D} (r:Reps K G vs [d,d']):∃ v w,vs=[v,w]/\Rep K G v d/\Rep K G w d':=by
 cases r with
 | cons r t=>obtain ⟨w,rfl,r'⟩:=t.one; exact ⟨_,w,rfl,r,r'⟩
def fc:List D->Option D
 | [.str x]=>some (.int x.length)
 | [.tup xs]=>some (.int xs.length)
 | [.lst _ xs]=>some (.int xs.length)
 | _=>none
theorem yb {p:Pos} (hg:Gl X "len") (hm:X.mg "len"=none) (ha:QFA X [e] gl) (he:starEach [e] X.env=[(false,eval e X.env)]:=by rfl):QF X (.Call (.Name "len" p) [e] [] pos) (fun ρ=>gl ρ>>=fun ds=>ofO (fc ds)):=
 fW zK (by
  intro G H xs ds d Q s r e q
  unfold fc at e
  split at e
  ·cases e
   obtain ⟨v,rfl,r1⟩:=r.one
   obtain ⟨y,rfl,ey,hy⟩:=r1.str_inv
   subst ey
   exact ⟨_,y.length,rfl,⟨hy,rfl⟩,by rw [<- Str.len_list]; exact q _ G H (.refl s) (.int _)⟩
  ·cases e
   obtain ⟨v,rfl,r1⟩:=r.one
   obtain ⟨a,vs,rfl,h,t⟩:=r1.tup_inv
   exact ⟨_,vs.length,rfl,.inr ⟨vs,h.mono s,rfl⟩,by rw [t.length]; exact q _ G H (.refl s) (.int _)⟩
  ·cases e
   obtain ⟨v,rfl,r1⟩:=r.one
   obtain ⟨a,vs,rfl,h,t⟩:=r1.seq_inv
   exact ⟨_,vs.length,rfl,.inl ⟨vs,h.mono s,rfl⟩,by rw [t.length]; exact q _ G H (.refl s) (.int _)⟩
  ·cases e) hg hm PySem.boot_len ha (he:=by rw [he]; rfl)
def Ez:List D->Option D
 | [.int i,.int j]=>some (.int (if j < i then j else i))
 | _=>none
theorem DN (K:PySem.W.Frag):AH K (fun xs H Q=>∃ i j,xs=[.int i,.int j]/\Q (.int (if j < i then j else i)) H) Ez:=by
 intro G H xs ds d Q s r e q
 unfold Ez at e
 split at e
 ·cases e
  obtain ⟨v,w,rfl,r1,r2⟩:=r.two
  obtain rfl:=r1.int_inv
  obtain rfl:=r2.int_inv
  exact ⟨_,_,rfl,q _ G H (.refl s) (.int _)⟩
 ·cases e
def ko:List D->Option D
 | [.lst _ xs]=>some (.tup xs)
 | [.tup xs]=>some (.tup xs)
 | _=>none
theorem yw (K:PySem.W.Frag):AH K (fun xs H Q=>∃ p ys,xs=[.ref p]/\((SqL K H p ys/\∀ l,H l=none->Q (.ref l) (upd H l (.tup ys)))\/(SqT K H p ys/\Q (.ref p) H))) ko:=by
 intro G H xs ds d Q s r e q
 unfold ko at e
 split at e
 ·cases e
  obtain ⟨v,rfl,r1⟩:=r.one
  obtain ⟨a,vs,rfl,h,t⟩:=r1.seq_inv
  exact ⟨a,vs,rfl,.inl ⟨h.mono s,fun l hl=>q _ _ _ (.new s hl) (.tup (.of bc) (t.mono (.into (s.free hl))))⟩⟩
 ·cases e
  obtain ⟨v,rfl,r1⟩:=r.one
  obtain ⟨a,vs,rfl,h,t⟩:=r1.tup_inv
  exact ⟨a,vs,rfl,.inr ⟨h.mono s,q _ G H (.refl s) (.tup h t)⟩⟩
 ·cases e
end
end L2
namespace L2
open PySem PySem.Spec PyProof.Rows
def ItOk (K:PySem.W.Frag) (G₁:Hp) (J:It) (items:List D):Prop:=∀ (i:Nat) (G H:Hp),Same G₁ G->Same G H->
 (∀ d,items[i]?=some d->J.go i H/\∀ x H',J.yld i H x H'->∃ G',Up G H G' H'/\Rep K G' x d)/\(items.length<=i->J.stop i H)
def QIF (X:Cx) (tg iter:Expr) (g:Ev->R (List D)):Prop:=PI X tg iter (tG X (fun G J items=>ItOk X.K G J items) g)
def Its (x:Str):It:=⟨fun i _=>i < x.cps.size,fun i H v H'=>H'=H/\∃ c,x.cps[i]?=some c/\v=.str ⟨#[c]⟩,fun i _=>x.cps.size<=i⟩
section
variable {X:Cx} {tg a e:Expr} {ga:Ev->R D} {gl:Ev->R (List D)} {pos:Pos}
theorem xq {pins:List (Addr × Obj)} {σ:St} {H:Hp} {s:Shared} {l:Addr} {xs:List V} {Rr:It->Hp->Prop} (I:Inv X pins σ H s) (h:SqL X.K H l xs) (q:Rr (Itl X.K l) H) :
  wpAny (model X.prog X.w) X.A (pyIter (.ref l)) (PIE X pins σ tg Rr) X.xe s:=by
 obtain ⟨its,rv,p,hz⟩:=I.list h
 refine wpAny_pyIter_list p.isList ?_
 refine ⟨s.heap.objs.size,[s.heap.objs.size],_,_,H,rfl,I.kept (t':=s.toks) fun b o e=>Heap.get?_push_of_some _ e,xF l _,⟨_,Heap.get?_push_size _ rfl,rfl,rfl⟩,fun b hb=>?_,q⟩
 have e:b=s.heap.objs.size:=by simpa using hb
 subst e
 exact I.fpOk (Nat.le_refl _) (I.hok.fresh (Nat.le_refl _))
theorem EZ {pins:List (Addr × Obj)} {σ:St} {H:Hp} {s:Shared} {l:Addr} {xs:List V} {Rr:It->Hp->Prop} (I:Inv X pins σ H s) (h:SqT X.K H l xs) (q:Rr (Itt X.K l) H) :
  wpAny (model X.prog X.w) X.A (pyIter (.ref l)) (PIE X pins σ tg Rr) X.xe s:=by
 obtain ⟨its,rv,p,hz⟩:=I.tuple h
 refine wpAny_pyIter_tuple (show s.heap.IsTuple l its.toArray from p) ?_
 refine ⟨s.heap.objs.size,[s.heap.objs.size],_,_,H,rfl,I.kept (t':=s.toks) fun b o e=>Heap.get?_push_of_some _ e,ua l _,⟨_,Heap.get?_push_size _ rfl,rfl,rfl⟩,fun b hb=>?_,q⟩
 have e:b=s.heap.objs.size:=by simpa using hb
 subst e
 exact I.fpOk (Nat.le_refl _) (I.hok.fresh (Nat.le_refl _))
theorem ud {P:Program} {w:World} {K:PySem.W.Frag} {tg:Expr} (it:Addr) (x:Str) (t:Tok):Turn P w K tg (Its x) [it] it (fun i h=>h.IsStrIter it "str_ascii_iterator" x t i) where
 mem:=by simp
 obj:=fun i h st b hb=>by
  have e:b=it:=by simpa using hb
  subst e
  obtain ⟨o,e,c,d⟩:=st
  exact ⟨o,e,fun v z=>by rw [d] at z; cases z⟩
 keep:=fun i h h' st k=>let ⟨o,ho,r⟩:=st; ⟨o,k it (by simp) o ho,r⟩
 item:=by
  intro X hP hw hK hc i pins s σ H E I hf st hg
  subst hP hw hK
  have hg':i < x.cps.size:=hg
  obtain ⟨f0,f1,f2,f3,f4,f5⟩:=hf it (by simp)
  refine wpAny_pyNext_ascii_item st (c:=x.cps[i]) (by simp [hg']) fun h' st' sb=>?_
  have I1:Inv X pins σ H { s with heap:=h',toks:=s.toks+1 }:=I.turned (t':=s.toks+1) (fun b o hb e=>(sb.2 b hb).trans e) f0 f1 f3 f4 f5
  obtain ⟨o,e,c,d⟩:=id st'
  exact ⟨_,rfl,vU (s:={ s with heap:=h',toks:=s.toks+1 }) e c d (by decide) ⟨.str ⟨#[x.cps[i]]⟩,H,I1,⟨_,rfl⟩,⟨rfl,_,by simp [hg'],rfl⟩,st',fun b hb=>(hf b hb).1⟩⟩
 done:=by
  intro X hP hw hK hc i pins s σ H E I hf st hg
  subst hP hw hK
  obtain ⟨f0,f1,f2,f3,f4,f5⟩:=hf it (by simp)
  have hg':x.cps.size<=i:=hg
  exact wpAny_pyNext_ascii_end (I.ok.hd hc) st (by simp; omega) fun h' eb=>⟨rfl,I.turned (t':=s.toks) (fun b o hb e=>eb b o hb e) f0 f1 f3 f4 f5⟩
 self:=fun _ _ _ _ _ st h=>wpAny_pyIter_striter_ascii st h
theorem xx {P:Program} {w:World} {K:PySem.W.Frag} {tg:Expr} (it:Addr) (x:Str) (t:Tok):Turn P w K tg (Its x) [it] it (fun i h=>h.IsStrIter it "str_iterator" x t i) where
 mem:=by simp
 obj:=fun i h st b hb=>by
  have e:b=it:=by simpa using hb
  subst e
  obtain ⟨o,e,c,d⟩:=st
  exact ⟨o,e,fun v z=>by rw [d] at z; cases z⟩
 keep:=fun i h h' st k=>let ⟨o,ho,r⟩:=st; ⟨o,k it (by simp) o ho,r⟩
 item:=by
  intro X hP hw hK hc i pins s σ H E I hf st hg
  subst hP hw hK
  have hg':i < x.cps.size:=hg
  obtain ⟨f0,f1,f2,f3,f4,f5⟩:=hf it (by simp)
  refine wpAny_pyNext_wide_item st (c:=x.cps[i]) (by simp [hg']) fun h' st' sb=>?_
  have I1:Inv X pins σ H { s with heap:=h',toks:=s.toks+1 }:=I.turned (t':=s.toks+1) (fun b o hb e=>(sb.2 b hb).trans e) f0 f1 f3 f4 f5
  obtain ⟨o,e,c,d⟩:=id st'
  exact ⟨_,rfl,vU (s:={ s with heap:=h',toks:=s.toks+1 }) e c d (by decide) ⟨.str ⟨#[x.cps[i]]⟩,H,I1,⟨_,rfl⟩,⟨rfl,_,by simp [hg'],rfl⟩,st',fun b hb=>(hf b hb).1⟩⟩
 done:=by
  intro X hP hw hK hc i pins s σ H E I hf st hg
  subst hP hw hK
  obtain ⟨f0,f1,f2,f3,f4,f5⟩:=hf it (by simp)
  have hg':x.cps.size<=i:=hg
  exact wpAny_pyNext_wide_end (I.ok.hd hc) st (by simp; omega) fun h' eb=>⟨rfl,I.turned (t':=s.toks) (fun b o hb e=>eb b o hb e) f0 f1 f3 f4 f5⟩
 self:=fun _ _ _ _ _ st h=>wpAny_pyIter_striter_wide st h
theorem DU {pins:List (Addr × Obj)} {σ:St} {H:Hp} {s:Shared} {x:Str} {t:Tok} {Rr:It->Hp->Prop} (I:Inv X pins σ H s) (q:Rr (Its x) H) :
  wpAny (model X.prog X.w) X.A (pyIter (.str x t)) (PIE X pins σ tg Rr) X.xe s:=by
 have fp:∀ (o:Obj),∀ b ∈ [s.heap.objs.size],uQ X pins H b:=fun o b hb=>by
  have e:b=s.heap.objs.size:=by simpa using hb
  subst e
  exact I.fpOk (Nat.le_refl _) (I.hok.fresh (Nat.le_refl _))
 cases ha:x.cps.all (· < 128)
 ·refine wpAny_pyIter_wide ha ⟨s.heap.objs.size,[s.heap.objs.size],_,_,H,rfl,I.kept (t':=s.toks) fun b o e=>Heap.get?_push_of_some _ e,xx _ x t,⟨_,Heap.get?_push_size _ rfl,rfl,rfl⟩,fp default,q⟩
 ·refine wpAny_pyIter_ascii ha ⟨s.heap.objs.size,[s.heap.objs.size],_,_,H,rfl,I.kept (t':=s.toks) fun b o e=>Heap.get?_push_of_some _ e,ud _ x t,⟨_,Heap.get?_push_size _ rfl,rfl,rfl⟩,fp default,q⟩
def bw:D->R (List D)
 | .lst _ xs=>.ok xs
 | .tup xs=>.ok xs
 | .str x=>.ok (x.map fun c=>.str [c])
 | _=>.no
theorem ItOk.list {K:PySem.W.Frag} {G:Hp} {l:Addr} {vs:List V} {ds:List D} (h:SqL K G l vs) (r:Reps K G vs ds):ItOk K G (Itl K l) ds:=by
 intro i G1 H1 s1 s2
 refine ⟨fun d e=>?_,fun hl=>⟨vs,(h.mono s1).mono s2,by rw [r.length]; exact hl⟩⟩
 obtain ⟨v,ev,rv⟩:=r.get e
 refine ⟨⟨vs,v,(h.mono s1).mono s2,ev⟩,fun x H' y=>?_⟩
 obtain ⟨rfl,y⟩:=y
 have:=y vs ((h.mono s1).mono s2)
 rw [ev] at this
 cases this
 exact ⟨G1,.refl s2,rv.mono s1⟩
theorem ItOk.tup {K:PySem.W.Frag} {G:Hp} {l:Addr} {vs:List V} {ds:List D} (h:SqT K G l vs) (r:Reps K G vs ds):ItOk K G (Itt K l) ds:=by
 intro i G1 H1 s1 s2
 refine ⟨fun d e=>?_,fun hl=>⟨vs,(h.mono s1).mono s2,by rw [r.length]; exact hl⟩⟩
 obtain ⟨v,ev,rv⟩:=r.get e
 refine ⟨⟨vs,v,(h.mono s1).mono s2,ev⟩,fun x H' y=>?_⟩
 obtain ⟨rfl,y⟩:=y
 have:=y vs ((h.mono s1).mono s2)
 rw [ev] at this
 cases this
 exact ⟨G1,.refl s2,rv.mono s1⟩
theorem ItOk.str {K:PySem.W.Frag} {G:Hp} (x:Str):ItOk K G (Its x) (x.cps.toList.map fun c=>.str [c]):=by
 intro i G1 H1 s1 s2
 refine ⟨fun d e=>?_,fun hl=>show x.cps.size<=i by simpa using hl⟩
 rw [List.getElem?_map] at e
 cases ec:x.cps.toList[i]? with
 | none=>rw [ec] at e; cases e
 | some c=>
  rw [ec] at e
  cases e
  have hi:i < x.cps.size:=by
   have:=(List.getElem?_eq_some_iff.mp ec).1
   simpa using this
  refine ⟨hi,fun v H' y=>?_⟩
  obtain ⟨rfl,c',e',rfl⟩:=y
  have:c'=c:=by
   have h2:x.cps.toList[i]?=x.cps[i]?:=by simp
   rw [h2,e'] at ec
   exact Option.some.inj ec
  subst this
  exact ⟨G1,.refl s2,.strL rfl Ak⟩
theorem ItOk.range {K:PySem.W.Frag} {G:Hp} (lo:Int) (n:Nat):ItOk K G (Itr lo n) ((List.range n).map fun i=>.int (lo+(i:Nat))):=by
 intro i G1 H1 s1 s2
 refine ⟨fun d e=>?_,fun hl=>show n<=i by simpa using hl⟩
 rw [List.getElem?_map] at e
 by_cases hi:i < n
 ·rw [List.getElem?_range hi] at e
  cases e
  refine ⟨hi,fun v H' y=>?_⟩
  obtain ⟨rfl,rfl⟩:=y
  exact ⟨G1,.refl s2,.int _⟩
 ·rw [List.getElem?_eq_none (by simpa using hi)] at e
  cases e
theorem xV (ha:QF X a ga):QIF X tg a (fun ρ=>ga ρ>>=bw):=by
 intro pins s σ H Rr I h
 obtain ⟨G,ρ,st,h⟩:=h
 have t:tF X ga σ H (fun x H1=>∃ G1 d,Same G1 H1/\Rep X.K G1 x d/\(bw d).post (Fin G1 H1 (fun G J items=>ItOk X.K G J items) Rr) (Exx X σ G1 H1)):=
  tG.intro st h fun x v G1 H1 u1 st1 r1 h1=>⟨G1,x,st1.sub,r1,h1⟩
 refine thn (ha pins s σ H _ I t) fun v s1 ⟨x,H1,I1,r1,G1,d,sub,rd,h1⟩=>?_
 cases rd with
 | lst hh r=>cases r1; exact xq I1 (.of (sub _ _ hh)) (h1 _ G1 H1 (.refl sub) (.list (.of hh) r))
 | fls hh r=>cases r1; exact xq I1 (hh.mono sub) (h1 _ G1 H1 (.refl sub) (.list hh r))
 | tup hh r=>cases r1; exact EZ I1 (hh.mono sub) (h1 _ G1 H1 (.refl sub) (.tup hh r))
 | str y hy=>obtain ⟨t,rfl⟩:=r1; exact DU I1 (h1 _ G1 H1 (.refl sub) (.str y))
 | _=>exact h1.elim
def bD:List D->R (List D)
 | [.int j]=>if -(2 ^ 62)<=j/\j < 2 ^ 62 then .ok ((List.range j.toNat).map fun i=>.int (0+(i:Nat))) else .no
 | _=>.no
theorem pS {p:Pos} (hg:Gl X "range") (hm:X.mg "range"=none) (ha:QFA X [a] gl) (hs:starEach [a] X.env=[(false,eval a X.env)]:=by rfl):QIF X tg (.Call (.Name "range" p) [a] [] pos) (fun ρ=>gl ρ>>=bD):=by
 intro pins s σ H Rr I h
 refine vz hg hm ha hs pins s σ H Rr I ?_
 obtain ⟨G,ρ,st,h⟩:=h
 refine tG.intro st h fun ds vs G1 H1 u1 st1 r1 h1=>?_
 unfold bD at h1
 split at h1
 ·split at h1
  ·rename_i hj
   obtain ⟨v,rfl,r⟩:=r1.one
   obtain rfl:=r.int_inv
   exact ⟨_,rfl,hj.1,hj.2,h1 _ G1 H1 (.refl st1.sub) (.range 0 _)⟩
  ·exact h1.elim
 ·exact h1.elim
end
def ObSt (K:PySem.W.Frag) (H₀ G H:Hp) (σ:St) (ρ:Ev):Prop:=
 ∃ ow:hW,(∀ (i:Nat) ds l,ρ[i]?=some (some (.own ds))->σ[i]?=some (some (.ref l))->ow l=some (i,0))/\
  ∀ (i:Nat) m C p fs,ρ[i]?=some (some (.obj m C p fs))->σ[i]?=some (some (.ref p))/\ObjAt K H₀ G H ow i m C p fs
theorem ObSt.rd {K:PySem.W.Frag} {H₀ G H:Hp} {σ:St} {ρ:Ev} (h:ObSt K H₀ G H σ ρ):∀ (i:Nat) m C p fs,ρ[i]?=some (some (.obj m C p fs))->σ[i]?=some (some (.ref p))/\∃ ow,ObjAt K (fun _=>none) G H ow i m C p fs:=fun i m C p fs e=>by
 obtain ⟨ow,_,o2⟩:=h
 exact ⟨(o2 i m C p fs e).1,ow,(o2 i m C p fs e).2.rd⟩
def NoOwn (ρ:Ev):Prop:=∀ (j:Nat) (x:Sl),ρ[j]?=some (some x)->∃ d,x=.val d
theorem NoOwn.own {ρ:Ev} (h:NoOwn ρ) (j:Nat) (ds:List D):ρ[j]? ≠ some (some (.own ds)):=fun e=>by obtain ⟨d,z⟩:=h j _ e; cases z
theorem NoOwn.obj {ρ:Ev} (h:NoOwn ρ) (j:Nat) (m:Bool) (C p:Addr) (fs:List (Nat × Fd)):ρ[j]? ≠ some (some (.obj m C p fs)):=fun e=>by obtain ⟨d,z⟩:=h j _ e; cases z
theorem NoOwn.ob {K:PySem.W.Frag} {H₀ G H:Hp} {σ:St} {ρ:Ev} (h:NoOwn ρ):ObSt K H₀ G H σ ρ:=
 ⟨fun _=>none,fun i ds l e=>absurd e (h.own i ds),fun i m C p fs e=>absurd e (h.obj i m C p fs)⟩
structure StR (K:PySem.W.Frag) (G₀ H₀ G H:Hp) (σ:St) (ρ:Ev):Prop where
 e:StE K G H σ ρ
 sub0:Same G₀ H₀
 up:Up G₀ H₀ G H
 own:∀ (i:Nat) ds,ρ[i]?=some (some (.own ds))->∃ l vs,σ[i]?=some (some (.ref l))/\H l=some (.lst vs)/\G l=none/\H₀ l=none/\Reps K G vs ds
 inj:∀ (i j:Nat) ds es l,ρ[i]?=some (some (.own ds))->ρ[j]?=some (some (.own es))->σ[i]?=some (some (.ref l))->σ[j]?=some (some (.ref l))->i=j
 ob:ObSt K H₀ G H σ ρ
section
variable {K:PySem.W.Frag} {G₀ H₀ G H G' H':Hp} {σ:St} {ρ:Ev}
theorem StR.ups (s:StR K G₀ H₀ G H σ ρ) (u:Up G H G' H'):StR K G₀ H₀ G' H' σ ρ:=⟨s.e.up u,s.sub0,s.up.trans u,(fun i ds e=>by
 obtain ⟨l,vs,h1,h2,h3,h4,h5⟩:=s.own i ds e
 refine ⟨l,vs,h1,u.hh _ _ h2,?_,h4,h5.mono u.gg⟩
 cases q:G' l with
 | none=>rfl
 | some o=>
  rcases u.fr l o q with z | z
  ·rw [h3] at z; cases z
  ·rw [h2] at z; cases z),s.inj,by
 obtain ⟨ow,o1,o2⟩:=s.ob
 exact ⟨ow,o1,fun i m C p fs e=>⟨(o2 i m C p fs e).1,(o2 i m C p fs e).2.keep (.up u)⟩⟩⟩
theorem StR.set (s:StR K G₀ H₀ G H σ ρ) {v:V} {d:D} (r:Rep K G v d) (i:Nat):StR K G₀ H₀ G H (σ.set i (some v)) (ρ.set i (some (.val d))):=by
 have get:∀ (j:Nat) x,(ρ.set i (some (.val d)))[j]?=some (some x)->(j=i/\x=.val d/\i < σ.length)\/(j ≠ i/\ρ[j]?=some (some x)/\(σ.set i (some v))[j]?=σ[j]?):=fun j x h=>by
  by_cases e:i=j
  ·subst e
   have hl:i < ρ.length:=by
    have:=(List.getElem?_eq_some_iff.mp h).1
    simpa using this
   rw [List.getElem?_set_self hl] at h
   exact .inl ⟨rfl,by injection (Option.some.inj h) with q; exact q.symm,by rw [s.e.len]; exact hl⟩
  ·rw [List.getElem?_set_ne e] at h
   exact .inr ⟨fun z=>e z.symm,h,List.getElem?_set_ne e⟩
 have ob:ObSt K H₀ G H (σ.set i (some v)) (ρ.set i (some (.val d))):=by
  obtain ⟨ow,o1,o2⟩:=s.ob
  refine ⟨ow,fun j ds l h1 h2=>?_,fun j m C p fs h1=>?_⟩
  ·rcases get j _ h1 with ⟨_,e,_⟩ | ⟨_,e,e'⟩
   ·cases e
   ·exact o1 j ds l e (e' ▸ h2)
  ·rcases get j _ h1 with ⟨_,e,_⟩ | ⟨_,e,e'⟩
   ·cases e
   ·rw [e']; exact o2 j m C p fs e
 refine ⟨⟨s.e.sub,by simp [s.e.len],fun j d' h=>?_,ob.rd⟩,s.sub0,s.up,fun j ds h=>?_,fun j k ds es l h1 h2 h3 h4=>?_,ob⟩
 ·rcases get j _ h with ⟨rfl,e,hl⟩ | ⟨_,e,e'⟩
  ·cases e
   exact ⟨v,List.getElem?_set_self hl,r⟩
  ·rw [e']; exact s.e.val j d' e
 ·rcases get j _ h with ⟨_,e,_⟩ | ⟨_,e,e'⟩
  ·cases e
  ·rw [e']; exact s.own j ds e
 ·rcases get j _ h1 with ⟨_,e,_⟩ | ⟨_,e,e'⟩
  ·cases e
  ·rcases get k _ h2 with ⟨_,f,_⟩ | ⟨_,f,f'⟩
   ·cases f
   ·exact s.inj j k ds es l e f (e' ▸ h3) (f' ▸ h4)
end
def PGF (X:Cx) (tg:Expr) (asg:D->Ev->R Ev):Prop:=PG X tg (fun v σ H Q=>∃ G₀ H₀ G ρ d ρ',StR X.K G₀ H₀ G H σ ρ/\Rep X.K G v d/\asg d ρ=.ok ρ'/\∀ σ',StR X.K G₀ H₀ G H σ' ρ'->Q σ' H)
section
variable {X:Cx} {pos:Pos}
def fZ (i:Nat):D->Ev->R Ev:=fun d ρ=>.ok (ρ.set i (some (.val d)))
theorem cy (i:Nat) {x:Str} (hN:X.N.Nodup) (hi:X.N[i]?=some x:=by rfl) (hx:Loc X.env.scope x:=by first | exact Or.inl rfl | exact Or.inr rfl)
  (hf:X.fn x=true\/X.env.scope.names.lookup x=some .local:=by first | exact .inl rfl | exact .inr rfl):PGF X (.Name x pos) (fZ i):=by
 intro pins s σ H v u Q I r h
 obtain ⟨G₀,H₀,G,ρ,d,ρ',st,rd,e,q⟩:=h
 cases e
 exact rZ hN hi hx hf pins s σ H v u Q I r (q _ (st.set rd i))
end
end L2
namespace L2
open PySem PySem.Spec PyProof.Rows
def oV (K:PySem.W.Frag) (G H:Hp) (Q:VK):List D->Prop:=fun ds=>∀ l vs G' H',Up G H G' H'->H' l=none->Reps K G' vs ds->Q (.ref l) (upd H' l (.lst vs))
def tL (X:Cx) (g:Ev->R (List D)):TE:=fun σ H Q=>∃ G ρ,StE X.K G H σ ρ/\(g ρ).post (oV X.K G H Q) (Exx X σ G H)
def QFL (X:Cx) (e:Expr) (g:Ev->R (List D)):Prop:=PE X e (tL X g)
theorem ny {X:Cx} {e:Expr} {g:Ev->R (List D)} (h:QFL X e g):QF X e (fun ρ=>g ρ>>=fun ds=>.ok (.lst false ds)):=by
 intro pins s σ H Q I hq
 refine h pins s σ H Q I ?_
 obtain ⟨G,ρ,st,hq⟩:=hq
 try dsimp only at hq
 refine ⟨G,ρ,st,?_⟩
 cases e:g ρ with
 | ok ds=>
  rw [e] at hq
  intro l vs G' H' u hl r
  exact hq _ _ _ (u.trans (.new u.sub hl)) (.lst bc (r.mono (.into (u.sub.free hl))))
 | ex C=>rw [e] at hq; exact hq
 | no=>rw [e] at hq; exact hq
theorem vo {X:Cx} {es:List Expr} {gl:Ev->R (List D)} {pos:Pos} (h:QFA X es gl):QFL X (.List es pos) (fun ρ=>gl ρ>>=fun ds=>if ds.length<=sizeLine then .ok ds else .no):=by
 intro pins s σ H Q I hq
 refine Em h pins s σ H Q I ?_
 obtain ⟨G,ρ,st,hq⟩:=hq
 try dsimp only at hq
 refine ⟨G,ρ,st,?_⟩
 cases e:gl ρ with
 | ok ds=>
  rw [e] at hq
  intro vs G' H' u r
  simp only [R.ok_bind] at hq
  split at hq
  ·rename_i hz
   exact ⟨by rw [r.length]; exact hz,fun p hp=>hq p vs G' H' u hp r⟩
  ·exact hq.elim
 | ex C=>rw [e] at hq; exact hq
 | no=>rw [e] at hq; exact hq
def ka (env:Env):List (Str × NameKind)->List (Str × Addr)->List (Str × Addr)
 | [],cs=>cs
 | (n,k)::r,cs=>ka env r (if (k==.free)=true then (match env.cells.lookup n with | some c=>(n,c)::cs | none=>cs) else cs)
theorem sX {env:Env} {F:Str × NameKind->List (Str × Addr)->Sem (ForInStep (List (Str × Addr)))}
  (hF:∀ n k r,(k=NameKind.free->∃ c,env.cells.lookup n=some c)->F (n,k) r=pure (ForInStep.yield (if (k==.free)=true then (match env.cells.lookup n with | some c=>(n,c)::r | none=>r) else r))) :
  ∀ (l:List (Str × NameKind)) (cs:List (Str × Addr)),(∀ x ∈ l,x.2=.free->∃ c,env.cells.lookup x.1=some c)->forIn l cs F=pure (ka env l cs)
 | [],cs,_=>rfl
 | (n,k)::l,cs,h=>by
  rw [List.forIn_cons,hF n k cs (h (n,k) List.mem_cons_self),pure_bind]
  exact sX hF l _ fun y hy=>h y (List.mem_cons_of_mem _ hy)
theorem ff {scope:Scope} {env:Env} (h:∀ x ∈ scope.names,x.2=.free->∃ c,env.cells.lookup x.1=some c):closureFor scope env=pure (ka env scope.names []):=by
 simp only [closureFor]
 rw [sX (env:=env) (fun n k r hk=>?_) scope.names [] h]
 ·rfl
 ·by_cases hf:(k==NameKind.free)=true
  ·obtain ⟨c,hc⟩:=hk (by simpa using hf)
   simp only [hf,if_true,cellOf,hc,pure_bind]
  ·simp only [hf,if_false]
   rfl
theorem tq {env:Env}:∀ (l:List (Str × NameKind)) (cs:List (Str × Addr)),(∀ x c,cs.lookup x=some c->env.cells.lookup x=some c)->∀ x c,(ka env l cs).lookup x=some c->env.cells.lookup x=some c
 | [],cs,h,x,c,e=>h x c e
 | (n,k)::l,cs,h,x,c,e=>by
  unfold ka at e
  refine tq l _ (fun y d ed=>?_) x c e
  split at ed
  ·split at ed
   ·rename_i c' hc'
    rw [List.lookup_cons] at ed
    split at ed
    ·rename_i q; rw [eq_of_beq q]; rw [<- Option.some.inj ed]; exact hc'
    ·exact h y d ed
   ·exact h y d ed
  ·exact h y d ed
theorem nN {env:Env}:∀ (l:List (Str × NameKind)) (cs:List (Str × Addr)) (x:Str),((∃ c,cs.lookup x=some c)\/((x,NameKind.free) ∈ l/\∃ c,env.cells.lookup x=some c))->∃ c,(ka env l cs).lookup x=some c
 | [],cs,x,h=>by
  rcases h with h | ⟨h,_⟩
  ·exact h
  ·cases h
 | (n,k)::l,cs,x,h=>by
  unfold ka
  refine nN l _ x ?_
  rcases h with ⟨c,h⟩ | ⟨h,c,hc⟩
  ·left
   split
   ·split
    ·rename_i c' _
     rw [List.lookup_cons]
     split
     ·exact ⟨_,rfl⟩
     ·exact ⟨c,h⟩
    ·exact ⟨c,h⟩
   ·exact ⟨c,h⟩
  ·rcases List.mem_cons.mp h with e | h
   ·cases e
    left
    rw [if_pos (by rfl),hc]
    exact ⟨c,by simp [List.lookup_cons]⟩
   ·exact .inr ⟨h,c,hc⟩
def aX (X:Cx) (N':List Str) (scope:Scope) (C:Addr) (s₂:Shared) (H₂:Hp) (fp:List Addr):Cx:=
 { X with N:=N',s₀:=s₂,H₀:=H₂,env:=compEnvC scope (ka X.env scope.names []) C X.env,outer:=X.stack,stack:=X.stack,ex:=fp,fn:=fun _=>false,pn:=[],xe:=fun _ _=>False }
def jx {α:Type}:R α->R α
 | .ok a=>.ok a
 | _=>.no
def eT (ix:List Nat) (ρ:Ev):Ev:=none::ix.map fun (i:Nat)=>match ρ[i]? with
 | some (some (.val d))=>some (.val d)
 | _=>none
def dw (n:Nat) (ix:List Nat) (ρ:Ev):Ev:=List.replicate n none++ix.map fun (i:Nat)=>match ρ[i]? with
 | some (some (.val d))=>some (.val d)
 | _=>none
def gv (asg:D->Ev->R Ev) (gt:Ev->R Bool) (ge:Ev->R D):List D->Ev->R (List D)
 | [],_=>.ok []
 | d::ds,ρ=>jx (asg d ρ)>>=fun ρ1=>jx (gt ρ1)>>=fun k=>if k=true then jx (ge ρ1)>>=fun x=>gv asg gt ge ds ρ1>>=fun xs=>.ok (x::xs) else gv asg gt ge ds ρ1
def eV (gt:Ev->R Bool) (ge:Ev->R D):List D->Ev->R (List D):=gv (fZ 0) gt ge
theorem jb {asg:D->Ev->R Ev} {gt:Ev->R Bool} {ge:Ev->R D}:∀ (ds:List D) (ρ:Ev),(∃ xs,gv asg gt ge ds ρ=.ok xs)\/gv asg gt ge ds ρ=.no
 | [],ρ=>.inl ⟨[],rfl⟩
 | d::ds,ρ=>by
  unfold gv
  cases asg d ρ with
  | ok ρ1=>
   simp only [jx,R.ok_bind]
   cases gt ρ1 with
   | ok k=>
    simp only [jx,R.ok_bind]
    cases k with
    | true=>
     simp only [if_true]
     cases ge ρ1 with
     | ok x=>
      simp only [jx,R.ok_bind]
      rcases jb (asg:=asg) ds ρ1 with ⟨xs,e⟩ | e
      ·rw [e]; exact .inl ⟨_,rfl⟩
      ·rw [e]; exact .inr rfl
     | ex C=>exact .inr rfl
     | no=>exact .inr rfl
    | false=>simp only [Bool.false_eq_true,if_false]; exact jb ds _
   | ex C=>exact .inr rfl
   | no=>exact .inr rfl
  | ex C=>exact .inr rfl
  | no=>exact .inr rfl
def eU (gi:Ev->R (List D)) (ix:List Nat) (gt:Ev->R Bool) (ge:Ev->R D):Ev->R (List D):=fun ρ=>gi ρ>>=fun items=>eV gt ge items (eT ix ρ)>>=fun ds=>if ds.length<=sizeLine then .ok ds else .no
def qi (n:Nat) (asg:D->Ev->R Ev) (gi:Ev->R (List D)) (ix:List Nat) (gt:Ev->R Bool) (ge:Ev->R D):Ev->R (List D):=fun ρ=>gi ρ>>=fun items=>gv asg gt ge items (dw n ix ρ)>>=fun ds=>if ds.length<=sizeLine then .ok ds else .no
def PTs (X:Cx) (ifs:List Expr) (gt:Ev->R Bool):Prop:=∀ (pins:List (Addr × Obj)) (s:Shared) (σ:St) (H:Hp) (Q:Bool->Hp->Prop),Inv X pins σ H s->tTF X gt σ H Q->
 wpAny (model X.prog X.w) X.A (forIn ifs true fun c r=>if r=true then do let ok <- isTrue c X.env (eval c X.env); pure (ForInStep.yield ok) else pure (ForInStep.yield r)) (TP X pins σ Q) X.xe s
theorem dt {X:Cx}:PTs X [] (fun _=>.ok true):=by
 intro pins s σ H Q I h
 obtain ⟨G,ρ,st,h⟩:=h
 exact wpAny_pure ⟨H,I,h true G H (.refl st.sub) rfl⟩
theorem Un.sameBut {fs ex:List Addr} {H H':Hp} {h h1 h2:Heap} {C:Addr} (u:Un fs ex H H' h h1) (k:∀ b o,b ≠ C->h1.get? b=some o->h2.get? b=some o) (hC:h.objs.size<=C):Un fs ex H H' h h2:=by
 have ne:∀ b o,h.get? b=some o->b ≠ C:=fun b o e=>Nat.ne_of_lt (Nat.lt_of_lt_of_le (Heap.lt_size e) hC)
 exact ⟨fun b o e n hb hx=>k b o (ne b o e) (u.keep b o e n hb hx),fun b o e n hb hx=>let ⟨sl,q⟩:=u.slot b o e n hb hx; ⟨sl,k b _ (ne b o e) q⟩,u.free,fun b o e hx=>let ⟨o',q⟩:=u.there b o e hx; ⟨o',k b o' (ne b o e) q⟩,u.tups,u.frzs,u.tbls⟩
theorem HOk.sameBut {P:Program} {w:World} {H:Hp} {h h':Heap} {C:Addr} (x:HOk P w H h) (k:∀ b o,b ≠ C->h.get? b=some o->h'.get? b=some o) (hC:H C=none):HOk P w H h':=fun a o e=>by
 refine (x a o e).stay (fun b u hb q=>k b u ?_ q) (fun _ z=>z) (fun _ _ z=>z)
 rcases hb with rfl | hb
 ·exact aM e hC
 ·exact aM hb hC
end L2
namespace L2
open PySem PySem.Spec PyProof.Rows
section
variable {X:Cx} {elt iter:Expr} {ifs:List Expr} {x:Str} {px pos:Pos} {scope:Scope} {N':List Str} {ix:List Nat} {gi:Ev->R (List D)} {gt:Ev->R Bool} {ge:Ev->R D}
structure CompOk (X:Cx) (scope:Scope) (x:Str) (N':List Str) (ix:List Nat):Prop where
 kind:scope.kind=.function
 cell:∀ y ∈ scope.names,y.2 ≠ .cell
 names:∀ y ∈ scope.names,y.2=.local->scope.names.lookup y.1=some .local
 loc:scope.names.lookup x=some .local
 fr:∀ y ∈ scope.names,y.2=.free->X.env.kindOf y.1=some .cell
 nd:N'.Nodup
 hd:N'[0]?=some x
 tl:N'.tail=ix.map fun (i:Nat)=>X.N.getD i Str.empty
 lt:∀ i ∈ ix,i < X.N.length
 fre:∀ y ∈ N'.tail,scope.names.lookup y=some .free/\(y,NameKind.free) ∈ scope.names
structure CompOkT (X:Cx) (scope:Scope) (n:Nat) (N':List Str) (ix:List Nat):Prop where
 kind:scope.kind=.function
 cell:∀ y ∈ scope.names,y.2 ≠ .cell
 names:∀ y ∈ scope.names,y.2=.local->scope.names.lookup y.1=some .local
 fr:∀ y ∈ scope.names,y.2=.free->X.env.kindOf y.1=some .cell
 le:n<=N'.length
 tl:N'.drop n=ix.map fun (i:Nat)=>X.N.getD i Str.empty
 lt:∀ i ∈ ix,i < X.N.length
 fre:∀ y ∈ N'.drop n,scope.names.lookup y=some .free/\(y,NameKind.free) ∈ scope.names
theorem CompOk.t (ok:CompOk X scope x N' ix):CompOkT X scope 1 N' ix:=
 ⟨ok.kind,ok.cell,ok.names,ok.fr,(List.getElem?_eq_some_iff.mp ok.hd).1,List.drop_one ▸ ok.tl,ok.lt,List.drop_one ▸ ok.fre⟩
theorem jF {env:Env} (hk:env.scope.kind=.function):∀ {names:List (Str × NameKind)} {x:Str},names.lookup x=some .free->env.kindOf x=some .cell->
  (names.map fun (n,k)=>if (k==NameKind.free && env.scope.kind==.function && env.kindOf n==some .cell) then (n,NameKind.cell) else (n,k)).lookup x=some .cell
 | [],_,h,_=>by simp at h
 | (n,k)::r,x,h,hc=>by
  have ih:=@jF env hk r x
  show List.lookup x ((if (k==NameKind.free && env.scope.kind==.function && env.kindOf n==some .cell)=true then (n,NameKind.cell) else (n,k))::_)=_
  cases hx:x==n with
  | true=>
   simp only [List.lookup_cons,hx] at h
   cases h
   have e:=eq_of_beq hx
   subst e
   rw [if_pos (by rw [hk,hc]; rfl)]
   simp [List.lookup_cons]
  | false=>
   simp only [List.lookup_cons,hx] at h
   by_cases hc':(k==NameKind.free && env.scope.kind==.function && env.kindOf n==some .cell)=true
   ·rw [if_pos hc']; simp only [List.lookup_cons,hx]; exact ih h hc
   ·rw [if_neg hc']; simp only [List.lookup_cons,hx]; exact ih h hc
theorem wU {n:Nat} {ix:List Nat} {ρ:Ev} {j:Nat} {d:D} (h:(dw n ix ρ)[j]?=some (some (.val d))):∃ k i,j=k+n/\ix[k]?=some i/\ρ[i]?=some (some (.val d)):=by
 unfold dw at h
 by_cases hj:j < n
 ·rw [List.getElem?_append_left (by simpa using hj),List.getElem?_replicate,if_pos hj] at h; cases h
 ·rw [List.getElem?_append_right (by simpa using Nat.not_lt.1 hj),List.length_replicate,List.getElem?_map] at h
  cases e:ix[j - n]? with
  | none=>rw [e] at h; cases h
  | some i=>
   rw [e] at h
   refine ⟨j - n,i,by omega,e,?_⟩
   simp only [Option.map_some,Option.some.injEq] at h
   split at h
   ·rename_i d' e'; cases h; exact e'
   ·cases h
def eN (n:Nat) (ix:List Nat) (σ:St):St:=List.replicate n none++ix.map fun (i:Nat)=>(σ[i]?).join
theorem fQ {n:Nat} {ix:List Nat} {ρ:Ev}:NoOwn (dw n ix ρ):=fun j x h=>by
 unfold dw at h
 by_cases hj:j < n
 ·rw [List.getElem?_append_left (by simpa using hj),List.getElem?_replicate,if_pos hj] at h; cases h
 ·rw [List.getElem?_append_right (by simpa using Nat.not_lt.1 hj),List.length_replicate,List.getElem?_map] at h
  cases e:ix[j - n]? with
  | none=>rw [e] at h; cases h
  | some i=>
   rw [e] at h
   simp only [Option.map_some,Option.some.injEq] at h
   split at h
   ·cases h; exact ⟨_,rfl⟩
   ·cases h
theorem jX {K:PySem.W.Frag} {G H:Hp} {σ:St} {ρ:Ev} (st:StE K G H σ ρ) (n:Nat) (ix:List Nat):StE K G H (eN n ix σ) (dw n ix ρ):=by
 refine ⟨st.sub,by simp [dw,eN],fun j d h=>?_,fun j m C p fs h=>absurd h (NoOwn.obj fQ j m C p fs)⟩
 obtain ⟨k,i,rfl,e1,e2⟩:=wU h
 obtain ⟨v,h1,h2⟩:=st.val i d e2
 refine ⟨v,?_,h2⟩
 unfold eN
 rw [List.getElem?_append_right (by simp),List.length_replicate,Nat.add_sub_cancel,List.getElem?_map,e1]
 simp [h1]
theorem tW {pins:List (Addr × Obj)} {σ:St} {H:Hp} {s:Shared} {fp:List Addr} {h₁:Heap} {tk:Nat} {m:Str->Option Value} {C:Addr} {H':Hp} {n:Nat} (ok:CompOkT X scope n N' ix) (hcalm:X.calm=true) (I:Inv X pins σ H s) (hf:∀ b ∈ fp,uQ X pins H b) (hfl:∀ b ∈ fp,b < s.heap.objs.size)
  (hC:s.heap.objs.size<=C) (hn:h₁.Ns C m) (old:∀ b o,s.heap.get? b=some o->h₁.get? b=some o) (un:Un (frs X.stack) fp H H' s.heap h₁) (hok:HOk X.prog X.w H' h₁) (hfC:H' C=none) (hfc:∀ c:Addr,c < s.heap.objs.size->H c=none->H' c=none) :
  Inv (aX X N' scope C s H fp) [] (eN n ix σ) H' { s with heap:=h₁,toks:=tk }:=by
 have cl:∀ y c,(ka X.env scope.names []).lookup y=some c->X.env.cells.lookup y=some c:=tq scope.names [] (fun y c h=>by simp at h)
 have nlt:N'.length=n+ix.length:=by
  have h1:=congrArg List.length ok.tl
  rw [List.length_drop,List.length_map] at h1
  have:=ok.le
  omega
 refine ⟨⟨I.ok.mod,by show (relabel scope X.env).kind=_; exact ok.kind,I.ok.glob,I.ok.blt,hC,?_,?_,?_,I.ok.hd,I.ok.frames,.inl rfl,?_,I.bs,Nat.le_trans I.ok.bsz I.sz,?_,?_,I.stack,I.stkFree⟩,rfl,I.bare,un,?_,?_,hfC,?_,?_,hok,?_⟩
 ·intro y z c h1 h2
  exact I.ok.inj y z c (cl y c h1) (cl z c h2)
 ·intro y hy
  have h1:(y,NameKind.free) ∈ scope.names:=by
   have hy':(relabel scope X.env).names.lookup y=some .cell\/(relabel scope X.env).names.lookup y=some .free:=hy
   have mem:∀ k,(relabel scope X.env).names.lookup y=some k->(k=.cell\/k=.free)->(y,NameKind.free) ∈ scope.names:=fun k e hk=>by
    have hm:=PySem.mem_of_lookup e
    obtain ⟨⟨n,k'⟩,hm1,hm2⟩:=List.mem_map.mp hm
    dsimp only at hm2
    split at hm2
    ·rename_i hc
     cases hm2
     have:k'=.free:=by
      have:=(Bool.and_eq_true _ _ ▸ (Bool.and_eq_true _ _ ▸ hc).1).1
      simpa using this
     rw [<- this]; exact hm1
    ·cases hm2
     rcases hk with rfl | rfl
     ·exact absurd rfl (ok.cell _ hm1)
     ·exact hm1
   rcases hy' with h | h
   ·exact mem _ h (.inl rfl)
   ·exact mem _ h (.inr rfl)
  have hc:=I.ok.has y (.inl (ok.fr _ h1 rfl))
  exact nN scope.names [] y (.inr ⟨h1,hc⟩)
 ·intro y c hfn; cases hfn
 ·intro b hb
  obtain ⟨f0,f1,f2,f3,f4,f5⟩:=hf b hb
  exact ⟨fun z=>absurd (hfl b hb) (by rw [z]; exact Nat.not_lt.mpr hC),fun y c h=>f4 y c (cl y c h)⟩
 ·intro b o e hb
  obtain ⟨f0,f1,f2,f3,f4,f5⟩:=hf b hb
  rcases f3 with f3 | f3
  ·exact I.ok.noex b o e f3
  ·exact absurd (Heap.lt_size (I.ok.bs b o e).1) (Nat.not_lt.mpr f3)
 ·intro b hb hb'
  obtain ⟨f0,f1,f2,f3,f4,f5⟩:=hf b hb
  rcases List.mem_cons.mp (I.stkSub b hb') with e | e
  ·exact f1 e
  ·exact f2 e
 ·refine ⟨m,hn,fun i y v h1 h2 h3=>?_⟩
  have h1:N'[i]?=some y:=h1
  have h2:(eN n ix σ)[i]?=some (some v):=h2
  by_cases hi:i < n
  ·unfold eN at h2
   rw [List.getElem?_append_left (by simpa using hi),List.getElem?_replicate,if_pos hi] at h2; cases h2
  ·unfold eN at h2
   rw [List.getElem?_append_right (by simpa using Nat.not_lt.1 hi),List.length_replicate,List.getElem?_map] at h2
   cases e:ix[i - n]? with
   | none=>rw [e] at h2; cases h2
   | some i0=>
    rw [e] at h2
    have h2':σ[i0]?=some (some v):=by
     cases q:σ[i0]? with
     | none=>rw [Option.map_some,q] at h2; cases h2
     | some z=>rw [Option.map_some,q] at h2; have:=Option.some.inj h2; rw [<- this]; rfl
    have ht:(N'.drop n)[i - n]?=some y:=by rw [List.getElem?_drop,Nat.add_sub_cancel' (Nat.not_lt.1 hi)]; exact h1
    have hy:X.N[i0]?=some y:=by
     have ht2:=ht
     rw [ok.tl,List.getElem?_map,e] at ht2
     have hl:=ok.lt i0 (List.mem_of_getElem? e)
     have q:=Option.some.inj ht2
     rw [List.getElem?_eq_getElem hl]
     rw [<- q]
     show some X.N[i0]=some (X.N.getD i0 Str.empty)
     rw [List.getD_eq_getElem?_getD,List.getElem?_eq_getElem hl]
     rfl
    obtain ⟨fr1,fr2⟩:=ok.fre y (List.mem_of_getElem? ht)
    have kc:=ok.fr _ fr2 rfl
    obtain ⟨m0,hn0,hl⟩:=I.loc
    obtain ⟨u,ru,lk⟩:=hl i0 y v hy h2' (.inr (.inl kc))
    refine ⟨u,ru,.inr ⟨.inl (jF I.ok.kind fr1 kc),?_⟩⟩
    rcases lk with ⟨z,_⟩ | ⟨_,c,hc,hcell⟩
    ·rw [kc] at z; cases z
    ·obtain ⟨c',hc'⟩:=nN scope.names [] y (.inr ⟨fr2,c,hc⟩)
     have:=cl y c' hc'
     rw [hc] at this
     cases this
     exact ⟨c,hc',hcell.keeps old⟩
 ·intro y c h
  obtain ⟨v,q⟩:=I.cell y c (cl y c h)
  exact ⟨v,q.keeps old⟩
 ·intro y c h
  obtain ⟨v,q⟩:=I.cell y c (cl y c h)
  exact hfc c q.lt (I.freeC y c (cl y c h))
 ·intro p hp
  exact absurd (show p ∈ ([]:List (Addr × Obj)) from hp) (by simp)
 ·show (eN n ix σ).length=N'.length
  rw [nlt]; simp [eN]
theorem ue {prog:Program} {w:World} {A:Around} {R':Result->Shared->Prop} {s:Shared} {elt target iter:Expr} {ifs:List Expr} {scope:Scope} {pos:Pos} {it acc:Value} {env:Env} (I:Nat->Shared->Prop)
  (turn:∀ n s,I n s->wpAny (model prog w) A (pyNext it) (fun r s₁=>match r with
   | none=>R' (.ok .next) s₁
   | some v=>wpAny (model prog w) A (letOwnedTupleGo target it v) (fun _ s₁'=>wpAny (model prog w) A (assign target env v) (fun _ s₂=>
     wpAny (model prog w) A (forIn ifs true fun c r=>if r=true then do let ok <- isTrue c env (eval c env); pure (ForInStep.yield ok) else pure (ForInStep.yield r)) (fun ok s₃=>
      if ok=true then wpAny (model prog w) A (eval elt env) (fun x s₄=>
       wpAny (model prog w) A (call (.builtin "list.append") [acc,x]) (fun _ s₅=>∃ m,m < n/\I m s₅) (fun _ _=>False) s₄) (fun _ _=>False) s₃
      else ∃ m,m < n/\I m s₃) (fun _ _=>False) s₂) (fun _ _=>False) s₁') (fun _ _=>False) s₁) (fun _ _=>False) s)
  (n:Nat) (h:I n s) :
  codeAny (model prog w) A (.compLoop (.ListComp elt [⟨target,iter,ifs,0⟩] scope pos) 0 it acc env) R' s:=by
 refine codeAny_loop rfl I (fun n s hI=>?_) n h
 show wpAny _ A ((compTurn (.ListComp elt [⟨target,iter,ifs,0⟩] scope pos) 0 it acc env).onRaise (fun x=>do noteFrame x env; theTreesLotGoes x)) _ _ s
 refine wpAny_noted ?_
 rw [compTurn_list]
 refine wpAny_bind (wpAny_standAt (wpAny_bind (wpAny_mono (turn n s hI) (fun r s₁ h₁=>?_) fun _ _ z=>z.elim)))
 cases r with
 | none=>exact wpAny_pure h₁
 | some v=>
  refine wpAny_bind (wpAny_mono h₁ (fun _ s₁' h₁'=>?_) fun _ _ z=>z.elim)
  refine wpAny_bind (wpAny_mono h₁' (fun _ s₂ h₂=>wpAny_bind (wpAny_mono h₂ (fun ok s₃ h₃=>?_) fun _ _ z=>z.elim)) fun _ _ z=>z.elim)
  cases ok with
  | false=>exact wpAny_pure ⟨rfl,h₃⟩
  | true=>
   exact wpAny_bind (wpAny_bind (wpAny_mono h₃ (fun x s₄ h₄=>wpAny_bind (wpAny_mono h₄ (fun _ s₅ h₅=>wpAny_pure (wpAny_pure ⟨rfl,h₅⟩)) fun _ _ z=>z.elim)) fun _ _ z=>z.elim))
theorem nS {i:Nat}:∀ d ρ ρ',fZ i d ρ=.ok ρ'->NoOwn ρ->NoOwn ρ':=by
 intro d ρ ρ' e h j x q
 have e':ρ.set i (some (.val d))=ρ':=R.ok.inj e
 rw [<- e',List.getElem?_set] at q
 split at q
 ·split at q
  ·cases q; exact ⟨d,rfl⟩
  ·cases q
 ·exact h j x q
theorem iB {tgt : Expr} {asg : D -> Ev -> R Ev} {n : Nat} {pins : List (Addr × Obj)} {σ : St} {H : Hp} {s : Shared} {it : Addr} {fp : List Addr} {tn : Nat -> Heap -> Prop} {J : It} {G : Hp} {ρ : Ev} {items : List D} {Q : VK} {RR : Value -> Addr -> Result -> Shared -> Prop} {E : Value -> Shared -> Prop} (ok : CompOkT X scope n N' ix) (hcalm : X.calm = true) (hg : ∀ C s₂ H₂ fp, PGF (aX X N' scope C s₂ H₂ fp) tgt asg) (hown : ∀ d ρ ρ', asg d ρ = .ok ρ' -> (NoOwn ρ) -> NoOwn ρ')
    (he : ∀ C s₂ H₂ fp, QF (aX X N' scope C s₂ H₂ fp) elt ge) (ht : ∀ C s₂ H₂ fp, PTs (aX X N' scope C s₂ H₂ fp) ifs gt)
    (I : Inv X pins σ H s) (T : Turn X.prog X.w X.K tgt J fp it tn) (st0 : tn 0 s.heap) (hf : ∀ b ∈ fp, uQ X pins H b) (st : StE X.K G H σ ρ) (hi : ItOk X.K G J items)
    (h : (gv asg gt ge items (dw n ix ρ) >>= fun ds => if ds.length <= sizeLine then R.ok ds else .no).post (oV X.K G H Q) (Exx X σ G H))
    (hR : ∀ (Dd C : Addr) (s' : Shared) (m : Str -> Option Value) (vs : List V) (G' H' : Hp), Up G H G' H' -> H' Dd = none -> C ≠ Dd -> (∀ ds, Reps X.K G' vs ds -> True) -> Q (.ref Dd) (upd H' Dd (.lst vs)) -> s'.heap.Ns C m -> s'.os = s.os -> AllBare s'.gens -> H' C = none -> s.heap.objs.size <= C ->
      Un (frs X.stack) fp H (upd H' Dd (.lst vs)) s.heap s'.heap -> HOk X.prog X.w (upd H' Dd (.lst vs)) s'.heap -> RR (.ref Dd) C (.ok .next) s') :
    wpAny (model X.prog X.w) X.A (newList []) (fun acc s₃ => wpAny (model X.prog X.w) X.A (newFunctionEnv scope X.env.globals (ka X.env scope.names []) [] X.env.qual none .none (some X.env)) (fun cenv s₄ =>
      codeAny (model X.prog X.w) X.A (.compStart (.ListComp elt [⟨tgt, iter, ifs, 0⟩] scope pos) 0 (.ref it) acc { cenv with scope := relabel scope X.env }) (RR acc cenv.locals) s₄) E s₃) E s := by
  have hfl : ∀ b ∈ fp, b < s.heap.objs.size := fun b hb => let ⟨o, e, _⟩ := T.obj 0 s.heap st0 b hb; Heap.lt_size e
  refine wpAny_newObj_type (wpAny_newFunctionEnv ok.cell (by intro y hy; simp at hy) (fun h₁ hns₁ hsb₁ => ?_) ok.kind)
  dsimp only at hns₁ hsb₁ ⊢
  generalize hH2 : s.heap.push { cls := .type "list", dict := none, data := .seq ([] : List Value).toArray } = Hq at hns₁ hsb₁ ⊢
  have hC : Hq.objs.size = s.heap.objs.size + 1 := by rw [<- hH2, Heap.size_push]
  have hDC : s.heap.objs.size ≠ Hq.objs.size := by rw [hC]; exact Nat.ne_of_lt (Nat.lt_succ_self _)
  have hCle : s.heap.objs.size <= Hq.objs.size := by rw [hC]; exact Nat.le_succ _
  have old : ∀ b o, s.heap.get? b = some o -> h₁.get? b = some o := fun b o e =>
    hsb₁.extBut b o (by rw [hC]; exact Nat.ne_of_lt (Nat.lt_succ_of_lt (Heap.lt_size e))) (Heap.get?_push_of_some _ (hH2 ▸ Heap.get?_push_of_some _ e))
  have hacc : h₁.get? s.heap.objs.size = some { cls := .type "list", data := .seq ([] : List Value).toArray } := hsb₁.extBut _ _ hDC (Heap.get?_push_of_some _ (hH2 ▸ Heap.get?_push_size _ rfl))
  have hD0 : H s.heap.objs.size = none := I.fresh
  have hC0 : H Hq.objs.size = none := I.hok.fresh hCle
  have st0' : tn 0 h₁ := T.keep 0 _ _ st0 fun b hb o e => old b o e
  -- the block's state at its beginning
  have I0 : ∀ tk, Inv (aX X N' scope Hq.objs.size s H fp) [] (eN n ix σ) (upd H s.heap.objs.size (.lst [])) { s with heap := h₁, toks := tk } := fun tk => by
    refine tW ok hcalm I hf hfl hCle hns₁ old (Un.laid old (Nat.le_refl _) hD0) (I.hok.laid old (Nat.le_refl _) ⟨Nat.zero_le _, [], 0, .nil, hacc⟩) (by rw [aJ hDC.symm]; exact hC0) fun c hc e => ?_
    rw [aJ (Nat.ne_of_lt hc)]; exact e
  have loop : ∀ tk, codeAny (model X.prog X.w) X.A (.compLoop (.ListComp elt [⟨tgt, iter, ifs, 0⟩] scope pos) 0 (.ref it) (.ref s.heap.objs.size) (compEnvC scope (ka X.env scope.names []) Hq.objs.size X.env))
      (RR (.ref s.heap.objs.size) Hq.objs.size) { s with heap := h₁, toks := tk } := fun tk => by
    have fpk : ∀ {pins' : List (Addr × Obj)} {σ' : St} {H' : Hp} {s' : Shared}, Inv (aX X N' scope Hq.objs.size s H fp) pins' σ' H' s' -> pins' = [] -> (∀ b ∈ fp, H' b = none) -> ∀ b ∈ fp, uQ (aX X N' scope Hq.objs.size s H fp) pins' H' b := fun I' e hn b hb =>
      ⟨hn b hb, (I'.ok.exf b hb).1, I'.ok.exfs b hb, .inl hb, (I'.ok.exf b hb).2, by subst e; intro p hp; exact absurd (show p ∈ ([] : List (Addr × Obj)) from hp) (by simp)⟩
    refine ue (fun nn s' => ∃ (i : Nat) (σ' : St) (G' H' : Hp) (ρ' : Ev) (vs : List V) (ys : List D), nn = items.length - i /\ i <= items.length /\ Inv (aX X N' scope Hq.objs.size s H fp) [] σ' H' s' /\ tn i s'.heap /\ (∀ b ∈ fp, H' b = none) /\
      H' s.heap.objs.size = some (.lst vs) /\ G' s.heap.objs.size = none /\ Up G H G' H' /\ StE X.K G' H' σ' ρ' /\ (NoOwn ρ') /\ Reps X.K G' vs ys /\
      (gv asg gt ge (items.drop i) ρ' >>= fun zs => if (ys ++ zs).length <= sizeLine then R.ok (ys ++ zs) else .no).post (oV X.K G H Q) (Exx X σ G H)) ?_ items.length
      ⟨0, eN n ix σ, G, upd H s.heap.objs.size (.lst []), dw n ix ρ, [], [], by simp, Nat.zero_le _, I0 tk, st0', fun b hb => by rw [aJ (Nat.ne_of_lt (hfl b hb))]; exact (hf b hb).1, bc, st.sub.free hD0,
        ⟨fun a o e => by rw [aJ (aM e (st.sub.free hD0))]; exact st.sub a o e, .refl _, .into hD0, fun _ _ e => .inl e⟩,
        ⟨fun a o e => by rw [aJ (aM e (st.sub.free hD0))]; exact st.sub a o e, (jX st n ix).len, (jX st n ix).val, fun j m C p fs h => absurd h (NoOwn.obj fQ j m C p fs)⟩, fQ, .nil, by simpa using h⟩
    rintro nn s' ⟨i, σ', G', H', ρ', vs, ys, rfl, hil, I', tn', fr', hD', gD', up', st', no', rp', h'⟩
    have hIt := hi i G' H' up'.gg st'.sub
    by_cases hlt : i < items.length
    · -- a turn
      have hd : items.drop i = items[i] :: items.drop (i + 1) := List.drop_eq_getElem_cons hlt
      rw [hd] at h'
      obtain ⟨go, yl⟩ := hIt.1 items[i] (by simp [hlt])
      refine wpAny_mono (T.item (aX X N' scope Hq.objs.size s H fp) rfl rfl rfl hcalm i [] s' σ' H' (fun _ _ => False) I' (fpk I' rfl fr') tn' go) (fun r s1 ⟨u, hr, h1⟩ => ?_) fun _ _ z => z
      subst hr
      refine wpAny_mono h1 (fun _ s2 ⟨x2, H2, I2, r2, y2, tn2, fr2⟩ => ?_) fun _ _ z => z
      obtain ⟨G2, up2, rep2⟩ := yl x2 H2 y2
      have I2p := I2.pinned (fpk I2 rfl fr2) (T.obj _ _ tn2)
      have st2 : StE X.K G2 H2 σ' ρ' := st'.up up2
      have sr2 : StR X.K G2 H2 G2 H2 σ' ρ' := ⟨st2, up2.sub, .refl up2.sub, fun j ds e => absurd e (no'.own j ds), fun j k ds es l e => absurd e (no'.own j ds), no'.ob⟩
      have ea : ∃ ρ1, asg items[i] ρ' = .ok ρ1 := by
        unfold gv at h'
        cases q : asg items[i] ρ' with
        | ok k => exact ⟨k, rfl⟩
        | ex C => rw [q] at h'; exact h'.elim
        | no => rw [q] at h'; exact h'.elim
      obtain ⟨ρ1, ea⟩ := ea
      unfold gv at h'
      rw [ea] at h'
      simp only [jx, R.ok_bind] at h'
      refine wpAny_mono (hg Hq.objs.size s H fp _ s2 σ' H2 x2 u (fun σ3 H3 => H3 = H2 /\ StR X.K G2 H2 G2 H2 σ3 ρ1) I2p r2
        ⟨G2, H2, G2, ρ', items[i], _, sr2, rep2, ea, fun σ3 q => ⟨rfl, q⟩⟩) (fun _ s3 ⟨σ3, H3, I3, e3, sr3⟩ => ?_) fun _ _ z => z
      subst e3
      have no3 := hown _ _ _ ea no'
      have hD2 : H3 s.heap.objs.size = some (.lst vs) := up2.hh _ _ hD'
      have gD2 : G2 s.heap.objs.size = none := by
        cases q : G2 s.heap.objs.size with
        | none => rfl
        | some o =>
          rcases up2.fr _ _ q with z | z
          · rw [gD'] at z; cases z
          · rw [hD'] at z; cases z
      -- the tests
      have ek : ∃ k, gt ρ1 = .ok k := by
        cases q : gt ρ1 with
        | ok k => exact ⟨k, rfl⟩
        | ex C => rw [q] at h'; exact h'.elim
        | no => rw [q] at h'; exact h'.elim
      obtain ⟨k, ek⟩ := ek
      rw [ek] at h'
      simp only [jx, R.ok_bind] at h'
      refine wpAny_mono (ht Hq.objs.size s H fp _ s3 σ3 H3 (fun b H4 => b = k /\ ∃ G4, Up G2 H3 G4 H4) I3 ⟨G2, _, sr3.e, by rw [ek]; exact fun b G4 H4 u4 e4 => ⟨e4, G4, u4⟩⟩) (fun b s4 ⟨H4, I4, eb, G4, up4⟩ => ?_) fun _ _ z => z
      subst eb
      have next : ∀ {H7 : Hp} {s7 : Shared} {G7 : Hp} {vs7 : List V} {ys7 : List D}, Inv (aX X N' scope Hq.objs.size s H fp) ([] ++ dH fp s2.heap) σ3 H7 s7 -> H7 s.heap.objs.size = some (.lst vs7) -> G7 s.heap.objs.size = none -> Up G H G7 H7 -> StE X.K G7 H7 σ3 ρ1 -> Reps X.K G7 vs7 ys7 ->
          (gv asg gt ge (items.drop (i + 1)) ρ1 >>= fun zs => if (ys7 ++ zs).length <= sizeLine then R.ok (ys7 ++ zs) else .no).post (oV X.K G H Q) (Exx X σ G H) ->
          ∃ m, m < items.length - i /\ ∃ (i : Nat) (σ' : St) (G' H' : Hp) (ρ' : Ev) (vs : List V) (ys : List D), m = items.length - i /\ i <= items.length /\ Inv (aX X N' scope Hq.objs.size s H fp) [] σ' H' s7 /\ tn i s7.heap /\ (∀ b ∈ fp, H' b = none) /\
            H' s.heap.objs.size = some (.lst vs) /\ G' s.heap.objs.size = none /\ Up G H G' H' /\ StE X.K G' H' σ' ρ' /\ (NoOwn ρ') /\ Reps X.K G' vs ys /\
            (gv asg gt ge (items.drop i) ρ' >>= fun zs => if (ys ++ zs).length <= sizeLine then R.ok (ys ++ zs) else .no).post (oV X.K G H Q) (Exx X σ G H) := fun {H7 s7 G7 vs7 ys7} I7 hD7 gD7 up7 st7 rp7 h7 => by
        have pin : ∀ b ∈ fp, ∀ o, s2.heap.get? b = some o -> s7.heap.get? b = some o /\ H7 b = none := fun b hb o e => by
          have := I7.pin (b, o) (List.mem_append_right _ (List.mem_append_right _ (di hb e)))
          exact ⟨this.1, this.2.1⟩
        refine ⟨items.length - (i + 1), by omega, i + 1, σ3, G7, H7, _, vs7, ys7, rfl, hlt, I7.unpinned, T.keep _ _ _ tn2 fun b hb o e => (pin b hb o e).1, fun b hb => ?_, hD7, gD7, up7, st7, no3, rp7, h7⟩
        obtain ⟨o, e, _⟩ := T.obj _ _ tn2 b hb
        exact (pin b hb o e).2
      have hD4 : H4 s.heap.objs.size = some (.lst vs) := up4.hh _ _ hD2
      have gD4 : G4 s.heap.objs.size = none := by
        cases q : G4 s.heap.objs.size with
        | none => rfl
        | some o =>
          rcases up4.fr _ _ q with z | z
          · rw [gD2] at z; cases z
          · rw [hD2] at z; cases z
      cases b with
      | false =>
        simp only [Bool.false_eq_true, if_false] at h' ⊢
        exact next I4 hD4 gD4 ((up'.trans up2).trans up4) (sr3.e.up up4) ((rp'.mono up2.gg).mono up4.gg) h'
      | true =>
        simp only [if_true] at h' ⊢
        have ex : ∃ y, ge ρ1 = .ok y := by
          cases q : ge ρ1 with
          | ok y => exact ⟨y, rfl⟩
          | ex C => rw [q] at h'; exact h'.elim
          | no => rw [q] at h'; exact h'.elim
        obtain ⟨y, ey⟩ := ex
        rw [ey] at h'
        simp only [jx, R.ok_bind] at h'
        refine wpAny_mono (he Hq.objs.size s H fp _ s4 σ3 H4 (fun v H5 => ∃ G5, Up G4 H4 G5 H5 /\ Rep X.K G5 v y) I4 ⟨G4, _, sr3.e.up up4, by rw [ey]; exact fun v G5 H5 u5 r5 => ⟨G5, u5, r5⟩⟩) (fun u5 s5 ⟨v5, H5, I5, r5, G5, up5, rep5⟩ => ?_) fun _ _ z => z
        have hD5 : H5 s.heap.objs.size = some (.lst vs) := up5.hh _ _ hD4
        have gD5 : G5 s.heap.objs.size = none := by
          cases q : G5 s.heap.objs.size with
          | none => rfl
          | some o =>
            rcases up5.fr _ _ q with z | z
            · rw [gD4] at z; cases z
            · rw [hD4] at z; cases z
        have ups := ((up'.trans up2).trans up4).trans up5
        rcases jb (asg := asg) (gt := gt) (ge := ge) (items.drop (i + 1)) ρ1 with ⟨zs, ez⟩ | ez
        · rw [ez] at h'
          simp only [R.ok_bind] at h'
          have hz : (ys ++ y :: zs).length <= sizeLine := by
            by_cases hz : (ys ++ y :: zs).length <= sizeLine
            · exact hz
            · rw [if_neg hz] at h'; exact h'.elim
          have hvl : vs.length < sizeLine := by
            rw [rp'.length]
            rw [List.length_append, List.length_cons] at hz
            omega
          refine wpAny_mono (ij (X := aX X N' scope Hq.objs.size s H fp) _ s5 σ3 H5 (.ref s.heap.objs.size) [v5] (.ref s.heap.objs.size) [u5] (fun _ H6 => H6 = upd H5 s.heap.objs.size (.lst (vs ++ [v5]))) I5 rfl (.cons r5 .nil)
            ⟨_, vs, v5, rfl, rfl, hD5, hvl, rfl⟩) (fun _ s6 ⟨_, H6, I6, _, e6⟩ => ?_) fun _ _ z => z
          subst e6
          have sub6 : Same G5 (upd H5 s.heap.objs.size (.lst (vs ++ [v5]))) := fun a o e => by rw [aJ (aM e gD5)]; exact up5.sub a o e
          refine next I6 bc gD5 ⟨sub6, ups.gg, fun a o e => ?_, ups.fr⟩ ?_ (ys7 := ys ++ [y]) ((((rp'.mono up2.gg).mono up4.gg).mono up5.gg).append (.cons rep5 .nil)) ?_
          · rw [aJ (aM e hD0)]; exact ups.hh a o e
          · exact ⟨sub6, ((sr3.e.up up4).up up5).len, ((sr3.e.up up4).up up5).val, fun j m C p fs h => absurd h (no3.obj j m C p fs)⟩
          · rw [ez]
            simp only [R.ok_bind, List.append_assoc, List.singleton_append]
            exact h'
        · rw [ez] at h'; exact h'.elim
    · -- the end
      have hie : i = items.length := by omega
      subst hie
      rw [List.drop_length] at h'
      unfold gv at h'
      simp only [R.ok_bind, List.append_nil] at h'
      refine wpAny_mono (T.done (aX X N' scope Hq.objs.size s H fp) rfl rfl rfl hcalm items.length [] s' σ' H' (fun _ _ => False) I' (fpk I' rfl fr') tn' (hIt.2 (Nat.le_refl _))) (fun r s1 ⟨hr, I1⟩ => ?_) fun _ _ z => z
      subst hr
      have hz : ys.length <= sizeLine := by
        by_cases hz : ys.length <= sizeLine
        · exact hz
        · rw [if_neg hz] at h'; exact h'.elim
      rw [if_pos hz] at h'
      have eH : upd (fun a => if a = s.heap.objs.size then none else H' a) s.heap.objs.size (.lst vs) = H' := by
        funext a
        unfold upd
        by_cases e : a = s.heap.objs.size
        · subst e; rw [if_pos rfl]; exact hD'.symm
        · rw [if_neg e]
          show (if a = s.heap.objs.size then none else H' a) = _
          rw [if_neg e]
      have hn : (fun a => if a = s.heap.objs.size then none else H' a) s.heap.objs.size = none := by simp
      have upn : Up G H G' (fun a => if a = s.heap.objs.size then none else H' a) := by
        refine ⟨fun a o e => ?_, up'.gg, fun a o e => ?_, up'.fr⟩
        · have : a ≠ s.heap.objs.size := aM e gD'
          simp only [this, if_false]; exact up'.sub a o e
        · have : a ≠ s.heap.objs.size := aM e hD0
          simp only [this, if_false]; exact up'.hh a o e
      obtain ⟨m1, hm1, _⟩ := I1.loc
      refine hR s.heap.objs.size Hq.objs.size s1 m1 vs G' _ upn hn hDC.symm (fun _ _ => trivial) (h' _ vs G' _ upn hn rp') hm1 I1.os I1.bare ?_ hCle (by rw [eH]; exact I1.base) (by rw [eH]; exact I1.hok)
      have := I1.free
      show (if Hq.objs.size = s.heap.objs.size then none else H' Hq.objs.size) = none
      rw [if_neg hDC.symm]; exact this
  exact codeAny_compStart_list (loop _) (T.self X.A 0 _ _ _ st0' (loop _))

theorem qj {pins:List (Addr × Obj)} {σ:St} {H:Hp} {s:Shared} {it:Addr} {fp:List Addr} {tn:Nat->Heap->Prop} {J:It} {G:Hp} {ρ:Ev} {items:List D} {Q:VK} {RR:Value->Addr->Result->Shared->Prop} {E:Value->Shared->Prop} (ok:CompOk X scope x N' ix) (hcalm:X.calm=true)
  (he:∀ C s₂ H₂ fp,QF (aX X N' scope C s₂ H₂ fp) elt ge) (ht:∀ C s₂ H₂ fp,PTs (aX X N' scope C s₂ H₂ fp) ifs gt)
  (I:Inv X pins σ H s) (T:Turn X.prog X.w X.K (.Name x px) J fp it tn) (st0:tn 0 s.heap) (hf:∀ b ∈ fp,uQ X pins H b) (st:StE X.K G H σ ρ) (hi:ItOk X.K G J items)
  (h:(eV gt ge items (eT ix ρ)>>=fun ds=>if ds.length<=sizeLine then R.ok ds else .no).post (oV X.K G H Q) (Exx X σ G H))
  (hR:∀ (Dd C:Addr) (s':Shared) (m:Str->Option Value) (vs:List V) (G' H':Hp),Up G H G' H'->H' Dd=none->C ≠ Dd->(∀ ds,Reps X.K G' vs ds->True)->Q (.ref Dd) (upd H' Dd (.lst vs))->s'.heap.Ns C m->s'.os=s.os->AllBare s'.gens->H' C=none->s.heap.objs.size<=C->
   Un (frs X.stack) fp H (upd H' Dd (.lst vs)) s.heap s'.heap->HOk X.prog X.w (upd H' Dd (.lst vs)) s'.heap->RR (.ref Dd) C (.ok .next) s') :
  wpAny (model X.prog X.w) X.A (newList []) (fun acc s₃=>wpAny (model X.prog X.w) X.A (newFunctionEnv scope X.env.globals (ka X.env scope.names []) [] X.env.qual none .none (some X.env)) (fun cenv s₄=>
   codeAny (model X.prog X.w) X.A (.compStart (.ListComp elt [⟨.Name x px,iter,ifs,0⟩] scope pos) 0 (.ref it) acc { cenv with scope:=relabel scope X.env }) (RR acc cenv.locals) s₄) E s₃) E s:=
 iB (n:=1) (asg:=fZ 0) ok.t hcalm (fun C s₂ H₂ fp=>cy (X:=aX X N' scope C s₂ H₂ fp) (pos:=px) 0 ok.nd ok.hd (.inl (lookup_relabel_local ok.loc)) (.inr (lookup_relabel_local ok.loc))) nS he ht I T st0 hf st hi h hR
theorem uu (ok:CompOk X scope x N' ix) (hcalm:X.calm=true) (hi:QIF X (.Name x px) iter gi) (he:∀ C s₂ H₂ fp,QF (aX X N' scope C s₂ H₂ fp) elt ge) (ht:∀ C s₂ H₂ fp,PTs (aX X N' scope C s₂ H₂ fp) ifs gt)
  (hs:∀ x,foldedSetIterable iter X.env x=pure x:=by intro _; rfl):QFL X (.ListComp elt [⟨.Name x px,iter,ifs,0⟩] scope pos) (eU gi ix gt ge):=by
 intro pins s σ H Q I h
 obtain ⟨G,ρ,st,h⟩:=h
 rw [eval_ListComp]
 refine wpAny_comprehension_free (use:=none) rfl hs (ff fun y hy hy2=>I.ok.has y.1 (.inl (ok.fr y hy hy2))) ok.kind ok.names ?_
 have t:tG X (fun G J items=>ItOk X.K G J items) gi σ H (fun J H1=>∃ G1 items,Up G H G1 H1/\StE X.K G1 H1 σ ρ/\ItOk X.K G1 J items/\(eV gt ge items (eT ix ρ)>>=fun ds=>if ds.length<=sizeLine then R.ok ds else .no).post (oV X.K G H Q) (Exx X σ G H)):=by
  refine ⟨G,ρ,st,?_⟩
  unfold eU at h
  cases e:gi ρ with
  | ok items=>rw [e] at h; exact fun J G1 H1 u r=>⟨G1,items,u,st.up u,r,h⟩
  | ex C=>rw [e] at h; exact h
  | no=>rw [e] at h; exact h
 refine thn (hi pins s σ H _ I t) fun v s1 h1=>thn h1 fun itv s2 h2=>?_
 obtain ⟨it,fp,tn,J,H2,e,I2,T,st2,f2,G2,items,u2,sE2,iok,h2⟩:=h2
 subst e
 have h2':(eV gt ge items (eT ix ρ)>>=fun ds=>if ds.length<=sizeLine then R.ok ds else .no).post (oV X.K G2 H2 Q) (Exx X σ G2 H2):=
  h2.mono (fun ds q l vs G' H' u hl r=>q l vs G' H' (u2.trans u) hl r) fun C q=>q.up u2
 refine qj (iter:=iter) (pos:=pos) (RR:=fun acc C=>compPost (model X.prog X.w) X.A X.xe none (EP X pins σ Q) acc C) ok hcalm he ht I2 T st2 f2 sE2 iok h2' ?_
 intro Dd C s' m vs G' H' up hd hCD _ q hm hos hb hC hCl un hok
 refine ⟨m,hm,fun h' hs'=>?_⟩
 have I3:=I2.call' (H':=upd H' Dd (.lst vs)) (s':={ s' with heap:=h' }) (ch:=fp) hos (un.sameBut (fun b o hbc e=>hs'.extBut b o hbc e) hCl) (hok.sameBut (fun b o hbc e=>hs'.extBut b o hbc e) (by rw [aJ hCD]; exact hC)) hb fun b hb'=>by
  obtain ⟨f0,f1,f2',f3,f4,f5⟩:=f2 b hb'
  exact ⟨f3,f1,f4,f5⟩
 exact ⟨.ref Dd,_,I3,rfl,q⟩
end
end L2
namespace L2
open PySem PySem.Spec PyProof.Rows
inductive O where
 | nx (ρ:Ev) | rt (d:D) | re (d:D) (ρ:Ev) | bk (ρ:Ev) | ct (ρ:Ev) | ex (C:Addr) (ρ:Ev) | no
def FlyS (X:Cx) (G₀ H₀:Hp) (ρ:Ev) (C:Addr) (e:Value) (s':Shared):Prop:=∃ σ H₁ pins s₁ a,e=.ref a/\Inv X pins σ H₁ s₁/\
 ((∃ G₁ h' vs,StR X.K G₀ H₀ G₁ H₁ σ ρ/\Heap.MadeExcOf s₁.heap h' a (.ref C) vs/\s'={ s₁ with heap:=h' })\/(∃ G' H',yB X.prog X.w X.stack H₁ s₁ a C H' s'/\StR X.K G₀ H₀ G' H' σ ρ)\/
  ∃ G' H' L,X.env.frame=some L/\wH X pins L H₁ s₁ a C H' s'/\StR X.K G₀ H₀ G' H' σ ρ)
theorem FlyS.of {X:Cx} {G₀ H₀ G₁ H₁:Hp} {σ:St} {ρ:Ev} {C:Addr} {e:Value} {s':Shared} (sr:StR X.K G₀ H₀ G₁ H₁ σ ρ) (f:Hb X σ G₁ H₁ C e s'):FlyS X G₀ H₀ ρ C e s':=by
 obtain ⟨pins,s₁,a,e,I,way⟩:=f
 refine ⟨σ,H₁,pins,s₁,a,e,I,?_⟩
 rcases way with ⟨h',vs,m,z⟩ | ⟨G',H',fl,u⟩ | ⟨G',H',L,hL,fl,u⟩
 ·exact .inl ⟨G₁,h',vs,sr,m,z⟩
 ·exact .inr (.inl ⟨G',H',fl,sr.ups u⟩)
 ·exact .inr (.inr ⟨G',H',L,hL,fl,sr.ups u⟩)
theorem FlyS.map {X:Cx} {A B A' B':Hp} {ρ ρ':Ev} {C:Addr} {e:Value} {s':Shared} (f:FlyS X A B ρ C e s') (h:∀ σ G H,StR X.K A B G H σ ρ->StR X.K A' B' G H σ ρ'):FlyS X A' B' ρ' C e s':=by
 obtain ⟨σ,H₁,pins,s₁,a,e,I,way⟩:=f
 refine ⟨σ,H₁,pins,s₁,a,e,I,?_⟩
 rcases way with ⟨G₁,h',vs,sr,m,z⟩ | ⟨G',H',fl,sr⟩ | ⟨G',H',L,hL,fl,sr⟩
 ·exact .inl ⟨G₁,h',vs,h _ _ _ sr,m,z⟩
 ·exact .inr (.inl ⟨G',H',fl,h _ _ _ sr⟩)
 ·exact .inr (.inr ⟨G',H',L,hL,fl,h _ _ _ sr⟩)
def oG (X:Cx) (G₀ H₀:Hp) (D:Ends) (o:O):Prop:=match o with
 | .nx ρ=>∀ σ G H,StR X.K G₀ H₀ G H σ ρ->D.nx σ H
 | .rt d=>∀ v G H,Up G₀ H₀ G H->Rep X.K G v d->D.rt v H
 | .re d ρ=>∀ v σ G H,StR X.K G₀ H₀ G H σ ρ->Rep X.K G v d->D.rt v H
 | .bk ρ=>∀ σ G H,StR X.K G₀ H₀ G H σ ρ->D.bk σ H
 | .ct ρ=>∀ σ G H,StR X.K G₀ H₀ G H σ ρ->D.ct σ H
 | .ex C ρ=>∀ e s',FlyS X G₀ H₀ ρ C e s'->X.xe e s'
 | .no=>False
def tS (X:Cx) (G₀ H₀:Hp) (g:Ev->O):TS:=fun D σ H=>∃ G ρ,StR X.K G₀ H₀ G H σ ρ/\oG X G₀ H₀ D (g ρ)
def QSF (X:Cx) (st:Stmt) (g:Ev->O):Prop:=∀ G₀ H₀,PS X st (tS X G₀ H₀ g)
def nv (X:Cx) (st:List Stmt) (g:Ev->O):Prop:=∀ G₀ H₀,PSs X st (tS X G₀ H₀ g)
def R.out {α:Type} (m:R α) (ρ:Ev) (k:α->O):O:=match m with
 | .ok a=>k a
 | .ex C=>.ex C ρ
 | .no=>.no
def O.seq (o:O) (k:Ev->O):O:=match o with
 | .nx ρ=>k ρ
 | o=>o
section
variable {X:Cx} {st:Stmt} {cq body a b:List Stmt} {e c tg:Expr} {g g1 g2:Ev->O} {ga:Ev->R D} {gt:Ev->R Bool} {gl:Ev->R (List D)} {pos:Pos}
theorem Exx.of {G₀ H₀ G H:Hp} {D:Ends} {σ:St} {ρ:Ev} {C:Addr} (sr:StR X.K G₀ H₀ G H σ ρ) (h:oG X G₀ H₀ D (.ex C ρ)):Exx X σ G H C:=fun e s' ⟨G1,H1,u,f⟩=>h e s' (.of (sr.ups u) f)
theorem rN:nv X [] (fun ρ=>.nx ρ):=fun G₀ H₀ pins s σ H D I h=>by
 obtain ⟨G,ρ,sr,h⟩:=h
 try dsimp only at h
 exact BQ pins s σ H D I (h σ G H sr)
theorem pP (h1:QSF X st g1) (h2:nv X cq g2):nv X (st::cq) (fun ρ=>(g1 ρ).seq g2):=fun G₀ H₀ pins s σ H D I h=>by
 refine oE (h1 G₀ H₀) (h2 G₀ H₀) pins s σ H D I ?_
 obtain ⟨G,ρ,sr,h⟩:=h
 try dsimp only at h
 refine ⟨G,ρ,sr,?_⟩
 cases q:g1 ρ with
 | nx ρ'=>rw [q] at h; exact fun σ' G' H' sr'=>⟨G',ρ',sr',h⟩
 | rt d=>rw [q] at h; exact h
 | re d ρ'=>rw [q] at h; exact h
 | bk ρ'=>rw [q] at h; exact h
 | ct ρ'=>rw [q] at h; exact h
 | ex C ρ'=>rw [q] at h; exact h
 | no=>rw [q] at h; exact h
theorem uM (he:QF X e ga):QSF X (.Return (some e) pos) (fun ρ=>(ga ρ).out ρ .rt):=fun G₀ H₀ pins s σ H D I h=>by
 refine Az he pins s σ H D I ?_
 obtain ⟨G,ρ,sr,h⟩:=h
 try dsimp only at h
 refine ⟨G,ρ,sr.e,?_⟩
 cases q:ga ρ with
 | ok d=>rw [q] at h; exact fun v G' H' u r=>h v G' H' (sr.up.trans u) r
 | ex C=>rw [q] at h; exact Exx.of sr h
 | no=>rw [q] at h; exact h
theorem qW (he:QF X e ga) (hs:swapsWith e none pos.line X.env=pure false:=by rfl):QSF X (.Expr e pos) (fun ρ=>(ga ρ).out ρ fun _=>.nx ρ):=fun G₀ H₀ pins s σ H D I h=>by
 refine kC he hs pins s σ H D I ?_
 obtain ⟨G,ρ,sr,h⟩:=h
 try dsimp only at h
 refine ⟨G,ρ,sr.e,?_⟩
 cases q:ga ρ with
 | ok d=>rw [q] at h; exact fun v G' H' u r=>h σ G' H' (sr.ups u)
 | ex C=>rw [q] at h; exact Exx.of sr h
 | no=>rw [q] at h; exact h
theorem wT (hc:QB X c gt) (ha:nv X a g1) (hb:nv X b g2):QSF X (.If c a b pos) (fun ρ=>(gt ρ).out ρ fun k=>if k=true then g1 ρ else g2 ρ):=fun G₀ H₀ pins s σ H D I h=>by
 refine Gx hc (ha G₀ H₀) (hb G₀ H₀) pins s σ H D I ?_
 obtain ⟨G,ρ,sr,h⟩:=h
 try dsimp only at h
 refine ⟨G,ρ,sr.e,?_⟩
 cases q:gt ρ with
 | ok k=>
  rw [q] at h
  intro b' G' H' u r
  subst r
  cases b' with
  | true=>rw [if_pos rfl]; exact ⟨G',ρ,sr.ups u,by simpa [R.out] using h⟩
  | false=>rw [if_neg Bool.false_ne_true]; exact ⟨G',ρ,sr.ups u,by simpa [R.out] using h⟩
 | ex C=>rw [q] at h; exact Exx.of sr h
 | no=>rw [q] at h; exact h
theorem mW {asg:D->Ev->R Ev} (he:QF X e ga) (hg:PGF X tg asg) (hs:swapsWithSole [tg] e pos.line X.env=pure false:=by rfl) (hw:swappedStores [tg] e X.env=pure none:=by rfl)
  (hn:∀ d ρ C,asg d ρ ≠ .ex C:=by intro _ _ _ z; cases z) (h1:(assignEach [tg] X.env).map (·.2)=[assign tg X.env]:=by rfl):QSF X (.Assign [tg] e pos) (fun ρ=>(ga ρ).out ρ fun d=>(asg d ρ).out ρ .nx):=fun G₀ H₀ pins s σ H D I h=>by
 refine AE he hg hs hw h1 pins s σ H D I ?_
 obtain ⟨G,ρ,sr,h⟩:=h
 try dsimp only at h
 refine ⟨G,ρ,sr.e,?_⟩
 cases q:ga ρ with
 | ok d=>
  rw [q] at h
  simp only [R.out] at h
  intro v G' H' u r
  cases q2:asg d ρ with
  | ok ρ'=>rw [q2] at h; exact ⟨G₀,H₀,G',ρ,d,ρ',sr.ups u,r,q2,fun σ' sr'=>h σ' G' H' sr'⟩
  | ex C=>exact absurd q2 (hn d ρ C)
  | no=>rw [q2] at h; exact h.elim
 | ex C=>rw [q] at h; exact Exx.of sr h
 | no=>rw [q] at h; exact h
theorem uH (i:Nat) {x:Str} {p:Pos} (hN:X.N.Nodup) (he:QF X e ga) (hi:X.N[i]?=some x:=by rfl) (hx:Loc X.env.scope x:=by first | exact Or.inl rfl | exact Or.inr rfl)
  (hs:swapsWithSole [.Name x p] e pos.line X.env=pure false:=by rfl) (hw:swappedStores [.Name x p] e X.env=pure none:=by rfl) (hf:X.fn x=true\/X.env.scope.names.lookup x=some .local:=by first | exact .inl rfl | exact .inr rfl) :
  QSF X (.Assign [.Name x p] e pos) (fun ρ=>(ga ρ).out ρ fun d=>.nx (ρ.set i (some (.val d)))):=mW he (cy i hN hi hx hf) hs hw
theorem StR.setOwn {K:PySem.W.Frag} {G₀ H₀ G H:Hp} {σ:St} {ρ:Ev} (s:StR K G₀ H₀ G H σ ρ) {l:Addr} {vs:List V} {ds:List D} (hl:H l=none) (r:Reps K G vs ds) (i:Nat) :
  StR K G₀ H₀ G (upd H l (.lst vs)) (σ.set i (some (.ref l))) (ρ.set i (some (.own ds))):=by
 have gl:G l=none:=s.e.sub.free hl
 have sub:Same G (upd H l (.lst vs)):=fun a o e=>by rw [aJ (aM e gl)]; exact s.e.sub a o e
 have get:∀ (j:Nat) x,(ρ.set i (some (.own ds)))[j]?=some (some x)->(j=i/\x=.own ds/\i < σ.length)\/(j ≠ i/\ρ[j]?=some (some x)/\(σ.set i (some (.ref l)))[j]?=σ[j]?):=fun j x h=>by
  by_cases e:i=j
  ·subst e
   have hl:i < ρ.length:=by
    have:=(List.getElem?_eq_some_iff.mp h).1
    simpa using this
   rw [List.getElem?_set_self hl] at h
   exact .inl ⟨rfl,by injection (Option.some.inj h) with q; exact q.symm,by rw [s.e.len]; exact hl⟩
  ·rw [List.getElem?_set_ne e] at h
   exact .inr ⟨fun z=>e z.symm,h,List.getElem?_set_ne e⟩
 have ob:ObSt K H₀ G (upd H l (.lst vs)) (σ.set i (some (.ref l))) (ρ.set i (some (.own ds))):=by
  obtain ⟨ow,o1,o2⟩:=s.ob
  have nl:∀ {a:Addr} {o:HO},H a=some o->a ≠ l:=fun e z=>by rw [z,hl] at e; cases e
  refine ⟨fun a=>if a=l then some (i,0) else ow a,fun j es l' h1 h2=>?_,fun j m C p fs h1=>?_⟩
  ·rcases get j _ h1 with ⟨rfl,e,hj⟩ | ⟨_,e,e'⟩
   ·rw [List.getElem?_set_self hj] at h2; cases h2; exact if_pos rfl
   ·rw [e'] at h2
    obtain ⟨l2,vs2,q1,q2,_⟩:=s.own j es e
    rw [h2] at q1; cases q1
    exact (if_neg (nl q2)).trans (o1 j es l' e h2)
  ·rcases get j _ h1 with ⟨_,e,_⟩ | ⟨_,e,e'⟩
   ·cases e
   ·rw [e']
    refine ⟨(o2 j m C p fs e).1,(o2 j m C p fs e).2.keep ⟨fun a t o _ q=>?_,.refl _,fun a t o _ _ n=>n,fun a t o q1 q2=>?_,fun a o _ _ n=>n⟩⟩
    ·rw [aJ (nl q)]; exact q
    ·exact (if_neg (nl q2)).trans q1
 refine ⟨⟨sub,by simp [s.e.len],fun j d' h=>?_,ob.rd⟩,s.sub0,⟨sub,s.up.gg,fun a o e=>?_,s.up.fr⟩,fun j es h=>?_,fun j k es fs l' h1 h2 h3 h4=>?_,ob⟩
 ·rcases get j _ h with ⟨_,e,_⟩ | ⟨_,e,e'⟩
  ·cases e
  ·rw [e']; exact s.e.val j d' e
 ·rw [aJ (aM (s.up.hh a o e) hl)]; exact s.up.hh a o e
 ·rcases get j _ h with ⟨rfl,e,hj⟩ | ⟨_,e,e'⟩
  ·cases e
   exact ⟨l,vs,List.getElem?_set_self hj,bc,gl,s.up.hh.free hl,r⟩
  ·obtain ⟨l',vs',h1,h2,h3,h4,h5⟩:=s.own j es e
   exact ⟨l',vs',by rw [e']; exact h1,by rw [aJ (aM h2 hl)]; exact h2,h3,h4,h5⟩
 ·rcases get j _ h1 with ⟨rfl,e,hj⟩ | ⟨nj,e,e'⟩
  ·rcases get k _ h2 with ⟨rfl,f,_⟩ | ⟨nk,f,f'⟩
   ·rfl
   ·obtain ⟨l2,vs2,q1,q2,_⟩:=s.own k fs f
    rw [List.getElem?_set_self hj] at h3
    rw [f',q1] at h4
    cases h3
    cases h4
    rw [hl] at q2; cases q2
  ·rcases get k _ h2 with ⟨rfl,f,hk⟩ | ⟨nk,f,f'⟩
   ·obtain ⟨l2,vs2,q1,q2,_⟩:=s.own j es e
    rw [List.getElem?_set_self hk] at h4
    rw [e',q1] at h3
    cases h3
    cases h4
    rw [hl] at q2; cases q2
   ·exact s.inj j k es fs l' e f (e' ▸ h3) (f' ▸ h4)
theorem StR.mut {K:PySem.W.Frag} {G₀ H₀ G H:Hp} {σ:St} {ρ:Ev} (s:StR K G₀ H₀ G H σ ρ) {i:Nat} {l:Addr} {ds es:List D} {vs:List V} (e:ρ[i]?=some (some (.own ds))) (hs:σ[i]?=some (some (.ref l))) (r:Reps K G vs es) :
  StR K G₀ H₀ G (upd H l (.lst vs)) σ (ρ.set i (some (.own es))):=by
 obtain ⟨l0,vs0,h1,h2,h3,h4,h5⟩:=s.own i ds e
 rw [hs] at h1
 cases h1
 have sub:Same G (upd H l (.lst vs)):=fun a o e=>by rw [aJ (aM e h3)]; exact s.e.sub a o e
 have hl:i < ρ.length:=(List.getElem?_eq_some_iff.mp e).1
 have get:∀ (j:Nat) x,(ρ.set i (some (.own es)))[j]?=some (some x)->(j=i/\x=.own es)\/(j ≠ i/\ρ[j]?=some (some x)):=fun j x h=>by
  by_cases e:i=j
  ·subst e
   rw [List.getElem?_set_self hl] at h
   exact .inl ⟨rfl,by injection (Option.some.inj h) with q; exact q.symm⟩
  ·rw [List.getElem?_set_ne e] at h
   exact .inr ⟨fun z=>e z.symm,h⟩
 have ob:ObSt K H₀ G (upd H l (.lst vs)) σ (ρ.set i (some (.own es))):=by
  obtain ⟨ow,o1,o2⟩:=s.ob
  have ol:=o1 i ds l e hs
  refine ⟨ow,fun j fs l' q1 q2=>?_,fun j m C p fs q1=>?_⟩
  ·rcases get j _ q1 with ⟨rfl,_⟩ | ⟨nj,f1⟩
   ·exact o1 j ds l' e q2
   ·exact o1 j fs l' f1 q2
  ·rcases get j _ q1 with ⟨_,e'⟩ | ⟨nj,f1⟩
   ·cases e'
   ·have ne:∀ a t,ow a=some (j,t)->a ≠ l:=fun a t q z=>by rw [z,ol] at q; cases q; exact nj rfl
    refine ⟨(o2 j m C p fs f1).1,(o2 j m C p fs f1).2.keep ⟨fun a t o q1 q=>?_,.refl _,fun a t o _ _ n=>n,fun a t o q1 _=>q1,fun a o _ _ n=>n⟩⟩
    ·rw [aJ (ne a t q1)]; exact q
 refine ⟨⟨sub,by simp [s.e.len],fun j d' h=>?_,ob.rd⟩,s.sub0,⟨sub,s.up.gg,fun a o e=>?_,s.up.fr⟩,fun j fs h=>?_,fun j k fs gs l' q1 q2 q3 q4=>?_,ob⟩
 ·rcases get j _ h with ⟨_,e⟩ | ⟨_,e⟩
  ·cases e
  ·exact s.e.val j d' e
 ·rw [aJ (aM e h4)]; exact s.up.hh a o e
 ·rcases get j _ h with ⟨rfl,e'⟩ | ⟨nj,e'⟩
  ·cases e'
   exact ⟨l,vs,hs,bc,h3,h4,r⟩
  ·obtain ⟨l',vs',p1,p2,p3,p4,p5⟩:=s.own j fs e'
   have:l' ≠ l:=fun z=>by subst z; exact nj (s.inj j i fs ds l' e' e p1 hs)
   exact ⟨l',vs',p1,by rw [aJ this]; exact p2,p3,p4,p5⟩
 ·rcases get j _ q1 with ⟨rfl,_⟩ | ⟨nj,f1⟩
  ·rcases get k _ q2 with ⟨rfl,_⟩ | ⟨nk,f2⟩
   ·rfl
   ·exact s.inj j k ds gs l' e f2 q3 q4
  ·rcases get k _ q2 with ⟨rfl,_⟩ | ⟨nk,f2⟩
   ·exact s.inj j k fs ds l' f1 e q3 q4
   ·exact s.inj j k fs gs l' f1 f2 q3 q4
def frz (i:Nat) (ρ:Ev):Ev:=match ρ[i]? with
 | some (some (.own ds))=>ρ.set i (some (.val (.lst false ds)))
 | _=>ρ
theorem StR.frzTo {K:PySem.W.Frag} {G₀ H₀ G H:Hp} {σ:St} {ρ:Ev} (s:StR K G₀ H₀ G H σ ρ) (i:Nat):∃ G',StR K G₀ H₀ G' H σ (L2.frz i ρ)/\(G'=G\/∃ l vs,G l=none/\G'=upd G l (.lst vs)):=by
 unfold L2.frz
 split
 ·rename_i ds e
  obtain ⟨l,vs,h1,h2,h3,h4,h5⟩:=s.own i ds e
  have hl:i < ρ.length:=(List.getElem?_eq_some_iff.mp e).1
  have g0:G₀ l=none:=s.sub0.free h4
  have into:Same G (upd G l (.lst vs)):=.into h3
  have sub:Same (upd G l (.lst vs)) H:=fun a o q=>by
   by_cases ea:a=l
   ·subst ea; rw [bc] at q; rw [<- q]; exact h2
   ·rw [aJ ea] at q; exact s.e.sub a o q
  have get:∀ (j:Nat) x,(ρ.set i (some (.val (.lst false ds))))[j]?=some (some x)->(j=i/\x=.val (.lst false ds))\/(j ≠ i/\ρ[j]?=some (some x)):=fun j x h=>by
   by_cases e:i=j
   ·subst e
    rw [List.getElem?_set_self hl] at h
    exact .inl ⟨rfl,by injection (Option.some.inj h) with q; exact q.symm⟩
   ·rw [List.getElem?_set_ne e] at h
    exact .inr ⟨fun z=>e z.symm,h⟩
  have ob:ObSt K H₀ (upd G l (.lst vs)) H σ (ρ.set i (some (.val (.lst false ds)))):=by
   obtain ⟨ow,o1,o2⟩:=s.ob
   have ol:=o1 i ds l e h1
   refine ⟨ow,fun j fs l' q1 q2=>?_,fun j m C p fs q1=>?_⟩
   ·rcases get j _ q1 with ⟨_,e'⟩ | ⟨nj,f1⟩
    ·cases e'
    ·exact o1 j fs l' f1 q2
   ·rcases get j _ q1 with ⟨_,e'⟩ | ⟨nj,f1⟩
    ·cases e'
    ·have ne:∀ a t,ow a=some (j,t)->a ≠ l:=fun a t q z=>by rw [z,ol] at q; cases q; exact nj rfl
     refine ⟨(o2 j m C p fs f1).1,(o2 j m C p fs f1).2.keep ⟨fun a t o _ q=>q,into,fun a t o q1 _ n=>?_,fun a t o q1 _=>q1,fun a o _ _ n=>n⟩⟩
     ·rw [aJ (ne a t q1)]; exact n
  refine ⟨upd G l (.lst vs),⟨⟨sub,by simp [s.e.len],fun j d' h=>?_,ob.rd⟩,s.sub0,⟨sub,s.up.gg.trans into,s.up.hh,fun a o q=>?_⟩,fun j fs h=>?_,fun j k fs gs l' q1 q2 q3 q4=>?_,ob⟩,.inr ⟨l,vs,h3,rfl⟩⟩
  ·rcases get j _ h with ⟨rfl,e'⟩ | ⟨_,e'⟩
   ·cases e'
    exact ⟨.ref l,h1,.lst bc (h5.mono into)⟩
   ·obtain ⟨v,p1,p2⟩:=s.e.val j d' e'
    exact ⟨v,p1,p2.mono into⟩
  ·by_cases ea:a=l
   ·subst ea; exact .inr h4
   ·rw [aJ ea] at q; exact s.up.fr a o q
  ·rcases get j _ h with ⟨_,e'⟩ | ⟨nj,e'⟩
   ·cases e'
   ·obtain ⟨l',vs',p1,p2,p3,p4,p5⟩:=s.own j fs e'
    have:l' ≠ l:=fun z=>by subst z; exact nj (s.inj j i fs ds l' e' e p1 h1)
    exact ⟨l',vs',p1,p2,by rw [aJ this]; exact p3,p4,p5.mono into⟩
  ·rcases get j _ q1 with ⟨_,e'⟩ | ⟨nj,f1⟩
   ·cases e'
   ·rcases get k _ q2 with ⟨_,e'⟩ | ⟨nk,f2⟩
    ·cases e'
    ·exact s.inj j k fs gs l' f1 f2 q3 q4
 ·exact ⟨G,s,.inl rfl⟩
theorem StR.frz {K:PySem.W.Frag} {G₀ H₀ G H:Hp} {σ:St} {ρ:Ev} (s:StR K G₀ H₀ G H σ ρ) (i:Nat):∃ G',StR K G₀ H₀ G' H σ (L2.frz i ρ):=
 let ⟨G',h,_⟩:=s.frzTo i; ⟨G',h⟩
theorem rX {sts:List Stmt} (i:Nat) (h:nv X sts g):nv X sts (fun ρ=>g (frz i ρ)):=fun G₀ H₀ pins s σ H D I q=>by
 obtain ⟨G,ρ,sr,q⟩:=q
 obtain ⟨G',sr'⟩:=sr.frz i
 exact h G₀ H₀ pins s σ H D I ⟨G',_,sr',q⟩
def ownAt (ρ:Ev) (i:Nat):R (List D):=match ρ[i]? with
 | some (some (.own ds))=>.ok ds
 | _=>.no
theorem ownAt.ok {ρ:Ev} {i:Nat} {k:List D->O} {D:Ends} {G₀ H₀:Hp} (h:oG X G₀ H₀ D ((ownAt ρ i).out ρ k)):∃ ds,ρ[i]?=some (some (.own ds))/\oG X G₀ H₀ D (k ds):=by
 unfold ownAt at h
 split at h
 ·rename_i ds e; exact ⟨ds,e,h⟩
 ·exact h.elim
theorem nK (i:Nat) {x:Str} {p ap cp:Pos} (he:QF X e ga) (hi:X.N[i]?=some x:=by rfl) (hv:Vis X.env.scope x:=by first | exact Or.inl rfl | exact Or.inr (Or.inl rfl))
  (hd:(x==("__debug__":Str))=false:=by decide) (hcd:(x==("__classdict__":Str))=false:=by decide) (hs1:starEach [e] X.env=(false,eval e X.env)::starEach [] X.env:=by rfl)
  (hbase:attributeBase (.Name x p) "append" X.env (eval (.Name x p) X.env)=eval (.Name x p) X.env:=by rfl)
  (hfew:((backTo cp (starEach [e] X.env)).all (fun x=>!x.1) && (backToKw cp (keywordEach [] X.env)).all (fun x=>x.1.isSome)
   && decide ([e].length+([]:List Keyword).length+(if ([]:List Keyword).isEmpty then 0 else 1) < 30))=true:=by rfl)
  (hline:(ap.endLine==cp.line)=true:=by rfl)
  (hs:swapsWith (.Call (.Attribute (.Name x p) "append" ap) [e] [] cp) none pos.line X.env=pure false:=by rfl) :
  QSF X (.Expr (.Call (.Attribute (.Name x p) "append" ap) [e] [] cp) pos) (fun ρ=>(ownAt ρ i).out ρ fun ds=>(ga ρ).out ρ fun d=>if ds.length < sizeLine then .nx (ρ.set i (some (.own (ds++[d])))) else .no):=fun G₀ H₀ pins s σ H D I h=>by
 refine kC (Bw PySem.F.plainAttrs_list PySem.F.slot_list_append PySem.F.type_list_append ij (gJ hi hv hd hcd) (ee he kQ hs1) hbase hfew hline hs1 rfl) hs pins s σ H D I ?_
 obtain ⟨G,ρ,sr,h⟩:=h
 try dsimp only at h
 obtain ⟨ds,e1,h⟩:=ownAt.ok h
 obtain ⟨l,vs,h1,h2,h3,h4,h5⟩:=sr.own i ds e1
 refine ⟨.ref l,h1,.inl ⟨rfl,vs,.of h2⟩,G,ρ,sr.e,?_⟩
 cases q:ga ρ with
 | ok d=>
  rw [q] at h
  simp only [R.out] at h
  intro v G' H' u r
  by_cases hz:ds.length < sizeLine
  ·rw [if_pos hz] at h
   refine ⟨l,vs,v,rfl,rfl,u.hh _ _ h2,by rw [h5.length]; exact hz,h _ G' _ ?_⟩
   exact (sr.ups u).mut e1 h1 ((h5.mono u.gg).append (.cons r .nil))
  ·rw [if_neg hz] at h; exact h.elim
 | ex C=>rw [q] at h; exact Exx.of sr h
 | no=>rw [q] at h; exact h
def asL:D->R (List D)
 | .lst false xs=>.ok xs
 | _=>.no
def cF (asg:D->Ev->R Ev) (g:Ev->O):List D->Ev->O
 | [],ρ=>.nx ρ
 | d::ds,ρ=>(asg d ρ).out ρ fun ρ1=>match g ρ1 with
  | .nx ρ2=>cF asg g ds ρ2
  | .ct ρ2=>cF asg g ds ρ2
  | .bk ρ2=>.nx ρ2
  | .rt d=>.rt d
  | .re d ρ2=>.re d ρ2
  | .ex C ρ2=>.ex C ρ2
  | .no=>.no
def mix (H₀ G₁:Hp):Hp:=fun a=>match G₁ a with
 | some o=>some o
 | none=>H₀ a
theorem nO {H₀ G₁:Hp} {a:Addr} (h:mix H₀ G₁ a=none):G₁ a=none/\H₀ a=none:=by
 unfold mix at h
 cases q:G₁ a with
 | none=>rw [q] at h; exact ⟨rfl,h⟩
 | some o=>rw [q] at h; cases h
section
variable {K:PySem.W.Frag} {G₀ H₀ G₁ H₁ G H:Hp} {σ:St} {ρ:Ev}
theorem StR.to (s:StR K G₀ H₀ G₁ H₁ σ ρ):StR K G₁ (mix H₀ G₁) G₁ H₁ σ ρ:=by
 refine ⟨s.e,fun a o e=>?_,⟨s.e.sub,.refl _,fun a o e=>?_,fun _ _ e=>.inl e⟩,fun i ds e=>?_,s.inj,?_⟩
 ·unfold mix; rw [e]
 ·unfold mix at e
  cases q:G₁ a with
  | none=>rw [q] at e; exact s.up.hh a o e
  | some o'=>rw [q] at e; cases e; exact s.e.sub a o q
 ·obtain ⟨l,vs,h1,h2,h3,h4,h5⟩:=s.own i ds e
  exact ⟨l,vs,h1,h2,h3,by unfold mix; rw [h3]; exact h4,h5⟩
 ·obtain ⟨ow,o1,o2⟩:=s.ob
  exact ⟨ow,o1,fun i m C p fs e=>⟨(o2 i m C p fs e).1,(o2 i m C p fs e).2.keep ⟨fun a t o _ q=>q,.refl _,fun a t o _ _ n=>n,fun a t o q1 _=>q1,fun a o _ g n=>by unfold mix; rw [g]; exact n⟩⟩⟩
theorem Up.back (u:Up G₀ H₀ G₁ H₁) (v:Up G₁ (mix H₀ G₁) G H):Up G₀ H₀ G H:=by
 refine ⟨v.sub,u.gg.trans v.gg,fun a o e=>?_,fun a o e=>?_⟩
 ·cases q:G₁ a with
  | none=>exact v.hh a o (by unfold mix; rw [q]; exact e)
  | some o'=>
   have h1:=u.sub a o' q
   have h2:=u.hh a o e
   rw [h1] at h2
   cases h2
   exact v.hh a o (by unfold mix; rw [q])
 ·rcases v.fr a o e with h | h
  ·exact u.fr a o h
  ·exact .inr (nO h).2
theorem StR.back (s0:Same G₀ H₀) (u:Up G₀ H₀ G₁ H₁) (s:StR K G₁ (mix H₀ G₁) G H σ ρ):StR K G₀ H₀ G H σ ρ:=
 ⟨s.e,s0,u.back s.up,fun i ds e=>let ⟨l,vs,h1,h2,h3,h4,h5⟩:=s.own i ds e; ⟨l,vs,h1,h2,h3,(nO h4).2,h5⟩,s.inj,by
 obtain ⟨ow,o1,o2⟩:=s.ob
 exact ⟨ow,o1,fun i m C p fs e=>⟨(o2 i m C p fs e).1,(o2 i m C p fs e).2.keep ⟨fun a t o _ q=>q,.refl _,fun a t o _ _ n=>n,fun a t o q1 _=>q1,fun a o _ _ n=>(nO n).2⟩⟩⟩⟩
end
theorem uo {iter:Expr} {gi:Ev->R (List D)} {asg:D->Ev->R Ev} (hp:PassesOwn (model X.prog X.w) X.A X.env X.xe) (hcalm:X.calm=true) (hi:QIF X tg iter gi) (hg:PGF X tg asg) (hb:nv X body g)
  (hs:∀ x,foldedSetIterable iter X.env x=pure x:=by intro _; rfl) (hn:∀ d ρ C,asg d ρ ≠ .ex C:=by intro _ _ _ z; cases z):QSF X (.For tg iter body [] pos) (fun ρ=>(gi ρ).out ρ fun items=>cF asg g items ρ):=fun G₀ H₀ pins s σ H D I h=>by
 obtain ⟨G,ρ,sr,h⟩:=h
 try dsimp only at h
 cases q:gi ρ with
 | ok items=>
  rw [q] at h
  simp only [R.out] at h
  have key:∀ (J:It) (G1 H1:Hp),Up G H G1 H1->ItOk X.K G1 J items->∃ W:Nat->Nat->St->Hp->Prop,(∃ m,W 0 m σ H1)/\∀ i m σ H,W i m σ H->
    (J.stop i H/\D.nx σ H)\/(J.go i H/\∃ N:St->Hp->Prop,(∀ σ' H',N σ' H'->∃ m',m' < m/\W (i+1) m' σ' H')/\∀ x H',J.yld i H x H'->(fun v σ H Q=>∃ G₀ H₀ G ρ d ρ',StR X.K G₀ H₀ G H σ ρ/\Rep X.K G v d/\asg d ρ=.ok ρ'/\∀ σ',StR X.K G₀ H₀ G H σ' ρ'->Q σ' H) x σ H' fun σ2 H2=>(fun D σ H=>∃ G₀ H₀,tS X G₀ H₀ g D σ H) { D with nx:=N,ct:=N,bk:=D.nx } σ2 H2):=by
   intro J G1 H1 u1 iok
   have sr1:=sr.ups u1
   refine ⟨fun i m σ' H'=>m=items.length - i/\i<=items.length/\∃ G' ρ',StR X.K G1 (mix H₀ G1) G' H' σ' ρ'/\oG X G₀ H₀ D (cF asg g (items.drop i) ρ'),⟨items.length,by simp,Nat.zero_le _,G1,ρ,sr1.to,by simpa using h⟩,?_⟩
   rintro i m σ' H' ⟨rfl,hil,G',ρ',sr',h'⟩
   have hIt:=iok i G' H' sr'.up.gg sr'.e.sub
   by_cases hlt:i < items.length
   ·have hd:items.drop i=items[i]::items.drop (i+1):=List.drop_eq_getElem_cons hlt
    rw [hd] at h'
    obtain ⟨go,yl⟩:=hIt.1 items[i] (by simp [hlt])
    refine .inr ⟨go,fun σ2 H2=>i+1<=items.length/\∃ G2 ρ2,StR X.K G1 (mix H₀ G1) G2 H2 σ2 ρ2/\oG X G₀ H₀ D (cF asg g (items.drop (i+1)) ρ2),fun σ2 H2 q2=>⟨items.length - (i+1),by omega,rfl,q2⟩,fun x H2 y=>?_⟩
    obtain ⟨G2,up2,rep2⟩:=yl x H2 y
    unfold cF at h'
    cases q2:asg items[i] ρ' with
    | ok ρ1=>
     rw [q2] at h'
     simp only [R.out] at h'
     refine ⟨G1,mix H₀ G1,G2,ρ',items[i],ρ1,sr'.ups up2,rep2,q2,fun σ3 sr3=>⟨G1,mix H₀ G1,G2,ρ1,sr3,?_⟩⟩
     cases q3:g ρ1 with
     | nx ρ2=>rw [q3] at h'; exact fun σ4 G4 H4 sr4=>⟨hlt,G4,ρ2,sr4,h'⟩
     | ct ρ2=>rw [q3] at h'; exact fun σ4 G4 H4 sr4=>⟨hlt,G4,ρ2,sr4,h'⟩
     | bk ρ2=>rw [q3] at h'; exact fun σ4 G4 H4 sr4=>h' σ4 G4 H4 (sr4.back sr.sub0 sr1.up)
     | rt d=>rw [q3] at h'; exact fun v G4 H4 u4 r4=>h' v G4 H4 (sr1.up.back u4) r4
     | re d ρ2=>rw [q3] at h'; exact fun v σ4 G4 H4 sr4 r4=>h' v σ4 G4 H4 (sr4.back sr.sub0 sr1.up) r4
     | ex C ρ2=>rw [q3] at h'; exact fun e s' f4=>h' e s' (f4.map fun σ4 G4 H4 sr4=>sr4.back sr.sub0 sr1.up)
     | no=>rw [q3] at h'; exact h'
    | ex C=>exact absurd q2 (hn _ _ C)
    | no=>rw [q2] at h'; exact h'.elim
   ·have hie:i=items.length:=by omega
    subst hie
    rw [List.drop_length] at h'
    exact .inl ⟨hIt.2 (Nat.le_refl _),h' σ' G' H' (sr'.back sr.sub0 sr1.up)⟩
  have hb':PSs X body (fun D σ H=>∃ G₀ H₀,tS X G₀ H₀ g D σ H):=fun pins s σ H D I ⟨G₀,H₀,q⟩=>hb G₀ H₀ pins s σ H D I q
  refine An hp hcalm hi hg hb' hs pins s σ H D I ⟨G,ρ,sr.e,?_⟩
  rw [q]
  exact fun J G1 H1 u1 iok=>key J G1 H1 u1 iok
 | ex C=>
  rw [q] at h
  have hb':PSs X body (fun D σ H=>∃ G₀ H₀,tS X G₀ H₀ g D σ H):=fun pins s σ H D I ⟨G₀,H₀,q⟩=>hb G₀ H₀ pins s σ H D I q
  refine An hp hcalm hi hg hb' hs pins s σ H D I ⟨G,ρ,sr.e,?_⟩
  rw [q]
  exact Exx.of sr h
 | no=>rw [q] at h; exact h.elim
end
end L2
namespace L2
open PySem PySem.Spec PyProof.Rows
def spF (K:PySem.W.Frag) (f:List D->R D):Sp:=fun vs H Q E=>∃ G ds,Same G H/\Reps K G vs ds/\(f ds).post (Fin G H (Rep K) Q) (fun C=>∀ G' H',Up G H G' H'->E (.ref C) none H')
abbrev FnF (P:Program) (w:World) (K:PySem.W.Frag) (mg:Str->Option Value) (base:Heap) (k:Nat) (f:Addr) (fd:FuncData) (ps:List Str) (g:List D->R D):Prop:=FnOk P w K mg base (CXo P w) k f fd ps (fun vs H Q E=>vs.length=ps.length/\spF K g vs H Q E)
section
variable {X:Cx} {k:Nat} {f:Addr} {fd:FuncData} {ps:List Str} {x:Str} {p pos:Pos} {e:Expr} {es:List Expr} {gl:Ev->R (List D)} {g:List D->R D}
theorem vp (F:FnF X.prog X.w X.K X.mg X.base k f fd ps g) (hr:Room k X.A) (hg:Gl X x) (hm:X.mg x=some (.ref f)) (hk:PySem.W.keepIn X.K (.ref f)=true) (hb:Binds X.K fd ps []) (ha:QFA X (e::es) gl)
  (hdb:(x==("__debug__":Str))=false:=by decide) (he:starEach (e::es) X.env=(false,eval e X.env)::starEach es X.env:=by rfl) (hpl:(backTo pos (starEach es X.env)).any (·.1)=false:=by rfl) :
  QF X (.Call (.Name x p) (e::es) [] pos) (fun ρ=>gl ρ>>=fun ds=>if ds.length=ps.length then g ds else .no):=by
 intro pins s σ H Q I h
 obtain ⟨G,ρ,st,h⟩:=h
 have t:tAF X gl σ H (fun vs H1=>∃ G1 ds,Up G H G1 H1/\Same G1 H1/\Reps X.K G1 vs ds/\ds.length=ps.length/\(g ds).post (Fin G1 H1 (Rep X.K) Q) (Exx X σ G1 H1)):=by
  refine tG.intro st h fun ds vs G1 H1 u1 st1 r1 h1=>?_
  by_cases hl:ds.length=ps.length
  ·rw [if_pos hl] at h1; exact ⟨G1,ds,u1,st1.sub,r1,hl,h1⟩
  ·rw [if_neg hl] at h1; exact h1.elim
 refine wpAny_Call_Name_kw (nP I hg hm ?_ hdb)
 refine PySem.W.callWith_K (h₀:=X.base) I.ok.mod.kin hk (thn (ha pos pins s σ H _ I t) fun us s1 q=>⟨?_,?_⟩) he hpl
 ·obtain ⟨vs,H1,I1,r,_⟩:=q; exact I1.kIn
 obtain ⟨vs,H1,I1,r,G1,ds,u1,sub1,rp,hl,h1⟩:=q
 have hvl:vs.length=ps.length:=by rw [rp.length]; exact hl
 have hul:(us++[]).length=ps.length:=by rw [List.append_nil,<- r.length]; exact hvl
 have hbb:=hb s1 us I1.kIn hul
 rw [List.append_nil] at hbb
 refine wpAny_call (codeAny_mono (F.run X.A X.stack s1 H1 ⟨us,[]⟩ us vs Q (fun c _ H'=>∃ C G',c=.ref C/\Up G1 H1 G' H'/\Exx X σ G1 H1 C) hr I1.env0 hbb r ⟨hvl,G1,ds,sub1,rp,h1.mono (fun _ q=>q) fun C q G' H' u=>⟨C,G',rfl,u,q⟩⟩) fun r' s' hq=>?_)
 cases r' with
 | error e'=>
  obtain ⟨a,C,H',rfl,fl,C',G',ec,u,q⟩:=hq
  cases ec
  exact q _ _ ⟨G1,H1,.refl sub1,pins,s1,a,rfl,I1,.inr (.inl ⟨G',H',fl,u⟩)⟩
 | ok fl=>
  cases fl with
  | ret u=>exact I1.after hq
  | next=>exact False.elim hq
  | brk=>exact False.elim hq
  | cont=>exact False.elim hq
end
theorem ObjOk.there {P:Program} {w:World} {H:Hp} {h:Heap} {a:Addr} {o:HO} (x:ObjOk P w H h a o):∃ ob,h.get? a=some ob:=by
 cases o with
 | lst xs=>obtain ⟨_,_,_,_,e⟩:=x; exact ⟨_,e⟩
 | tup xs=>obtain ⟨_,_,_,o,e,_⟩:=x; exact ⟨_,e⟩
 | dK kvs=>obtain ⟨_,_,_,_,o,_,_,e,_⟩:=x; exact ⟨_,e⟩
 | dT kvs=>obtain ⟨_,_,_,_,o,_,_,e,_⟩:=x; exact ⟨_,e⟩
 | set S n=>obtain ⟨o,_,_,_,e,_⟩:=x; exact ⟨_,e⟩
 | ins C dx fs=>obtain ⟨_,_,_,e,_⟩:=x; exact ⟨_,e⟩
 | own y=>obtain ⟨_,e⟩:=x; exact ⟨_,e⟩
 | xd fs=>obtain ⟨_,⟨_,_,_,e,_⟩,_⟩:=x; exact ⟨_,e⟩
 | rng lo hi=>obtain ⟨_,_,_,e⟩:=x; exact ⟨_,e⟩
 | frz ob u=>obtain ⟨e,_⟩:=x; exact ⟨_,e⟩
 | tbl ps=>obtain ⟨_,e,_⟩:=x; exact ⟨_,e⟩
 | met f y=>exact ⟨_,show h.get? a=some _ from x⟩
 | ext φ=>obtain ⟨_,⟨_,e⟩,_⟩:=x; exact ⟨_,e⟩
theorem sF {env:Env} {outer:List Env} {L:Addr} (h:env.frame=some L):frs (env::outer)=L::frs outer:=by
 unfold frs
 rw [List.filterMap_cons,h]
section
variable {P:Program} {w:World} {H H':Hp} {h h1 h2 hm:Heap} {l l':List Addr} {B:Heap}
theorem HOk.flight (x:HOk P w H' h1) (hb:B.StaysIn h2) (hk:∀ b o,b ∉ l->((∃ o0,hm.get? b=some o0)\/∃ u,H' b=some u)->h1.get? b=some o->B.get? b=some o) (hl:∀ b ∈ l,H' b=none):HOk P w H' h2:=fun a o e=>by
 refine (x a o e).stay (fun b u hbb q=>hb b u (hk b u (fun z=>?_) (.inr ?_) q)) (fun _ z=>z) (fun _ _ z=>z)
 ·rcases hbb with rfl | hbb
  ·rw [hl _ z] at e; cases e
  ·rw [hl _ z] at hbb; cases hbb
 ·rcases hbb with rfl | hbb
  ·exact ⟨_,e⟩
  ·exact ⟨_,hbb⟩
theorem Un.flight {ex:List Addr} (u:Un l' ex H H' h h1) (hb:B.StaysIn h2) (sm:h1.UpToSlots h2) (hk:∀ b o,b ∉ l->((∃ o0,hm.get? b=some o0)\/∃ u,H' b=some u)->h1.get? b=some o->B.get? b=some o) (lt:∀ b o,h.get? b=some o->∃ o0,hm.get? b=some o0)
  (hl:∀ b ∈ l,b ∈ l'\/h.objs.size<=b) (hd:∀ b ∈ l,∀ o,h1.get? b=some o->∀ vs,o.data ≠ .fields vs):Un l' ex H H' h h2:=by
 refine ⟨fun b o e nn hb' hx=>?_,fun b o e nn hb' hx=>?_,u.free,fun b o e hx=>?_,u.tups,u.frzs,u.tbls⟩
 ·have q:=u.keep b o e nn hb' hx
  refine hb b o (hk b o (fun z=>?_) (.inl (lt b o e)) q)
  rcases hl b z with z | z
  ·exact hb' z
  ·exact absurd (Heap.lt_size e) (Nat.not_lt.mpr z)
 ·obtain ⟨sl,q⟩:=u.slot b o e nn hb' hx
  by_cases z:b ∈ l
  ·obtain ⟨sl',q'⟩:=sm b _ q (hd b z _ q)
   exact ⟨sl',q'⟩
  ·exact ⟨sl,hb b _ (hk b _ z (.inl (lt b o e)) q)⟩
 ·obtain ⟨o',q⟩:=u.there b o e hx
  by_cases z:b ∈ l
  ·obtain ⟨sl',q'⟩:=sm b _ q (hd b z _ q)
   exact ⟨_,q'⟩
  ·exact ⟨o',hb b _ (hk b _ z (.inl (lt b o e)) q)⟩
end
theorem FunFrames.data {h base:Heap}:∀ {l:List Env},h.FunFrames base l->∀ b ∈ frs l,∃ o,h.get? b=some o/\(∀ vs,o.data ≠ .fields vs)/\base.get? b=none:=fun {l} hf b hb=>by
 obtain ⟨h1,o,h2,h3⟩:=hf.mem hb
 exact ⟨o,h2,h3,h1⟩
def gCx (P:Program) (w:World) (K:PySem.W.Frag) (mg:Str->Option Value) (base:Heap) (N:List Str) (env:Env) (fn:Str->Bool) (A:Around) (outer:List Env) (s:Shared) (H:Hp) (E:XK):Cx where
 prog:=P
 w:=w
 K:=K
 mg:=mg
 base:=base
 A:=A.deeper env
 N:=N
 s₀:=s
 H₀:=H
 env:=env
 outer:=outer
 stack:=env::outer
 ex:=[]
 calm:=true
 fn:=fn
 pn:=[]
 xe:=fun e s'=>wpAny (model P w) (A.deeper env) (leaving env e) (fun _ s''=>CXo P w outer H s E e s'') (fun e' s''=>CXo P w outer H s E e' s'') s'
theorem CM {P : Program} {w : World} {K : PySem.W.Frag} {mg : Str -> Option Value} {base : Heap} {N : List Str} {env : Env} {fn : Str -> Bool} {A : Around} {outer : List Env} {s : Shared} {H : Hp} {E : XK} {G : Hp} {ρ : Ev} {C : Addr} {e : Value} {s' : Shared}
    (hloc : env.locals = s.heap.objs.size) (hf : env.frame = some s.heap.objs.size) (fl : FlyS (gCx P w K mg base N env fn A outer s H E) G H ρ C e s') (hE : ∀ G' H', Up G H G' H' -> E (.ref C) none H') : (gCx P w K mg base N env fn A outer s H E).xe e s' := by
  obtain ⟨σ, H₁, pins, s₁, a, rfl, I, way⟩ := fl
  have hfr : (A.deeper (env)).frames = some (env :: outer) := I.ok.frames
  have hst : frs (env :: outer) = s.heap.objs.size :: frs outer := sF hf
  have old : ∀ b o, s.heap.get? b = some o -> ∃ o0, s₁.heap.get? b = some o0 := fun b o e => I.base.there b o e (by show b ∉ ([] : List Addr); simp)
  show wpAny (model P w) (A.deeper (env)) (leaving (env) (.ref a)) (fun _ s'' => CXo P w outer H s E (.ref a) s'') (fun e' s'' => CXo P w outer H s E e' s'') s'
  -- the end, from the heap behind
  have fin : ∀ {H' : Hp} {G' : Hp} {s' : Shared} {h'' B : Heap} {a0 : Value}, Inv (gCx P w K mg base N env fn A outer s H E) pins σ H' s' -> StR K G H G' H' σ ρ -> H' a = none -> Heap.FlyingW B outer a (.ref C) a0 h'' -> s'.heap.UpToSlots h'' ->
      (∀ b o, b ∉ s.heap.objs.size :: frs outer -> ((∃ o0, s₁.heap.get? b = some o0) \/ ∃ u, H' b = some u) -> s'.heap.get? b = some o -> B.get? b = some o) -> CXo P w outer H s E (.ref a) { s' with heap := h'' } := by
    intro H' G' s' h'' B a0 J up ha fl sm hk
    have J0 : H' s.heap.objs.size = none := by have q : H' env.locals = none := J.free; rw [hloc] at q; exact q
    have fr0 : ∀ b ∈ frs outer, H' b = none := fun b hb => J.stkFree b (by show b ∈ frs (env :: outer); rw [hst]; exact List.mem_cons_of_mem _ hb)
    have frA : ∀ b ∈ s.heap.objs.size :: frs outer, H' b = none := fun b hb => by
      rcases List.mem_cons.mp hb with rfl | hb
      · exact J0
      · exact fr0 b hb
    have dat : ∀ b ∈ s.heap.objs.size :: frs outer, ∀ o, s'.heap.get? b = some o -> ∀ vs, o.data ≠ .fields vs := fun b hb o e => by
      obtain ⟨o', e', d', _⟩ := FunFrames.data J.stack b (by show b ∈ frs (env :: outer); rw [hst]; exact hb)
      rw [e] at e'; cases e'; exact d'
    have hok : HOk P w H' h'' := J.hok.flight fl.1 hk frA
    have un : Un (frs outer) [] H H' s.heap h'' := Un.flight J.base fl.1 sm hk old (fun b hb => (List.mem_cons.mp hb).elim (fun z => .inr (by rw [z]; exact Nat.le_refl _)) .inl) dat
    refine ⟨a, C, H', rfl, ⟨J.os, J.bare, un, hok, ha, B, a0, fl, fun b o hb ho e => ?_⟩, hE G' H' up.up⟩
    have nb : b ∉ s.heap.objs.size :: frs outer := fun z => by
      rcases List.mem_cons.mp z with z | z
      · rcases ho with ⟨o0, ho⟩ | ⟨u, ho⟩
        · rw [z] at ho; exact Nat.lt_irrefl _ (Heap.lt_size ho)
        · rw [z, J0] at ho; cases ho
      · exact hb z
    have ho' : (∃ o0, s₁.heap.get? b = some o0) \/ ∃ u, H' b = some u := ho.imp (fun ⟨o0, z⟩ => old b o0 z) id
    have ex : ∃ o', s'.heap.get? b = some o' := by
      rcases ho with ⟨o0, ho⟩ | ⟨u, ho⟩
      · exact J.base.there b o0 ho (by show b ∉ ([] : List Addr); simp)
      · exact (J.hok b u ho).there
    obtain ⟨o', e'⟩ := ex
    have q := hk b o' nb ho' e'
    have q2 := fl.1 b o' q
    have e2 : h''.get? b = some o := e
    rw [q2] at e2
    cases e2
    exact q
  rcases way with ⟨G₁, h', vs, sr, made, rfl⟩ | ⟨G', H', ⟨os, bare, un, hok, ha, B, a0, fl, hk⟩, up⟩ | ⟨G', H', L', hL, ⟨os, bare, ⟨ch, hch, un⟩, hok, ha, _, B, a0, fl, hk⟩, up⟩
  · -- made here
    have J : Inv (gCx P w K mg base N env fn A outer s H E) pins σ H₁ { s₁ with heap := h' } := I.kept (t' := s₁.toks) made.keeps
    have hin : ∀ en ∈ (env :: outer), ∀ b, en.frame = some b -> b ∈ s.heap.objs.size :: frs outer := fun en he b hb => by
      rw [<- hst]; exact List.mem_filterMap.mpr ⟨en, he, hb⟩
    refine wpAny_leaves_madeW (base := PySem.W.hideAll s₁.heap (s.heap.objs.size :: frs outer)) hfr hf (fun b o q => PySem.W.of_hideAll _ q) (PySem.W.funFrames_hide I.stack hin) made fun h'' t fl' _ _ sm => ?_
    have ha : H₁ a = none := by
      cases q : H₁ a with
      | none => rfl
      | some u =>
        obtain ⟨ob, e⟩ := (I.hok a u q).there
        rw [made.new] at e; cases e
    refine fin J sr ha fl' sm fun b o hb ho e => ?_
    have e1 : s₁.heap.get? b = some o := by
      rcases ho with ⟨o0, ho⟩ | ⟨u, ho⟩
      · have q := made.keeps b o0 ho
        have e' : h'.get? b = some o := e
        rw [q] at e'; cases e'; exact ho
      · obtain ⟨ob, ho⟩ := (I.hok b u ho).there
        have q := made.keeps b ob ho
        have e' : h'.get? b = some o := e
        rw [q] at e'; cases e'; exact ho
    exact PySem.W.hideAll_get _ e1 hb
  · have J := I.call' (s' := s') (ch := []) os un hok bare (fun b z => absurd z (by simp))
    exact wpAny_leaves_onW hfr hf fl fun h'' fl' sm => fin J up ha fl' sm fun b o hb ho e => hk b o (by show b ∉ frs (env :: outer); rw [hst]; exact hb) ho e
  · have J := I.call' (s' := s') (ch := ch) os un hok bare hch
    have eL : s.heap.objs.size = L' := Option.some.inj (hf.symm.trans hL)
    rw [<- eL] at fl
    refine wpAny_bind (wpAny_noteFrame_againW hf fl.2.2.2 (wpAny_landsW fl fun h'' fl' sm => ?_))
    obtain ⟨k1, k2, ⟨_, _, k3⟩, k4⟩ := fl'
    exact fin J up ha ⟨k1, k2, k3, k4⟩ sm fun b o hb ho e => hk b o (by show b ∉ frs (env :: outer); rw [hst]; exact hb) ho e

theorem oa {P:Program} {w:World} {K:PySem.W.Frag} {mg:Str->Option Value} {base:Heap} {N:List Str} {qual:Str} {scope:Scope} {f:Addr} {cd:Value} {A:Around} {outer:List Env} {s:Shared} {H:Hp} {E:XK} {G:Hp} {ρ:Ev} {C:Addr} {e:Value} {s':Shared}
  (fl:FlyS (ib (CXo P w) P w K mg base N qual scope f cd A outer s H E) G H ρ C e s') (hE:∀ G' H',Up G H G' H'->E (.ref C) none H'):(ib (CXo P w) P w K mg base N qual scope f cd A outer s H E).xe e s':=
 CM (env:=envOfC qual scope s.heap.objs.size f cd) (fn:=fun _=>true) rfl rfl fl hE
def ax (n:Nat) (ds:List D):Ev:=ds.map (fun d=>some (.val d))++List.replicate (n - ds.length) none
def ay (o:O):R D:=match o with
 | .rt d=>.ok d
 | .re d _=>.ok d
 | .nx _=>.ok .non
 | .ex C _=>.ex C
 | _=>.no
theorem sS {K:PySem.W.Frag} {G H:Hp} {N:List Str} {vs:List V} {ds:List D} (sub:Same G H) (r:Reps K G vs ds):StR K G H G H (ia N vs) (ax N.length ds):=by
 have hl:=r.length
 have get:∀ (i:Nat) x,(ax N.length ds)[i]?=some (some x)->∃ d,ds[i]?=some d/\x=.val d:=fun i x e=>by
  unfold ax at e
  by_cases hi:i < ds.length
  ·rw [List.getElem?_append_left (by simpa using hi),List.getElem?_map] at e
   cases q:ds[i]? with
   | none=>rw [q] at e; cases e
   | some d=>rw [q] at e; cases e; exact ⟨d,rfl,rfl⟩
  ·rw [List.getElem?_append_right (by simpa using hi),List.getElem?_replicate] at e
   split at e <;> cases e
 have no:NoOwn (ax N.length ds):=fun i x e=>by obtain ⟨d',_,q⟩:=get i _ e; exact ⟨d',q⟩
 refine ⟨⟨sub,by simp [ia,ax,hl],fun i d e=>?_,fun i m C p fs e=>absurd e (no.obj i m C p fs)⟩,sub,.refl sub,fun i es e=>?_,fun i j es fs l e=>?_,no.ob⟩
 ·obtain ⟨d',e',q⟩:=get i _ e
  cases q
  obtain ⟨v,ev,rv⟩:=r.get e'
  refine ⟨v,?_,rv⟩
  unfold ia
  rw [List.getElem?_append_left (by have:=(List.getElem?_eq_some_iff.mp ev).1; simpa using this),List.getElem?_map,ev]
  rfl
 ·obtain ⟨d',_,q⟩:=get i _ e; cases q
 ·obtain ⟨d',_,q⟩:=get i _ e; cases q
theorem Fun.okF_0 {P:Program} {w:World} {K:PySem.W.Frag} {mg:Str->Option Value} {base:Heap} {x qual:Str} {st:Stmt} {f:Addr} {fd:FuncData} {N ps:List Str} {k:Nat} (F:Fun K x qual st f fd) (S:FnScope N ps (ar st)) {g:Ev->O}
  (hbody:∀ (cdv:Value) (A:Around) (outer:List Env) (s:Shared) (H:Hp) (E:XK),Room k (A.deeper (envOfC qual (ar st) s.heap.objs.size f cdv))->nv (ib (CXo P w) P w K mg base N qual (ar st) f cdv A outer s H E) (cr st) g) :
  FnF P w K mg base (k+1) f fd ps (fun ds=>ay (g (ax N.length ds))):=by
 obtain ⟨oc,od,kV,doc,pm,an,cdv,ct,osl,rfl,lk,hcd⟩:=F.ex
 refine BV lk hcd S (fun vs H Q E h=>h.1) fun A outer s H vs Q E hr hsp=>?_
 obtain ⟨hl,G,ds,sub,r,h⟩:=hsp
 refine ⟨_,hbody cdv A outer s H E hr G H,G,ax N.length ds,sS sub r,?_⟩
 dsimp only at h
 cases q:g (ax N.length ds) with
 | nx ρ=>rw [q] at h; exact fun σ G' H' sr=>h .non G' H' sr.up .non
 | rt d=>rw [q] at h; exact fun v G' H' u rv=>h v G' H' u rv
 | re d ρ=>rw [q] at h; exact fun v σ G' H' sr rv=>h v G' H' sr.up rv
 | bk ρ=>rw [q] at h; exact h.elim
 | ct ρ=>rw [q] at h; exact h.elim
 | ex C ρ=>rw [q] at h; exact fun e s' fl=>oa fl h
 | no=>rw [q] at h; exact h.elim
end L2
namespace L2
open PySem PySem.Spec PyProof.Rows
theorem ml:fillsNumberSlot (.type "tuple") "mul"=pure false:=
 PySem.fillsNumberSlot_seq (id:="tuple.__mul__") (r:=some (.builtin "tuple.__rmul__")) F.slot_tuple_mul.lookup (by decide +kernel) F.slot_tuple_rmul.lookup (by decide +kernel)
theorem Bv:seqRepeat? (.type "tuple")=pure (some (.builtin "tuple.__mul__")):=by
 unfold seqRepeat?
 rw [PySem.seqSlot_of (T:="tuple") (name:="__mul__") (id:="tuple.__mul__") F.slot_tuple_mul.lookup (by decide +kernel),PySem.seqSlot_of (T:="tuple") (name:="__rmul__") (id:="tuple.__rmul__") F.slot_tuple_rmul.lookup (by decide +kernel)]
 rfl
open Builtin in
theorem qo (a:Int) (t:Tok) (l:Addr) (items:Array Value) (n:Nat) (dd:Option Addr) (sl:Array (Option Value)) :
  Meets (Builtin.«int.__rmul__» ⟨[.int a t,.ref l],[]⟩) (fun _ Rr s=>s.heap.get? l=some { cls:=.type "tuple",dict:=dd,data:=.seq items n,slots:=sl }/\Rr (.ok (.ret Value.notImplemented)) s):=
 .of_wp fun prog w A Rr s h=>by obtain ⟨hp,g,d,tk,os⟩:=s; obtain ⟨hl,h⟩:=h; wp_walk; exact ⟨_,rfl,h⟩
section
open Builtin AutoSeq1
variable (l:Addr) (items:Array Value) (n:Nat) (dd:Option Addr) (sl:Array (Option Value)) (x:Int) (u:Tok) (h1:(decide (x < -(2 ^ 63)) || decide (x ≥ 2 ^ 63))=false)
include h1
theorem zn (hc:(items.isEmpty || x==1)=true) :
  Meets (Builtin.«tuple.__mul__» ⟨[.ref l,.int x u],[]⟩) (fun _ Rr s=>s.heap.get? l=some { cls:=.type "tuple",dict:=dd,data:=.seq items n,slots:=sl }/\Rr (.ok (.ret (.ref l))) s):=
 .of_wp fun prog w A Rr s h=>by
  obtain ⟨hp,g,d,tk,os⟩:=s; obtain ⟨hl,h⟩:=h
  have f1:=idx_int
  wp_walk
  refine wpAny_ite_false (by rw [h1]; rfl) ?_
  refine wpAny_bind (tupleItemsOf_ (show IsTup hp l items from ⟨_,hl,rfl,n,rfl⟩) ?_)
  dsimp only
  rw [if_pos hc]
  unfold Tuple.tupleIsExact
  refine wpAny_bind (wpAny_bind (wpAny_typeOf ⟨_,hl,rfl⟩ (wpAny_pure ?_)))
  rw [if_pos (by decide)]
  exact wpAny_bind (wpAny_rule (wpAny_pure ⟨_,rfl,h⟩))
theorem yU (hc : ¬ (items.isEmpty || x==1)=true) (h2:(decide (x<=0) || items.isEmpty)=true) :
  Meets (Builtin.«tuple.__mul__» ⟨[.ref l,.int x u],[]⟩) (fun _ Rr s=>s.heap.get? l=some { cls:=.type "tuple",dict:=dd,data:=.seq items n,slots:=sl }/\Rr (.ok (.ret (.ref s.heap.objs.size))) { s with heap:=s.heap.push { cls:=.type "tuple",data:=.seq #[] } }):=
 .of_wp fun prog w A Rr s h=>by
  obtain ⟨hp,g,d,tk,os⟩:=s; obtain ⟨hl,h⟩:=h
  have f1:=idx_int
  wp_walk
  refine wpAny_ite_false (by rw [h1]; rfl) ?_
  refine wpAny_bind (tupleItemsOf_ (show IsTup hp l items from ⟨_,hl,rfl,n,rfl⟩) ?_)
  dsimp only
  rw [if_neg hc,if_pos h2]
  exact wpAny_bind (m:=Builtin.Tuple.tupleExact _) (wpAny_newObj_type (wpAny_pure ⟨_,rfl,h⟩) (Nat.zero_le _))
theorem zL (hc : ¬ (items.isEmpty || x==1)=true) (h2 : ¬ (decide (x<=0) || items.isEmpty)=true) (hz:items.size * x.toNat<=sizeLine) :
  Meets (Builtin.«tuple.__mul__» ⟨[.ref l,.int x u],[]⟩) (fun _ Rr s=>s.heap.get? l=some { cls:=.type "tuple",dict:=dd,data:=.seq items n,slots:=sl }/\
   Rr (.ok (.ret (.ref s.heap.objs.size))) { s with heap:=s.heap.push { cls:=.type "tuple",data:=.seq (List.foldl (fun x1 x2=>x1++x2) #[] (List.replicate x.toNat items)) } }):=
 .of_wp fun prog w A Rr s h=>by
  obtain ⟨hp,g,d,tk,os⟩:=s; obtain ⟨hl,h⟩:=h
  have f1:=idx_int
  have hx:0 < x:=by
   cases q:decide (x<=0) with
   | true=>rw [q] at h2; exact absurd rfl h2
   | false=>exact Int.not_le.mp (of_decide_eq_false q)
  have ez:(items.size:Int) * x=((items.size * x.toNat:Nat):Int):=by
   rw [Int.natCast_mul,Int.toNat_of_nonneg (Int.le_of_lt hx)]
  have hlim:(sizeLine:Nat)<=(2 ^ 63 - 1) / 8:=by decide
  have h3 : ¬ ((items.size:Int) * x > (2 ^ 63 - 1) / 8):=by
   rw [ez]
   have:((sizeLine:Nat):Int)<=(2 ^ 63 - 1) / 8:=by decide
   omega
  have h4 : ¬ (Tuple.tupleTooMany ((items.size:Int) * x)=true):=by
   unfold Tuple.tupleTooMany
   rw [ez]
   intro q
   have:=of_decide_eq_true q
   omega
  have hfz:(List.foldl (fun x1 x2=>x1++x2) #[] (List.replicate x.toNat items)).size<=sizeLine:=by
   have e:=iT items.toList x.toNat []
   simp only [List.nil_append,Array.toArray_toList] at e
   rw [e,List.size_toArray,nR,Array.length_toList,Nat.mul_comm]
   exact hz
  wp_walk
  refine wpAny_ite_false (by rw [h1]; rfl) ?_
  refine wpAny_bind (tupleItemsOf_ (show IsTup hp l items from ⟨_,hl,rfl,n,rfl⟩) ?_)
  dsimp only
  rw [if_neg hc,if_neg h2,if_neg h3,if_neg h4]
  exact wpAny_bind (m:=Builtin.Tuple.tupleExact _) (wpAny_newObj_type (wpAny_pure ⟨_,rfl,h⟩) hfz)
end
section
variable {X:Cx}
def D5 (K:PySem.W.Frag):R2:=fun x y H Q=>∃ l k xs,x=.ref l/\y=.int k/\SqT K H l xs/\-(2 ^ 63)<=k/\k < 2 ^ 63/\xs.length * k.toNat<=sizeLine/\
 (xs=[]\/k=1->Q (.ref l) H)/\(xs ≠ []->k ≠ 1->∀ p,H p=none->Q (.ref p) (upd H p (.tup (List.replicate k.toNat xs).flatten)))
theorem op_repT:OpR X (binaryOp .Mult) (D5 X.K):=by
 intro pins s σ H x y v u Q I rx ry h
 obtain ⟨l,k,xs,rfl,rfl,hH,h1,h2,hz,q0,q1⟩:=h
 cases rx
 obtain ⟨t,rfl⟩:=ry
 obtain ⟨its,r,p,hzz⟩:=I.tuple hH
 obtain ⟨⟨cls,dd,data,sl⟩,ho,hc,n,hd⟩:=id p
 simp only at hc hd
 subst hc hd
 have hlen:its.length=xs.length:=r.length.symm
 have hin:(decide (k < -(2 ^ 63)) || decide (k ≥ 2 ^ 63))=false:=by
  rw [decide_eq_false (by omega),decide_eq_false (by omega)]; rfl
 have emp:its.toArray.isEmpty=decide (xs=[]):=by
  cases its with
  | nil=>cases r; rfl
  | cons a b=>cases r; rfl
 refine wpAny_binaryOp_repeat_ref (T:="tuple") (U:="int") (by decide) ⟨_,ho,rfl⟩ (fun s'=>typeIs_int s' k t) ml F.fills_int_mul F.slot_int_rmul Bv F.slot_int_index.lookup
  (call_meets F.slot_int_rmul (typeIs_int s k t) F.entry_int_rmul (F.args_int_rmul_2 _ _) (qo k t l its.toArray n dd sl) ⟨ho,rfl,⟨_,ho,rfl⟩,?_⟩)
 by_cases hc:(its.toArray.isEmpty || k==1)=true
 ·refine call_meets F.slot_tuple_mul ⟨_,ho,rfl⟩ F.entry_tuple_mul (F.args_tuple_mul_2 _ _) (zn l its.toArray n dd sl k t hin hc) ⟨ho,.ref l,H,I,rfl,q0 ?_⟩
  rw [emp] at hc
  simpa using hc
 ·have hne:xs ≠ []/\k ≠ 1:=by
   rw [emp] at hc
   simpa using hc
  have fin:∀ its',its'=(List.replicate k.toNat its).flatten->EP X pins σ Q (.ref s.heap.objs.size) { s with heap:=s.heap.push { cls:=.type "tuple",data:=.seq its'.toArray } }:=fun its' e=>by
   subst e
   refine ⟨.ref s.heap.objs.size,_,I.laid (t':=s.toks) (o:=.tup (List.replicate k.toNat xs).flatten) (fun b ob q=>Heap.get?_push_of_some _ q) (Nat.le_refl _) ?_,rfl,q1 hne.1 hne.2 _ I.fresh⟩
   exact ⟨by rw [nR,Nat.mul_comm]; exact hz,_,r.rep k.toNat,IsTup.new _ _⟩
  by_cases h0:(decide (k<=0) || its.toArray.isEmpty)=true
  ·refine call_meets F.slot_tuple_mul ⟨_,ho,rfl⟩ F.entry_tuple_mul (F.args_tuple_mul_2 _ _) (yU l its.toArray n dd sl k t hin hc h0) ⟨ho,?_⟩
   refine fin [] ?_
   have:k<=0:=by
    rw [emp,decide_eq_false hne.1,Bool.or_false] at h0
    exact of_decide_eq_true h0
   rw [Int.toNat_of_nonpos this]
   rfl
  ·refine call_meets F.slot_tuple_mul ⟨_,ho,rfl⟩ F.entry_tuple_mul (F.args_tuple_mul_2 _ _) (zL l its.toArray n dd sl k t hin hc h0 (by rw [List.size_toArray,hlen]; exact hz)) ⟨ho,?_⟩
   have e:=iT its k.toNat []
   simp only [List.nil_append] at e
   rw [e]
   exact fin _ rfl
theorem Ck (x:Str) (n:Int):(Txt.mul x n).cps.toList=(List.replicate n.toNat x.cps.toList).flatten:=by
 unfold Txt.mul
 by_cases h1:n < 1
 ·rw [if_pos h1,Int.toNat_of_nonpos (by omega)]; rfl
 ·rw [if_neg h1]
  by_cases h2:(n==1 || x.length==0)=true
  ·rw [if_pos h2]
   rcases Bool.or_eq_true_iff.mp h2 with h | h
   ·have:n=1:=by simpa using h
    subst this
    show _=(List.replicate 1 x.cps.toList).flatten
    simp
   ·have:x.cps.toList=[]:=List.eq_nil_of_length_eq_zero (by rw [Str.len_list]; simpa using h)
    rw [this]; simp
  ·rw [if_neg h2]
   have:∀ (m:Nat) (acc:Array Nat),((List.replicate m x.cps).foldl (·++·) acc).toList=acc.toList++(List.replicate m x.cps.toList).flatten:=by
    intro m
    induction m with
    | zero=>intro acc; simp
    | succ m ih=>intro acc; rw [List.replicate_succ,List.foldl_cons,ih,List.replicate_succ,List.flatten_cons]; simp
   simpa using this n.toNat #[]
theorem op_mul_str:OpR X (binaryOp .Mult) (fun x y H Q=>∃ (i:Str) (k:Int),x=.str i/\y=.int k/\-(2 ^ 63)<=k/\k < 2 ^ 63/\i.length * k.toNat<=sizeLine/\Q (.str (Txt.mul i k)) H):=by
 intro pins s σ H x y v u Q I rx ry h
 obtain ⟨i,k,rfl,rfl,h1,h2,hz,q⟩:=h
 obtain ⟨t,rfl⟩:=rx
 obtain ⟨t',rfl⟩:=ry
 refine SB.mul ⟨by rw [decide_eq_false (by omega),decide_eq_false (by omega)]; rfl,fun h3 h4=>?_,fun h3 h4=>?_⟩ fun t'' n=>⟨.str _,H,I.tok _,⟨_,rfl⟩,q⟩
 ·have hk:0 < k:=by omega
  intro h5
  have h6:(2 ^ 63 - 1) / k * k<=2 ^ 63 - 1:=Int.ediv_mul_le _ (by omega)
  have h7:(((i.length * k.toNat:Nat)):Int)=(i.length:Int) * k:=by rw [Int.natCast_mul,Int.toNat_of_nonneg (by omega)]
  have h8:((2 ^ 63 - 1) / k+1) * k<=(i.length:Int) * k:=Int.mul_le_mul_of_nonneg_right (by omega) (by omega)
  have h9:2 ^ 63 - 1 < ((2 ^ 63 - 1) / k+1) * k:=Int.lt_ediv_add_one_mul_self _ hk
  have h10:((sizeLine:Nat):Int) < 2 ^ 63 - 1:=by decide
  omega
 ·unfold Builtin.Str.tooLong
  exact decide_eq_false (by omega)
def gf:D->D->Option D
 | .int i,.int j=>if (-(2 ^ 64) < i/\i < 2 ^ 64)\/(-(2 ^ 64) < j/\j < 2 ^ 64) then some (.int (i * j)) else none
 | .str x,.int k=>if -(2 ^ 63)<=k/\k < 2 ^ 63/\x.length * k.toNat<=sizeLine then some (.str (List.replicate k.toNat x).flatten) else none
 | .tup xs,.int k=>if -(2 ^ 63)<=k/\k < 2 ^ 63/\xs.length * k.toNat<=sizeLine then some (.tup (List.replicate k.toNat xs).flatten) else none
 | .lst false xs,.int k=>if -(2 ^ 63)<=k/\k < 2 ^ 63/\xs.length * k.toNat<=sizeLine then some (.lst false (List.replicate k.toNat xs).flatten) else none
 | _,_=>none
def DJ (K:PySem.W.Frag):R2:=fun x y H Q=>rI CMul (fun i j=>.int (i * j)) x y H Q\/(∃ (i:Str) (k:Int),x=.str i/\y=.int k/\-(2 ^ 63)<=k/\k < 2 ^ 63/\i.length * k.toNat<=sizeLine/\Q (.str (Txt.mul i k)) H)\/D5 K x y H Q\/Hr x y H Q
theorem A2:OpR X (binaryOp .Mult) (DJ X.K):=op_mul.or (op_mul_str.or (op_repT.or D6))
theorem Fs (K:PySem.W.Frag):ROk K (DJ K) gf:=by
 intro G H x y dx dy d Q s rx ry e q
 unfold gf at e
 split at e
 ·split at e
  ·rename_i hc
   cases e
   exact .inl ⟨_,_,rx.int_inv,ry.int_inv,hc,q _ G H (.refl s) (.int _)⟩
  ·cases e
 ·split at e
  ·rename_i hc
   cases e
   obtain ⟨i,rfl,ei,hi⟩:=rx.str_inv
   subst ei
   rw [Str.len_list] at hc
   exact .inr (.inl ⟨i,_,rfl,ry.int_inv,hc.1,hc.2.1,hc.2.2,q _ G H (.refl s) (.strL (Ck i _) (by rw [nR,Str.len_list,Nat.mul_comm]; exact hc.2.2))⟩)
  ·cases e
 ·split at e
  ·rename_i k hc
   cases e
   obtain ⟨a,vs,rfl,ha,ra⟩:=rx.tup_inv
   refine .inr (.inr (.inl ⟨a,_,vs,rfl,ry.int_inv,ha.mono s,hc.1,hc.2.1,by rw [ra.length]; exact hc.2.2,fun z=>?_,fun _ _ p hp=>q _ _ _ (.new s hp) (.tup (.of bc) ((ra.rep _).mono (.into (s.free hp))))⟩))
   rcases z with z | z
   ·subst z
    cases ra
    have e:(List.replicate k.toNat ([]:List D)).flatten=[]:=by simp
    rw [e] at q
    exact q _ G H (.refl s) (.tup ha .nil)
   ·subst z
    have e:∀ l:List D,(List.replicate (1:Int).toNat l).flatten=l:=fun l=>by show (List.replicate 1 l).flatten=l; simp
    rw [e] at q
    exact q _ G H (.refl s) (.tup ha ra)
  ·cases e
 ·split at e
  ·rename_i hc
   cases e
   obtain ⟨a,vs,rfl,ha,ra⟩:=rx.lst_inv
   exact .inr (.inr (.inr ⟨a,_,vs,rfl,ry.int_inv,s _ _ ha,hc.1,hc.2.1,by rw [ra.length]; exact hc.2.2,fun p hp=>q _ _ _ (.new s hp) (.lst bc ((ra.rep _).mono (.into (s.free hp))))⟩))
  ·cases e
 ·cases e
theorem yd {a b:Expr} {ga gb:Ev->R D} {pos:Pos} (ha:QF X a ga) (hb:QF X b gb):QF X (.BinOp a .Mult b pos) (g2 gf ga gb):=iC A2 (Fs _) ha hb
end
end L2
namespace L2
open PySem PySem.W PySem.Spec PySem.Calls PyProof.Rows
structure ExcCls (K:Frag) (C:Addr):Prop where
 ga:findIn K (.ref C) "__getattribute__"=some (some (.builtin "BaseException.__getattribute__"))
 gt:findIn K (.ref C) "__getattr__"=some none
 cl:findIn K (.ref C) "__class__"=some (some (.builtin "object.__class__"))
 sp:specialIn K (.builtin "object.__class__") "__get__"=some (some (.builtin "getset_descriptor.__get__"))
 tk:takesIn K (.builtin "object.__class__")=some true
 mo:mroIn K C (.type "object")=some true
 be:subIn K (.ref C) (.type "BaseException")=some true
 some:(clsIn K C).isSome=true
section
variable {prog:Program} {w:World} {A:Around} {E:Value->Shared->Prop} {s:Shared} {K:Frag} {a C:Addr}
section
open Builtin Builtin.ObjectAttr Builtin.Getset_descriptor
end
end
section
variable {X:Cx} {pins:List (Addr × Obj)} {σ:St} {G H:Hp} {s:Shared} {A:Around} {E:Value->Shared->Prop} {Q:Value->Shared->Prop}
def tyN:D->Option String
 | .non=>some "NoneType"
 | .bl _=>some "bool"
 | .int _=>some "int"
 | .str _=>some "str"
 | .tup _=>some "tuple"
 | .lst _ _=>some "list"
 | .exc _=>none
theorem DK {d:D} {x:V} {u c:Value} {T:String} {b:Bool} (I:Inv X pins σ H s) (sub:Same G H) (r:Rep X.K G x d) (ru:RelV x u) (ht:tyN d=some T) (e:kitOne X.K (.type T) c=some b) (h:∀ tk,Q (.bool b) { s with toks:=tk }) :
  wpAny (model X.prog X.w) A (call (.builtin "isinstance") [u,c]) Q E s:=by
 cases r with
 | non=>cases ht; cases ru; exact kia_one kitx_none I.kIn True.intro e (fun z=>nomatch z) h
 | bl y=>cases ht; cases ru; exact kia_one kitx_bool I.kIn True.intro e (fun z=>nomatch z) h
 | int i=>cases ht; obtain ⟨t,rfl⟩:=ru; exact kia_one kitx_int I.kIn True.intro e (fun z=>nomatch z) h
 | str y hy=>cases ht; obtain ⟨t,rfl⟩:=ru; exact kia_one kitx_str I.kIn True.intro e (fun z=>nomatch z) h
 | tup hh t=>
  cases ht; cases ru
  obtain ⟨its,rv,⟨o,h1,h2,_⟩,_⟩:=I.tuple (hh.mono sub)
  exact kia_one kitx_tuple I.kIn ⟨o,h1,h2⟩ e (fun z=>nomatch z) h
 | lst hh t=>
  cases ht; cases ru
  obtain ⟨its,rv,⟨o,n,h1,h2,_⟩,_⟩:=I.list ((SqL.of hh:SqL X.K G _ _).mono sub)
  exact kia_one kitx_list I.kIn ⟨o,h1,h2⟩ e (fun z=>nomatch z) h
 | fls hh t=>
  cases ht; cases ru
  obtain ⟨its,rv,⟨o,n,h1,h2,_⟩,_⟩:=I.list (hh.mono sub)
  exact kia_one kitx_list I.kIn ⟨o,h1,h2⟩ e (fun z=>nomatch z) h
 | exc hh=>cases ht
end
section
variable {X:Cx} {e:Expr} {ga:Ev->R D} {y:Str} {p p2 pos:Pos}
def fX (f:String->Bool) (d:D):R D:=match tyN d with
 | some t=>.ok (.bl (f t))
 | none=>.no
theorem fB {T:String} (f:String->Bool) (hf:∀ K:Frag,∀ t ∈ ["NoneType","bool","int","str","tuple","list"],kitOne K (.type t) (.type T)=some (f t)) (hg:Gl X "isinstance") (hm:X.mg "isinstance"=none) (hg2:Gl X y) (hm2:X.mg y=none)
  (hv:bootBuiltins y=some (.type T)) (ha:QF X e ga) (hs1:starEach [e,.Name y p2] X.env=(false,eval e X.env)::starEach [.Name y p2] X.env:=by rfl)
  (hn:y ≠ "__name__":=by decide) (hdb:(y==("__debug__":Str))=false:=by decide) :
  QF X (.Call (.Name "isinstance" p) [e,.Name y p2] [] pos) (fun ρ=>ga ρ>>=fX f):=by
 intro pins s σ H Q I h
 have hc:im X (.builtin "isinstance") (fun xs H Q=>∃ x G d,xs=[x,.ty T]/\Same G H/\Rep X.K G x d/\∃ t,tyN d=some t/\Q (.bl (f t)) H):=by
  intro pins s σ H xs us Q I r ⟨x,G,d,ex,sub,rd,t,et,q⟩
  subst ex
  obtain ⟨u,u2,rfl,r1,r2⟩:=r.two
  cases r2
  refine DK I sub rd r1 et (hf X.K t ?_) fun tk=>⟨.bl (f t),H,I.tok tk,rfl,q⟩
  cases d <;> cases et <;> simp
 refine nX hc hg hm PyProof.Rows.Boot.«isinstance» (ee ha (ee (AR (v:=.ty T) hg2 hm2 hv rfl hn hdb) kQ) hs1) (by decide) (by decide) hs1 rfl pins s σ H Q I ?_
 obtain ⟨G,ρ,st,h⟩:=h
 refine tG.intro st h fun x v G1 H1 u1 st1 r1 h1=>?_
 refine ⟨v,G1,x,rfl,st1.sub,r1,?_⟩
 unfold fX at h1
 cases et:tyN x with
 | none=>rw [et] at h1; exact h1.elim
 | some t=>rw [et] at h1; exact ⟨t,rfl,h1 _ G1 H1 (.refl st1.sub) (.bl _)⟩
end
end L2
namespace L2
open PySem PySem.Spec PyProof.Rows
def xW:List D->Option (List Bool)
 | []=>some []
 | .bl b::ds=>(xW ds).map (b::·)
 | _=>none
theorem Reps.bls {K:PySem.W.Frag} {G:Hp}:∀ {vs:List V} {ds:List D} {bs:List Bool},Reps K G vs ds->xW ds=some bs->vs=bs.map .bl
 | _,_,bs,.nil,e=>by cases e; rfl
 | _,_,bs,.cons r t,e=>by
  cases r with
  | bl b=>
   rename_i ds
   unfold xW at e
   cases q:xW ds with
   | none=>rw [q] at e; cases e
   | some cs=>rw [q] at e; cases e; rw [Reps.bls t q]; rfl
  | _=>simp [xW] at e
theorem Vals.bls:∀ {bs:List Bool} {us:List Value},Vals (bs.map V.bl) us->us=bs.map Value.bool
 | [],_,.nil=>rfl
 | b::bs,_,.cons r t=>by rw [Vals.bls t,show _=Value.bool b from r]; rfl
section
variable {X:Cx} {e o:Expr} {es:List Expr} {ga gb:Ev->R D} {gl:Ev->R (List D)} {pos:Pos}
def Iz (K:PySem.W.Frag) (f:List Bool->Bool):List V->Hp->VK->Prop:=fun xs H Q=>∃ p bs,xs=[.ref p]/\SqL K H p (bs.map V.bl)/\Q (.bl (f bs)) H
theorem vE (A:Around) (prog:Program) (w:World) (bs:List Bool):TruthOf prog w A (fun i v=>(bs.map Value.bool).toArray[i]?=some v) (fun i=>bs.getD i true):=by
 intro i v s Q E hP hQ
 rw [List.getElem?_toArray,List.getElem?_map] at hP
 cases q:bs[i]? with
 | none=>rw [q] at hP; cases hP
 | some b=>
  rw [q] at hP
  cases hP
  have e:bs.getD i true=b:=by rw [List.getD_eq_getElem?_getD,q]; rfl
  have hQ:Q (bs.getD i true) s:=hQ
  rw [e] at hQ
  exact wpAny_truthy_bool hQ
theorem vY (hc:X.calm=true):im X (.builtin "all") (Iz X.K fun bs=>bs.all id):=by
 intro pins s σ H xs us Q I r ⟨p,bs,ex,hs,q⟩
 subst ex
 obtain ⟨u,rfl,r1⟩:=r.one
 cases r1
 obtain ⟨its,rv,pl,hz⟩:=I.list hs
 obtain rfl:=rv.bls
 have hh:X.A.in1.handled=none:=I.ok.hd hc
 have hlt:p < s.heap.objs.size:=by obtain ⟨o,n,e,_⟩:=id pl; exact Heap.lt_size e
 refine call_all_walk (wpAny_pyIter_list pl.isList ?_)
 refine ⟨s.heap.objs.size,[s.heap.objs.size,p],[s.heap.objs.size],_,_,_,fun i=>bs.getD i true,rfl,Walks.list hh s.heap.objs.size p (Nat.ne_of_lt hlt) (bs.map Value.bool).toArray,⟨⟨_,Heap.get?_push_size _ rfl,rfl,rfl⟩,?_⟩,vE _ _ _ bs,fun h' tk hk=>?_⟩
 ·obtain ⟨o,n,e,c,_,d⟩:=id pl
  exact ⟨o,Heap.get?_push_of_some _ e,c,n,d⟩
 ·have e:(List.range (bs.map Value.bool).toArray.size).all (fun i=>bs.getD i true)=bs.all id:=by
   rw [List.size_toArray,List.length_map]; exact kz rfl
  rw [e]
  refine ⟨.bl _,H,I.kept (t':=tk) fun b o eb=>hk b o (fun z=>?_) (Heap.get?_push_of_some _ eb),rfl,q⟩
  have:b=s.heap.objs.size:=by simpa using z
  exact Nat.lt_irrefl _ (this ▸ Heap.lt_size eb)
def zf:List D->Option D
 | [.lst _ ds]=>(xW ds).map fun bs=>.bl (bs.all id)
 | _=>none
theorem ym {p:Pos} (hc:X.calm=true) (hg:Gl X "all") (hm:X.mg "all"=none) (ha:QFA X [e] gl) (he:starEach [e] X.env=[(false,eval e X.env)]:=by rfl):QF X (.Call (.Name "all" p) [e] [] pos) (fun ρ=>gl ρ>>=fun ds=>ofO (zf ds)):=
 fW (vY hc) (by
  intro G H xs ds d Q s r e q
  unfold zf at e
  split at e
  ·rename_i f ds
   obtain ⟨v,rfl,r1⟩:=r.one
   obtain ⟨a,vs,rfl,h,t⟩:=r1.seq_inv
   cases eb:xW ds with
   | none=>rw [eb] at e; cases e
   | some bs=>
    rw [eb] at e
    cases e
    obtain rfl:=t.bls eb
    exact ⟨a,bs,rfl,h.mono s,q _ G H (.refl s) (.bl _)⟩
  ·cases e) hg hm PyProof.Rows.Boot.«all» ha (he:=by rw [he]; rfl)
def Bg (K:PySem.W.Frag) (T:String) (r:V->List V->Hp->VK->Prop) (f:D->List D->Option D):Prop:=∀ (G H:Hp) (x:V) (xs:List V) (dx:D) (ds:List D) (d:D) (Q:VK),Same G H->Rep K G x dx->Reps K G xs ds->f dx ds=some d->Fin G H (Rep K) Q d->r x xs H Q
def gW (T:String):D->Bool
 | .str _=>T=="str"
 | .lst _ _=>T=="list"
 | _=>false
theorem fH {T id:String} {name:Str} {ap cp:Pos} {r:V->List V->Hp->VK->Prop} {f:D->List D->Option D} (pa:PlainAttrs T) (slot:PySem.Slot T name id) (hty:typeOf (.builtin id)=pure (.type "method_descriptor")) (hm:MtR X id r) (hf:Bg X.K T r f) (ho:QF X o ga) (ha:QFA X (e::es) gl)
  (hbase:attributeBase o name X.env (eval o X.env)=eval o X.env:=by rfl)
  (hfew:((backTo cp (starEach (e::es) X.env)).all (fun x=>!x.1) && (backToKw cp (keywordEach [] X.env)).all (fun x=>x.1.isSome)
   && decide ((e::es).length+([]:List Keyword).length+(if ([]:List Keyword).isEmpty then 0 else 1) < 30))=true:=by rfl)
  (hline:(ap.endLine==cp.line)=true:=by rfl) (hs:starEach (e::es) X.env=(false,eval e X.env)::starEach es X.env:=by rfl) (hplain:(backTo cp (starEach es X.env)).any (·.1)=false:=by rfl) :
  QF X (.Call (.Attribute o name ap) (e::es) [] cp) (fun ρ=>ga ρ>>=fun x=>if gW T x=true then gl ρ>>=fun ds=>ofO (f x ds) else .no):=by
 intro pins s σ H Q I h
 refine Bw pa slot hty hm ho ha hbase hfew hline hs hplain pins s σ H Q I ?_
 obtain ⟨G,ρ,st,h⟩:=h
 refine tG.intro st h fun x v G1 H1 u1 st1 r1 h1=>?_
 by_cases hk:gW T x=true
 ·rw [if_pos hk] at h1
  have ty:tyV X.K T v H1:=by
   cases r1 with
   | str y hy=>exact show T="str" by simpa [gW] using hk
   | lst hh t=>exact .inl ⟨by simpa [gW] using hk,_,.of (st1.sub _ _ hh)⟩
   | fls hh t=>exact .inl ⟨by simpa [gW] using hk,_,hh.mono st1.sub⟩
   | _=>cases hk
  refine ⟨ty,tG.intro st1 h1 fun ds vs G2 H2 u2 st2 r2 h2=>?_⟩
  obtain ⟨d,e',q⟩:=ofO.ok h2
  exact hf G2 H2 v vs x ds d Q st2.sub (r1.mono u2.gg) r2 e' q
 ·rw [if_neg hk] at h1; exact h1.elim
theorem Str.of_list {y:Str} {x:List Nat} (e:y.cps.toList=x):(⟨x.toArray⟩:Str)=y:=by
 subst e; simp
end
end L2
namespace L2
open PySem PySem.Spec PyProof.Rows
def nU:List Nat->List D->Ev->R Ev
 | [],[],ρ=>.ok ρ
 | i::is,d::ds,ρ=>nU is ds (ρ.set i (some (.val d)))
 | _,_,_=>.no
theorem nz:∀ (is:List Nat) (ds:List D) (ρ:Ev) (C:Addr),nU is ds ρ ≠ .ex C
 | [],[],_,_=>by intro z; cases z
 | [],_::_,_,_=>by intro z; cases z
 | _::_,[],_,_=>by intro z; cases z
 | i::is,d::ds,ρ,C=>nz is ds _ C
section
variable {X:Cx} {e:Expr} {es:List Expr} {ga:Ev->R D} {gl:Ev->R (List D)} {pos:Pos}
def Dm (X:Cx) (es:List Expr) (is:List Nat):Prop:=PGs X es (fun vs σ H Q=>∃ G₀ H₀ G ρ ds ρ',StR X.K G₀ H₀ G H σ ρ/\Reps X.K G vs ds/\nU is ds ρ=.ok ρ'/\∀ σ',StR X.K G₀ H₀ G H σ' ρ'->Q σ' H)
theorem yj:Dm X [] []:=by
 intro pins s σ H vs us Q I r h
 obtain ⟨G₀,H₀,G,ρ,ds,ρ',sr,rd,e,q⟩:=h
 refine Cn pins s σ H vs us Q I r ?_
 cases rd with
 | nil=>cases e; exact ⟨rfl,q σ sr⟩
 | cons _ _=>cases e
theorem kY (i:Nat) {x:Str} {p:Pos} {is:List Nat} (hN:X.N.Nodup) (h2:Dm X es is) (hi:X.N[i]?=some x:=by rfl) (hx:Loc X.env.scope x:=by first | exact Or.inl rfl | exact Or.inr rfl)
  (hs:(assignEach (.Name x p::es) X.env).map (·.2)=assign (.Name x p) X.env::(assignEach es X.env).map (·.2):=by rfl) (hf:X.fn x=true\/X.env.scope.names.lookup x=some .local:=by first | exact .inl rfl | exact .inr rfl) :
  Dm X (.Name x p::es) (i::is):=by
 intro pins s σ H vs us Q I r h
 obtain ⟨G₀,H₀,G,ρ,ds,ρ',sr,rd,e,q⟩:=h
 refine zb (rZ (i:=i) hN hi hx hf) h2 hs pins s σ H vs us Q I r ?_
 cases rd with
 | nil=>cases e
 | cons r1 t1=>exact ⟨_,_,rfl,G₀,H₀,G,_,_,ρ',sr.set r1 i,t1,e,q⟩
def Ds (is:List Nat) (d:D) (ρ:Ev):R Ev:=match d with
 | .tup ds=>nU is ds ρ
 | _=>.no
theorem qu:∀ (is:List Nat) (ds:List D) (ρ ρ':Ev),nU is ds ρ=.ok ρ'->ds.length=is.length
 | [],[],_,_,_=>rfl
 | [],_::_,_,_,e=>by cases e
 | _::_,[],_,_,e=>by cases e
 | i::is,d::ds,ρ,ρ',e=>by simp [qu is ds _ ρ' e]
theorem CJ {k:Nat} {is:List Nat} (hc:X.calm=true) (h:Dm X es is) (hn:(assignEach es X.env).length=is.length:=by rfl) (hst:(assignEach es X.env).findIdx? (·.1)=none:=by rfl):PGF X (.Tuple es k pos) (Ds is):=by
 intro pins s σ H v u Q I r q
 obtain ⟨G₀,H₀,G,ρ,d,ρ',sr,rd,e,q⟩:=q
 refine Du hc h hn hst pins s σ H v u Q I r ?_
 cases rd with
 | tup hh t=>
  rename_i ds
  exact ⟨_,_,rfl,hh.mono sr.e.sub,by rw [t.length]; exact qu is ds ρ ρ' e,G₀,H₀,G,ρ,ds,ρ',sr,t,e,q⟩
 | _=>cases e
theorem xu (is:List Nat):∀ (d:D) (ρ:Ev) (C:Addr),Ds is d ρ ≠ .ex C:=fun d ρ C=>by
 cases d with
 | tup ds=>exact nz is ds ρ C
 | _=>intro z; cases z
theorem ur (i j:Nat) {x y:Str} {a b:Expr} {px py pt pt2:Pos} {kt k2:Nat} (hc:X.calm=true) (hN:X.N.Nodup) (ha:QFA X [a,b] gl) (hij:i ≠ j) (hi:X.N[i]?=some x:=by rfl) (hj:X.N[j]?=some y:=by rfl)
  (hx:X.env.scope.names.lookup x=some .local:=by rfl) (hy:X.env.scope.names.lookup y=some .local:=by rfl)
  (hw:swappedStores [.Tuple [.Name x px,.Name y py] kt pt] (.Tuple [a,b] k2 pt2) X.env=pure (some [x,y]):=by rfl)
  (hs:swapsWithSole [.Tuple [.Name x px,.Name y py] kt pt] (.Tuple [a,b] k2 pt2) pos.line X.env=pure false:=by rfl) :
  QSF X (.Assign [.Tuple [.Name x px,.Name y py] kt pt] (.Tuple [a,b] k2 pt2) pos) (fun ρ=>(gl ρ).out ρ fun ds=>(nU [i,j] ds ρ).out ρ .nx):=fun G₀ H₀ pins s σ H D I h=>by
 refine xa hc hN hi hj hij hx hy ha hw hs pins s σ H D I ?_
 obtain ⟨G,ρ,sr,h⟩:=h
 dsimp only at h
 refine ⟨G,ρ,sr.e,?_⟩
 cases q:gl ρ with
 | ok ds=>
  rw [q] at h
  simp only [R.out] at h
  intro vs G' H' u r
  cases r with
  | nil=>exact h.elim
  | cons r1 t1=>
   cases t1 with
   | nil=>exact h.elim
   | cons r2 t2=>
    cases t2 with
    | nil=>exact ⟨_,_,rfl,h _ G' H' (((sr.ups u).set r1 i).set r2 j)⟩
    | cons _ _=>exact h.elim
 | ex C=>rw [q] at h; exact Exx.of sr h
 | no=>rw [q] at h; exact h
theorem qc {x:Str} {np cp:Pos} {C:Addr} {bm:List Value} {B newId initId:String} (Oc:OwnCls x C bm newId X.mg X.base) (FB:ExcBaseFacts B newId initId bm) (hh:X.A.handled=none) (hg:Gl X x) (ha:QFA X [e] gl)
  (hdb:(x==("__debug__":Str))=false:=by decide) (hs:starEach [e] X.env=(false,eval e X.env)::starEach [] X.env:=by rfl) (hz:∀ ρ ds,gl ρ=.ok ds->ds.length<=1:=by intro _ _ z; first | (cases z; decide) | skip) :
  QSF X (.Raise (some (.Call (.Name x np) [e] [] cp)) none pos) (fun ρ=>(gl ρ).out ρ fun _=>.ex C ρ):=fun G₀ H₀ pins s σ H D I h=>by
 obtain ⟨G,ρ,sr,h⟩:=h
 dsimp only at h
 obtain ⟨tl,N,nm,qn,bs,hdct,sn,sub,ab,col,dd,k0,k1,k2,k3,k5,mN,hC,hN,hni,T⟩:=Oc.obj
 refine wpAny_Raise_call_subT (C:=C) (nm:=nm) (q:=qn) (N:=N) (bs:=bs) (bm:=tl) (hdct:=hdct) (sn:=sn) (sub:=sub) (ab:=ab) (col:=col) (dd:=dd) (k0:=k0) (k1:=k1) (k2:=k2) (k3:=k3) (k5:=k5)
  FB (mN:=mN) (T.hasType FB.hasBase) hh (by rw [hs]; rfl) hni (nP I hg Oc.bound ⟨rfl,?_⟩ hdb)
 have t:tAF X gl σ H (fun vs H1=>vs.length<=sizeLine/\∃ G1,Up G H G1 H1/\oG X G₀ H₀ D (.ex C ρ)):=by
  refine ⟨G,ρ,sr.e,?_⟩
  cases q:gl ρ with
  | ok ds=>
   rw [q] at h
   intro vs G1 H1 u r
   exact ⟨by rw [r.length]; exact Nat.le_trans (hz ρ ds q) (by decide),G1,u,h⟩
  | ex C'=>rw [q] at h; exact Exx.of sr h
  | no=>rw [q] at h; exact h
 have hA:=ha cp pins s σ H _ I t
 rw [hs] at hA ⊢
 refine Calls.evalArgs_plain (wpAny_mono hA (fun vs s₂ q=>?_) fun _ _ y=>y)
 obtain ⟨vs',H1,I1,r,hz,G1,u,h⟩:=q
 exact ⟨rfl,by show vs.length<=sizeLine; rw [<- r.length]; exact hz,I1.bk _ _ hC,hN.keeps I1.bk,T.keeps I1.bk,fun h' a made=>h _ _ (.of (sr.ups u) ⟨pins,s₂,a,rfl,I1,.inl ⟨h',vs,made,rfl⟩⟩)⟩
end
section
variable {X:Cx} {pins:List (Addr × Obj)} {σ:St} {H:Hp} {s:Shared}
theorem Inv.cx {A':Around} {calm':Bool} {pn' pins':List (Addr × Obj)} {xe':Value->Shared->Prop} (I:Inv X pins σ H s) (hp:∀ p ∈ pn'++pins',p ∈ X.pn++pins) (hA:A'.frames=X.A.frames) (hd:calm'=true->A'.handled=none) :
  Inv { X with A:=A',calm:=calm',pn:=pn',xe:=xe' } pins' σ H s:=
 ⟨⟨I.ok.mod,I.ok.kind,I.ok.glob,I.ok.blt,I.ok.above,I.ok.inj,I.ok.has,I.ok.cab,hd,hA.trans I.ok.frames,I.ok.stk,I.ok.exf,I.ok.bs,I.ok.bsz,I.ok.noex,I.ok.exfs,I.ok.funs,I.ok.frf⟩,
  I.os,I.bare,I.base,I.loc,I.cell,I.free,I.freeC,fun p q=>I.pin p (hp p q),I.hok,I.len⟩
end
end L2
namespace L2
open PySem PySem.Spec PyProof.Rows
def IS (gb gs:Ev->O) (f:Addr->Option Bool) (i:Nat):Ev->O:=fun ρ=>match gb ρ with
 | .ex C ρ'=>(match f C with
  | some true=>(match gs (ρ'.set i (some (.val (.exc C)))) with
   | .nx ρ''=>.nx (ρ''.set i none)
   | .rt d=>.rt d
   | _=>.no)
  | _=>.no)
 | o=>o
section
variable {X:Cx} {body suite:List Stmt} {b₀:Stmt} {gb gs:Ev->O} {pos hp tp:Pos} {tn nm:Str} {Ct:Addr}
end
end L2
namespace L2
open PySem PySem.Spec PyProof.Rows
structure Callee (P:Program) (w:World) (K:PySem.W.Frag) (mg:Str->Option Value) (base:Heap) (x:Str) (k n:Nat) (g:List D->R D):Prop where
 ex:∃ f fd ps,FnF P w K mg base k f fd ps g/\mg x=some (.ref f)/\PySem.W.keepIn K (.ref f)=true/\Binds K fd ps []/\ps.length=n
theorem uT {X:Cx} {x:Str} {k n:Nat} {g:List D->R D} {e:Expr} {es:List Expr} {gl:Ev->R (List D)} {p pos:Pos} (c:Callee X.prog X.w X.K X.mg X.base x k n g) (hr:Room k X.A) (ha:QFA X (e::es) gl) (hg:Gl X x:=by rfl)
  (hdb:(x==("__debug__":Str))=false:=by decide) (he:starEach (e::es) X.env=(false,eval e X.env)::starEach es X.env:=by rfl) (hpl:(backTo pos (starEach es X.env)).any (·.1)=false:=by rfl) :
  QF X (.Call (.Name x p) (e::es) [] pos) (fun ρ=>gl ρ>>=fun ds=>if ds.length=n then g ds else .no):=by
 obtain ⟨f,fd,ps,F,hm,hk,hb,rfl⟩:=c.ex
 exact vp F hr hg hm hk hb ha hdb he hpl
theorem FnF.to {P:Program} {w:World} {K:PySem.W.Frag} {mg:Str->Option Value} {base:Heap} {k:Nat} {f:Addr} {fd:FuncData} {ps:List Str} {g g':List D->R D} (F:FnF P w K mg base k f fd ps g) (h:∀ ds,ds.length=ps.length->g' ds=.no\/g ds=g' ds):FnF P w K mg base k f fd ps g':=by
 refine F.imp fun vs H Q E ⟨hl,G,ds,sub,r,q⟩=>⟨hl,G,ds,sub,r,?_⟩
 rcases h ds (by rw [<- r.length]; exact hl) with z | z
 ·rw [z] at q; exact q.elim
 ·rw [z]; exact q
theorem Fun.callee {P:Program} {w:World} {K:PySem.W.Frag} {mg:Str->Option Value} {base:Heap} {x:Str} {st:Stmt} {f:Addr} {fd:FuncData} {ps:List Str} {k:Nat} {g:List D->R D} (F:Fun K x x st f fd) (hm:mg x=some (.ref f)) (ok:FnF P w K mg base k f fd ps g)
  (h:∀ (kV doc pm:Value) (an:Option Addr) (cdv ct:Value) (us:List Value),us.length=ps.length->bindArgs (PySem.W.fnOf x x (ef st) (cr st) (ar st) .none kV doc pm an cdv ct) ⟨us,[]⟩=pure (ps.zip us)):Callee P w K mg base x k ps.length g:=
 ⟨f,fd,ps,ok,hm,F.kp,F.binds h,rfl⟩
theorem fE {T:String} {f:String->Bool} (h:∀ K:PySem.W.Frag,PySem.W.kitOne K (.type "NoneType") (.type T)=some (f "NoneType")/\PySem.W.kitOne K (.type "bool") (.type T)=some (f "bool")/\PySem.W.kitOne K (.type "int") (.type T)=some (f "int")/\
  PySem.W.kitOne K (.type "str") (.type T)=some (f "str")/\PySem.W.kitOne K (.type "tuple") (.type T)=some (f "tuple")/\PySem.W.kitOne K (.type "list") (.type T)=some (f "list")) :
  ∀ K:PySem.W.Frag,∀ t ∈ ["NoneType","bool","int","str","tuple","list"],PySem.W.kitOne K (.type t) (.type T)=some (f t):=fun K t ht=>by
 obtain ⟨h1,h2,h3,h4,h5,h6⟩:=h K
 simp only [List.mem_cons,List.mem_nil_iff,or_false] at ht
 rcases ht with rfl | rfl | rfl | rfl | rfl | rfl <;> assumption
def isInt (t:String):Bool:=t=="int" || t=="bool"
section
variable {X:Cx} {e:Expr} {ga:Ev->R D} {p p2 pos:Pos}
theorem uI (hm:X.mg "isinstance"=none) (ha:QF X e ga) (hm2:X.mg "int"=none) (hg2:Gl X "int":=by rfl) (hg:Gl X "isinstance":=by rfl) (hs1:starEach [e,.Name "int" p2] X.env=(false,eval e X.env)::starEach [.Name "int" p2] X.env:=by rfl):QF X (.Call (.Name "isinstance" p) [e,.Name "int" p2] [] pos) (fun ρ=>ga ρ>>=fX isInt):=
 fB (T:="int") isInt (fE fun K=>⟨rfl,rfl,rfl,rfl,rfl,rfl⟩) hg hm hg2 hm2 PyProof.Rows.Boot.«int» ha hs1
theorem se (hm:X.mg "isinstance"=none) (ha:QF X e ga) (hm2:X.mg "bool"=none) (hg2:Gl X "bool":=by rfl) (hg:Gl X "isinstance":=by rfl) (hs1:starEach [e,.Name "bool" p2] X.env=(false,eval e X.env)::starEach [.Name "bool" p2] X.env:=by rfl):QF X (.Call (.Name "isinstance" p) [e,.Name "bool" p2] [] pos) (fun ρ=>ga ρ>>=fX (·=="bool")):=
 fB (T:="bool") (·=="bool") (fE fun K=>⟨rfl,rfl,rfl,rfl,rfl,rfl⟩) hg hm hg2 hm2 PyProof.Rows.Boot.«bool» ha hs1
theorem uY (hm:X.mg "isinstance"=none) (ha:QF X e ga) (hm2:X.mg "str"=none) (hg2:Gl X "str":=by rfl) (hg:Gl X "isinstance":=by rfl) (hs1:starEach [e,.Name "str" p2] X.env=(false,eval e X.env)::starEach [.Name "str" p2] X.env:=by rfl):QF X (.Call (.Name "isinstance" p) [e,.Name "str" p2] [] pos) (fun ρ=>ga ρ>>=fX (·=="str")):=
 fB (T:="str") (·=="str") (fE fun K=>⟨rfl,rfl,rfl,rfl,rfl,rfl⟩) hg hm hg2 hm2 PyProof.Rows.Boot.«str» ha hs1
theorem pW (hm:X.mg "isinstance"=none) (ha:QF X e ga) (hm2:X.mg "tuple"=none) (hg2:Gl X "tuple":=by rfl) (hg:Gl X "isinstance":=by rfl) (hs1:starEach [e,.Name "tuple" p2] X.env=(false,eval e X.env)::starEach [.Name "tuple" p2] X.env:=by rfl):QF X (.Call (.Name "isinstance" p) [e,.Name "tuple" p2] [] pos) (fun ρ=>ga ρ>>=fX (·=="tuple")):=
 fB (T:="tuple") (·=="tuple") (fE fun K=>⟨rfl,rfl,rfl,rfl,rfl,rfl⟩) hg hm hg2 hm2 PyProof.Rows.Boot.«tuple» ha hs1
theorem rk (hm:X.mg "isinstance"=none) (ha:QF X e ga) (hm2:X.mg "list"=none) (hg2:Gl X "list":=by rfl) (hg:Gl X "isinstance":=by rfl) (hs1:starEach [e,.Name "list" p2] X.env=(false,eval e X.env)::starEach [.Name "list" p2] X.env:=by rfl):QF X (.Call (.Name "isinstance" p) [e,.Name "list" p2] [] pos) (fun ρ=>ga ρ>>=fX (·=="list")):=
 fB (T:="list") (·=="list") (fE fun K=>⟨rfl,rfl,rfl,rfl,rfl,rfl⟩) hg hm hg2 hm2 PyProof.Rows.Boot.«list» ha hs1
end
end L2
namespace L2
open PySem PySem.Spec PyProof.Rows
def bO (ga:Ev->R D):Ev->O:=fun ρ=>(ga ρ).out ρ .rt
def aE (g1 g2:Ev->O):Ev->O:=fun ρ=>(g1 ρ).seq g2
def oIf (gt:Ev->R Bool) (g1 g2:Ev->O):Ev->O:=fun ρ=>(gt ρ).out ρ fun k=>if k=true then g1 ρ else g2 ρ
def oNx:Ev->O:=fun ρ=>.nx ρ
def eB (i:Nat) (ga:Ev->R D):Ev->O:=fun ρ=>(ga ρ).out ρ fun d=>.nx (ρ.set i (some (.val d)))
def Bd (i:Nat) (gl:Ev->R (List D)):Ev->O:=fun ρ=>(gl ρ).out ρ fun ds=>.nx (ρ.set i (some (.own ds)))
def jo (ga:Ev->R D):Ev->O:=fun ρ=>(ga ρ).out ρ fun _=>.nx ρ
def uR (asg:D->Ev->R Ev) (gi:Ev->R (List D)) (g:Ev->O):Ev->O:=fun ρ=>(gi ρ).out ρ fun items=>cF asg g items ρ
def eJ (C:Addr) (gl:Ev->R (List D)):Ev->O:=fun ρ=>(gl ρ).out ρ fun _=>.ex C ρ
def Fy (asg:D->Ev->R Ev) (ga:Ev->R D):Ev->O:=fun ρ=>(ga ρ).out ρ fun d=>(asg d ρ).out ρ .nx
def B4 (i:Nat) (g:Ev->O):Ev->O:=fun ρ=>g (frz i ρ)
def aH {α β:Type} (f:α->R β) (ga:Ev->R α):Ev->R β:=fun ρ=>ga ρ>>=f
def gOf (f:List D->Option D) (gl:Ev->R (List D)):Ev->R D:=fun ρ=>gl ρ>>=fun ds=>ofO (f ds)
def ac (ga:Ev->R D) (gl:Ev->R (List D)):Ev->R (List D):=fun ρ=>ga ρ>>=fun x=>gl ρ>>=fun xs=>.ok (x::xs)
def aL (n:Nat) (g:List D->R D) (gl:Ev->R (List D)):Ev->R D:=fun ρ=>gl ρ>>=fun ds=>if ds.length=n then g ds else .no
def cG (gl:Ev->R (List D)):Ev->R D:=fun ρ=>gl ρ>>=fun ds=>.ok (.lst false ds)
def zT (gl:Ev->R (List D)):Ev->R (List D):=fun ρ=>gl ρ>>=fun ds=>if ds.length<=sizeLine then .ok ds else .no
def gB2 (f:D->D->Option D) (ga gb:Ev->R D):Ev->R Bool:=fun ρ=>g2 f ga gb ρ>>=asB
def gB3 (f f':D->D->Option D) (ga gb gc:Ev->R D):Ev->R Bool:=fun ρ=>g3 f f' ga gb gc ρ>>=asB
def gBn (gt:Ev->R Bool):Ev->R Bool:=fun ρ=>gt ρ>>=fun k=>.ok (!k)
def dE (ga:Ev->R D):Ev->R (Option Int):=fun ρ=>ga ρ>>=fun x=>asI x>>=fun i=>.ok (some i)
def fv (T:String) (f:D->List D->Option D) (ga:Ev->R D) (gl:Ev->R (List D)):Ev->R D:=fun ρ=>ga ρ>>=fun x=>if gW T x=true then gl ρ>>=fun ds=>ofO (f x ds) else .no
theorem Callee.mono {P:Program} {w:World} {K:PySem.W.Frag} {mg:Str->Option Value} {base:Heap} {x:Str} {k n:Nat} {g:List D->R D} (c:Callee P w K mg base x k n g) (k':Nat) (h:k<=k':=by decide):Callee P w K mg base x k' n g:=by
 obtain ⟨f,fd,ps,F,hm,hk,hb,e⟩:=c.ex
 exact ⟨f,fd,ps,{ F with run:=fun A outer s H args us vs Q E hr=>F.run A outer s H args us vs Q E (hr.mono h) },hm,hk,hb,e⟩
section
variable {X:Cx} {st:Stmt} {cq body sa sb:List Stmt} {e a b c o tg:Expr} {es:List Expr} {g gs1 gs2:Ev->O} {ga gb gc:Ev->R D} {gt:Ev->R Bool} {gl:Ev->R (List D)} {pos p p2:Pos} {x:Str}
theorem yc (h1:QSF X st gs1) (h2:nv X cq gs2):nv X (st::cq) (aE gs1 gs2):=pP h1 h2
theorem CS:nv X [] oNx:=rN
theorem Bu (he:QF X e ga):QSF X (.Return (some e) pos) (bO ga):=uM he
theorem Ft (hc:QB X c gt) (ha:nv X sa gs1) (hb:nv X sb gs2):QSF X (.If c sa sb pos) (oIf gt gs1 gs2):=wT hc ha hb
theorem BC (i:Nat) (hN:X.N.Nodup) (he:QF X e ga) (hi:X.N[i]?=some x:=by rfl) (hx:Loc X.env.scope x:=by first | exact Or.inl rfl | exact Or.inr rfl)
  (hs:swapsWithSole [.Name x p] e pos.line X.env=pure false:=by rfl) (hw:swappedStores [.Name x p] e X.env=pure none:=by rfl) (hf:X.fn x=true\/X.env.scope.names.lookup x=some .local:=by first | exact .inl rfl | exact .inr rfl) :
  QSF X (.Assign [.Name x p] e pos) (eB i ga):=uH i hN he hi hx hs hw hf
theorem ye (he:QF X e ga) (hs:swapsWith e none pos.line X.env=pure false:=by rfl):QSF X (.Expr e pos) (jo ga):=qW he hs
theorem B1 {iter:Expr} {gi:Ev->R (List D)} {asg:D->Ev->R Ev} (hp:PassesOwn (model X.prog X.w) X.A X.env X.xe) (hcalm:X.calm=true) (hi:QIF X tg iter gi) (hg:PGF X tg asg) (hb:nv X body g)
  (hs:∀ x,foldedSetIterable iter X.env x=pure x:=by intro _; rfl) (hn:∀ d ρ C,asg d ρ ≠ .ex C:=by intro _ _ _ z; cases z):QSF X (.For tg iter body [] pos) (uR asg gi g):=uo hp hcalm hi hg hb hs hn
theorem B5 (hg:Gl X "len") (hm:X.mg "len"=none) (ha:QFA X [e] gl) (he:starEach [e] X.env=[(false,eval e X.env)]:=by rfl):QF X (.Call (.Name "len" p) [e] [] pos) (gOf fc gl):=yb hg hm ha he
theorem CW (hc:X.calm=true) (hg:Gl X "all") (hm:X.mg "all"=none) (ha:QFA X [e] gl) (he:starEach [e] X.env=[(false,eval e X.env)]:=by rfl):QF X (.Call (.Name "all" p) [e] [] pos) (gOf zf gl):=ym hc hg hm ha he
theorem pL (ha:QF X e ga) (hr:QFA X es gl) (hs:starEach (e::es) X.env=(false,eval e X.env)::starEach es X.env:=by rfl):QFA X (e::es) (ac ga gl):=uh ha hr hs
theorem zz {k n:Nat} {f:List D->R D} (c:Callee X.prog X.w X.K X.mg X.base x k n f) (hr:Room k X.A) (ha:QFA X (e::es) gl) (hg:Gl X x:=by rfl)
  (hdb:(x==("__debug__":Str))=false:=by decide) (he:starEach (e::es) X.env=(false,eval e X.env)::starEach es X.env:=by rfl) (hpl:(backTo pos (starEach es X.env)).any (·.1)=false:=by rfl) :
  QF X (.Call (.Name x p) (e::es) [] pos) (aL n f gl):=uT c hr ha hg hdb he hpl
theorem yO {gens:List Comprehension} {sc:Scope} (h:QFL X (.ListComp e gens sc pos) gl):QF X (.ListComp e gens sc pos) (cG gl):=ny h
theorem yr (h:QFL X (.List es pos) gl):QF X (.List es pos) (cG gl):=ny h
theorem AL (h:QFA X es gl):QFL X (.List es pos) (zT gl):=vo h
theorem Da {k:Nat} (h:QFA X es gl):QF X (.Tuple es k pos) (aH mkT gl):=za h
theorem Cw (ha:QF X a ga):QF X (.UnaryOp .USub a pos) (aH rR ga):=yF ha
theorem vC (hm:X.mg "isinstance"=none) (ha:QF X e ga) (hm2:X.mg "int"=none) (hg2:Gl X "int":=by rfl) (hg:Gl X "isinstance":=by rfl) (hs1:starEach [e,.Name "int" p2] X.env=(false,eval e X.env)::starEach [.Name "int" p2] X.env:=by rfl):QF X (.Call (.Name "isinstance" p) [e,.Name "int" p2] [] pos) (aH (fX isInt) ga):=uI hm ha hm2 hg2 hg hs1
theorem uN (hm:X.mg "isinstance"=none) (ha:QF X e ga) (hm2:X.mg "bool"=none) (hg2:Gl X "bool":=by rfl) (hg:Gl X "isinstance":=by rfl) (hs1:starEach [e,.Name "bool" p2] X.env=(false,eval e X.env)::starEach [.Name "bool" p2] X.env:=by rfl):QF X (.Call (.Name "isinstance" p) [e,.Name "bool" p2] [] pos) (aH (fX (·=="bool")) ga):=se hm ha hm2 hg2 hg hs1
theorem wc (hm:X.mg "isinstance"=none) (ha:QF X e ga) (hm2:X.mg "str"=none) (hg2:Gl X "str":=by rfl) (hg:Gl X "isinstance":=by rfl) (hs1:starEach [e,.Name "str" p2] X.env=(false,eval e X.env)::starEach [.Name "str" p2] X.env:=by rfl):QF X (.Call (.Name "isinstance" p) [e,.Name "str" p2] [] pos) (aH (fX (·=="str")) ga):=uY hm ha hm2 hg2 hg hs1
theorem rM (hm:X.mg "isinstance"=none) (ha:QF X e ga) (hm2:X.mg "tuple"=none) (hg2:Gl X "tuple":=by rfl) (hg:Gl X "isinstance":=by rfl) (hs1:starEach [e,.Name "tuple" p2] X.env=(false,eval e X.env)::starEach [.Name "tuple" p2] X.env:=by rfl):QF X (.Call (.Name "isinstance" p) [e,.Name "tuple" p2] [] pos) (aH (fX (·=="tuple")) ga):=pW hm ha hm2 hg2 hg hs1
theorem zu (h:QF X e ga):QFO X (some e) (dE ga):=uV h
theorem BL (ha:QF X a ga) (hb:QF X b gb):QB X (.Compare a [.Lt] [b] pos) (gB2 ltD ga gb):=Br ha hb
theorem BX (ha:QF X a ga) (hb:QF X b gb):QB X (.Compare a [.Gt] [b] pos) (gB2 gtD ga gb):=C4 ha hb
theorem Di (hu:X.A.units+64 < cLine) (ha:QF X a ga) (hb:QF X b gb):QB X (.Compare a [.Eq] [b] pos) (gB2 eqF ga gb):=Cf hu ha hb
theorem CZ (hu:X.A.units+64 < cLine) (ha:QF X a ga) (hb:QF X b gb):QB X (.Compare a [.NotEq] [b] pos) (gB2 neF ga gb):=BD hu ha hb
theorem Ba (ha:QF X a ga) (hb:QF X b gb):QB X (.Compare a [.Is] [b] pos) (gB2 isF ga gb):=Bi ha hb
theorem wg (ha:QF X a ga) (hb:QF X b gb) (hc:QF X c gc) (hm:lastMarks [.LtE,.LtE] [b,c]=false:=by with_unfolding_all rfl):QB X (.Compare a [.LtE,.LtE] [b,c] pos) (gB3 leD leD ga gb gc):=wA ha hb hc hm
theorem zX (ha:QB X a gt):QB X (.UnaryOp .Not a pos) (gBn gt):=ze ha
theorem zx (h:QF X (.Call a es [] pos) ga):QB X (.Call a es [] pos) (aH iW ga):=tV h
theorem A7 {op:BoolOp} (h:QBW X (.BoolOp op es pos) gt):QB X (.BoolOp op es pos) gt:=fun pins s σ H Q I q=>h _ pins s σ H Q I q
theorem zP (ha:QF X a ga):QIF X tg a (aH bw ga):=xV ha
theorem uG (hg:Gl X "range") (hm:X.mg "range"=none) (ha:QFA X [a] gl) (hs:starEach [a] X.env=[(false,eval a X.env)]:=by rfl):QIF X tg (.Call (.Name "range" p) [a] [] pos) (aH bD gl):=pS hg hm ha hs
end
end L2
namespace L2
open PySem PySem.Spec PyProof.Rows
@[simp] theorem R.ok_out {α:Type} (a:α) (ρ:Ev) (k:α->O):(R.ok a).out ρ k=k a:=rfl
@[simp] theorem R.ex_out {α:Type} (C:Addr) (ρ:Ev) (k:α->O):(R.ex C:R α).out ρ k=.ex C ρ:=rfl
@[simp] theorem qB {α:Type} (a:α):jx (R.ok a)=R.ok a:=rfl
theorem oX {gt:Ev->R Bool} {ge:Ev->R D} (p:D->Bool) (h:D->D) (tl:Ev):∀ (ds:List D) (a:Option Sl),(∀ d ∈ ds,gt (some (.val d)::tl)=.ok (p d)/\(p d=true->ge (some (.val d)::tl)=.ok (h d)))->eV gt ge ds (a::tl)=.ok ((ds.filter p).map h)
 | [],a,_=>rfl
 | d::ds,a,H=>by
  have ih:=oX p h tl ds (some (.val d)) fun x m=>H x (List.mem_cons_of_mem _ m)
  obtain ⟨e1,e2⟩:=H d (List.mem_cons_self ..)
  show (jx (gt (some (.val d)::tl))>>=fun k=>if k=true then jx (ge (some (.val d)::tl))>>=fun x=>eV gt ge ds (some (.val d)::tl)>>=fun xs=>.ok (x::xs) else eV gt ge ds (some (.val d)::tl))=_
  rw [e1,qB,R.ok_bind,ih]
  cases q:p d with
  | true=>rw [if_pos rfl,e2 q,qB,R.ok_bind,R.ok_bind,List.filter_cons_of_pos q]; rfl
  | false=>rw [if_neg Bool.false_ne_true,List.filter_cons_of_neg (by rw [q]; exact Bool.false_ne_true)]
theorem cb {gt:Ev->R Bool} {ge:Ev->R D} (h:D->D) (tl:Ev) (ds:List D) (a:Option Sl) (H:∀ d ∈ ds,gt (some (.val d)::tl)=.ok true/\ge (some (.val d)::tl)=.ok (h d)):eV gt ge ds (a::tl)=.ok (ds.map h):=by
 rw [oX (fun _=>true) h tl ds a fun d m=>⟨(H d m).1,fun _=>(H d m).2⟩,List.filter_eq_self.2 fun _ _=>rfl]
theorem tN (f:D->Bool):∀ ds:List D,xW (ds.map fun d=>.bl (f d))=some (ds.map f)
 | []=>rfl
 | d::ds=>by
  have ih:=tN f ds
  rw [List.map_cons,List.map_cons]
  unfold xW
  first | (rw [ih]; rfl) | (simp only [ih]; rfl) | simp [ih]
theorem iI (f:D->Bool) (k:Bool) (ds:List D):zf [.lst k (ds.map fun d=>.bl (f d))]=some (.bl (ds.all f)):=by
 show (xW (ds.map fun d=>.bl (f d))).map _=_
 rw [tN]
 show some (D.bl ((ds.map f).all id))=_
 rw [List.all_map]; rfl
theorem wO (a b:Nat):(!decide (([b]:List Nat) < [a]))=decide (a<=b):=by
 have:(([b]:List Nat) < [a]) ↔ b < a:=by
  constructor
  ·intro h
   cases h with
   | rel h=>exact h
   | cons h=>cases h
  ·intro h; exact .rel h
 by_cases h:a<=b
 ·have h2 : ¬ ([b]:List Nat) < [a]:=fun q=>by have:=this.1 q; omega
  simp [h,h2]
 ·have h2:([b]:List Nat) < [a]:=this.2 (by omega)
  simp [h,h2]
theorem dm {X:Cx} {scope:Scope} {x:Str} {N':List Str} {ix:List Nat} (hk:scope.kind=.function:=by rfl)
  (h1:(∀ y ∈ scope.names,y.2 ≠ .cell)/\(∀ y ∈ scope.names,y.2=.local->scope.names.lookup y.1=some .local)/\scope.names.lookup x=some .local/\(∀ y ∈ scope.names,y.2=.free->y.1 ∈ N'.tail)/\N'.Nodup/\N'[0]?=some x/\
   ∀ y ∈ N'.tail,scope.names.lookup y=some .free/\(y,NameKind.free) ∈ scope.names:=by decide +kernel)
  (h2:N'.tail.map X.env.kindOf=N'.tail.map fun _=>some NameKind.cell:=by rfl) (h3:N'.tail=ix.map (fun (i:Nat)=>X.N.getD i Str.empty):=by rfl) (h4:ix.all (fun i=>decide (i < X.N.length))=true:=by rfl):CompOk X scope x N' ix:=by
 obtain ⟨a,b,c,d,e,f,g⟩:=h1
 refine ⟨hk,a,b,c,fun y hy h=>?_,e,f,h3,fun i hi=>?_,g⟩
 ·exact List.map_inj_left.1 h2 _ (d y hy h)
 ·exact of_decide_eq_true (List.all_eq_true.1 h4 i hi)
theorem rd0 (d:D) (ρ:Ev):rdV (some (.val d)::ρ) 0=.ok d:=rfl
theorem rd1 (a0:Option Sl) (d:D) (ρ:Ev):rdV (a0::some (.val d)::ρ) 1=.ok d:=rfl
theorem rd2 (a0 a1:Option Sl) (d:D) (ρ:Ev):rdV (a0::a1::some (.val d)::ρ) 2=.ok d:=rfl
theorem rd3 (a0 a1 a2:Option Sl) (d:D) (ρ:Ev):rdV (a0::a1::a2::some (.val d)::ρ) 3=.ok d:=rfl
theorem rd4 (a0 a1 a2 a3:Option Sl) (d:D) (ρ:Ev):rdV (a0::a1::a2::a3::some (.val d)::ρ) 4=.ok d:=rfl
theorem rd5 (a0 a1 a2 a3 a4:Option Sl) (d:D) (ρ:Ev):rdV (a0::a1::a2::a3::a4::some (.val d)::ρ) 5=.ok d:=rfl
theorem rd6 (a0 a1 a2 a3 a4 a5:Option Sl) (d:D) (ρ:Ev):rdV (a0::a1::a2::a3::a4::a5::some (.val d)::ρ) 6=.ok d:=rfl
section
variable {f:List D->R D} {ga gb gc gd:Ev->R D} {ρ:Ev}
theorem Aq:aL 1 f (ac ga fun _=>.ok []) ρ=ga ρ>>=fun x=>f [x]:=by
 unfold aL ac
 cases ga ρ <;> rfl
theorem vV:aL 2 f (ac ga (ac gb fun _=>.ok [])) ρ=ga ρ>>=fun x=>gb ρ>>=fun y=>f [x,y]:=by
 unfold aL ac
 cases ga ρ <;> try rfl
 simp only [ac,R.ok_bind]
 cases gb ρ <;> rfl
theorem wI:aL 3 f (ac ga (ac gb (ac gc fun _=>.ok []))) ρ=ga ρ>>=fun x=>gb ρ>>=fun y=>gc ρ>>=fun z=>f [x,y,z]:=by
 unfold aL ac
 cases ga ρ <;> try rfl
 simp only [ac,R.ok_bind]
 cases gb ρ <;> try rfl
 simp only [R.ok_bind]
 cases gc ρ <;> rfl
end
def At (N:List Str) (i:Nat) (x:Str):Prop:=N[i]?=some x
theorem at0 {x:Str} {l:List Str}:At (x::l) 0 x:=rfl
theorem at1 {x:Str} {l:List Str} {y0:Str}:At (y0::x::l) 1 x:=rfl
theorem at2 {x:Str} {l:List Str} {y0 y1:Str}:At (y0::y1::x::l) 2 x:=rfl
theorem at3 {x:Str} {l:List Str} {y0 y1 y2:Str}:At (y0::y1::y2::x::l) 3 x:=rfl
theorem at4 {x:Str} {l:List Str} {y0 y1 y2 y3:Str}:At (y0::y1::y2::y3::x::l) 4 x:=rfl
theorem at5 {x:Str} {l:List Str} {y0 y1 y2 y3 y4:Str}:At (y0::y1::y2::y3::y4::x::l) 5 x:=rfl
theorem at6 {x:Str} {l:List Str} {y0 y1 y2 y3 y4 y5:Str}:At (y0::y1::y2::y3::y4::y5::x::l) 6 x:=rfl
theorem at7 {x:Str} {l:List Str} {y0 y1 y2 y3 y4 y5 y6:Str}:At (y0::y1::y2::y3::y4::y5::y6::x::l) 7 x:=rfl
theorem at8 {x:Str} {l:List Str} {y0 y1 y2 y3 y4 y5 y6 y7:Str}:At (y0::y1::y2::y3::y4::y5::y6::y7::x::l) 8 x:=rfl
theorem at9 {x:Str} {l:List Str} {y0 y1 y2 y3 y4 y5 y6 y7 y8:Str}:At (y0::y1::y2::y3::y4::y5::y6::y7::y8::x::l) 9 x:=rfl
section
variable {X:Cx} {N:List Str} {i:Nat} {x:Str} {pos:Pos}
theorem AM {CX:CXT} {P:Program} {w:World} {K:PySem.W.Frag} {mg:Str->Option Value} {base:Heap} {qual:Str} {scope:Scope} {f:Addr} {cdv:Value} {A:Around} {outer:List Env} {s:Shared} {H:Hp} {E:XK} (h:At N i x)
  (hv:Vis (ib CX P w K mg base N qual scope f cdv A outer s H E).env.scope x:=by first | exact Or.inl rfl | exact Or.inr (Or.inl rfl) | exact Or.inr (Or.inr rfl)) (hd:(x==("__debug__":Str))=false:=by decide)
  (hcd:(x==("__classdict__":Str))=false:=by decide):QF (ib CX P w K mg base N qual scope f cdv A outer s H E) (.Name x pos) (fun ρ=>rdV ρ i):=nF i h hv hd hcd
theorem yL {scope:Scope} {C:Addr} {s₂:Shared} {H₂:Hp} {fp:List Addr} (h:At N i x)
  (hv:Vis (aX X N scope C s₂ H₂ fp).env.scope x:=by first | exact Or.inl rfl | exact Or.inr (Or.inl rfl) | exact Or.inr (Or.inr rfl)) (hd:(x==("__debug__":Str))=false:=by decide)
  (hcd:(x==("__classdict__":Str))=false:=by decide):QF (aX X N scope C s₂ H₂ fp) (.Name x pos) (fun ρ=>rdV ρ i):=nF i h hv hd hcd
theorem BP {CX:CXT} {P:Program} {w:World} {K:PySem.W.Frag} {mg:Str->Option Value} {base:Heap} {qual:Str} {scope:Scope} {f:Addr} {cdv:Value} {A:Around} {outer:List Env} {s:Shared} {H:Hp} {E:XK} {e:Expr} {p:Pos} {ga:Ev->R D} (h:At N i x) (hN:N.Nodup)
  (he:QF (ib CX P w K mg base N qual scope f cdv A outer s H E) e ga) (hx:Loc (ib CX P w K mg base N qual scope f cdv A outer s H E).env.scope x:=by first | exact Or.inl rfl | exact Or.inr rfl)
  (hs:swapsWithSole [.Name x p] e pos.line (ib CX P w K mg base N qual scope f cdv A outer s H E).env=pure false:=by rfl) (hw:swappedStores [.Name x p] e (ib CX P w K mg base N qual scope f cdv A outer s H E).env=pure none:=by rfl)
  (hf:(ib CX P w K mg base N qual scope f cdv A outer s H E).fn x=true\/(ib CX P w K mg base N qual scope f cdv A outer s H E).env.scope.names.lookup x=some .local:=by first | exact .inl rfl | exact .inr rfl) :
  QSF (ib CX P w K mg base N qual scope f cdv A outer s H E) (.Assign [.Name x p] e pos) (eB i ga):=BC i hN he h hx hs hw hf
end
end L2
namespace L2
open PySem PySem.Spec PyProof.Rows
theorem zI {X:Cx} {e:Expr} {es:List Expr} {ga:Ev->R D} {pos pt:Pos} {k:Nat} {is:List Nat} (he:QF X e ga) (hc:X.calm=true) (h:Dm X es is) (hn:(assignEach es X.env).length=is.length:=by rfl) (hst:(assignEach es X.env).findIdx? (·.1)=none:=by rfl)
  (hs:swapsWithSole [.Tuple es k pt] e pos.line X.env=pure false:=by rfl) (hw:swappedStores [.Tuple es k pt] e X.env=pure none:=by rfl) (h1:(assignEach [.Tuple es k pt] X.env).map (·.2)=[assign (.Tuple es k pt) X.env]:=by rfl) :
  QSF X (.Assign [.Tuple es k pt] e pos) (Fy (Ds is) ga):=mW he (CJ hc h hn hst) hs hw (xu is) h1
theorem Bo {ga:Ev->R D} {ρ:Ev} {ds:List D} (h:ac ga (fun _=>.ok []) ρ=.ok ds):ds.length<=1:=by
 unfold ac at h
 cases e:ga ρ with
 | ok x=>rw [e] at h; cases h; exact Nat.le_refl _
 | ex C=>rw [e] at h; cases h
 | no=>rw [e] at h; cases h
structure Ref (x:Str) (C:Addr) (mg:Str->Option Value) (base:Heap):Prop where
 ex:∃ bm B newId initId,OwnCls x C bm newId mg base/\ExcBaseFacts B newId initId bm
theorem wE {X:Cx} {x:Str} {C:Addr} {e:Expr} {ga:Ev->R D} {np cp pos:Pos} (r:Ref x C X.mg X.base) (hh:X.A.handled=none) (ha:QF X e ga) (hg:Gl X x:=by rfl)
  (hdb:(x==("__debug__":Str))=false:=by decide) (hs:starEach [e] X.env=(false,eval e X.env)::starEach [] X.env:=by rfl) :
  QSF X (.Raise (some (.Call (.Name x np) [e] [] cp)) none pos) (eJ C (ac ga fun _=>.ok [])):=by
 obtain ⟨bm,B,newId,initId,Oc,FB⟩:=r.ex
 exact qc Oc FB hh hg (pL ha pF hs) hdb hs (fun ρ ds h=>Bo h)
theorem Un.but {fs:List Addr} {H:Hp} {h h':Heap} {C:Addr} (hs:Heap.SameBut C h h'):Un fs [C] H H h h':=by
 have ne:∀ b,b ∉ [C]->b ≠ C:=fun b hb z=>hb (by rw [z]; exact List.mem_singleton.2 rfl)
 exact ⟨fun b o e _ _ hx=>(hs.2 b (ne b hx)).trans e,fun b o e _ _ hx=>⟨o.slots,(hs.2 b (ne b hx)).trans e⟩,fun _ _ _ n _=>n,fun b o e hx=>⟨o,(hs.2 b (ne b hx)).trans e⟩,fun _ _ e=>e,fun _ _ _ e=>e,fun _ ps e=>⟨#[],by rw [Array.append_empty]; exact e⟩⟩
section
variable {X:Cx} {elt iter:Expr} {ifs:List Expr} {x:Str} {px pos:Pos} {scope:Scope} {N':List Str} {ix:List Nat} {gi:Ev->R (List D)} {gt:Ev->R Bool} {ge:Ev->R D}
theorem rY {tgt:Expr} {asg:D->Ev->R Ev} {n:Nat} (i:Nat) {y:Str} {py spos:Pos} (hN:X.N.Nodup) (ok:CompOkT X scope n N' ix) (hcalm:X.calm=true) (hg:∀ C s₂ H₂ fp,PGF (aX X N' scope C s₂ H₂ fp) tgt asg) (hown:∀ d ρ ρ',asg d ρ=.ok ρ'->(NoOwn ρ)->NoOwn ρ') (hi:QIF X tgt iter gi) (he:∀ C s₂ H₂ fp,QF (aX X N' scope C s₂ H₂ fp) elt ge) (ht:∀ C s₂ H₂ fp,PTs (aX X N' scope C s₂ H₂ fp) ifs gt)
  (hni:X.N[i]?=some y:=by rfl) (hy:X.env.scope.names.lookup y=some .local:=by rfl) (hs:∀ x,foldedSetIterable iter X.env x=pure x:=by intro _; rfl)
  (hsw:swapsWith (.ListComp elt [⟨tgt,iter,ifs,0⟩] scope pos) (some (.Name y py)) spos.line X.env=pure true:=by rfl)
  {pins:List (Addr × Obj)} {s:Shared} {σ:St} {H G:Hp} {ρ:Ev} {D:Ends} (I:Inv X pins σ H s) (sE:StE X.K G H σ ρ) (hq:(qi n asg gi ix gt ge ρ).post (oV X.K G H fun v H1=>D.nx (σ.set i (some v)) H1) (Exx X σ G H)) :
  wpAny (model X.prog X.w) X.A (exec (.Assign [.Name y py] (.ListComp elt [⟨tgt,iter,ifs,0⟩] scope pos) spos) X.env) (SP X pins D) X.xe s:=by
 rw [exec_Assign_Name_used _ _ _ _ hsw]
 refine wpAny_bind (wpAny_standAt (wpAny_bind ?_))
 show wpAny _ X.A (do let _ <- comprehension (.ListComp elt [⟨tgt,iter,ifs,0⟩] scope pos) scope X.env _ (newList []) false (eval iter X.env) (some (assign (.Name y py) X.env))) _ _ s
 refine wpAny_bind (wpAny_mono (wpAny_comprehension_free (use:=some (assign (.Name y py) X.env)) (Q:=fun _ s'=>SP X pins D .next s') rfl hs (ff fun z hz hz2=>I.ok.has z.1 (.inl (ok.fr z hz hz2))) ok.kind ok.names ?_) (fun _ s' hq=>wpAny_pure (wpAny_pure hq)) fun _ _ e=>e)
 have t:tG X (fun G J items=>ItOk X.K G J items) gi σ H (fun J H1=>∃ G1 items,Up G H G1 H1/\StE X.K G1 H1 σ ρ/\ItOk X.K G1 J items/\(gv asg gt ge items (dw n ix ρ)>>=fun ds=>if ds.length<=sizeLine then R.ok ds else .no).post (oV X.K G H fun v H1=>D.nx (σ.set i (some v)) H1) (Exx X σ G H)):=by
  refine ⟨G,ρ,sE,?_⟩
  unfold qi at hq
  cases e:gi ρ with
  | ok items=>rw [e] at hq; exact fun J G1 H1 u r=>⟨G1,items,u,sE.up u,r,hq⟩
  | ex C=>rw [e] at hq; exact hq
  | no=>rw [e] at hq; exact hq
 refine thn (hi pins s σ H _ I t) fun v s1 h1=>thn h1 fun itv s2 h2=>?_
 obtain ⟨it,fp,tn,J,H2,e,I2,T,st2,f2,G2,items,u2,sE2,iok,h2⟩:=h2
 subst e
 have h2':(gv asg gt ge items (dw n ix ρ)>>=fun ds=>if ds.length<=sizeLine then R.ok ds else .no).post (oV X.K G2 H2 fun v H1=>D.nx (σ.set i (some v)) H1) (Exx X σ G2 H2):=
  h2.mono (fun ds q l vs G' H' u hl r=>q l vs G' H' (u2.trans u) hl r) fun C q=>q.up u2
 refine iB (iter:=iter) (pos:=pos) (RR:=fun acc C=>compPost (model X.prog X.w) X.A X.xe (some (assign (.Name y py) X.env)) (fun _ s'=>SP X pins D .next s') acc C) ok hcalm hg hown he ht I2 T st2 f2 sE2 iok h2' ?_
 intro Dd C s' m vs G' H' up hd hCD _ q hm hos hb hC hCl un hok
 have I3:Inv X pins σ (upd H' Dd (.lst vs)) s':=I2.call' (ch:=fp) hos un hok hb fun b hb'=>by
  obtain ⟨f0,f1,f2',f3,f4,f5⟩:=f2 b hb'
  exact ⟨f3,f1,f4,f5⟩
 have lc:X.env.locals ≠ C:=Nat.ne_of_lt (Nat.lt_of_lt_of_le I2.lt hCl)
 have cc:∀ z c,X.env.cells.lookup z=some c->c ≠ C:=fun z c e=>by
  obtain ⟨v,q⟩:=I2.cell z c e
  exact Nat.ne_of_lt (Nat.lt_of_lt_of_le q.lt hCl)
 show wpAny (model X.prog X.w) X.A (assign (.Name y py) X.env (.ref Dd)) _ X.xe s'
 refine wpAny_assign_Name (pj I3 hN hni (.inl hy) (v:=.ref Dd) rfl (fun s'' I4 ⟨a,hsb,ha⟩=>?_) (.inr hy))
 have na:C ≠ a:=by
  rcases ha with rfl | ha
  ·exact lc.symm
  ·exact (cc _ _ ha).symm
 refine ⟨m,hm.sameBut hsb na,fun h' hs'=>?_⟩
 have I5:=I4.call' (s':={ s'' with heap:=h' }) (H':=upd H' Dd (.lst vs)) (ch:=[C]) rfl (Un.but hs') (I4.hok.sameBut (fun b o hbc e=>(hs'.2 b hbc).trans e) (by rw [aJ hCD]; exact hC)) I4.bare fun b hb'=>by
  rw [List.mem_singleton.1 hb']
  exact ⟨.inr (Nat.le_trans I2.sz hCl),lc.symm,cc,fun p hp z=>Nat.lt_irrefl _ (Nat.lt_of_lt_of_le (z ▸ Heap.lt_size (I2.pin p hp).1) hCl)⟩
 exact ⟨_,_,I5,q⟩
theorem uD {tgt:Expr} {asg:D->Ev->R Ev} {n:Nat} (i:Nat) {y:Str} {py spos:Pos} (hN:X.N.Nodup) (ok:CompOkT X scope n N' ix) (hcalm:X.calm=true) (hg:∀ C s₂ H₂ fp,PGF (aX X N' scope C s₂ H₂ fp) tgt asg) (hown:∀ d ρ ρ',asg d ρ=.ok ρ'->(NoOwn ρ)->NoOwn ρ') (hi:QIF X tgt iter gi) (he:∀ C s₂ H₂ fp,QF (aX X N' scope C s₂ H₂ fp) elt ge) (ht:∀ C s₂ H₂ fp,PTs (aX X N' scope C s₂ H₂ fp) ifs gt)
  (hni:X.N[i]?=some y:=by rfl) (hy:X.env.scope.names.lookup y=some .local:=by rfl) (hs:∀ x,foldedSetIterable iter X.env x=pure x:=by intro _; rfl)
  (hsw:swapsWith (.ListComp elt [⟨tgt,iter,ifs,0⟩] scope pos) (some (.Name y py)) spos.line X.env=pure true:=by rfl) :
  QSF X (.Assign [.Name y py] (.ListComp elt [⟨tgt,iter,ifs,0⟩] scope pos) spos) (Bd i (qi n asg gi ix gt ge)):=fun G₀ H₀ pins s σ H D I h=>by
 obtain ⟨G,ρ,sr,h⟩:=h
 have h:oG X G₀ H₀ D ((qi n asg gi ix gt ge ρ).out ρ fun ds=>.nx (ρ.set i (some (.own ds)))):=h
 refine rY i hN ok hcalm hg hown hi he ht hni hy hs hsw I sr.e ?_
 cases q:qi n asg gi ix gt ge ρ with
 | ok ds=>rw [q] at h; exact fun l vs G' H' u hl r=>h _ G' _ ((sr.ups u).setOwn hl r i)
 | ex C=>rw [q] at h; exact Exx.of sr h
 | no=>rw [q] at h; exact h
theorem xT (i:Nat) {y:Str} {py spos:Pos} (hN:X.N.Nodup) (ok:CompOk X scope x N' ix) (hcalm:X.calm=true) (hi:QIF X (.Name x px) iter gi) (he:∀ C s₂ H₂ fp,QF (aX X N' scope C s₂ H₂ fp) elt ge) (ht:∀ C s₂ H₂ fp,PTs (aX X N' scope C s₂ H₂ fp) ifs gt)
  (hni:X.N[i]?=some y:=by rfl) (hy:X.env.scope.names.lookup y=some .local:=by rfl) (hs:∀ x,foldedSetIterable iter X.env x=pure x:=by intro _; rfl)
  (hsw:swapsWith (.ListComp elt [⟨.Name x px,iter,ifs,0⟩] scope pos) (some (.Name y py)) spos.line X.env=pure true:=by rfl) :
  QSF X (.Assign [.Name y py] (.ListComp elt [⟨.Name x px,iter,ifs,0⟩] scope pos) spos) (Bd i (eU gi ix gt ge)):=
 uD (n:=1) (asg:=fZ 0) i hN ok.t hcalm (fun C s₂ H₂ fp=>cy (X:=aX X N' scope C s₂ H₂ fp) (pos:=px) 0 ok.nd ok.hd (.inl (lookup_relabel_local ok.loc)) (.inr (lookup_relabel_local ok.loc))) nS hi he ht hni hy hs hsw
end
def IO (i:Nat) (ga:Ev->R D):Ev->O:=fun ρ=>(ownAt ρ i).out ρ fun ds=>(ga ρ).out ρ fun d=>(asL d).out ρ fun es=>if ds.length+es.length<=sizeLine then .nx (ρ.set i (some (.own (ds++es)))) else .no
def FA (i:Nat) (ga:Ev->R D):Ev->O:=fun ρ=>(ownAt ρ i).out ρ fun ds=>(ga ρ).out ρ fun d=>if ds.length < sizeLine then .nx (ρ.set i (some (.own (ds++[d])))) else .no
def Fx (i j:Nat) (gl:Ev->R (List D)):Ev->O:=fun ρ=>(gl ρ).out ρ fun ds=>(nU [i,j] ds ρ).out ρ .nx
section
variable {X:Cx} {st:Stmt} {cq body:List Stmt} {e c o:Expr} {es:List Expr} {g:Ev->O} {ga:Ev->R D} {gl:Ev->R (List D)} {pos p p2:Pos}
theorem uf (i:Nat) {x:Str} {p ap cp:Pos} (he:QF X e ga) (hi:X.N[i]?=some x:=by rfl) (hv:Vis X.env.scope x:=by first | exact Or.inl rfl | exact Or.inr (Or.inl rfl))
  (hd:(x==("__debug__":Str))=false:=by decide) (hcd:(x==("__classdict__":Str))=false:=by decide) (hs1:starEach [e] X.env=(false,eval e X.env)::starEach [] X.env:=by rfl)
  (hbase:attributeBase (.Name x p) "append" X.env (eval (.Name x p) X.env)=eval (.Name x p) X.env:=by rfl)
  (hfew:((backTo cp (starEach [e] X.env)).all (fun x=>!x.1) && (backToKw cp (keywordEach [] X.env)).all (fun x=>x.1.isSome)
   && decide ([e].length+([]:List Keyword).length+(if ([]:List Keyword).isEmpty then 0 else 1) < 30))=true:=by rfl)
  (hline:(ap.endLine==cp.line)=true:=by rfl)
  (hs:swapsWith (.Call (.Attribute (.Name x p) "append" ap) [e] [] cp) none pos.line X.env=pure false:=by rfl) :
  QSF X (.Expr (.Call (.Attribute (.Name x p) "append" ap) [e] [] cp) pos) (FA i ga):=nK i he hi hv hd hcd hs1 hbase hfew hline hs
theorem A8 (i j:Nat) {x y:Str} {a b:Expr} {px py pt pt2:Pos} {kt k2:Nat} (hc:X.calm=true) (hN:X.N.Nodup) (ha:QFA X [a,b] gl) (hij:i ≠ j:=by decide) (hi:X.N[i]?=some x:=by rfl) (hj:X.N[j]?=some y:=by rfl)
  (hx:X.env.scope.names.lookup x=some .local:=by rfl) (hy:X.env.scope.names.lookup y=some .local:=by rfl)
  (hw:swappedStores [.Tuple [.Name x px,.Name y py] kt pt] (.Tuple [a,b] k2 pt2) X.env=pure (some [x,y]):=by rfl)
  (hs:swapsWithSole [.Tuple [.Name x px,.Name y py] kt pt] (.Tuple [a,b] k2 pt2) pos.line X.env=pure false:=by rfl) :
  QSF X (.Assign [.Tuple [.Name x px,.Name y py] kt pt] (.Tuple [a,b] k2 pt2) pos) (Fx i j gl):=ur i j hc hN ha hij hi hj hx hy hw hs
theorem vO {x:Str} (h:QF X (.Name x pos) ga):QB X (.Name x pos) (aH iW ga):=tV h
theorem B6 {sts:List Stmt} (i:Nat) (h:nv X sts g):nv X sts (B4 i g):=rX i h
end
structure Errs (K:PySem.W.Frag) (mg:Str->Option Value) (rs:List Addr) (ts:List (Str × Addr)):Prop where
 na:∀ t ∈ ts,mg t.1=some (.ref t.2)
 ec:∀ r ∈ rs,ExcCls K r
 kit:∀ r ∈ rs,∀ t ∈ ts,PySem.W.kitOne K (.ref r) (.ref t.2)=some (r==t.2)
 ve:∀ r ∈ rs,PySem.W.kitOne K (.ref r) (.type "ValueError")=some true
 le:∃ L,mg "LineError"=some (.ref L)/\∀ r ∈ rs,PySem.W.exmOne K (.ref r) (.ref L)=some true
section
variable {X:Cx} {e:Expr} {ga:Ev->R D} {p p2 pos:Pos} {rs:List Addr} {ts:List (Str × Addr)}
end
section
variable {X:Cx} {e:Expr} {ga:Ev->R D} {p p2 pos:Pos} {rs:List Addr} {ts:List (Str × Addr)}
end
section
variable {CX:CXT} {P:Program} {w:World} {K:PySem.W.Frag} {mg:Str->Option Value} {base:Heap} {N:List Str} {i:Nat} {x:Str} {qual:Str} {scope:Scope} {f a:Addr} {cdv:Value} {A:Around} {outer:List Env} {s:Shared} {H:Hp} {E:XK} {pn:List (Addr × Obj)} {xe:Value->Shared->Prop} {pos p:Pos} {e:Expr} {ga:Ev->R D}
end
section
variable {X:Cx} {body suite:List Stmt} {b₀:Stmt} {gb gs:Ev->O} {pos hp tp:Pos} {nm:Str} {rs:List Addr} {ts:List (Str × Addr)}
end
end L2
namespace L2
open PySem PySem.Spec PyProof.Rows
def fl:Nat->D->Bool
 | 0,_=>false
 | n+1,.tup xs=>xs.all (fl n)
 | _+1,.lst _ _=>false
 | _+1,.exc _=>false
 | _+1,_=>true
section
variable {X:Cx} {st:Stmt} {cq body a b:List Stmt} {e c tg:Expr} {g g1 g2:Ev->O} {ga gb:Ev->R D} {gt:Ev->R Bool} {gl:Ev->R (List D)} {pos:Pos}
def IQ (i:Nat) (gt:Ev->R Bool) (g1 g2:Ev->O):Ev->O:=fun ρ=>(jx (gt (frz i ρ))).out ρ fun k=>if k=true then g1 ρ else g2 ρ
def H8 (j i:Nat) (ga:Ev->R D):Ev->O:=fun ρ=>(jx (ga (frz j ρ))).out ρ fun d=>if fl 10 d=true then .nx (ρ.set i (some (.val d))) else .no
def HF (j i:Nat) (ga:Ev->R D):Ev->O:=fun ρ=>(ownAt ρ i).out ρ fun ds=>(jx (ga (frz j ρ))).out ρ fun d=>if ds.length < sizeLine/\fl 10 d=true then .nx (ρ.set i (some (.own (ds++[d])))) else .no
def Ie (i:Nat) (gk ga:Ev->R D):Ev->O:=fun ρ=>(ownAt ρ i).out ρ fun ds=>(jx (ga (frz i ρ))).out ρ fun d=>(jx (gk (frz i ρ)>>=asI)).out ρ fun k=>match ixN ds.length k with
 | some n=>if fl 10 d=true then .nx (ρ.set i (some (.own (ds.set n d)))) else .no
 | none=>.no
def HP:D->R (List D)
 | .lst _ xs=>.ok xs
 | .tup xs=>.ok xs
 | _=>.no
def Ic:List D->R (List D)
 | [d]=>HP d
 | _=>.no
def Io (gl:Ev->R (List D)):Ev->R (List D):=fun ρ=>gl ρ>>=Ic
end
end L2
namespace L2
open PySem PySem.Spec PyProof.Rows PySem.W
section
variable {X:Cx} {pins:List (Addr × Obj)} {σ:St} {G H:Hp} {s:Shared} {A:Around} {E:Value->Shared->Prop} {Q:Value->Shared->Prop}
end
section
variable {X:Cx} {e:Expr} {ga:Ev->R D} {p p2 p3 p4 pos:Pos} {k:Nat}
end
def dD:List D->Option (List (List Nat))
 | []=>some []
 | .str x::ds=>(dD ds).map (x::·)
 | _=>none
def hV (sep:List Nat):List (List Nat)->List Nat
 | []=>[]
 | [x]=>x
 | x::y::r=>x++sep++hV sep (y::r)
def iz:D->List D->Option D
 | .str s,[.lst _ ds]=>match dD ds with
  | some xs=>if (xs.map List.length).sum+xs.length * s.length<=sizeLine then some (.str (hV s xs)) else none
  | none=>none
 | _,_=>none
theorem Reps.strs {K:PySem.W.Frag} {G:Hp}:∀ {vs:List V} {ds:List D} {xs:List (List Nat)},Reps K G vs ds->dD ds=some xs->∃ ys:List Str,vs=ys.map V.str/\ys.map (fun y=>y.cps.toList)=xs
 | _,_,_,.nil,h=>by cases h; exact ⟨[],rfl,rfl⟩
 | _,_,xs,.cons (d:=d) r t,h=>by
  cases d <;> first | (cases h; done) | skip
  rename_i x
  rename_i ds'
  cases q:dD ds' with
  | none=>simp [dD,q] at h
  | some zs=>
   simp [dD,q] at h
   obtain ⟨ys,e1,e2⟩:=Reps.strs t q
   obtain ⟨y,rfl,ey,_⟩:=r.str_inv
   exact ⟨y::ys,by rw [e1]; rfl,by rw [List.map_cons,e2,ey]; exact h⟩
theorem Vals.strs:∀ {ys:List Str} {us:List Value},Vals (ys.map V.str) us->StrsAre us ys
 | [],_,h=>by cases h; exact .nil
 | y::ys,_,h=>by
  cases h with
  | cons a b=>
   obtain ⟨t,rfl⟩:=a
   exact .cons y t (Vals.strs b)
theorem jK (s:Str):∀ ys:List Str,(Txt.join s ys).cps.toList=hV s.cps.toList (ys.map fun y=>y.cps.toList):=by
 intro ys
 show (Builtin.Str.glued s ys).cps.toList=_
 rw [StrLaws.glued_eq_join]
 induction ys with
 | nil=>rfl
 | cons y r ih=>
  cases r with
  | nil=>rfl
  | cons z r=>
   show (y++s++Str.join s (z::r)).cps.toList=_
   rw [Str.app_list,Str.app_list,ih]; rfl
theorem jw (s:List Nat):∀ xs:List (List Nat),(hV s xs).length<=(xs.map List.length).sum+xs.length * s.length
 | []=>by simp [hV]
 | [x]=>by simp [hV]
 | x::y::r=>by
  have:=jw s (y::r)
  simp only [hV,List.length_append,List.map_cons,List.sum_cons,List.length_cons,Nat.succ_mul] at this ⊢
  omega
def EY (K:PySem.W.Frag):V->List V->Hp->VK->Prop:=fun x vs H Q=>∃ (y:Str) (p:Addr) (ys:List Str),x=.str y/\vs=[.ref p]/\SqL K H p (ys.map V.str)/\(ys.map (·.length)).sum+ys.length * y.length<=16777216/\Q (.str (Txt.join y ys)) H
theorem CB {X:Cx}:MtR X "str.join" (EY X.K):=by
 intro pins s σ H x xs v us Q I rx rv ⟨y,p,ys,ex,exs,hl,hz,q⟩
 subst ex exs
 obtain ⟨t,rfl⟩:=rx
 obtain ⟨u,rfl,r1⟩:=rv.one
 cases r1
 obtain ⟨its,rvs,pl,_⟩:=I.list hl
 exact join_list pl.isList (Vals.strs (by simpa using rvs)) hz fun t' k=>⟨.str _,H,I.tok _,⟨_,rfl⟩,q⟩
theorem Bt (K:PySem.W.Frag):Bg K "str" (EY K) iz:=by
 intro G H x xs dx ds d Q s rx rs e q
 unfold iz at e
 split at e
 ·split at e
  ·rename_i zs hz
   split at e
   ·rename_i hle
    cases e
    obtain ⟨v,rfl,r1⟩:=rs.one
    obtain ⟨y,rfl,ey,hy⟩:=rx.str_inv
    obtain ⟨a,vs,rfl,hs,rr⟩:=r1.seq_inv
    obtain ⟨ys,e1,e2⟩:=rr.strs hz
    subst e1
    subst e2
    subst ey
    have hle':(ys.map (·.length)).sum+ys.length * y.length<=16777216:=by
     have e3:(ys.map fun y=>y.cps.toList).map List.length=ys.map (·.length):=by
      rw [List.map_map]; exact List.map_congr_left fun z _=>Str.len_list z
     rw [e3,List.length_map,Str.len_list] at hle
     exact hle
    refine ⟨y,a,ys,rfl,rfl,hs.mono s,hle',q _ G H (.refl s) (.strL (jK y ys) ?_)⟩
    exact Nat.le_trans (jw _ _) hle
   ·cases e
  ·cases e
 ·cases e
theorem zg {X:Cx} {o e:Expr} {ga:Ev->R D} {gl:Ev->R (List D)} {ap cp:Pos} (ho:QF X o ga) (ha:QFA X [e] gl) (hbase:attributeBase o "join" X.env (eval o X.env)=eval o X.env:=by rfl)
  (hfew:((backTo cp (starEach [e] X.env)).all (fun x=>!x.1) && (backToKw cp (keywordEach [] X.env)).all (fun x=>x.1.isSome)
   && decide ([e].length+([]:List Keyword).length+(if ([]:List Keyword).isEmpty then 0 else 1) < 30))=true:=by rfl)
  (hline:(ap.endLine==cp.line)=true:=by rfl) (hs:starEach [e] X.env=(false,eval e X.env)::starEach [] X.env:=by rfl) :
  QF X (.Call (.Attribute o "join" ap) [e] [] cp) (fv "str" iz ga gl):=fH PySem.F.plainAttrs_str PySem.F.slot_str_join PySem.F.type_str_join CB (Bt _) ho ha hbase hfew hline hs rfl
def oz:List D->Option (List Int)
 | []=>some []
 | .int i::ds=>(oz ds).map (i::·)
 | _=>none
theorem Reps.nums {K:PySem.W.Frag} {G:Hp}:∀ {vs:List V} {ds:List D} {ns:List Int},Reps K G vs ds->oz ds=some ns->vs=ns.map V.int
 | _,_,_,.nil,h=>by cases h; rfl
 | _,_,ns,.cons (d:=d) r t,h=>by
  cases d <;> first | (cases h; done) | skip
  rename_i x
  rename_i ds'
  cases q:oz ds' with
  | none=>simp [oz,q] at h
  | some zs=>
   simp [oz,q] at h
   subst h
   rw [Reps.nums t q,r.int_inv]; rfl
section
variable {X:Cx}
theorem uZ {e:Expr} {ga:Ev->R D} {p p2 pos:Pos} (hm:X.mg "isinstance"=none) (ha:QF X e ga) (hm2:X.mg "list"=none) (hg2:Gl X "list":=by rfl) (hg:Gl X "isinstance":=by rfl) (hs1:starEach [e,.Name "list" p2] X.env=(false,eval e X.env)::starEach [.Name "list" p2] X.env:=by rfl):QF X (.Call (.Name "isinstance" p) [e,.Name "list" p2] [] pos) (aH (fX (·=="list")) ga):=rk hm ha hm2 hg2 hg hs1
end
end L2
namespace L2
open PySem PySem.Spec PyProof.Rows
open Sem (wp)
open AutoSeq1 (wpAny_loadPart')
section
variable {prog:Program} {w:World} {A:Around} {E:Value->Shared->Prop} {s:Shared}
end
section
variable {prog:Program} {w:World} {A:Around} {E:Value->Shared->Prop} {s:Shared}
end
section
variable {P:Program} {w:World} {K:PySem.W.Frag} {elts:List Expr} {kt:Nat} {tp:Pos}
structure Inner (P:Program) (w:World) (K:PySem.W.Frag) (sq:Hp->List V->Prop) (a it:Addr) (iter:Nat->Heap->Prop):Prop where
 obj:∀ i h,iter i h->∃ o,h.get? it=some o/\∀ v,o.data ≠ .cell v
 at_:∀ i h h',iter i h->(∀ o,h.get? it=some o->h'.get? it=some o)->iter i h'
 inj:∀ (X:Cx),X.K=K->∀ (pins:List (Addr × Obj)) (σ:St) (H:Hp) (s:Shared) xs ys,Inv X pins σ H s->sq H xs->sq H ys->xs=ys
 dr:∀ (X:Cx),X.prog=P->X.w=w->X.K=K->X.calm=true->∀ (pins:List (Addr × Obj)) (σ:St) (H:Hp) (s:Shared) (xs:List V) (c:Nat),Inv X pins σ H s->sq H xs->(∀ i,iter i s.heap->a ≠ it)->
  ∃ its:List Value,Vals xs its/\xs.length<=sizeLine/\∃ (Pd:Nat->Value->Prop) (St:Nat->Heap->Prop),Draws P w X.A.in1 it [it,a] (c+its.length) Pd St/\(∀ k v,Pd (c+k) v->its[k]?=some v)/\
   (∀ k h,iter k h->(∀ o,s.heap.get? a=some o->h.get? a=some o)->a ≠ it->St (c+k) h)/\∀ k h,St (c+k) h->iter k h
 fin:∀ (X:Cx),X.prog=P->X.w=w->X.K=K->X.calm=true->∀ (pins:List (Addr × Obj)) (σ:St) (H:Hp) (s:Shared) (xs:List V) (i:Nat) (Q:Value->Shared->Prop) (E:Value->Shared->Prop),Inv X pins σ H s->sq H xs->xs.length<=i->iter i s.heap->
  (∀ h' x,Heap.ExtBut it s.heap h'->(∃ o,h'.get? x=some o/\o.cls=.type "StopIteration")->E (.ref x) { s with heap:=h' })->wpAny (model P w) X.A.in1 (Builtin.SmallTypes.nextOf (.ref it)) Q E s
end
end L2
namespace L2
open PySem PySem.Spec PyProof.Rows
def numbered (c:Nat) (xs:List D):List D:=(List.range xs.length).map fun i=>.tup [.int ((c+i:Nat):Int),xs.getD i .non]
section
variable {X:Cx} {pins:List (Addr × Obj)} {σ:St} {H:Hp} {s:Shared} {elts:List Expr} {kt:Nat} {tp:Pos} {Rr:It->Hp->Prop}
end
def DQ:D->D->R (List D)
 | .tup xs,.int c=>if 0<=c/\c < 1073741824 then .ok (numbered c.toNat xs) else .no
 | _,_=>.no
section
variable {X:Cx} {a b:Expr} {ga gb:Ev->R D} {elts:List Expr} {kt:Nat} {p pos tp kp:Pos}
def Hj (ga gb:Ev->R D):Ev->R (List D):=fun ρ=>ga ρ>>=fun x=>gb ρ>>=fun c=>DQ x c
end
end L2
namespace L2
open PySem PySem.Spec PyProof.Rows
section
variable {X:Cx} {elt iter tgt:Expr} {ifs:List Expr} {pos:Pos} {scope:Scope} {n:Nat} {N':List Str} {ix:List Nat} {asg:D->Ev->R Ev} {gi:Ev->R (List D)} {gt:Ev->R Bool} {ge:Ev->R D}
end
def Bx:List D->Option D
 | [.lst _ ds]=>match oz ds with
  | some ns=>some (.int ns.sum)
  | none=>none
 | [.tup ds]=>match oz ds with
  | some ns=>some (.int ns.sum)
  | none=>none
 | _=>none
theorem Vals.ints:∀ {ns:List Int} {its:List Value},Vals (ns.map V.int) its->IntsAre its ns
 | [],_,.nil=>.nil
 | n::ns,_,.cons r t=>by
  obtain ⟨tk,rfl⟩:=r
  exact .cons n tk (Vals.ints t)
section
variable {X:Cx}
theorem oZ {ns:List Int} {its:List Value} (rv:Vals (ns.map V.int) its):∃ xs:Array (Int × Tok),its.toArray=intItems xs/\preSum (numAt xs) xs.size=ns.sum:=by
 have hi:=Vals.ints rv
 obtain ⟨xs,hx⟩:=hi.allInts.items
 have e1:ns=xs.toList.map (·.1):=by
  rw [<- nums_intItems,<- hx]
  exact (show numsOf its.toArray.toList=ns from hi.numsOf).symm
 exact ⟨xs,hx,by rw [preSum_eq,List.take_of_length_le (by simp),e1]⟩
theorem vy (hc:X.calm=true):im X (.builtin "sum") (fun xs H Q=>∃ p,∃ ns:List Int,xs=[.ref p]/\(SqL X.K H p (ns.map V.int)\/SqT X.K H p (ns.map V.int))/\Q (.int ns.sum) H):=by
 intro pins s σ H xs us Q I r ⟨p,ns,ex,hs,q⟩
 subst ex
 obtain ⟨u,rfl,r1⟩:=r.one
 cases r1
 rcases hs with hs | hs
 ·obtain ⟨its,rv,pl,hz⟩:=I.list hs
  obtain ⟨xs,hx,e2⟩:=oZ rv
  refine sum_intListG (I.ok.hd hc) (hx ▸ pl.isList) fun h' tk t' hk=>?_
  rw [e2]
  exact ⟨.int _,H,I.kept (t':=tk) hk,⟨_,rfl⟩,q⟩
 ·obtain ⟨its,rv,pl,hz⟩:=I.tuple hs
  obtain ⟨xs,hx,e2⟩:=oZ rv
  have ht:s.heap.IsTuple p its.toArray:=pl
  refine PySem.W.ktm_sumG (I.ok.hd hc) (hx ▸ ht) fun h' tk t' hk=>?_
  rw [e2]
  exact ⟨.int _,H,I.kept (t':=tk) hk,⟨_,rfl⟩,q⟩
theorem Cg (K:PySem.W.Frag):AH K (fun xs H Q=>∃ p,∃ ns:List Int,xs=[.ref p]/\(SqL K H p (ns.map V.int)\/SqT K H p (ns.map V.int))/\Q (.int ns.sum) H) Bx:=by
 intro G H xs ds d Q s r e q
 unfold Bx at e
 split at e
 ·split at e
  ·rename_i ns hn
   cases e
   obtain ⟨v,rfl,r1⟩:=r.one
   obtain ⟨a,vs,rfl,hs,rr⟩:=r1.seq_inv
   obtain rfl:=rr.nums hn
   exact ⟨a,ns,rfl,.inl (hs.mono s),q _ G H (.refl s) (.int _)⟩
  ·cases e
 ·split at e
  ·rename_i ns hn
   cases e
   obtain ⟨v,rfl,r1⟩:=r.one
   obtain ⟨a,vs,rfl,hs,rr⟩:=r1.tup_inv
   obtain rfl:=rr.nums hn
   exact ⟨a,ns,rfl,.inr (hs.mono s),q _ G H (.refl s) (.int _)⟩
  ·cases e
 ·cases e
theorem AO {e:Expr} {gl:Ev->R (List D)} {p pos:Pos} (hc:X.calm=true) (hg:Gl X "sum") (hm:X.mg "sum"=none) (ha:QFA X [e] gl) (he:starEach [e] X.env=(false,eval e X.env)::starEach [] X.env:=by rfl) :
  QF X (.Call (.Name "sum" p) [e] [] pos) (gOf Bx gl):=fW (vy hc) (Cg _) hg hm PyProof.Rows.Boot.«sum» ha (by decide) (by decide) he rfl
end
def yH (i j:Nat) (ga:Ev->R D) (gl:Ev->R (List D)):Ev->O:=fun ρ=>(ga ρ).out ρ fun d=>(gl ρ).out ρ fun ds=>.nx ((ρ.set i (some (.val d))).set j (some (.own ds)))
section
variable {X:Cx} {ga:Ev->R D} {gl:Ev->R (List D)} {pos:Pos}
theorem yE (i j:Nat) {x y:Str} {a b:Expr} {px py pt pt2:Pos} {kt k2:Nat} (hc:X.calm=true) (hN:X.N.Nodup) (ha:QF X a ga) (hb:QFL X b gl) (hij:i ≠ j:=by decide) (hi:X.N[i]?=some x:=by rfl) (hj:X.N[j]?=some y:=by rfl)
  (hx:X.env.scope.names.lookup x=some .local:=by rfl) (hy:X.env.scope.names.lookup y=some .local:=by rfl)
  (hw:swappedStores [.Tuple [.Name x px,.Name y py] kt pt] (.Tuple [a,b] k2 pt2) X.env=pure (some [x,y]):=by rfl)
  (hs:swapsWithSole [.Tuple [.Name x px,.Name y py] kt pt] (.Tuple [a,b] k2 pt2) pos.line X.env=pure false:=by rfl)
  (h1:starEach [a,b] X.env=(false,eval a X.env)::starEach [b] X.env:=by rfl) (h2:starEach [b] X.env=(false,eval b X.env)::starEach [] X.env:=by rfl) :
  QSF X (.Assign [.Tuple [.Name x px,.Name y py] kt pt] (.Tuple [a,b] k2 pt2) pos) (yH i j ga gl):=fun G₀ H₀ pins s σ H D I h=>by
 refine xa hc hN hi hj hij hx hy (ee ha (ee hb kQ h2) h1) hw hs pins s σ H D I ?_
 obtain ⟨G,ρ,sr,h⟩:=h
 have h:oG X G₀ H₀ D ((ga ρ).out ρ fun d=>(gl ρ).out ρ fun ds=>.nx ((ρ.set i (some (.val d))).set j (some (.own ds)))):=h
 refine ⟨G,ρ,sr.e,?_⟩
 cases q:ga ρ with
 | ok d=>
  rw [q] at h
  intro v G1 H1 u1 r1
  refine ⟨G1,ρ,(sr.ups u1).e,?_⟩
  cases q2:gl ρ with
  | ok ds=>
   simp only [R.out,q2] at h
   exact fun l vs G2 H2 u2 hl r2=>⟨_,_,rfl,h _ G2 _ ((((sr.ups u1).ups u2).set (r1.mono u2.gg) i).setOwn hl r2 j)⟩
  | ex C=>simp only [R.out,q2] at h; exact Exx.of (sr.ups u1) h
  | no=>simp only [R.out,q2] at h; exact h
 | ex C=>rw [q] at h; exact Exx.of sr h
 | no=>rw [q] at h; exact h
end
end L2
namespace L2
open PySem PySem.Spec PyProof.Rows
section
variable {P:Program} {w:World} {K:PySem.W.Frag} {elts:List Expr} {kt:Nat} {tp:Pos}
end
section
variable {X:Cx} {a b:Expr} {gl:Ev->R (List D)} {elts:List Expr} {kt:Nat} {p pos tp:Pos}
end
end L2
namespace L2
open PySem PySem.Spec PyProof.Rows
def HY:D->D->R D
 | .str x,.int k=>if k = -1 then .ok (.str x.reverse) else .no
 | .lst _ xs,.int k=>if k = -1 then .ok (.lst false xs.reverse) else .no
 | _,_=>.no
def IP (ga gs:Ev->R D):Ev->R D:=fun ρ=>ga ρ>>=fun x=>gs ρ>>=fun k=>HY x k
section
variable {X:Cx} {a st:Expr} {ga gs:Ev->R D} {pos p2:Pos}
end
end L2
namespace L2
open PySem PySem.Spec PyProof.Rows
def wF (gt:Ev->R Bool) (g:Ev->O):Nat->Ev->O
 | 0,_=>.no
 | n+1,ρ=>(gt ρ).out ρ fun k=>if k=true then (match g ρ with
  | .nx ρ2=>wF gt g n ρ2
  | .ct ρ2=>wF gt g n ρ2
  | .bk ρ2=>.nx ρ2
  | .rt d=>.rt d
  | .re d ρ2=>.re d ρ2
  | .ex C ρ2=>.ex C ρ2
  | .no=>.no) else .nx ρ
def Ho (n:Nat) (gt:Ev->R Bool) (g:Ev->O):Ev->O:=fun ρ=>wF gt g n ρ
section
variable {X:Cx} {c e:Expr} {body:List Stmt} {gt:Ev->R Bool} {g:Ev->O} {ga:Ev->R D} {pos:Pos}
end
end L2
namespace L2
open PySem PySem.Spec PyProof.Rows
def FH (gs:List (Ev->R D)) (ρ:Ev):D->R D
 | .int i=>if 0<=i then (match gs[i.toNat]? with
  | some g=>g ρ
  | none=>.no) else .no
 | _=>.no
def IG (gs:List (Ev->R D)) (gi:Ev->R D):Ev->R D:=fun ρ=>gi ρ>>=FH gs ρ
section
variable {X:Cx} {a b ix e:Expr} {es:List Expr} {ga gb gi:Ev->R D} {gl:Ev->R (List D)} {pos p1 p2 pl sp:Pos}
end
end L2
namespace L2
open PySem PySem.Spec PyProof.Rows
section
variable {X:Cx} {a b:Expr} {ga gb:Ev->R D} {pos:Pos}
theorem uL {x z:Str} {l:List Nat} {t:Tok} (hg:Gl X x) (hm:X.mg x=some (.str z t)) (hl:z.cps.toList=l:=by rfl) (hz:l.length<=1000:=by decide) (hd:(x==("__debug__":Str))=false:=by decide):QF X (.Name x pos) (fun _=>.ok (.str l)):=
 dh (vt (v:=.str z) hg hm ⟨t,rfl⟩ hd) fun _ _=>.strL hl (Nat.le_trans hz (by decide))
structure KTup (K:PySem.W.Frag) (c:Addr) (ls:List (List Nat)):Prop where
 ex:∃ (o:Obj) (its:Array Value) (n:Nat) (vs:List V),K.lookup c=some o/\o.cls=.type "tuple"/\o.data=.seq its n/\its.size<=sizeLine/\Vals vs its.toList/\∀ G,Reps K G vs (ls.map .str)
end
end L2
namespace L2
open PySem PySem.Spec PyProof.Rows
def bx (n:Nat):List Nat:=(Nat.toDigits 10 n).map Char.toNat
theorem oW {i:Int} (h0:0<=i) (h1:i < 10000000000):i.natAbs.log2 < 1920:=by
 by_cases h:i.natAbs=0
 ·rw [h]; decide
 ·refine (Nat.log2_lt h).2 (Nat.lt_of_lt_of_le (show i.natAbs < 2 ^ 34 by omega) (Nat.pow_le_pow_right (by decide) (by decide)))
theorem tO {i:Int} (h0:0<=i):(Str.ofString (toString i)).cps.toList=bx i.toNat:=by
 obtain ⟨m,rfl⟩:=Int.eq_ofNat_of_zero_le h0
 exact PySem.W.KIN.signs_num m
theorem Bc {i:Int} (h0:0<=i) (h1:i < 10000000000):(bx i.toNat).length<=sizeLine:=by
 rw [<- tO h0,Str.len_list]; exact int_text_fits (oW h0 h1)
section
variable {X:Cx} {a b c e e1 e2 e3 e4 e5:Expr} {ga gb gc g1 g2' g3' g4 g5:Ev->R D} {gl:Ev->R (List D)} {pos p:Pos}
def vA:D->R D
 | .int i=>if 0<=i/\i < 10000000000 then .ok (.str (bx i.toNat)) else .no
 | .str x=>.ok (.str x)
 | _=>.no
theorem Bj (h:QF X e ga):QF X (.FormattedValue e (-1) none pos) (aH vA ga):=by
 intro pins s σ H Q I q
 obtain ⟨G,ρ,st,q⟩:=q
 refine FormattedValue_plain (thn (h pins s σ H (fun v H1=>∃ G1 d,Up G H G1 H1/\Rep X.K G1 v d/\StE X.K G1 H1 σ ρ/\(vA d).post (Fin G1 H1 (Rep X.K) Q) (Exx X σ G1 H1)) I ?_) fun u s1 ⟨v,H1,I1,r1,q1⟩=>?_)
 ·exact tG.intro st q fun d v G1 H1 u1 st1 r1 h1=>⟨G1,d,u1,r1,st1,h1⟩
 ·obtain ⟨G1,d,u1,rr,st1,h1⟩:=q1
  unfold vA at h1
  split at h1
  ·split at h1
   ·rename_i hc
    obtain rfl:=rr.int_inv
    obtain ⟨t,rfl⟩:=r1
    exact wpAny_formatField_int (oW hc.1 hc.2) ⟨.str _,H1,I1.tok _,⟨_,rfl⟩,h1 _ G1 H1 (.refl st1.sub) (.strL (tO hc.1) (Bc hc.1 hc.2))⟩
   ·exact h1.elim
  ·obtain ⟨y,rfl,ey,hy⟩:=rr.str_inv
   obtain ⟨t,rfl⟩:=r1
   exact formatField_str (fun t' tk=>⟨.str _,H1,I1.tok _,⟨_,rfl⟩,h1 _ G1 H1 (.refl st1.sub) rr⟩) hy
  ·exact h1.elim
def jQ:List (Ev->R D)->List Nat->Ev->R D
 | [],out=>fun _=>.ok (.str out)
 | g::gs,out=>fun ρ=>g ρ>>=fun d=>match d with
  | .str x=>if (out++x).length<=sizeLine then jQ gs (out++x) ρ else .no
  | _=>.no
def qO (gs:List (Ev->R D)):Ev->R D:=jQ gs []
theorem xz {out:Str} {pins:List (Addr × Obj)} {s:Shared} {σ:St} {H G:Hp} {ρ:Ev} {Q:VK} (I:Inv X pins σ H s) (st:StE X.K G H σ ρ) (hz:out.length<=sizeLine)
  (h:(jQ [] out.cps.toList ρ).post (Fin G H (Rep X.K) Q) (Exx X σ G H)):wpAny (model X.prog X.w) X.A (joinParts out []) (EP X pins σ Q) X.xe s:=
 joinParts_nil ⟨.str _,H,I.tok _,⟨_,rfl⟩,h _ G H (.refl st.sub) (.str out hz)⟩ hz
theorem fM {out:Str} {pins:List (Addr × Obj)} {s:Shared} {σ:St} {H G:Hp} {ρ:Ev} {Q:VK} {gs:List (Ev->R D)} {cq:List (Sem Value)} (he:QF X e ga) (I:Inv X pins σ H s) (st:StE X.K G H σ ρ)
  (h:(jQ (ga::gs) out.cps.toList ρ).post (Fin G H (Rep X.K) Q) (Exx X σ G H))
  (k:∀ (out':Str) (s1:Shared) (H1 G1:Hp),Inv X pins σ H1 s1->StE X.K G1 H1 σ ρ->out'.length<=sizeLine->(jQ gs out'.cps.toList ρ).post (Fin G1 H1 (Rep X.K) Q) (Exx X σ G1 H1)->wpAny (model X.prog X.w) X.A (joinParts out' cq) (EP X pins σ Q) X.xe s1) :
  wpAny (model X.prog X.w) X.A (joinParts out (eval e X.env::cq)) (EP X pins σ Q) X.xe s:=by
 refine joinParts_cons (thn (he pins s σ H (fun v H1=>∃ G1 d,StE X.K G1 H1 σ ρ/\Rep X.K G1 v d/\(match d with
  | .str x=>if (out.cps.toList++x).length<=sizeLine then jQ gs (out.cps.toList++x) ρ else .no
  | _=>.no:R D).post (Fin G1 H1 (Rep X.K) Q) (Exx X σ G1 H1)) I ?_) fun u s1 ⟨v,H1,I1,r1,q1⟩=>?_)
 ·exact tG.intro st h fun d v G1 H1 u1 st1 r1 h1=>⟨G1,d,st1,r1,h1⟩
 ·obtain ⟨G1,d,st1,rr,h1⟩:=q1
  split at h1
  ·split at h1
   ·rename_i hc
    obtain ⟨y,rfl,ey,hy⟩:=rr.str_inv
    obtain ⟨t,rfl⟩:=r1
    subst ey
    have e1:(out++y).cps.toList=out.cps.toList++y.cps.toList:=Str.app_list ..
    have e2:(out++y).length<=sizeLine:=by rw [<- Str.len_list,e1]; exact hc
    exact ⟨e2,k _ s1 H1 G1 I1 st1 e2 (by rw [e1]; exact h1)⟩
   ·exact h1.elim
  ·exact h1.elim
theorem wm (h1:QF X e1 g1) (h2:QF X e2 g2') (h3:QF X e3 g3'):QF X (.JoinedStr [e1,e2,e3] pos) (qO [g1,g2',g3']):=by
 intro pins s σ H Q I q
 obtain ⟨G,ρ,st,q⟩:=q
 refine JoinedStr_many ?_
 show wpAny _ _ (joinParts Str.empty [eval e1 X.env,eval e2 X.env,eval e3 X.env]) _ _ _
 refine fM h1 I st (out:=Str.empty) q fun o1 s1 H1 G1 I1 st1 z1 q1=>fM h2 I1 st1 q1 fun o2 s2 H2 G2 I2 st2 z2 q2=>fM h3 I2 st2 q2 fun o3 s3 H3 G3 I3 st3 z3 q3=>xz I3 st3 z3 q3
def vf (x:List Nat):Nat:=x.foldl (fun a c=>a * 10+(c - 48)) 0
def yt (x:List Nat):Bool:=x.all fun c=>decide (48<=c) && decide (c<=57)
def qK:List D->Option D
 | [.str x]=>if yt (x.dropWhile (·==32))=true/\x.dropWhile (·==32) ≠ []/\x.length<=640 then some (.int ((vf (x.dropWhile (·==32)):Nat):Int)) else none
 | _=>none
theorem wY {x:Str} (hd:yt (x.cps.toList.dropWhile (·==32))=true) (hn:x.cps.toList.dropWhile (·==32) ≠ []) (hl:x.length<=640):PySem.intText? x=some ((vf (x.cps.toList.dropWhile (·==32)):Nat):Int):=by
 have hA:NumText.AllDigits (x.cps.toList.dropWhile (·==32)):=fun c hc=>by
  have:=List.all_eq_true.1 hd c hc
  simp only [Bool.and_eq_true,decide_eq_true_eq] at this
  exact this
 have key:∀ l:List Nat,NumText.AllDigits (l.dropWhile (·==32))->l.dropWhile (·==32) ≠ []->(l.dropWhile NumText.blank=l.dropWhile (·==32))/\∀ c ∈ l,c=32\/48<=c/\c<=57:=by
  intro l
  induction l with
  | nil=>intro _ h; exact absurd rfl h
  | cons c l ih=>
   intro h1 h2
   by_cases e:c=32
   ·subst e
    have e1:(32::l).dropWhile (·==32)=l.dropWhile (·==32):=List.dropWhile_cons_of_pos (by decide)
    rw [e1] at h1 h2 ⊢
    obtain ⟨a,b⟩:=ih h1 h2
    refine ⟨?_,fun d hd=>?_⟩
    ·rw [List.dropWhile_cons_of_pos (by decide)]; exact a
    ·rcases List.mem_cons.1 hd with rfl | hd
     ·exact .inl rfl
     ·exact b d hd
   ·have e1:(c::l).dropWhile (·==32)=c::l:=List.dropWhile_cons_of_neg (by simpa using e)
    rw [e1] at h1 h2 ⊢
    exact ⟨NumText.dropWhile_digits h1,fun d hd=>.inr (h1 d hd)⟩
 obtain ⟨k1,k2⟩:=key _ hA hn
 have t1:numTextOf x=x.cps.toList:=if_pos (by
  rw [<- Array.all_toList]; exact List.all_eq_true.2 fun c hc=>by have:=k2 c hc; exact decide_eq_true (by omega))
 have t2:numSeenOf x=x.cps.toList:=by
  show List.takeWhile _ (numTextOf x)=_
  rw [t1]; exact NumText.takeWhile_all fun c hc=>by have:=k2 c hc; exact bne_iff_ne.2 (by omega)
 let y:Str:=⟨(x.cps.toList.dropWhile (·==32)).toArray⟩
 have ey:y.cps.toList=x.cps.toList.dropWhile (·==32):=List.toList_toArray ..
 have hy:y.length<=4300:=by
  rw [<- Str.len_list,ey]
  have:(x.cps.toList.dropWhile (·==32)).length<=x.cps.toList.length:=(List.dropWhile_suffix _).length_le
  rw [Str.len_list] at this
  omega
 have r:=intText_digits (x:=y) (by rw [ey]; exact hA) (by rw [ey]; exact hn) hy
 obtain ⟨u1,u2⟩:=numText_signs (x:=y) fun c hc=>.inr (hA c (by rw [<- ey]; exact hc))
 have b1:x.cps.toList.dropWhile NumText.blank=(x.cps.toList.dropWhile (·==32)).dropWhile NumText.blank:=by rw [k1,NumText.dropWhile_digits hA]
 unfold intText? at r ⊢
 rw [u1,u2,ey,if_pos (beq_self_eq_true _)] at r
 rw [t1,t2,if_pos (beq_self_eq_true _)]
 unfold NumText.core at r ⊢
 rw [b1]
 exact r
def DB:List V->Hp->VK->Prop:=fun xs H Q=>∃ (y:Str) (n:Int),xs=[.str y]/\PySem.intText? y=some n/\y.length<=640/\Q (.int n) H
theorem vZ:im X (.type "int") DB:=by
 intro pins s σ H xs us Q I r ⟨y,n,ex,h0,h1,q⟩
 subst ex
 obtain ⟨u,rfl,r1⟩:=r.one
 obtain ⟨t,rfl⟩:=r1
 exact PySem.W.KIN.call_text h0 h1 ⟨.int _,H,I.tok _,⟨_,rfl⟩,q⟩
theorem BF (K:PySem.W.Frag):AH K DB qK:=by
 intro G H xs ds d Q s r e q
 unfold qK at e
 split at e
 ·split at e
  ·rename_i hc
   cases e
   obtain ⟨v,rfl,r1⟩:=r.one
   obtain ⟨y,rfl,ey,hy⟩:=r1.str_inv
   subst ey
   rw [Str.len_list] at hc
   exact ⟨y,_,rfl,wY hc.1 hc.2.1 hc.2.2,hc.2.2,q _ G H (.refl s) (.int _)⟩
  ·cases e
 ·cases e
theorem zF (hg:Gl X "int") (hm:X.mg "int"=none) (ha:QFA X [e] gl) (he:starEach [e] X.env=(false,eval e X.env)::starEach [] X.env:=by rfl) :
  QF X (.Call (.Name "int" p) [e] [] pos) (gOf qK gl):=lP vZ (BF _) hg hm PyProof.Rows.Boot.«int» ha (by decide) (by decide) he rfl
end
end L2
namespace L2
open PySem PySem.Spec PyProof.Rows
def aU (c:Nat):List Nat->List (List Nat)
 | []=>[[]]
 | d::r=>if d=c then []::aU c r else (match aU c r with
  | p::ps=>(d::p)::ps
  | []=>[[d]])
theorem iY {c:Nat}:∀ {p:List Nat},c ∉ p->aU c p=[p]
 | [],_=>rfl
 | d::p,h=>by
  have h1 : ¬ d=c:=fun z=>h (by rw [z]; exact List.mem_cons_self ..)
  have h2:=iY (c:=c) (p:=p) fun z=>h (List.mem_cons_of_mem _ z)
  rw [aU,if_neg h1,h2]
theorem dj {c:Nat} (r:List Nat):∀ {p:List Nat},c ∉ p->aU c (p++c::r)=p::aU c r
 | [],_=>by rw [List.nil_append,aU,if_pos rfl]
 | d::p,h=>by
  have h1 : ¬ d=c:=fun z=>h (by rw [z]; exact List.mem_cons_self ..)
  have h2:=dj r (c:=c) (p:=p) fun z=>h (List.mem_cons_of_mem _ z)
  rw [List.cons_append,aU,if_neg h1,h2]
theorem kK {c:Nat}:∀ {ps:List (List Nat)},ps ≠ []->(∀ p ∈ ps,c ∉ p)->aU c (hV [c] ps)=ps
 | [],h,_=>absurd rfl h
 | [p],_,h=>iY (h p (List.mem_cons_self ..))
 | p::q::r,_,h=>by
  have ih:=kK (c:=c) (ps:=q::r) (by simp) fun z hz=>h z (List.mem_cons_of_mem _ hz)
  show aU c (p++[c]++hV [c] (q::r))=_
  rw [List.append_assoc]
  show aU c (p++c::hV [c] (q::r))=_
  rw [dj _ (h p (List.mem_cons_self ..)),ih]
theorem zH (x y:Str):Txt.split x y ≠ []:=by
 unfold Txt.split
 split
 ·simp
 ·split
  ·simp
  ·intro z
   have:=congrArg List.length z
   rw [length_partsBetween] at this
   simp at this
theorem jd (x:Str) (c:Nat):(Txt.split x ⟨#[c]⟩).map (fun y=>y.cps.toList)=aU c x.cps.toList:=by
 have h1:=StrLaws.join_split x ⟨#[c]⟩
 have h2:=jK ⟨#[c]⟩ (Txt.split x ⟨#[c]⟩)
 have h3:Txt.join ⟨#[c]⟩ (Txt.split x ⟨#[c]⟩)=x:=(StrLaws.glued_eq_join _ _).trans h1
 rw [h3] at h2
 rw [h2]
 refine (kK (c:=c) (by simpa using zH x _) fun p hp=>?_).symm
 obtain ⟨y,hy,rfl⟩:=List.mem_map.1 hp
 exact StrLaws.split_free x c y hy
theorem je (c:Nat):∀ x:List Nat,(aU c x).length<=x.length+1
 | []=>by simp [aU]
 | d::r=>by
  have ih:=je c r
  unfold aU
  split
  ·simp; omega
  ·split
   ·rename_i p ps e
    rw [e] at ih
    simp at ih ⊢; omega
   ·simp
theorem fK (c:Nat):∀ (x:List Nat),∀ p ∈ aU c x,p.length<=x.length
 | [],p,h=>by simp [aU] at h; subst h; simp
 | d::r,p,h=>by
  have ih:=fK c r
  unfold aU at h
  split at h
  ·rcases List.mem_cons.1 h with rfl | h
   ·simp
   ·have:=ih p h; simp; omega
  ·split at h
   ·rename_i q ps e
    rw [e] at ih
    rcases List.mem_cons.1 h with rfl | h
    ·have:=ih q (List.mem_cons_self ..); simp; omega
    ·have:=ih p (List.mem_cons_of_mem _ h); simp; omega
   ·simp at h; subst h; simp
def ju:D->List D->Option D
 | .str x,[.str [c]]=>if x.length<=10000 then some (.lst false ((aU c x).map .str)) else none
 | _,_=>none
section
variable {X:Cx} {a b c e:Expr} {ga:Ev->R D} {gl:Ev->R (List D)} {pos p:Pos} {tg:Expr}
theorem xQ {prog:Program} {w:World} {A:Around} {E:Value->Shared->Prop} {s:Shared} {x y:Str} {t u:Tok} {Q:Value->Shared->Prop} (hy:(y.length==0)=false) (hsz:x.length<=sizeLine)
  (hsz2:(Builtin.Str.partsBetween x (Builtin.Str.occurrences x y 0 x.length (x.length+1)) y.length).length<=sizeLine)
  (hq:∀ (l:List (Str × Tok)) (k:Nat),l.map (·.1)=Txt.split x y->Q (.ref s.heap.objs.size) { s with toks:=k,heap:=s.heap.push { cls:=.type "list",data:=.seq (strValues l).toArray } }) :
  wpAny (model prog w) A (call (.builtin "str.split") [.str x t,.str y u]) Q E s:=by
 have T:=typeIs_str s x t
 by_cases g1:(decide (x.length < y.length) || decide (Builtin.Str.strKind x < Builtin.Str.strKind y))=true
 ·exact call_meets F.slot_str_split T F.entry_str_split (F.args_str_split_2 _ _) (meets_str_split_cannot_occur x y t u g1) (hq [(x,t)] s.toks (if_pos g1).symm)
 ·have g1':=eq_false_of_ne_true g1
  by_cases g2:(Builtin.Str.occurrences x y 0 x.length (x.length+1)).isEmpty=true
  ·exact call_meets F.slot_str_split T F.entry_str_split (F.args_str_split_2 _ _) (meets_str_split_not_found x y t u g1' hy g2) (hq [(x,t)] s.toks ((if_neg g1).trans (if_pos g2)).symm)
  ·have g2':=eq_false_of_ne_true g2
   have key:=hq (PySem.numbered s.toks (Builtin.Str.partsBetween x (Builtin.Str.occurrences x y 0 x.length (x.length+1)) y.length)) (s.toks+(Builtin.Str.partsBetween x (Builtin.Str.occurrences x y 0 x.length (x.length+1)) y.length).length) ((numbered_texts _ _).trans ((if_neg g1).trans (if_neg g2)).symm)
   rw [<- strsFrom_eq] at key
   exact call_meets F.slot_str_split T F.entry_str_split (F.args_str_split_2 _ _) (meets_str_split_sep x y t u g1' hy g2' hsz hsz2) key
def Ar:V->List V->Hp->VK->Prop:=fun x vs H Q=>∃ (y:Str) (c:Nat),x=.str y/\vs=[.str ⟨#[c]⟩]/\y.length<=10000/\∀ l,H l=none->Q (.ref l) (upd H l (.lst ((Txt.split y ⟨#[c]⟩).map V.str)))
theorem xA:∀ l:List (Str × Tok),Vals ((l.map (·.1)).map V.str) (strValues l)
 | []=>.nil
 | (y,t)::l=>.cons ⟨t,rfl⟩ (xA l)
theorem zp:MtR X "str.split" Ar:=by
 intro pins s σ H x xs v us Q I rx rv ⟨y,c,ex,exs,hz,q⟩
 subst ex exs
 obtain ⟨t,rfl⟩:=rx
 obtain ⟨u,rfl,r1⟩:=rv.one
 obtain ⟨t',rfl⟩:=r1
 have big:20000<=sizeLine:=by decide
 have hp:(Builtin.Str.partsBetween y (Builtin.Str.occurrences y ⟨#[c]⟩ 0 y.length (y.length+1)) (⟨#[c]⟩:Str).length).length<=sizeLine:=by
  rw [length_partsBetween]
  have:=StrLaws.occ_length_le y ⟨#[c]⟩ 0 y.length (y.length+1)
  omega
 refine xQ rfl (by omega) hp fun l k hl=>?_
 have hlen:(Txt.split y ⟨#[c]⟩).length<=sizeLine:=by
  have e:=congrArg List.length (jd y c)
  rw [List.length_map] at e
  have:=je c y.cps.toList
  rw [Str.len_list] at this
  omega
 refine ⟨.ref s.heap.objs.size,_,I.laid (t':=k) (fun b o q=>Heap.get?_push_of_some _ q) (Nat.le_refl _) (show ObjOk X.prog X.w _ _ _ (.lst ((Txt.split y ⟨#[c]⟩).map V.str)) from ⟨by rw [List.length_map]; exact hlen,strValues l,_,by rw [<- hl]; exact xA l,Heap.get?_push_size _ rfl⟩),rfl,q _ (I.hok.fresh (Nat.le_refl _))⟩
theorem qd {K:PySem.W.Frag} {G:Hp}:∀ ys:List Str,(∀ y ∈ ys,y.length<=sizeLine)->Reps K G (ys.map V.str) ((ys.map fun y=>y.cps.toList).map .str)
 | [],_=>.nil
 | y::ys,h=>.cons (.str y (h y (List.mem_cons_self ..))) (qd ys fun z hz=>h z (List.mem_cons_of_mem _ hz))
theorem yY (K:PySem.W.Frag):Bg K "str" Ar ju:=by
 intro G H x xs dx ds d Q s rx rs e q
 unfold ju at e
 split at e
 ·split at e
  ·rename_i x0 c hc
   cases e
   obtain ⟨v,rfl,r1⟩:=rs.one
   obtain ⟨i,rfl,ei,hi⟩:=rx.str_inv
   obtain ⟨j,rfl,ej,hj⟩:=r1.str_inv
   subst ei
   have:j=⟨#[c]⟩:=(Str.of_list ej).symm
   subst this
   rw [Str.len_list] at hc
   refine ⟨i,c,rfl,rfl,hc,fun l hl=>q _ _ _ (.new s hl) (.lst bc ?_)⟩
   rw [<- jd]
   refine Reps.mono (.into (s.free hl)) (qd _ fun y hy=>?_)
   have:=fK c i.cps.toList y.cps.toList (by rw [<- jd]; exact List.mem_map.2 ⟨y,hy,rfl⟩)
   rw [Str.len_list,Str.len_list] at this
   exact Nat.le_trans this hi
  ·cases e
 ·cases e
theorem wj {o:Expr} {ap cp:Pos} (ho:QF X o ga) (ha:QFA X [e] gl) (hbase:attributeBase o "split" X.env (eval o X.env)=eval o X.env:=by rfl)
  (hfew:((backTo cp (starEach [e] X.env)).all (fun x=>!x.1) && (backToKw cp (keywordEach [] X.env)).all (fun x=>x.1.isSome)
   && decide ([e].length+([]:List Keyword).length+(if ([]:List Keyword).isEmpty then 0 else 1) < 30))=true:=by rfl)
  (hline:(ap.endLine==cp.line)=true:=by rfl) (hs:starEach [e] X.env=(false,eval e X.env)::starEach [] X.env:=by rfl) :
  QF X (.Call (.Attribute o "split" ap) [e] [] cp) (fv "str" ju ga gl):=fH PySem.F.plainAttrs_str PySem.F.slot_str_split PySem.F.type_str_split zp (yY _) ho ha hbase hfew hline hs rfl
end
end L2
namespace L2
open PySem PySem.Spec PyProof.Rows
def HL (j i:Nat) (gl:Ev->R (List D)):Ev->O:=fun ρ=>(jx (gl (frz j ρ))).out ρ fun ds=>if ds.all (fl 10)=true then .nx (ρ.set i (some (.own ds))) else .no
section
variable {X:Cx} {elt iter:Expr} {ifs:List Expr} {x:Str} {px pos:Pos} {scope:Scope} {N':List Str} {ix:List Nat} {gi:Ev->R (List D)} {gt:Ev->R Bool} {ge:Ev->R D}
end
end L2
namespace L2
open PySem PySem.Spec PyProof.Rows
section
variable {prog:Program} {w:World} {A:Around} {E:Value->Shared->Prop} {s:Shared}
structure Z3 (z TI TO i1 i2 i3 l1 l2 l3:Addr):Prop where
 nd:[z,TI,TO,i1,i2,i3].Nodup
 ap:∀ l ∈ [l1,l2,l3],l ∉ [z,TO,i1,i2,i3]
end
section
variable {P:Program} {w:World} {K:PySem.W.Frag} {elts:List Expr} {kt:Nat} {tp:Pos}
end
section
variable {X:Cx} {a b c:Expr} {gl:Ev->R (List D)} {elts:List Expr} {kt:Nat} {p pos tp:Pos}
end
end L2
namespace L2
open PySem PySem.Spec PyProof.Rows
section
variable {X:Cx} {a b e:Expr} {ga gb:Ev->R D} {gl:Ev->R (List D)} {pos p:Pos}
def Dk:D->D->Option D
 | .str [c],.str y=>some (.bl (decide (c ∈ y)))
 | _,_=>none
theorem E3 (K:PySem.W.Frag):ROk K (fun x y H Q=>∃ i j,x=.str i/\y=.str j/\Q (.bl (!(Builtin.Str.occurrences j i 0 j.length 1).isEmpty)) H) Dk:=by
 intro G H x y dx dy d Q s rx ry e q
 unfold Dk at e
 split at e
 ·rename_i c z
  cases e
  obtain ⟨i,rfl,ei,hi⟩:=rx.str_inv
  obtain ⟨j,rfl,ej,hj⟩:=ry.str_inv
  have:i=⟨#[c]⟩:=(Str.of_list ei).symm
  subst this
  refine ⟨_,j,rfl,rfl,?_⟩
  rw [StrLaws.found_one,ej]
  exact q _ G H (.refl s) (.bl _)
 ·cases e
theorem zo (ha:QF X a ga) (hb:QF X b gb) (hm:behindInMarks .In b=false:=by rfl):QF X (.Compare a [.In] [b] pos) (g2 Dk ga gb):=iS xh (E3 _) ha hb hm
end
end L2
namespace L2
open PySem PySem.Spec PyProof.Rows
def dq (X:Cx) (N':List Str) (scope:Scope) (C:Addr) (s₂:Shared) (H₂:Hp) (fp:List Addr) (pn:List (Addr × Obj)) (xe:Value->Shared->Prop):Cx:={ aX X N' scope C s₂ H₂ fp with A:=X.A,calm:=X.calm,pn:=pn,xe:=xe }
def cI (asg:D->Ev->R Ev) (gt:Ev->R Bool) (ge:Ev->R D):List D->Ev->R (List D)
 | [],_=>.ok []
 | d::ds,ρ=>jx (asg d ρ)>>=fun ρ1=>jx (gt ρ1)>>=fun k=>if k=true then ge ρ1>>=fun x=>cI asg gt ge ds ρ1>>=fun xs=>.ok (x::xs) else cI asg gt ge ds ρ1
def qq (gi:Ev->R (List D)) (ix:List Nat) (gt:Ev->R Bool) (ge:Ev->R D):Ev->R (List D):=fun ρ=>gi ρ>>=fun items=>if items.length<=sizeLine then cI (fZ 0) gt ge items (eT ix ρ) else .no
def pc (M:Model) (A:Around) (E:Value->Shared->Prop) (Q:Value->Shared->Prop) (acc:Value) (cenv:Env) (r:Result) (s':Shared):Prop:=
 match r with
 | .ok _=>∃ m,s'.heap.Ns cenv.locals m/\∀ h',Heap.SameBut cenv.locals s'.heap h'->Q acc { s' with heap:=h' }
 | .error x=>∃ m,s'.heap.Ns cenv.locals m/\∀ h',Heap.SameBut cenv.locals s'.heap h'->wpAny M A (passOn "comprehension.variables-let-go" x cenv:Sem Value) (fun _ _=>False) E { s' with heap:=h' }
theorem uv {M:Model} {A:Around} {E:Value->Shared->Prop} {s:Shared} {env:Env} {e:Expr} {scope:Scope} {pos:Pos} {newAcc first:Sem Value} {g:Comprehension} {gs:List Comprehension} {cl:List (Str × Addr)} {Q:Value->Shared->Prop}
  (hcl:clausesOf e=g::gs) (hs:∀ x,foldedSetIterable g.iter env x=pure x) (hclos:closureFor scope env=pure cl)
  (hkind:scope.kind=.function) (hnames:∀ x ∈ scope.names,x.2=.local->scope.names.lookup x.1=some .local)
  (h:wpAny M A first (fun x s₁=>wpAny M A (pyIter x) (fun it s₂=>wpAny M A newAcc (fun acc s₃=>
   wpAny M A (newFunctionEnv scope env.globals cl [] env.qual none .none (some env)) (fun cenv s₄=>
    codeAny M A (.compStart e 0 it acc { cenv with scope:=relabel scope env }) (pc M A E Q acc { cenv with scope:=relabel scope env }) s₄) E s₃) E s₂) E s₁) E s) :
  wpAny M A (comprehension e scope env pos newAcc false first none) Q E s:=by
 unfold comprehension; rw [hclos,hcl]
 refine wpAny_bind (wpAny_mono h (fun x s₁ h₁=>?_) fun _ _ h'=>h')
 refine wpAny_bind (wpAny_standAt (wpAny_bind (wpAny_of_eq (hs x) (wpAny_bind (wpAny_holding (wpAny_mono h₁ (fun it s₂ h₂=>?_) fun _ _ h'=>h'))))))
 refine wpAny_standIf (wpAny_bind (wpAny_mono h₂ (fun acc s₃ h₃=>wpAny_bind (wpAny_pure (wpAny_bind (wpAny_mono h₃ (fun cenv s₄ h₄=>?_) fun _ _ h'=>h')))) fun _ _ h'=>h'))
 dsimp only
 have hv:∀ x ∈ (scope.names.filter fun x=>(x.2==.local || x.2==.cell) && x.1 != (".0":Str)).reverse,x.2=.local->Env.kindOf { cenv with scope:=relabel scope env } x.1=some .local:=
  fun x hx hl=>lookup_relabel_local (hnames x (List.mem_filter.mp (List.mem_reverse.mp hx)).1 hl)
 refine wpAny_holding (wpAny_bind (wpAny_attempt (wpAny_holding (wpAny_run (codeAny_mono h₄ fun r s' hr=>?_)))))
 cases r with
 | ok f=>
  obtain ⟨m,hn,hr⟩:=hr
  refine wpAny_bind (wpAny_holding (wpAny_comp_letGo (cenv:={ cenv with scope:=relabel scope env }) hkind _ s' m hv hn fun h' m' _ hs'=>?_))
  exact wpAny_pure (hr h' hs')
 | error x=>
  obtain ⟨m,hn,hr⟩:=hr
  refine wpAny_bind (wpAny_holding (wpAny_comp_letGo (cenv:={ cenv with scope:=relabel scope env }) hkind _ s' m hv hn fun h' m' _ hs'=>?_))
  exact wpAny_mono (hr h' hs') (fun _ _ f=>f.elim) fun _ _ y=>y
theorem sy {prog:Program} {w:World} {A:Around} {R':Result->Shared->Prop} {s:Shared} {elt target iter:Expr} {ifs:List Expr} {scope:Scope} {pos:Pos} {it acc:Value} {env:Env} (I:Nat->Shared->Prop)
  (turn:∀ n s,I n s->wpAny (model prog w) A (pyNext it) (fun r s₁=>match r with
   | none=>R' (.ok .next) s₁
   | some v=>wpAny (model prog w) A (letOwnedTupleGo target it v) (fun _ s₁'=>wpAny (model prog w) A (assign target env v) (fun _ s₂=>
     wpAny (model prog w) A (forIn ifs true fun c r=>if r=true then do let ok <- isTrue c env (eval c env); pure (ForInStep.yield ok) else pure (ForInStep.yield r)) (fun ok s₃=>
      if ok=true then wpAny (model prog w) A (eval elt env) (fun x s₄=>
       wpAny (model prog w) A (call (.builtin "list.append") [acc,x]) (fun _ s₅=>∃ m,m < n/\I m s₅) (fun _ _=>False) s₄) (notedBy (model prog w) A env fun x s'=>R' (.error x) s') s₃
      else ∃ m,m < n/\I m s₃) (fun _ _=>False) s₂) (fun _ _=>False) s₁') (fun _ _=>False) s₁) (fun _ _=>False) s)
  (n:Nat) (h:I n s) :
  codeAny (model prog w) A (.compLoop (.ListComp elt [⟨target,iter,ifs,0⟩] scope pos) 0 it acc env) R' s:=by
 refine codeAny_loop rfl I (fun n s hI=>?_) n h
 show wpAny _ A ((compTurn (.ListComp elt [⟨target,iter,ifs,0⟩] scope pos) 0 it acc env).onRaise (fun x=>do noteFrame x env; theTreesLotGoes x)) _ _ s
 refine wpAny_noted ?_
 rw [compTurn_list]
 refine wpAny_bind (wpAny_standAt (wpAny_bind (wpAny_mono (turn n s hI) (fun r s₁ h₁=>?_) fun _ _ z=>z.elim)))
 cases r with
 | none=>exact wpAny_pure h₁
 | some v=>
  refine wpAny_bind (wpAny_mono h₁ (fun _ s₁' h₁'=>?_) fun _ _ z=>z.elim)
  refine wpAny_bind (wpAny_mono h₁' (fun _ s₂ h₂=>wpAny_bind (wpAny_mono h₂ (fun ok s₃ h₃=>?_) fun _ _ z=>z.elim)) fun _ _ z=>z.elim)
  cases ok with
  | false=>exact wpAny_pure ⟨rfl,h₃⟩
  | true=>exact wpAny_bind (wpAny_bind (wpAny_mono h₃ (fun x s₄ h₄=>wpAny_bind (wpAny_mono h₄ (fun _ s₅ h₅=>wpAny_pure (wpAny_pure ⟨rfl,h₅⟩)) fun _ _ z=>z.elim)) fun _ _ z=>z))
theorem yR {X:Cx} {pins:List (Addr × Obj)} {σ:St} {G₁ H₁:Hp} {C a L:Addr} {s₁ s':Shared} {env:Env} {outer:List Env} {E:Value->Shared->Prop} {Q:Shared->Prop}
  (hst:X.stack=env::outer) (hfr:env.frame=some L) (hL:X.env.frame=some L) (sub:Same G₁ H₁) (J₁:Inv X pins σ H₁ s₁)
  (way:(∃ h' vs,Heap.MadeExcOf s₁.heap h' a (.ref C) vs/\s'={ s₁ with heap:=h' })\/(∃ G' H',yB X.prog X.w X.stack H₁ s₁ a C H' s'/\Up G₁ H₁ G' H')\/∃ G' H' L,X.env.frame=some L/\wH X pins L H₁ s₁ a C H' s'/\Up G₁ H₁ G' H')
  (cont:∀ {ch:List Addr} {H' G':Hp} {s':Shared} {B:Heap} {a0:Value} {h₄:Heap},(∀ b ∈ ch,FQ X pins b)->s'.os=s₁.os->AllBare s'.gens->Un (frs X.stack) ch H₁ H' s₁.heap s'.heap->HOk X.prog X.w H' s'.heap->H' a=none->s₁.heap.get? a=none->Up G₁ H₁ G' H'->
   (∀ b o,b ∉ frs X.stack->((∃ o0,s₁.heap.get? b=some o0)\/∃ u,H' b=some u)->s'.heap.get? b=some o->B.get? b=some o)->Heap.HeldW B (env::outer) a (.ref C) a0 L h₄->s'.heap.UpToSlots h₄->Q { s' with heap:=h₄ }) :
  wpAny (model X.prog X.w) X.A (noteFrame (.ref a) env) (fun _ s₂=>Q s₂) E s':=by
 have hfrm:X.A.frames=some (env::outer):=by rw [<- hst]; exact J₁.ok.frames
 rcases way with ⟨h',vs,made,rfl⟩ | ⟨G',H',⟨os,bare,un,hok,ha,B,a0,fl,hk⟩,up⟩ | ⟨G',H',L',hL',⟨os,bare,⟨ch,hch,un⟩,hok,ha,hna,B,a0,fl,hk⟩,up⟩
 ·have hin:∀ env ∈ X.stack,∀ b,env.frame=some b->b ∈ frs X.stack:=fun env he b hb=>List.mem_filterMap.mpr ⟨env,he,hb⟩
  have ha:H₁ a=none:=by
   cases q:H₁ a with
   | none=>rfl
   | some u=>obtain ⟨ob,e⟩:=(J₁.hok a u q).there; rw [made.new] at e; cases e
  obtain ⟨t,he,htn,ht⟩:=made.there
  have hkb:(PySem.W.hideAll s₁.heap (frs X.stack)).StaysIn h':=fun b o q=>made.keeps b o (PySem.W.of_hideAll _ q)
  have hen:(PySem.W.hideAll s₁.heap (frs X.stack)).get? a=none:=by
   cases q:(PySem.W.hideAll s₁.heap (frs X.stack)).get? a with
   | none=>rfl
   | some o=>have:=PySem.W.of_hideAll _ q; rw [made.new] at this; cases this
  have hff:h'.FunFrames (PySem.W.hideAll s₁.heap (frs X.stack)) (env::outer):=by
   rw [<- hst]
   exact (PySem.W.funFrames_hide J₁.stack hin).of_keeps fun b o hb _=>⟨o,made.keeps b o hb,rfl⟩
  unfold noteFrame
  simp only [hfr]
  refine wpAny_bind (wpAny_field (show ({ s₁ with heap:=h' }:Shared).heap.get? a=some _ from he) rfl (x:=.none) rfl ?_)
  rw [if_neg (by decide)]
  refine wpAny_entryW (base:=PySem.W.hideAll s₁.heap (frs X.stack)) (a0:=.ref t) hfrm hff hfr he hkb hen rfl (by show 1 < 6; decide) rfl fun h₄ noted=>?_
  obtain ⟨n1,n2,n3,n4⟩:=noted
  refine cont (ch:=[]) (s':={ s₁ with heap:=h' }) (fun b z=>absurd z (by simp)) rfl J₁.bare (Un.kept made.keeps) (J₁.hok.kept made.keeps) ha made.new (.refl sub) (fun b o hb ho e=>?_) ⟨n1,hen,n2,n3⟩ n4
  have e1:s₁.heap.get? b=some o:=by
   have one:∀ o0,s₁.heap.get? b=some o0->s₁.heap.get? b=some o:=fun o0 ho=>by
    have q:=made.keeps b o0 ho
    have e':h'.get? b=some o:=e
    rw [q] at e'; cases e'; exact ho
   rcases ho with ⟨o0,ho⟩ | ⟨u,ho⟩
   ·exact one o0 ho
   ·obtain ⟨ob,ho⟩:=(J₁.hok b u ho).there; exact one ob ho
  exact PySem.W.hideAll_get _ e1 hb
 ·have hna:s₁.heap.get? a=none:=by
   cases q:s₁.heap.get? a with
   | none=>rfl
   | some o0=>
    obtain ⟨o',e'⟩:=un.there a o0 q (by simp)
    have hna:a ∉ frs X.stack:=fun z=>by
     obtain ⟨o1,e1,d1,_⟩:=FunFrames.data fl.2.2.1 a z
     obtain ⟨oe,vs,_,_,_,e2,_,d2,_⟩:=fl.2.2.2
     rw [e1] at e2; cases e2; exact d1 vs d2
    have:=hk a o' hna (.inl ⟨o0,q⟩) e'
    rw [fl.2.1] at this; cases this
  rw [hst] at fl
  exact wpAny_looks_onW hfrm hfr fl fun h₄ held sm=>cont (ch:=[]) (fun b z=>absurd z (by simp)) os bare un hok ha hna up hk held sm
 ·have eL:L=L':=Option.some.inj (hL.symm.trans hL')
  rw [hst,<- eL] at fl
  exact wpAny_noteFrame_againW hfr fl.2.2.2 (cont (h₄:=s'.heap) hch os bare un hok ha hna up hk fl fun b o hb _=>⟨o.slots,hb⟩)
theorem FunFrames.rebase {B B' h:Heap} (k:∀ b,B.get? b=none->B'.get? b=none):∀ {l:List Env},h.FunFrames B l->h.FunFrames B' l
 | [],x=>x
 | _::_,⟨x1,⟨L,o,y1,y2,y3⟩,x3⟩=>⟨x1,⟨L,o,y1,k L y2,y3⟩,FunFrames.rebase k x3⟩
theorem oF {X : Cx} {elt iter : Expr} {ifs : List Expr} {pos : Pos} {scope : Scope} {N' : List Str} {ix : List Nat} {gt : Ev -> R Bool} {ge : Ev -> R D} {tgt : Expr} {asg : D -> Ev -> R Ev} {n : Nat} {pins : List (Addr × Obj)} {σ : St} {H : Hp} {s : Shared} {it : Addr} {fp : List Addr} {tn : Nat -> Heap -> Prop} {J : It} {G : Hp} {ρ : Ev} {items : List D} {Q : VK} {RR : Value -> Env -> Result -> Shared -> Prop} {L : Addr} (hst : X.stack = X.env :: X.outer) (hfr : X.env.frame = some L) {E : Value -> Shared -> Prop} (ok : CompOkT X scope n N' ix) (hcalm : X.calm = true) (hg : ∀ C s₂ H₂ fp, PGF (aX X N' scope C s₂ H₂ fp) tgt asg) (hown : ∀ d ρ ρ', asg d ρ = .ok ρ' -> (NoOwn ρ) -> NoOwn ρ')
    (he : ∀ C s₂ H₂ fp pn xe, QF (dq X N' scope C s₂ H₂ fp pn xe) elt ge) (ht : ∀ C s₂ H₂ fp, PTs (aX X N' scope C s₂ H₂ fp) ifs gt)
    (I : Inv X pins σ H s) (T : Turn X.prog X.w X.K tgt J fp it tn) (st0 : tn 0 s.heap) (hf : ∀ b ∈ fp, uQ X pins H b) (st : StE X.K G H σ ρ) (hi : ItOk X.K G J items)
    (hlen : items.length <= sizeLine) (h : (cI asg gt ge items (dw n ix ρ)).post (oV X.K G H Q) (Exx X σ G H))
    (hR : ∀ (Dd C : Addr) (s' : Shared) (m : Str -> Option Value) (vs : List V) (G' H' : Hp), Up G H G' H' -> H' Dd = none -> C ≠ Dd -> (∀ ds, Reps X.K G' vs ds -> True) -> Q (.ref Dd) (upd H' Dd (.lst vs)) -> s'.heap.Ns C m -> s'.os = s.os -> AllBare s'.gens -> H' C = none -> s.heap.objs.size <= C ->
      Un (frs X.stack) fp H (upd H' Dd (.lst vs)) s.heap s'.heap -> HOk X.prog X.w (upd H' Dd (.lst vs)) s'.heap -> RR (.ref Dd) (compEnvC scope (ka X.env scope.names []) C X.env) (.ok .next) s')
    (hX : ∀ (Dd C a Cc : Addr) (s' : Shared) (m : Str -> Option Value) (B : Heap) (a0 : Value) (G' H' : Hp), Exx X σ G H Cc -> Up G H G' H' -> s'.heap.Ns C m -> s'.os = s.os -> AllBare s'.gens -> H' C = none -> s.heap.objs.size <= C -> Un (frs X.stack) fp H H' s.heap s'.heap -> HOk X.prog X.w H' s'.heap -> H' a = none -> s.heap.get? a = none ->
      Heap.HeldW B X.stack a (.ref Cc) a0 L s'.heap -> (∀ b o, b ∉ frs X.stack -> ((∃ o0, s.heap.get? b = some o0) \/ ∃ u, H' b = some u) -> s'.heap.get? b = some o -> B.get? b = some o) -> (∀ b ∈ fp, ∃ o, s'.heap.get? b = some o) -> (∀ b ∈ frs X.stack, H' b = none) ->
      RR (.ref Dd) (compEnvC scope (ka X.env scope.names []) C X.env) (.error (.ref a)) s') :
    wpAny (model X.prog X.w) X.A (newList []) (fun acc s₃ => wpAny (model X.prog X.w) X.A (newFunctionEnv scope X.env.globals (ka X.env scope.names []) [] X.env.qual none .none (some X.env)) (fun cenv s₄ =>
      codeAny (model X.prog X.w) X.A (.compStart (.ListComp elt [⟨tgt, iter, ifs, 0⟩] scope pos) 0 (.ref it) acc { cenv with scope := relabel scope X.env }) (RR acc { cenv with scope := relabel scope X.env }) s₄) E s₃) E s := by
  have hfl : ∀ b ∈ fp, b < s.heap.objs.size := fun b hb => let ⟨o, e, _⟩ := T.obj 0 s.heap st0 b hb; Heap.lt_size e
  refine wpAny_newObj_type (wpAny_newFunctionEnv ok.cell (by intro y hy; simp at hy) (fun h₁ hns₁ hsb₁ => ?_) ok.kind)
  dsimp only at hns₁ hsb₁ ⊢
  generalize hH2 : s.heap.push { cls := .type "list", dict := none, data := .seq ([] : List Value).toArray } = Hq at hns₁ hsb₁ ⊢
  have hC : Hq.objs.size = s.heap.objs.size + 1 := by rw [<- hH2, Heap.size_push]
  have hDC : s.heap.objs.size ≠ Hq.objs.size := by rw [hC]; exact Nat.ne_of_lt (Nat.lt_succ_self _)
  have hCle : s.heap.objs.size <= Hq.objs.size := by rw [hC]; exact Nat.le_succ _
  have old : ∀ b o, s.heap.get? b = some o -> h₁.get? b = some o := fun b o e =>
    hsb₁.extBut b o (by rw [hC]; exact Nat.ne_of_lt (Nat.lt_succ_of_lt (Heap.lt_size e))) (Heap.get?_push_of_some _ (hH2 ▸ Heap.get?_push_of_some _ e))
  have hacc : h₁.get? s.heap.objs.size = some { cls := .type "list", data := .seq ([] : List Value).toArray } := hsb₁.extBut _ _ hDC (Heap.get?_push_of_some _ (hH2 ▸ Heap.get?_push_size _ rfl))
  have hD0 : H s.heap.objs.size = none := I.fresh
  have hC0 : H Hq.objs.size = none := I.hok.fresh hCle
  have st0' : tn 0 h₁ := T.keep 0 _ _ st0 fun b hb o e => old b o e
  -- the block's state at its beginning
  have I0 : ∀ tk, Inv (aX X N' scope Hq.objs.size s H fp) [] (eN n ix σ) (upd H s.heap.objs.size (.lst [])) { s with heap := h₁, toks := tk } := fun tk => by
    refine tW ok hcalm I hf hfl hCle hns₁ old (Un.laid old (Nat.le_refl _) hD0) (I.hok.laid old (Nat.le_refl _) ⟨Nat.zero_le _, [], 0, .nil, hacc⟩) (by rw [aJ hDC.symm]; exact hC0) fun c hc e => ?_
    rw [aJ (Nat.ne_of_lt hc)]; exact e
  have loop : ∀ tk, codeAny (model X.prog X.w) X.A (.compLoop (.ListComp elt [⟨tgt, iter, ifs, 0⟩] scope pos) 0 (.ref it) (.ref s.heap.objs.size) (compEnvC scope (ka X.env scope.names []) Hq.objs.size X.env))
      (RR (.ref s.heap.objs.size) (compEnvC scope (ka X.env scope.names []) Hq.objs.size X.env)) { s with heap := h₁, toks := tk } := fun tk => by
    have fpk : ∀ {pins' : List (Addr × Obj)} {σ' : St} {H' : Hp} {s' : Shared}, Inv (aX X N' scope Hq.objs.size s H fp) pins' σ' H' s' -> pins' = [] -> (∀ b ∈ fp, H' b = none) -> ∀ b ∈ fp, uQ (aX X N' scope Hq.objs.size s H fp) pins' H' b := fun I' e hn b hb =>
      ⟨hn b hb, (I'.ok.exf b hb).1, I'.ok.exfs b hb, .inl hb, (I'.ok.exf b hb).2, by subst e; intro p hp; exact absurd (show p ∈ ([] : List (Addr × Obj)) from hp) (by simp)⟩
    refine sy (fun nn s' => ∃ (i : Nat) (σ' : St) (G' H' : Hp) (ρ' : Ev) (vs : List V) (ys : List D), nn = items.length - i /\ i <= items.length /\ Inv (aX X N' scope Hq.objs.size s H fp) [] σ' H' s' /\ tn i s'.heap /\ (∀ b ∈ fp, H' b = none) /\
      H' s.heap.objs.size = some (.lst vs) /\ G' s.heap.objs.size = none /\ Up G H G' H' /\ StE X.K G' H' σ' ρ' /\ (NoOwn ρ') /\ Reps X.K G' vs ys /\
      ys.length <= i /\ (cI asg gt ge (items.drop i) ρ' >>= fun zs => R.ok (ys ++ zs)).post (oV X.K G H Q) (Exx X σ G H)) ?_ items.length
      ⟨0, eN n ix σ, G, upd H s.heap.objs.size (.lst []), dw n ix ρ, [], [], by simp, Nat.zero_le _, I0 tk, st0', fun b hb => by rw [aJ (Nat.ne_of_lt (hfl b hb))]; exact (hf b hb).1, bc, st.sub.free hD0,
        ⟨fun a o e => by rw [aJ (aM e (st.sub.free hD0))]; exact st.sub a o e, .refl _, .into hD0, fun _ _ e => .inl e⟩,
        ⟨fun a o e => by rw [aJ (aM e (st.sub.free hD0))]; exact st.sub a o e, (jX st n ix).len, (jX st n ix).val, fun j m C p fs h => absurd h (NoOwn.obj fQ j m C p fs)⟩, fQ, .nil, Nat.zero_le _, by
          rw [List.drop_zero]
          cases q : cI asg gt ge items (dw n ix ρ) with
          | ok xs => rw [q] at h; exact h
          | ex C => rw [q] at h; exact h
          | no => rw [q] at h; exact h⟩
    rintro nn s' ⟨i, σ', G', H', ρ', vs, ys, rfl, hil, I', tn', fr', hD', gD', up', st', no', rp', hyl, h'⟩
    have hIt := hi i G' H' up'.gg st'.sub
    by_cases hlt : i < items.length
    · -- a turn
      have hd : items.drop i = items[i] :: items.drop (i + 1) := List.drop_eq_getElem_cons hlt
      rw [hd] at h'
      obtain ⟨go, yl⟩ := hIt.1 items[i] (by simp [hlt])
      refine wpAny_mono (T.item (aX X N' scope Hq.objs.size s H fp) rfl rfl rfl hcalm i [] s' σ' H' (fun _ _ => False) I' (fpk I' rfl fr') tn' go) (fun r s1 ⟨u, hr, h1⟩ => ?_) fun _ _ z => z
      subst hr
      refine wpAny_mono h1 (fun _ s2 ⟨x2, H2, I2, r2, y2, tn2, fr2⟩ => ?_) fun _ _ z => z
      obtain ⟨G2, up2, rep2⟩ := yl x2 H2 y2
      have I2p := I2.pinned (fpk I2 rfl fr2) (T.obj _ _ tn2)
      have st2 : StE X.K G2 H2 σ' ρ' := st'.up up2
      have sr2 : StR X.K G2 H2 G2 H2 σ' ρ' := ⟨st2, up2.sub, .refl up2.sub, fun j ds e => absurd e (no'.own j ds), fun j k ds es l e => absurd e (no'.own j ds), no'.ob⟩
      have ea : ∃ ρ1, asg items[i] ρ' = .ok ρ1 := by
        unfold cI at h'
        cases q : asg items[i] ρ' with
        | ok k => exact ⟨k, rfl⟩
        | ex C => rw [q] at h'; exact h'.elim
        | no => rw [q] at h'; exact h'.elim
      obtain ⟨ρ1, ea⟩ := ea
      unfold cI at h'
      rw [ea] at h'
      simp only [jx, R.ok_bind] at h'
      refine wpAny_mono (hg Hq.objs.size s H fp _ s2 σ' H2 x2 u (fun σ3 H3 => H3 = H2 /\ StR X.K G2 H2 G2 H2 σ3 ρ1) I2p r2
        ⟨G2, H2, G2, ρ', items[i], _, sr2, rep2, ea, fun σ3 q => ⟨rfl, q⟩⟩) (fun _ s3 ⟨σ3, H3, I3, e3, sr3⟩ => ?_) fun _ _ z => z
      subst e3
      have no3 := hown _ _ _ ea no'
      have hD2 : H3 s.heap.objs.size = some (.lst vs) := up2.hh _ _ hD'
      have gD2 : G2 s.heap.objs.size = none := by
        cases q : G2 s.heap.objs.size with
        | none => rfl
        | some o =>
          rcases up2.fr _ _ q with z | z
          · rw [gD'] at z; cases z
          · rw [hD'] at z; cases z
      -- the tests
      have ek : ∃ k, gt ρ1 = .ok k := by
        cases q : gt ρ1 with
        | ok k => exact ⟨k, rfl⟩
        | ex C => rw [q] at h'; exact h'.elim
        | no => rw [q] at h'; exact h'.elim
      obtain ⟨k, ek⟩ := ek
      rw [ek] at h'
      simp only [jx, R.ok_bind] at h'
      refine wpAny_mono (ht Hq.objs.size s H fp _ s3 σ3 H3 (fun b H4 => b = k /\ ∃ G4, Up G2 H3 G4 H4) I3 ⟨G2, _, sr3.e, by rw [ek]; exact fun b G4 H4 u4 e4 => ⟨e4, G4, u4⟩⟩) (fun b s4 ⟨H4, I4, eb, G4, up4⟩ => ?_) fun _ _ z => z
      subst eb
      have next : ∀ {H7 : Hp} {s7 : Shared} {G7 : Hp} {vs7 : List V} {ys7 : List D}, Inv (aX X N' scope Hq.objs.size s H fp) ([] ++ dH fp s2.heap) σ3 H7 s7 -> H7 s.heap.objs.size = some (.lst vs7) -> G7 s.heap.objs.size = none -> Up G H G7 H7 -> StE X.K G7 H7 σ3 ρ1 -> Reps X.K G7 vs7 ys7 -> ys7.length <= i + 1 ->
          (cI asg gt ge (items.drop (i + 1)) ρ1 >>= fun zs => R.ok (ys7 ++ zs)).post (oV X.K G H Q) (Exx X σ G H) ->
          ∃ m, m < items.length - i /\ ∃ (i : Nat) (σ' : St) (G' H' : Hp) (ρ' : Ev) (vs : List V) (ys : List D), m = items.length - i /\ i <= items.length /\ Inv (aX X N' scope Hq.objs.size s H fp) [] σ' H' s7 /\ tn i s7.heap /\ (∀ b ∈ fp, H' b = none) /\
            H' s.heap.objs.size = some (.lst vs) /\ G' s.heap.objs.size = none /\ Up G H G' H' /\ StE X.K G' H' σ' ρ' /\ (NoOwn ρ') /\ Reps X.K G' vs ys /\
            ys.length <= i /\ (cI asg gt ge (items.drop i) ρ' >>= fun zs => R.ok (ys ++ zs)).post (oV X.K G H Q) (Exx X σ G H) := fun {H7 s7 G7 vs7 ys7} I7 hD7 gD7 up7 st7 rp7 hy7 h7 => by
        have pin : ∀ b ∈ fp, ∀ o, s2.heap.get? b = some o -> s7.heap.get? b = some o /\ H7 b = none := fun b hb o e => by
          have := I7.pin (b, o) (List.mem_append_right _ (List.mem_append_right _ (di hb e)))
          exact ⟨this.1, this.2.1⟩
        refine ⟨items.length - (i + 1), by omega, i + 1, σ3, G7, H7, _, vs7, ys7, rfl, hlt, I7.unpinned, T.keep _ _ _ tn2 fun b hb o e => (pin b hb o e).1, fun b hb => ?_, hD7, gD7, up7, st7, no3, rp7, hy7, h7⟩
        obtain ⟨o, e, _⟩ := T.obj _ _ tn2 b hb
        exact (pin b hb o e).2
      have hD4 : H4 s.heap.objs.size = some (.lst vs) := up4.hh _ _ hD2
      have gD4 : G4 s.heap.objs.size = none := by
        cases q : G4 s.heap.objs.size with
        | none => rfl
        | some o =>
          rcases up4.fr _ _ q with z | z
          · rw [gD2] at z; cases z
          · rw [hD2] at z; cases z
      cases b with
      | false =>
        simp only [Bool.false_eq_true, if_false] at h' ⊢
        exact next I4 hD4 gD4 ((up'.trans up2).trans up4) (sr3.e.up up4) ((rp'.mono up2.gg).mono up4.gg) (Nat.le_succ_of_le hyl) h'
      | true =>
        simp only [if_true] at h' ⊢
        have I4' : ∀ xe, Inv (dq X N' scope Hq.objs.size s H fp (dH fp s2.heap) xe) [] σ3 H4 s4 := fun xe => I4.cx (fun p hp => by simpa [aX] using hp) rfl I4.ok.hd
        cases eg : ge ρ1 with
        | no => rw [eg] at h'; exact h'.elim
        | ex Cc =>
          rw [eg] at h'
          have h' : Exx X σ G H Cc := h'
          refine wpAny_mono (he Hq.objs.size s H fp (dH fp s2.heap) (notedBy (model X.prog X.w) X.A (compEnvC scope (ka X.env scope.names []) Hq.objs.size X.env) fun x s' => RR (.ref s.heap.objs.size) (compEnvC scope (ka X.env scope.names []) Hq.objs.size X.env) (.error x) s') _ s4 σ3 H4 (fun _ _ => False) (I4' _) ⟨G4, _, sr3.e.up up4, ?_⟩) (fun _ _ z => by obtain ⟨_, _, _, _, z⟩ := z; exact z.elim) fun _ _ z => z
          rw [eg]
          rintro e s5 ⟨G5, H5, up5, pins5, s6, a, rfl, J, way⟩
          show wpAny (model X.prog X.w) X.A (noteFrame (.ref a) (compEnvC scope (ka X.env scope.names []) Hq.objs.size X.env)) _ _ s5
          show wpAny (model X.prog X.w) X.A (noteFrame (.ref a) X.env) _ _ s5
          refine yR (X := dq X N' scope Hq.objs.size s H fp (dH fp s2.heap) _) (env := X.env) (outer := X.outer) (L := L) (Q := fun s' => RR (.ref s.heap.objs.size) (compEnvC scope (ka X.env scope.names []) Hq.objs.size X.env) (.error (.ref a)) s') hst hfr hfr up5.sub J way ?_
          intro ch H7 G7 s7 B a0 h₄ hch os bare un hok ha hna up7 hk held sm
          have J7 := J.call' (ch := ch) os un hok bare hch
          have pin6 : ∀ b ∈ fp, ∀ o, s2.heap.get? b = some o -> s6.heap.get? b = some o /\ s7.heap.get? b = some o /\ H7 b = none := fun b hb o e => by
            have p1 := J.pin (b, o) (List.mem_append_left _ (di hb e))
            have p2 := J7.pin (b, o) (List.mem_append_left _ (di hb e))
            exact ⟨p1.1, p2.1, p2.2.1⟩
          have fpo : ∀ b ∈ fp, ∃ o, s2.heap.get? b = some o := fun b hb => let ⟨o, e, _⟩ := T.obj _ _ tn2 b hb; ⟨o, e⟩
          have to6 : ∀ b o, s.heap.get? b = some o -> ∃ o0, s6.heap.get? b = some o0 := fun b o e => by
            by_cases hb : b ∈ fp
            · obtain ⟨o2, e2⟩ := fpo b hb; exact ⟨o2, (pin6 b hb o2 e2).1⟩
            · exact J.base.there b o e hb
          have to7 : ∀ b, ((∃ o0, s.heap.get? b = some o0) \/ ∃ u, H7 b = some u) -> ∃ o7, s7.heap.get? b = some o7 := fun b ho => by
            rcases ho with ⟨o0, ho⟩ | ⟨u, ho⟩
            · by_cases hb : b ∈ fp
              · obtain ⟨o2, e2⟩ := fpo b hb; exact ⟨o2, (pin6 b hb o2 e2).2.1⟩
              · exact J7.base.there b o0 ho hb
            · exact (hok b u ho).there
          have hk4 : ∀ b o, b ∉ frs X.stack -> ((∃ o0, s.heap.get? b = some o0) \/ ∃ u, H7 b = some u) -> s7.heap.get? b = some o -> B.get? b = some o := fun b o hb ho e => hk b o hb (ho.imp (fun ⟨o0, z⟩ => to6 b o0 z) id) e
          have stf : ∀ b ∈ frs X.stack, H7 b = none := fun b hb => J7.stkFree b hb
          have dat : ∀ b ∈ frs X.stack, ∀ o, s7.heap.get? b = some o -> ∀ vs, o.data ≠ .fields vs := fun b hb o e => by
            obtain ⟨o', e', d', _⟩ := FunFrames.data J7.stack b hb
            rw [e] at e'; cases e'; exact d'
          have held : Heap.HeldW B X.stack a (.ref Cc) a0 L h₄ := by rw [hst]; exact held
          obtain ⟨m7, hn7, _⟩ := J7.loc
          obtain ⟨m6, hn6, _⟩ := J.loc
          have hCf : Hq.objs.size ∉ frs X.stack := fun z => by
            obtain ⟨o', e', _⟩ := FunFrames.data I.stack _ z
            exact absurd (Heap.lt_size e') (Nat.not_lt.mpr hCle)
          refine hX s.heap.objs.size Hq.objs.size a Cc { s7 with heap := h₄ } m7 B a0 G7 H7 h' (((((up'.trans up2).trans up4).trans up5).trans up7)) (hn7.at' fun o e => ?_) J7.os J7.bare J7.free hCle ?_ ?_ ha ?_ held (fun b o hb ho e => ?_) (fun b hb => ?_) stf
          · have h6 : ∃ o0, s6.heap.get? Hq.objs.size = some o0 := by obtain ⟨o0, _, _, e0, _⟩ := hn6; exact ⟨o0, e0⟩
            exact held.1 _ o (hk _ o hCf (.inl h6) e)
          · exact Un.flight J7.base held.1 sm hk4 (fun b o e => ⟨o, e⟩) (fun b hb => .inl hb) dat
          · exact hok.flight held.1 hk4 stf
          · cases q : s.heap.get? a with
            | none => rfl
            | some o0 => obtain ⟨o1, e1⟩ := to6 a o0 q; rw [hna] at e1; cases e1
          · obtain ⟨o7, e7⟩ := to7 b ho
            have q := hk4 b o7 hb ho e7
            have e' : h₄.get? b = some o := e
            rw [held.1 b o7 q] at e'; cases e'; exact q
          · obtain ⟨o2, e2⟩ := fpo b hb
            by_cases z : b ∈ frs X.stack
            · obtain ⟨o', e', _⟩ := FunFrames.data held.2.2.1 b z; exact ⟨o', e'⟩
            · exact ⟨o2, held.1 b o2 (hk b o2 z (.inl ⟨o2, (pin6 b hb o2 e2).1⟩) (pin6 b hb o2 e2).2.1)⟩
        | ok y =>
          rw [eg] at h'
          simp only [R.ok_bind] at h'
          refine wpAny_mono (he Hq.objs.size s H fp (dH fp s2.heap) (notedBy (model X.prog X.w) X.A (compEnvC scope (ka X.env scope.names []) Hq.objs.size X.env) fun x s' => RR (.ref s.heap.objs.size) (compEnvC scope (ka X.env scope.names []) Hq.objs.size X.env) (.error x) s') _ s4 σ3 H4 (fun v H5 => ∃ G5, Up G4 H4 G5 H5 /\ Rep X.K G5 v y) (I4' _) ⟨G4, _, sr3.e.up up4, by rw [eg]; exact fun v G5 H5 u5 r5 => ⟨G5, u5, r5⟩⟩) (fun u5 s5 ⟨v5, H5, I5', r5, G5, up5, rep5⟩ => ?_) fun _ _ z => z
          have I5 : Inv (aX X N' scope Hq.objs.size s H fp) ([] ++ dH fp s2.heap) σ3 H5 s5 := (I5'.cx (A' := X.A) (calm' := X.calm) (pn' := []) (pins' := dH fp s2.heap) (xe' := fun _ _ => False) (fun p hp => by simpa [dq] using hp) rfl I.ok.hd : Inv { (dq X N' scope Hq.objs.size s H fp (dH fp s2.heap) _) with A := X.A, calm := X.calm, pn := [], xe := fun _ _ => False } (dH fp s2.heap) σ3 H5 s5)
          have hD5 : H5 s.heap.objs.size = some (.lst vs) := up5.hh _ _ hD4
          have gD5 : G5 s.heap.objs.size = none := by
            cases q : G5 s.heap.objs.size with
            | none => rfl
            | some o =>
              rcases up5.fr _ _ q with z | z
              · rw [gD4] at z; cases z
              · rw [hD4] at z; cases z
          have ups := ((up'.trans up2).trans up4).trans up5
          have hvl : vs.length < sizeLine := by rw [rp'.length]; omega
          refine wpAny_mono (ij (X := aX X N' scope Hq.objs.size s H fp) _ s5 σ3 H5 (.ref s.heap.objs.size) [v5] (.ref s.heap.objs.size) [u5] (fun _ H6 => H6 = upd H5 s.heap.objs.size (.lst (vs ++ [v5]))) I5 rfl (.cons r5 .nil)
            ⟨_, vs, v5, rfl, rfl, hD5, hvl, rfl⟩) (fun _ s6 ⟨_, H6, I6, _, e6⟩ => ?_) fun _ _ z => z
          subst e6
          have sub6 : Same G5 (upd H5 s.heap.objs.size (.lst (vs ++ [v5]))) := fun a o e => by rw [aJ (aM e gD5)]; exact up5.sub a o e
          refine next I6 bc gD5 ⟨sub6, ups.gg, fun a o e => ?_, ups.fr⟩ ?_ (ys7 := ys ++ [y]) ((((rp'.mono up2.gg).mono up4.gg).mono up5.gg).append (.cons rep5 .nil)) (by simp; omega) ?_
          · rw [aJ (aM e hD0)]; exact ups.hh a o e
          · exact ⟨sub6, ((sr3.e.up up4).up up5).len, ((sr3.e.up up4).up up5).val, fun j m C p fs h => absurd h (no3.obj j m C p fs)⟩
          · cases ez : cI asg gt ge (items.drop (i + 1)) ρ1 with
            | ok zs => rw [ez] at h'; simp only [R.ok_bind, List.append_assoc, List.singleton_append] at h' ⊢; exact h'
            | ex Cz => rw [ez] at h'; exact h'
            | no => rw [ez] at h'; exact h'
    · -- the end
      have hie : i = items.length := by omega
      subst hie
      rw [List.drop_length] at h'
      unfold cI at h'
      have h' : oV X.K G H Q (ys ++ []) := h'
      rw [List.append_nil] at h'
      refine wpAny_mono (T.done (aX X N' scope Hq.objs.size s H fp) rfl rfl rfl hcalm items.length [] s' σ' H' (fun _ _ => False) I' (fpk I' rfl fr') tn' (hIt.2 (Nat.le_refl _))) (fun r s1 ⟨hr, I1⟩ => ?_) fun _ _ z => z
      subst hr
      have eH : upd (fun a => if a = s.heap.objs.size then none else H' a) s.heap.objs.size (.lst vs) = H' := by
        funext a
        unfold upd
        by_cases e : a = s.heap.objs.size
        · subst e; rw [if_pos rfl]; exact hD'.symm
        · rw [if_neg e]
          show (if a = s.heap.objs.size then none else H' a) = _
          rw [if_neg e]
      have hn : (fun a => if a = s.heap.objs.size then none else H' a) s.heap.objs.size = none := by simp
      have upn : Up G H G' (fun a => if a = s.heap.objs.size then none else H' a) := by
        refine ⟨fun a o e => ?_, up'.gg, fun a o e => ?_, up'.fr⟩
        · have : a ≠ s.heap.objs.size := aM e gD'
          simp only [this, if_false]; exact up'.sub a o e
        · have : a ≠ s.heap.objs.size := aM e hD0
          simp only [this, if_false]; exact up'.hh a o e
      obtain ⟨m1, hm1, _⟩ := I1.loc
      refine hR s.heap.objs.size Hq.objs.size s1 m1 vs G' _ upn hn hDC.symm (fun _ _ => trivial) (h' _ vs G' _ upn hn rp') hm1 I1.os I1.bare ?_ hCle (by rw [eH]; exact I1.base) (by rw [eH]; exact I1.hok)
      have := I1.free
      show (if Hq.objs.size = s.heap.objs.size then none else H' Hq.objs.size) = none
      rw [if_neg hDC.symm]; exact this
  exact codeAny_compStart_list (loop _) (T.self X.A 0 _ _ _ st0' (loop _))


theorem ww {M:Model} {A:Around} {E:Value->Shared->Prop} {s:Shared} {B:Heap} {l:List Env} {a L:Addr} {cls a0:Value} {what:String} {env:Env} {Q:Value->Shared->Prop} (hf:env.frame=some L) (x:Heap.HeldW B l a cls a0 L s.heap)
  (h:∀ h',Heap.HeldW B l a cls a0 L h'->s.heap.UpToSlots h'->E (.ref a) { s with heap:=h' }):wpAny M A (passOn what (.ref a) env:Sem Value) Q E s:=by
 obtain ⟨hkb,hen,hl,oe,vs,T,oT,ts,he,hcls,hd,h1,hnT,hTe,hT,hdT,h3⟩:=x
 have hsz:3 < ts.size:=(Array.getElem?_eq_some_iff.mp h3).1
 unfold PySem.passOn
 refine wpAny_bind (wpAny_field he hd h1 ?_)
 rw [if_neg (show ¬ ((Value.ref T==Value.none)=true) from by simp)]
 refine wpAny_bind ?_
 rw [hf]
 unfold setFlight
 refine wpAny_bind (wpAny_field he hd h1 ?_)
 rw [if_pos (show (Value.ref T != Value.none)=true from by simp)]
 have oth:∀ b,b ≠ T->(s.heap.update T (Obj.mapFields (·.setIfInBounds 3 ((some L).elim Value.none fun f=>rawInt f)))).get? b=s.heap.get? b:=fun b hb=>Heap.get?_update_other _ _ (Ne.symm hb)
 have rec':∀ b o,s.heap.get? b=some o->(∀ vs,o.data ≠ .fields vs)->b ≠ T:=fun b o hb hnf q=>by
  rw [q,hT] at hb; injection hb with hb; subst hb; exact hnf ts hdT
 refine wpAny_setField hT hdT hsz (wpAny_throw (h _ ⟨fun b o hbo=>(oth b fun q=>by rw [q,hnT] at hbo; cases hbo).trans (hkb b o hbo),hen,hl.of_keeps fun b o hb hnf=>⟨o,(oth b (rec' b o hb hnf)).trans hb,rfl⟩,?_⟩ fun b o hb hnf=>⟨o.slots,(oth b (rec' b o hb hnf)).trans hb⟩))
 exact ⟨oe,vs,T,_,_,(oth a (Ne.symm hTe)).trans he,hcls,hd,h1,hnT,hTe,Heap.get?_update_self _ hT (Obj.isFreed_of_fields (Obj.data_mapFields hdT _)),Obj.data_mapFields hdT _,by simp [hsz]⟩
theorem zv {B h h':Heap} {l:List Env} {a L C:Addr} {cls a0:Value} (x:Heap.HeldW B l a cls a0 L h) (sb:Heap.SameBut C h h') (hC:C ∉ frs l) (hd:∃ o,h.get? C=some o/\∀ vs,o.data ≠ .fields vs):Heap.HeldW (PySem.W.hideAll B [C]) l a cls a0 L h':=by
 obtain ⟨hkb,hen,hl,oe,vs,T,oT,ts,he,hcls,hd1,h1,hnT,hTe,hT,hdT,h3⟩:=x
 obtain ⟨oC,eC,dC⟩:=hd
 have na:a ≠ C:=fun z=>by rw [z,eC] at he; cases he; exact dC _ hd1
 have nT:T ≠ C:=fun z=>by rw [z,eC] at hT; cases hT; exact dC _ hdT
 have hid:∀ b,B.get? b=none->(PySem.W.hideAll B [C]).get? b=none:=fun b e=>by
  cases q:(PySem.W.hideAll B [C]).get? b with
  | none=>rfl
  | some o=>have:=PySem.W.of_hideAll _ q; rw [e] at this; cases this
 refine ⟨fun b o e=>?_,hid a hen,FunFrames.rebase hid ?_,oe,vs,T,oT,ts,(sb.2 a na).trans he,hcls,hd1,h1,hid T hnT,hTe,(sb.2 T nT).trans hT,hdT,h3⟩
 ·have nb:b ≠ C:=fun z=>by rw [z,PySem.W.hideAll_none _ (List.mem_singleton.2 rfl)] at e; cases e
  exact (sb.2 b nb).trans (hkb b o (PySem.W.of_hideAll _ e))
 ·have key:∀ {l:List Env},C ∉ frs l->h.FunFrames B l->h'.FunFrames B l:=by
   intro l
   induction l with
   | nil=>intro _ x; exact x
   | cons env l ih=>
    intro hc ⟨x1,⟨L,o,y1,y2,y3,y4⟩,x3⟩
    rw [sF y1] at hc
    exact ⟨x1,⟨L,o,y1,y2,(sb.2 L fun z=>hc (by rw [z]; exact List.mem_cons_self ..)).trans y3,y4⟩,ih (fun z=>hc (List.mem_cons_of_mem _ z)) x3⟩
  exact key hC hl
theorem BM {h:Heap} {C:Addr} {m:Str->Option Value} (x:h.Ns C m):∃ o,h.get? C=some o/\∀ vs,o.data ≠ .fields vs:=by
 obtain ⟨o,es,ep,e,d,_⟩:=x
 exact ⟨o,e,fun vs z=>by rw [d] at z; cases z⟩
section
variable {X:Cx} {elt iter:Expr} {ifs:List Expr} {x:Str} {px pos:Pos} {scope:Scope} {N':List Str} {ix:List Nat} {gi:Ev->R (List D)} {gt:Ev->R Bool} {ge:Ev->R D}
theorem qG (hst:X.stack=X.env::X.outer) (hfr:X.env.frame=some X.env.locals) (ok:CompOk X scope x N' ix) (hcalm:X.calm=true) (hi:QIF X (.Name x px) iter gi) (he:∀ C s₂ H₂ fp pn xe,QF (dq X N' scope C s₂ H₂ fp pn xe) elt ge) (ht:∀ C s₂ H₂ fp,PTs (aX X N' scope C s₂ H₂ fp) ifs gt)
  (hs:∀ x,foldedSetIterable iter X.env x=pure x:=by intro _; rfl):QFL X (.ListComp elt [⟨.Name x px,iter,ifs,0⟩] scope pos) (qq gi ix gt ge):=by
 intro pins s σ H Q I h
 obtain ⟨G,ρ,st,h⟩:=h
 rw [eval_ListComp]
 refine uv rfl hs (ff fun y hy hy2=>I.ok.has y.1 (.inl (ok.fr y hy hy2))) ok.kind ok.names ?_
 have t:tG X (fun G J items=>ItOk X.K G J items) gi σ H (fun J H1=>∃ G1 items,Up G H G1 H1/\StE X.K G1 H1 σ ρ/\ItOk X.K G1 J items/\items.length<=sizeLine/\(cI (fZ 0) gt ge items (eT ix ρ)).post (oV X.K G H Q) (Exx X σ G H)):=by
  refine ⟨G,ρ,st,?_⟩
  unfold qq at h
  cases e:gi ρ with
  | ok items=>
   rw [e] at h
   simp only [R.ok_bind] at h
   by_cases hl:items.length<=sizeLine
   ·rw [if_pos hl] at h; exact fun J G1 H1 u r=>⟨G1,items,u,st.up u,r,hl,h⟩
   ·rw [if_neg hl] at h; exact h.elim
  | ex C=>rw [e] at h; exact h
  | no=>rw [e] at h; exact h
 refine thn (hi pins s σ H _ I t) fun v s1 h1=>thn h1 fun itv s2 h2=>?_
 obtain ⟨it,fp,tn,J,H2,e,I2,T,st2,f2,G2,items,u2,sE2,iok,hlen,h2⟩:=h2
 subst e
 have h2':(cI (fZ 0) gt ge items (dw 1 ix ρ)).post (oV X.K G2 H2 Q) (Exx X σ G2 H2):=
  h2.mono (fun ds q l vs G' H' u hl r=>q l vs G' H' (u2.trans u) hl r) fun C q=>q.up u2
 have cok:∀ b ∈ fp,FQ X pins b:=fun b hb=>by
  obtain ⟨f0,f1,f2',f3,f4,f5⟩:=f2 b hb
  exact ⟨f3,f1,f4,f5⟩
 refine oF (n:=1) (asg:=fZ 0) (iter:=iter) (pos:=pos) (L:=X.env.locals) (RR:=fun acc cenv=>pc (model X.prog X.w) X.A X.xe (EP X pins σ Q) acc cenv) hst hfr ok.t hcalm (fun C s₂ H₂ fp=>cy (X:=aX X N' scope C s₂ H₂ fp) (pos:=px) 0 ok.nd ok.hd (.inl (lookup_relabel_local ok.loc)) (.inr (lookup_relabel_local ok.loc))) nS he ht I2 T st2 f2 sE2 iok hlen h2' ?_ ?_
 ·intro Dd C s' m vs G' H' up hd hCD _ q hm hos hb hC hCl un hok
  refine ⟨m,hm,fun h' hs'=>?_⟩
  have hs':Heap.SameBut C s'.heap h':=hs'
  have I3:=I2.call' (H':=upd H' Dd (.lst vs)) (s':={ s' with heap:=h' }) (ch:=fp) hos (un.sameBut (fun b o hbc e=>hs'.extBut b o hbc e) hCl) (hok.sameBut (fun b o hbc e=>hs'.extBut b o hbc e) (by rw [aJ hCD]; exact hC)) hb cok
  exact ⟨.ref Dd,_,I3,rfl,q⟩
 ·intro Dd C a Cc s' m B a0 G' H' hex up hm hos hb hC hCl un hok ha hna held hk fpo stf
  refine ⟨m,hm,fun h' hs'=>?_⟩
  have hs':Heap.SameBut C s'.heap h':=hs'
  have hCf:C ∉ frs X.stack:=fun z=>by
   obtain ⟨o',e',_⟩:=FunFrames.data I2.stack _ z
   exact absurd (Heap.lt_size e') (Nat.not_lt.mpr hCl)
  have un1:Un (frs X.stack) fp H2 H' s2.heap h':=un.sameBut (fun b o hbc e=>hs'.extBut b o hbc e) hCl
  have hok1:HOk X.prog X.w H' h':=hok.sameBut (fun b o hbc e=>hs'.extBut b o hbc e) hC
  have held1:=zv held hs' hCf (BM hm)
  have nC:∀ b,((∃ o0,s2.heap.get? b=some o0)\/∃ u,H' b=some u)->b ≠ C:=fun b ho z=>by
   rcases ho with ⟨o0,ho⟩ | ⟨u,ho⟩
   ·rw [z] at ho; exact absurd (Heap.lt_size ho) (Nat.not_lt.mpr hCl)
   ·rw [z,hC] at ho; cases ho
  have hk1:∀ b o,b ∉ frs X.stack->((∃ o0,s2.heap.get? b=some o0)\/∃ u,H' b=some u)->h'.get? b=some o->(PySem.W.hideAll B [C]).get? b=some o:=fun b o hb' ho e=>
   PySem.W.hideAll_get _ (hk b o hb' ho ((hs'.2 b (nC b ho)).symm.trans e)) fun z=>nC b ho (List.mem_singleton.1 z)
  refine ww (s:={ s' with heap:=h' }) (L:=X.env.locals) hfr held1 fun h'' held2 sm=>?_
  have dat:∀ b ∈ frs X.stack,∀ o,h'.get? b=some o->∀ vs,o.data ≠ .fields vs:=fun b hb' o e=>by
   obtain ⟨o',e',d',_⟩:=FunFrames.data held1.2.2.1 b hb'
   rw [e] at e'; cases e'; exact d'
  refine hex (.ref a) _ ⟨G2,H2,.refl sE2.sub,pins,s2,a,rfl,I2,.inr (.inr ⟨G',H',X.env.locals,hfr,⟨hos,hb,⟨fp,cok,Un.flight un1 held2.1 sm hk1 (fun b o e=>⟨o,e⟩) (fun b hb'=>.inl hb') dat⟩,hok1.flight held2.1 hk1 stf,ha,hna,_,a0,held2,fun b o hb' ho e=>?_⟩,up⟩)⟩
  have ex:∃ o',h'.get? b=some o':=by
   rcases id ho with ⟨o0,ho'⟩ | ⟨u,ho'⟩
   ·by_cases hf:b ∈ fp
    ·obtain ⟨o',e'⟩:=fpo b hf; exact ⟨o',hs'.extBut b o' (nC b ho) e'⟩
    ·exact un1.there b o0 ho' hf
   ·exact (hok1 b u ho').there
  obtain ⟨o',e'⟩:=ex
  have q:=hk1 b o' hb' ho e'
  have e2:h''.get? b=some o:=e
  rw [held2.1 b o' q] at e2; cases e2; exact q
end
end L2
namespace L2
open PySem PySem.Spec PyProof.Rows
section
variable {X:Cx} {a b c e ix:Expr} {es:List Expr} {ga gb gi:Ev->R D} {gl:Ev->R (List D)} {pos p p1 p2 p3 pl sp:Pos}
def uw:D->List D->Option D
 | .str x,[.str [c]]=>some (.bl (x.getLast?==some c))
 | _,_=>none
def EU:V->List V->Hp->VK->Prop:=fun x vs H Q=>∃ (y:Str) (c:Nat),x=.str y/\vs=[.str ⟨#[c]⟩]/\Q (.bl (Txt.endswith y ⟨#[c]⟩)) H
theorem A1:MtR X "str.endswith" EU:=by
 intro pins s σ H x xs v us Q I rx rv ⟨y,c,ex,exs,q⟩
 subst ex exs
 obtain ⟨t,rfl⟩:=rx
 obtain ⟨u,rfl,r1⟩:=rv.one
 obtain ⟨t',rfl⟩:=r1
 exact SC.endswith ⟨.bl _,H,I,rfl,q⟩
theorem xS (y:Str) (c:Nat):Txt.endswith y ⟨#[c]⟩=(y.cps.toList.getLast?==some c):=by
 have hl:y.length=y.cps.toList.length:=(Str.len_list y).symm
 have key:=StrLaws.subAt_one y c (y.length - 1)
 rw [List.getLast?_eq_getElem?,<- hl]
 unfold Txt.endswith
 rw [Bool.eq_iff_iff,beq_iff_eq,<- key]
 show ((decide (0+1<=y.length) && Builtin.Str.subAt y ⟨#[c]⟩ (y.length - 1))=true) ↔ (y.length - 1+1<=y.length/\_)
 rw [Bool.and_eq_true,decide_eq_true_eq]
 constructor
 ·exact fun h=>⟨by omega,h.2⟩
 ·exact fun h=>⟨by omega,h.2⟩
theorem C5 (K:PySem.W.Frag):Bg K "str" EU uw:=by
 intro G H x xs dx ds d Q s rx rs e q
 unfold uw at e
 split at e
 ·cases e
  rename_i x0 c
  obtain ⟨v,rfl,r1⟩:=rs.one
  obtain ⟨i,rfl,ei,hi⟩:=rx.str_inv
  obtain ⟨j,rfl,ej,hj⟩:=r1.str_inv
  subst ei
  have:j=⟨#[c]⟩:=(Str.of_list ej).symm
  subst this
  refine ⟨i,c,rfl,rfl,q _ G H (.refl s) ?_⟩
  rw [xS]; exact .bl _
 ·cases e
theorem zO {o:Expr} {ap cp:Pos} (ho:QF X o ga) (ha:QFA X [e] gl) (hbase:attributeBase o "endswith" X.env (eval o X.env)=eval o X.env:=by rfl)
  (hfew:((backTo cp (starEach [e] X.env)).all (fun x=>!x.1) && (backToKw cp (keywordEach [] X.env)).all (fun x=>x.1.isSome)
   && decide ([e].length+([]:List Keyword).length+(if ([]:List Keyword).isEmpty then 0 else 1) < 30))=true:=by rfl)
  (hline:(ap.endLine==cp.line)=true:=by rfl) (hs:starEach [e] X.env=(false,eval e X.env)::starEach [] X.env:=by rfl) :
  QF X (.Call (.Attribute o "endswith" ap) [e] [] cp) (fv "str" uw ga gl):=fH PySem.F.plainAttrs_str PySem.F.slot_str_endswith PySem.F.type_str_endswith A1 (C5 _) ho ha hbase hfew hline hs rfl
def jS (c:Nat):List Nat->Option (List Nat × List Nat)
 | []=>none
 | d::r=>if d=c then some ([],r) else (jS c r).map fun p=>(d::p.1,p.2)
def du (c:Nat) (x:List Nat):List Nat × List Nat × List Nat:=match jS c x with
 | some (p,q)=>(p,[c],q)
 | none=>(x,[],[])
def qN:D->List D->Option D
 | .str x,[.str [c]]=>if x.length<=10000 then some (.tup [.str (du c x).1,.str (du c x).2.1,.str (du c x).2.2]) else none
 | _,_=>none
theorem tm {c:Nat}:∀ {x:List Nat} {i:Nat},x[i]?=some c->(∀ k,k < i->x[k]? ≠ some c)->jS c x=some (x.take i,x.drop (i+1))
 | [],i,h,_=>by simp at h
 | d::r,0,h,_=>by
  have:d=c:=by simpa using h
  rw [jS,if_pos this]; rfl
 | d::r,i+1,h,hn=>by
  have hd:d ≠ c:=fun z=>hn 0 (by omega) (by rw [z]; rfl)
  have ih:=tm (x:=r) (i:=i) (by simpa using h) fun k hk=>by have:=hn (k+1) (by omega); simpa using this
  rw [jS,if_neg hd,ih]; rfl
theorem mX {c:Nat}:∀ {x:List Nat},(∀ i:Nat,x[i]? ≠ some c)->jS c x=none
 | [],_=>rfl
 | d::r,h=>by
  have hd:d ≠ c:=fun z=>h 0 (by rw [z]; rfl)
  rw [jS,if_neg hd,mX fun i=>by have:=h (i+1); simpa using this]; rfl
theorem pD {c:Nat}:∀ {x p q:List Nat},jS c x=some (p,q)->p.length+q.length+1=x.length
 | [],_,_,h=>by simp [jS] at h
 | d::r,p,q,h=>by
  unfold jS at h
  split at h
  ·cases h; simp
  ·cases e:jS c r with
   | none=>rw [e] at h; cases h
   | some z=>
    rw [e] at h
    have ih:=pD (x:=r) (p:=z.1) (q:=z.2) e
    cases h
    simp; omega
theorem wQ (y:Str) (c:Nat):((Txt.partition y ⟨#[c]⟩).1.cps.toList,(Txt.partition y ⟨#[c]⟩).2.1.cps.toList,(Txt.partition y ⟨#[c]⟩).2.2.cps.toList)=du c y.cps.toList:=by
 have hl:y.length=y.cps.toList.length:=(Str.len_list y).symm
 unfold Txt.partition du
 rcases StrLaws.occ_head y ⟨#[c]⟩ 1 (Nat.le_refl _) with ⟨e,hn⟩ | ⟨i,r,e,hi,hn⟩
 ·rw [e,mX fun i z=>hn i ((StrLaws.subAt_one y c i).mpr z)]; rfl
 ·rw [e,tm ((StrLaws.subAt_one y c i).mp hi) fun k hk z=>hn k hk ((StrLaws.subAt_one y c k).mpr z)]
  show ((y.cps.extract 0 i).toList,[c],(y.cps.extract (i+1) y.length).toList)=(_,[c],_)
  rw [Array.toList_extract,List.extract_eq_take_drop,Array.toList_extract,List.extract_eq_take_drop,hl]
  congr 2
  exact List.take_of_length_le (by rw [List.length_drop,Array.length_toList]; exact Nat.le_refl _)
def D7:V->List V->Hp->VK->Prop:=fun x vs H Q=>∃ (y:Str) (c:Nat),x=.str y/\vs=[.str ⟨#[c]⟩]/\y.length<=sizeLine/\∀ l,H l=none->Q (.ref l) (upd H l (.tup [.str (Txt.partition y ⟨#[c]⟩).1,.str (Txt.partition y ⟨#[c]⟩).2.1,.str (Txt.partition y ⟨#[c]⟩).2.2]))
theorem BT:MtR X "str.partition" D7:=by
 intro pins s σ H x xs v us Q I rx rv ⟨y,c,ex,exs,hz,q⟩
 subst ex exs
 obtain ⟨t,rfl⟩:=rx
 obtain ⟨u,rfl,r1⟩:=rv.one
 obtain ⟨t',rfl⟩:=r1
 refine call_meets F.slot_str_partition (typeIs_str _ _ _) F.entry_str_partition (F.args_str_partition_2 _ _) (meets_str_partition y ⟨#[c]⟩ t t' rfl hz) ?_
 have big:3<=sizeLine:=by decide
 have q:=q s.heap.objs.size I.fresh
 unfold Txt.partition at q
 revert q
 cases Builtin.Str.occurrences y ⟨#[c]⟩ 0 y.length 1 with
 | nil=>
  intro q
  exact ⟨.ref s.heap.objs.size,_,I.laid (t':=s.toks+1) (o:=.tup [.str y,.str Str.empty,.str Str.empty]) (fun b ob q=>Heap.get?_push_of_some _ q) (Nat.le_refl _) ⟨big,_,.cons ⟨_,rfl⟩ (.cons ⟨_,rfl⟩ (.cons ⟨_,rfl⟩ .nil)),IsTup.new _ _⟩,rfl,q⟩
 | cons i r=>
  intro q
  exact ⟨.ref s.heap.objs.size,_,I.laid (t':=s.toks+1+1) (o:=.tup [.str (Builtin.Str.strSub y 0 i),.str ⟨#[c]⟩,.str (Builtin.Str.strSub y (i+(⟨#[c]⟩:Str).length) y.length)]) (fun b ob q=>Heap.get?_push_of_some _ q) (Nat.le_refl _) ⟨big,_,.cons ⟨_,rfl⟩ (.cons ⟨_,rfl⟩ (.cons ⟨_,rfl⟩ .nil)),IsTup.new _ _⟩,rfl,q⟩
theorem pq (c:Nat) (x:List Nat):(du c x).1.length<=x.length/\(du c x).2.1.length<=1/\(du c x).2.2.length<=x.length:=by
 unfold du
 cases e:jS c x with
 | none=>simp
 | some z=>have:=pD (p:=z.1) (q:=z.2) e; simp; omega
theorem Db (K:PySem.W.Frag):Bg K "str" D7 qN:=by
 intro G H x xs dx ds d Q s rx rs e q
 unfold qN at e
 split at e
 ·split at e
  ·rename_i x0 c hc
   cases e
   obtain ⟨v,rfl,r1⟩:=rs.one
   obtain ⟨i,rfl,ei,hi⟩:=rx.str_inv
   obtain ⟨j,rfl,ej,hj⟩:=r1.str_inv
   subst ei
   have:j=⟨#[c]⟩:=(Str.of_list ej).symm
   subst this
   refine ⟨i,c,rfl,rfl,hi,fun l hl=>q _ _ _ (.new s hl) ?_⟩
   have pl:=wQ i c
   have ln:=pq c i.cps.toList
   rw [<- pl] at ln ⊢
   rw [Str.len_list] at ln
   have one:∀ z:Str,z.cps.toList.length<=sizeLine->Rep K (upd G l (.tup [.str (Txt.partition i ⟨#[c]⟩).1,.str (Txt.partition i ⟨#[c]⟩).2.1,.str (Txt.partition i ⟨#[c]⟩).2.2])) (.str z) (.str z.cps.toList):=fun z hz=>.str z (by rw [<- Str.len_list]; exact hz)
   have b1:1<=sizeLine:=by decide
   exact .tup (.of bc) (.cons (one _ (Nat.le_trans ln.1 hi)) (.cons (one _ (Nat.le_trans ln.2.1 b1)) (.cons (one _ (Nat.le_trans ln.2.2 hi)) .nil)))
  ·cases e
 ·cases e
theorem zU {o:Expr} {ap cp:Pos} (ho:QF X o ga) (ha:QFA X [e] gl) (hbase:attributeBase o "partition" X.env (eval o X.env)=eval o X.env:=by rfl)
  (hfew:((backTo cp (starEach [e] X.env)).all (fun x=>!x.1) && (backToKw cp (keywordEach [] X.env)).all (fun x=>x.1.isSome)
   && decide ([e].length+([]:List Keyword).length+(if ([]:List Keyword).isEmpty then 0 else 1) < 30))=true:=by rfl)
  (hline:(ap.endLine==cp.line)=true:=by rfl) (hs:starEach [e] X.env=(false,eval e X.env)::starEach [] X.env:=by rfl) :
  QF X (.Call (.Attribute o "partition" ap) [e] [] cp) (fv "str" qN ga gl):=fH PySem.F.plainAttrs_str PySem.F.slot_str_partition PySem.F.type_str_partition BT (Db _) ho ha hbase hfew hline hs rfl
theorem vx {N:List Str} {i:Nat} {x:Str} {pos:Pos} {scope:Scope} {C:Addr} {s₂:Shared} {H₂:Hp} {fp:List Addr} {pn:List (Addr × Obj)} {xe:Value->Shared->Prop} (h:At N i x)
  (hv:Vis (dq X N scope C s₂ H₂ fp pn xe).env.scope x:=by first | exact Or.inl rfl | exact Or.inr (Or.inl rfl) | exact Or.inr (Or.inr rfl)) (hd:(x==("__debug__":Str))=false:=by decide)
  (hcd:(x==("__classdict__":Str))=false:=by decide):QF (dq X N scope C s₂ H₂ fp pn xe) (.Name x pos) (fun ρ=>rdV ρ i):=nF i h hv hd hcd
end
end L2
namespace L2
open PySem PySem.Spec PyProof.Rows
structure ClOk (N:List Str) (scope:Scope) (cl:List (Str × Addr)) (σ:St) (H:Hp) (h:Heap):Prop where
 kind:scope.kind=.function
 nocell:∀ y ∈ scope.names,y.2 ≠ .cell
 inj:∀ y z c,cl.lookup y=some c->cl.lookup z=some c->y=z
 has:∀ y,scope.names.lookup y=some .free->∃ c,cl.lookup y=some c
 cell:∀ y c,cl.lookup y=some c->H c=none/\∃ v,h.IsCell c v
 val:∀ (i:Nat) y v,N[i]?=some y->σ[i]?=some (some v)->∃ u c,RelV v u/\scope.names.lookup y=some .free/\cl.lookup y=some c/\h.IsCell c (some u)
 len:σ.length=N.length
section
variable {Y:Cx} {pins:List (Addr × Obj)} {σY σ:St} {H:Hp} {s:Shared} {f:Addr} {o:Obj} {N:List Str} {qual:Str} {params:Arguments} {body:Expr} {scope:Scope} {cl:List (Str × Addr)} {pm cd ctv:Value} {k:Nat} {te:TE} {Q:VK} {E:XK}
end
section
variable {X:Cx} {pins:List (Addr × Obj)} {σ:St} {H:Hp} {s:Shared} {params:Arguments} {body:Expr} {scope:Scope} {pos:Pos} {c P:Addr} {ps:Array Value} {Q:Value->Shared->Prop}
structure Lam (X:Cx) (pins:List (Addr × Obj)) (σ:St) (H:Hp) (s:Shared) (params:Arguments) (body:Expr) (scope:Scope) (f:Addr) (cd ctv pm:Value) (H1:Hp) (s1:Shared):Prop where
 inv:Inv X pins σ H1 s1
 hh:Same H H1
 new:∀ a,H a=none->H1 a=none\/s.heap.objs.size<=a
 free:H1 f=none
 fn:s1.heap.get? f=some { cls:=.type "function",data:=.func (PySem.W.kla_fn "<lambda>" (X.env.qual++"<lambda>") params body scope (ka X.env scope.names []) pm cd ctv) }
 codeH:∃ c o vs t u,cd=.ref c/\H1 c=some (.frz o u)/\o.data=.fields vs/\vs[1]?=some (.str (X.env.qual++"<lambda>") t)
end
end L2
namespace L2
open PySem PySem.Spec PyProof.Rows
structure FnFH (P:Program) (w:World) (K:PySem.W.Frag) (mg:Str->Option Value) (base:Heap) (k:Nat) (f:Addr) (fd:FuncData) (ps:List Str) (g:List D->R D):Prop where
 run:∀ (A:Around) (x:Addr) (outer:List Env) (s:Shared) (H:Hp) (args:Args) (us:List Value) (vs:List V) (Q:VK) (E:XK),Room k A->Env0 P w K mg base A outer s H->BindsTo s fd args (ps.zip us)->Vals vs us->(vs.length=ps.length/\spF K g vs H Q E)->
  codeAny (model P w) (A.mark (some (.ref x))) (.call (.ref f) args) (CR (CXo P w) outer P w H s Q E) s
structure CalleeH (P:Program) (w:World) (K:PySem.W.Frag) (mg:Str->Option Value) (base:Heap) (x:Str) (k n:Nat) (g:List D->R D):Prop where
 ex:∃ f fd ps,FnFH P w K mg base k f fd ps g/\mg x=some (.ref f)/\PySem.W.keepIn K (.ref f)=true/\Binds K fd ps []/\ps.length=n
section
variable {Y:Cx} {a:Addr} {xe:Value->Shared->Prop} {k n:Nat} {x:Str} {p pos:Pos} {e:Expr} {es:List Expr} {gl:Ev->R (List D)} {g:List D->R D}
end
def Et (P:Program) (w:World) (K:PySem.W.Frag) (mg:Str->Option Value) (base:Heap) (k:Nat) (s1:Shared) (G1 H1:Hp) (f:Addr) (m:R D):Prop:=
 ∀ (Y:Cx) (pins:List (Addr × Obj)) (σY:St) (G2 H2:Hp) (s2:Shared) (fs:List Addr) (Q:VK),Y.prog=P->Y.w=w->Y.K=K->Y.mg=mg->Y.base=base->Inv Y pins σY H2 s2->Room k Y.A->Un fs [] H1 H2 s1.heap s2.heap->Up G1 H1 G2 H2->
  m.post (Fin G2 H2 (Rep Y.K) Q) (Exx Y σY G2 H2)->(∃ o fd,s2.heap.get? f=some o/\o.data=.func fd)/\wpAny (model Y.prog Y.w) Y.A (call (.ref f) []) (EP Y pins σY Q) Y.xe s2
structure Told (P:Program) (w:World) (K:PySem.W.Frag) (mg:Str->Option Value) (base:Heap) (x:Str) (k j:Nat) (g:R D->R D):Prop where
 ex:∃ ft,mg x=some (.ref ft)/\PySem.W.keepIn K (.ref ft)=true/\∀ (A:Around) (outer:List Env) (s1:Shared) (G1 H1:Hp) (f:Addr) (m:R D) (Q:VK) (E:XK),Room k A->Env0 P w K mg base A outer s1 H1->Same G1 H1->Et P w K mg base j s1 G1 H1 f m->
  (g m).post (Fin G1 H1 (Rep K) Q) (fun C=>∀ G' H',Up G1 H1 G' H'->E (.ref C) none H')->codeAny (model P w) A (.call (.ref ft) ⟨[.ref f],[]⟩) (CR (CXo P w) outer P w H1 s1 Q E) s1
section
variable {P:Program} {w:World} {K:PySem.W.Frag} {mg:Str->Option Value} {base:Heap} {x y:Str} {st:Stmt} {ft:Addr} {fd:FuncData} {k:Nat} {b₀:Stmt} {suite:List Stmt} {p1 p2 p3 tp hp tpos:Pos} {nm tn:Str} {gs:Ev->O} {fe:Addr->Option Bool} {Ct:Addr}
end
end L2
namespace L2
open PySem PySem.Spec PyProof.Rows
structure LamAt (X:Cx):Prop where
 ex:∃ c P q t,X.env.code=.ref c/\(∀ h,X.K.In h->PySem.W.CodeHd h c P)/\X.H₀ P=some (.tbl #[.str q t])/\q=X.env.qual++"<lambda>"/\X.base.BuiltinsAt X.mg P/\mainGlobals ≠ P
structure LamOk (X:Cx) (scope:Scope) (N':List Str) (ix:List Nat):Prop where
 kind:scope.kind=.function
 co:scope.isCoroutine=false
 gen:scope.isGenerator=false
 cell:∀ y ∈ scope.names,y.2 ≠ .cell
 fr:∀ y ∈ scope.names,y.2=.free->X.env.kindOf y.1=some .cell
 tl:N'=ix.map fun (i:Nat)=>X.N.getD i Str.empty
 lt:∀ i ∈ ix,i < X.N.length
 fre:∀ y ∈ N',scope.names.lookup y=some .free/\(y,NameKind.free) ∈ scope.names
section
variable {X:Cx} {scope:Scope} {N':List Str} {ix:List Nat} {params:Arguments} {body:Expr} {lp p pos:Pos} {x:Str} {k j:Nat} {gb:Ev->R D} {g:R D->R D}
end
structure LamDef (K:PySem.W.Frag) (mg:Str->Option Value) (fd:FuncData) (Pt:Addr):Prop where
 ex:∃ c,fd.code=.ref c/\∀ h,K.In h->PySem.W.CodeHd h c Pt
 ne:mainGlobals ≠ Pt
end L2
namespace L2
open PySem PySem.Spec PyProof.Rows
def hid (H:Hp) (ow:hW):Hp:=fun a=>if (ow a).isSome=true then none else H a
theorem yD {H:Hp} {ow:hW} {a:Addr} {o:HO} (h:hid H ow a=some o):H a=some o/\ow a=none:=by
 unfold hid at h
 split at h
 ·cases h
 ·rename_i q; exact ⟨h,by cases e:ow a with | none=>rfl | some t=>rw [e] at q; exact absurd rfl q⟩
theorem jZ {H:Hp} {ow:hW} {a:Addr} {t:Nat × Nat} (h:ow a=some t):hid H ow a=none:=by
 unfold hid; rw [h]; exact if_pos rfl
theorem fG {H:Hp} {ow:hW} {a:Addr} (h:ow a=none):hid H ow a=H a:=by
 unfold hid; rw [h]; exact if_neg (by simp)
theorem De (H:Hp) (ow:hW):Same (hid H ow) H:=fun a o e=>(yD e).1
def sA (i j:Nat) (ow:hW):hW:=fun a=>match ow a with
 | some (i',t)=>if i'=i then some (j,t) else none
 | none=>none
theorem oN {i j:Nat} {ow:hW} {a:Addr} {t:Nat} (h:ow a=some (i,t)):sA i j ow a=some (j,t):=by
 unfold sA; rw [h]; exact if_pos rfl
theorem zr {i j:Nat} {ow:hW} {a:Addr} {t:Nat × Nat} (h:sA i j ow a=some t):ow a=some (i,t.2)/\t.1=j:=by
 unfold sA at h
 split at h
 ·rename_i i' t' e
  split at h
  ·rename_i z; subst z; cases h; exact ⟨e,rfl⟩
  ·cases h
 ·cases h
section
variable {K:PySem.W.Frag} {H₀ G H:Hp} {ow:hW} {i j:Nat} {m:Bool} {C p:Addr} {fs:List (Nat × Fd)}
theorem FdAt.hid {k:Nat} {m':Bool}:∀ {fd:Fd} {v:V},FdAt K H₀ G H ow i m k fd v->FdAt K (L2.hid H ow) G H ow i m' k fd v
 | .val d,v,r=>r
 | .own ds,v,⟨l,ws,e,h1,h2,h3,h4,h5⟩=>⟨l,ws,e,h1,h2,fun _=>jZ h5,h4,h5⟩
theorem FdsAt.hid {m':Bool}:∀ {fs:List (Nat × Fd)} {vs:List (Str × V)},FdsAt K H₀ G H ow i m fs vs->FdsAt K (L2.hid H ow) G H ow i m' fs vs
 | _,_,.nil=>.nil
 | _,_,.cons h nk r t=>.cons h nk (FdAt.hid r) (FdsAt.hid t)
theorem ObjAt.hid (h:ObjAt K H₀ G H ow i m C p fs) (m':Bool):ObjAt K (L2.hid H ow) G H ow i m' C p fs:=by
 obtain ⟨dx,vs,h1,h2,h3,h4,h5,h6,h7,h8⟩:=h
 exact ⟨dx,vs,h1,h2,h3,h4,fun _=>⟨jZ h6,jZ h7⟩,h6,h7,h8.hid⟩
theorem FdAt.ro {k:Nat} {H₀':Hp}:∀ {fd:Fd} {v:V},FdAt K H₀ G H ow i m k fd v->FdAt K H₀' G H ow i false k fd v
 | .val d,v,r=>r
 | .own ds,v,⟨l,ws,e,h1,h2,h3,h4,h5⟩=>⟨l,ws,e,h1,h2,fun z=>absurd z (by decide),h4,h5⟩
theorem FdsAt.ro {H₀':Hp}:∀ {fs:List (Nat × Fd)} {vs:List (Str × V)},FdsAt K H₀ G H ow i m fs vs->FdsAt K H₀' G H ow i false fs vs
 | _,_,.nil=>.nil
 | _,_,.cons h nk r t=>.cons h nk (FdAt.ro r) (FdsAt.ro t)
theorem ObjAt.ro (h:ObjAt K H₀ G H ow i m C p fs) (H₀':Hp):ObjAt K H₀' G H ow i false C p fs:=by
 obtain ⟨dx,vs,h1,h2,h3,h4,h5,h6,h7,h8⟩:=h
 exact ⟨dx,vs,h1,h2,h3,h4,fun z=>absurd z (by decide),h6,h7,h8.ro⟩
end
def cU (m:Bool) (C p:Addr) (fs:List (Nat × Fd)) (n:Nat) (ds:List D):Ev:=some (.obj m C p fs)::(ds.map (fun d=>some (.val d))++List.replicate (n - (ds.length+1)) none)
theorem qf {K:PySem.W.Frag} {H₀ G H:Hp} {ow:hW} {m:Bool} {C p:Addr} {fs:List (Nat × Fd)} {N:List Str} {us:List V} {ds:List D} (sub0:Same G H₀) (up:Up G H₀ G H) (r:Reps K G us ds) (ob:ObjAt K H₀ G H ow 0 m C p fs) :
  StR K G H₀ G H (ia N (.ref p::us)) (cU m C p fs N.length ds):=by
 have hl:=r.length
 have get:∀ (i:Nat) x,(cU m C p fs N.length ds)[i]?=some (some x)->(i=0/\x=.obj m C p fs)\/∃ k d,i=k+1/\ds[k]?=some d/\x=.val d:=fun i x e=>by
  cases i with
  | zero=>left; cases e; exact ⟨rfl,rfl⟩
  | succ k=>
   right
   unfold cU at e
   rw [List.getElem?_cons_succ] at e
   by_cases hi:k < ds.length
   ·rw [List.getElem?_append_left (by simpa using hi),List.getElem?_map] at e
    cases q:ds[k]? with
    | none=>rw [q] at e; cases e
    | some d=>rw [q] at e; cases e; exact ⟨k,d,rfl,q,rfl⟩
   ·rw [List.getElem?_append_right (by simpa using hi),List.getElem?_replicate] at e
    split at e <;> cases e
 have obs:ObSt K H₀ G H (ia N (.ref p::us)) (cU m C p fs N.length ds):=by
  refine ⟨ow,fun i es l e=>?_,fun i m' C' p' fs' e=>?_⟩
  ·rcases get i _ e with ⟨_,z⟩ | ⟨k,d,_,_,z⟩ <;> cases z
  ·rcases get i _ e with ⟨rfl,z⟩ | ⟨k,d,_,_,z⟩
   ·cases z; exact ⟨rfl,ob⟩
   ·cases z
 refine ⟨⟨up.sub,?_,fun i d e=>?_,obs.rd⟩,sub0,up,fun i es e=>?_,fun i j es fs l e=>?_,obs⟩
 ·simp [ia,cU,hl]
 ·rcases get i _ e with ⟨_,z⟩ | ⟨k,d',rfl,e',z⟩
  ·cases z
  ·cases z
   obtain ⟨v,ev,rv⟩:=r.get e'
   refine ⟨v,?_,rv⟩
   unfold ia
   rw [List.map_cons,List.cons_append,List.getElem?_cons_succ,List.getElem?_append_left (by have:=(List.getElem?_eq_some_iff.mp ev).1; simpa using this),List.getElem?_map,ev]
   rfl
 ·rcases get i _ e with ⟨_,z⟩ | ⟨k,d,_,_,z⟩ <;> cases z
 ·rcases get i _ e with ⟨_,z⟩ | ⟨k,d,_,_,z⟩ <;> cases z
inductive RM where
 | ok (d:D) (fs:List (Nat × Fd)) | rd (d:D) | ex (C:Addr) | no
abbrev MF:=List (Nat × Fd)->List D->RM
def dA (C:Addr) (g:Ev->O) (n:Nat) (F:MF):Prop:=∀ p fs ds,match F fs ds with
 | .ok d fs'=>∃ ρ',ρ'[0]?=some (some (.obj true C p fs'))/\(g (cU true C p fs n ds)=.re d ρ'\/(g (cU true C p fs n ds)=.nx ρ'/\d=.non))
 | .rd d=>g (cU false C p fs n ds)=.rt d
 | .ex E=>∃ ρ',g (cU false C p fs n ds)=.ex E ρ'
 | .no=>True
def spM (K:PySem.W.Frag) (C:Addr) (F:MF):Sp:=fun vs H Q E=>∃ G p us ds fs ow,vs=.ref p::us/\Reps K G us ds/\Same G H/\(∀ a t,ow a=some t->G a=none)/\ObjAt K (fun _=>none) G H ow 0 true C p fs/\match F fs ds with
 | .ok d fs'=>∀ v G' H' ow',Up G (hid H ow) G' H'->ObjAt K (hid H ow) G' H' ow' 0 true C p fs'->Rep K G' v d->Q v H'
 | .rd d=>∀ v G' H',Up G H G' H'->Rep K G' v d->Q v H'
 | .ex C'=>∀ G' H',Up G H G' H'->E (.ref C') none H'
 | .no=>False
abbrev FnM (P:Program) (w:World) (K:PySem.W.Frag) (mg:Str->Option Value) (base:Heap) (k:Nat) (f:Addr) (fd:FuncData) (ps:List Str) (C:Addr) (F:MF):Prop:=FnOk P w K mg base (CXo P w) k f fd ps (fun vs H Q E=>vs.length=ps.length/\spM K C F vs H Q E)
theorem EE {G H:Hp} {ow:hW} (sub:Same G H) (hg:∀ a t,ow a=some t->G a=none):Same G (hid H ow)/\Up G (hid H ow) G H:=by
 have s:Same G (hid H ow):=fun a o e=>by
  cases q:ow a with
  | none=>rw [fG q]; exact sub a o e
  | some t=>rw [hg a t q] at e; cases e
 exact ⟨s,sub,.refl _,De H ow,fun _ _ e=>.inl e⟩
theorem Fun.okM_0 {P:Program} {w:World} {K:PySem.W.Frag} {mg:Str->Option Value} {base:Heap} {x qual:Str} {st:Stmt} {f:Addr} {fd:FuncData} {N ps:List Str} {k:Nat} {C:Addr} {F:MF} (Fn:Fun K x qual st f fd) (S:FnScope N ps (ar st)) {g:Ev->O} (ok:dA C g N.length F)
  (hbody:∀ (cdv:Value) (A:Around) (outer:List Env) (s:Shared) (H:Hp) (E:XK),Room k (A.deeper (envOfC qual (ar st) s.heap.objs.size f cdv))->nv (ib (CXo P w) P w K mg base N qual (ar st) f cdv A outer s H E) (cr st) g) :
  FnM P w K mg base (k+1) f fd ps C F:=by
 obtain ⟨oc,od,kV,doc,pm,an,cdv,ct,osl,rfl,lk,hcd⟩:=Fn.ex
 refine BV lk hcd S (fun vs H Q E h=>h.1) fun A outer s H vs Q E hr hsp=>?_
 obtain ⟨hl,G,p,us,ds,fs,ow,rfl,r,sub,og,ob,h⟩:=hsp
 have o:=ok p fs ds
 have rdo:StR K G H G H (ia N (.ref p::us)) (cU false C p fs N.length ds):=qf sub (.refl sub) r (ob.ro H)
 cases q:F fs ds with
 | no=>rw [q] at h; exact h.elim
 | rd d=>
  rw [q] at h o
  refine ⟨_,hbody cdv A outer s H E hr G H,G,_,rdo,?_⟩
  have o:g (cU false C p fs N.length ds)=.rt d:=o
  rw [o]
  exact fun v G' H' u rv=>h v G' H' u rv
 | ex C'=>
  rw [q] at h o
  obtain ⟨ρ',o⟩:=o
  refine ⟨_,hbody cdv A outer s H E hr G H,G,_,rdo,?_⟩
  rw [o]
  exact fun e s' fl=>oa fl h
 | ok d fs'=>
  rw [q] at h o
  obtain ⟨ρ',e0,o⟩:=o
  obtain ⟨s0,u0⟩:=EE sub og
  refine ⟨_,hbody cdv A outer s H E hr G (hid H ow),G,cU true C p fs N.length ds,qf s0 u0 r (ob.hid true),?_⟩
  have fin:∀ σ G' H',StR K G (hid H ow) G' H' σ ρ'->∃ ow',ObjAt K (hid H ow) G' H' ow' 0 true C p fs':=fun σ G' H' sr=>by
   obtain ⟨ow',_,o2⟩:=sr.ob
   exact ⟨ow',(o2 0 true C p fs' e0).2⟩
  rcases o with o | ⟨o,rfl⟩
  ·rw [o]
   intro v σ G' H' sr rv
   obtain ⟨ow',z⟩:=fin σ G' H' sr
   exact h v G' H' ow' sr.up z rv
  ·rw [o]
   intro σ G' H' sr
   obtain ⟨ow',z⟩:=fin σ G' H' sr
   exact h .non G' H' ow' sr.up z .non
noncomputable def ni (i:Nat) (m:Bool) (H₀ G H:Hp) (ow:hW):hW:=fun a=>open Classical in if (∃ o,H a=some o)/\G a=none/\(m=true->H₀ a=none) then sA i 0 ow a else none
section
variable {K:PySem.W.Frag} {H₀ G H:Hp} {ow:hW} {i:Nat} {m:Bool} {C p:Addr} {fs:List (Nat × Fd)}
theorem rh {a:Addr} {t:Nat} {o:HO} (h:ow a=some (i,t)) (e:H a=some o) (g:G a=none) (z:m=true->H₀ a=none):ni i m H₀ G H ow a=some (0,t):=by
 unfold ni; rw [if_pos ⟨⟨o,e⟩,g,z⟩]; exact oN h
theorem hJ {a:Addr} {t:Nat × Nat} (h:ni i m H₀ G H ow a=some t):ow a=some (i,t.2)/\(∃ o,H a=some o)/\G a=none/\(m=true->H₀ a=none):=by
 unfold ni at h
 split at h
 ·rename_i q; exact ⟨(zr h).1,q⟩
 ·cases h
theorem FdAt.cut {k:Nat}:∀ {fd:Fd} {v:V},FdAt K H₀ G H ow i m k fd v->FdAt K (fun _=>none) G H (ni i m H₀ G H ow) 0 true k fd v
 | .val d,v,r=>r
 | .own ds,v,⟨l,ws,e,h1,h2,h3,h4,h5⟩=>⟨l,ws,e,h1,h2,fun _=>rfl,h4,rh h5 h1 h2 h3⟩
theorem FdsAt.cut:∀ {fs:List (Nat × Fd)} {vs:List (Str × V)},FdsAt K H₀ G H ow i m fs vs->FdsAt K (fun _=>none) G H (ni i m H₀ G H ow) 0 true fs vs
 | _,_,.nil=>.nil
 | _,_,.cons h nk r t=>.cons h nk (FdAt.cut r) (FdsAt.cut t)
theorem ObjAt.cut (h:ObjAt K H₀ G H ow i m C p fs):ObjAt K (fun _=>none) G H (ni i m H₀ G H ow) 0 true C p fs:=by
 obtain ⟨dx,vs,h1,h2,h3,h4,h5,h6,h7,h8⟩:=h
 exact ⟨dx,vs,h1,h2,h3,h4,fun _=>⟨rfl,rfl⟩,rh h6 h1 h3 fun z=>(h5 z).1,rh h7 h2 h4 fun z=>(h5 z).2,h8.cut⟩
end
section
variable {K:PySem.W.Frag} {H₀ H₀' G H:Hp} {ow ow2:hW} {i:Nat} {C p:Addr}
theorem FdAt.newtag (h:∀ a t,ow a=some (0,t)->H₀ a=none->ow2 a=some (i,t)) (z:∀ a,H₀ a=none->H₀' a=none) {k:Nat}:∀ {fd:Fd} {v:V},FdAt K H₀ G H ow 0 true k fd v->FdAt K H₀' G H ow2 i true k fd v
 | .val d,v,r=>r
 | .own ds,v,⟨l,ws,e,h1,h2,h3,h4,h5⟩=>⟨l,ws,e,h1,h2,fun _=>z l (h3 rfl),h4,h l _ h5 (h3 rfl)⟩
theorem FdsAt.newtag (h:∀ a t,ow a=some (0,t)->H₀ a=none->ow2 a=some (i,t)) (z:∀ a,H₀ a=none->H₀' a=none):∀ {fs:List (Nat × Fd)} {vs:List (Str × V)},FdsAt K H₀ G H ow 0 true fs vs->FdsAt K H₀' G H ow2 i true fs vs
 | _,_,.nil=>.nil
 | _,_,.cons k nk r t=>.cons k nk (FdAt.newtag h z r) (FdsAt.newtag h z t)
theorem ObjAt.newtag {fs:List (Nat × Fd)} (h:∀ a t,ow a=some (0,t)->H₀ a=none->ow2 a=some (i,t)) (z:∀ a,H₀ a=none->H₀' a=none) (o:ObjAt K H₀ G H ow 0 true C p fs):ObjAt K H₀' G H ow2 i true C p fs:=by
 obtain ⟨dx,vs,h1,h2,h3,h4,h5,h6,h7,h8⟩:=o
 exact ⟨dx,vs,h1,h2,h3,h4,fun _=>⟨z p (h5 rfl).1,z dx (h5 rfl).2⟩,h p _ h6 (h5 rfl).1,h dx _ h7 (h5 rfl).2,h8.newtag h z⟩
end
theorem StR.meth {K:PySem.W.Frag} {G₀ H₀ G H G' H':Hp} {σ:St} {ρ:Ev} {i:Nat} {C p:Addr} {fs fs':List (Nat × Fd)} {ow ow':hW} (s:StR K G₀ H₀ G H σ ρ) (e:ρ[i]?=some (some (.obj true C p fs))) (o1:∀ (j:Nat) ds l,ρ[j]?=some (some (.own ds))->σ[j]?=some (some (.ref l))->ow l=some (j,0))
  (o2:∀ (j:Nat) m C p fs,ρ[j]?=some (some (.obj m C p fs))->σ[j]?=some (some (.ref p))/\ObjAt K H₀ G H ow j m C p fs)
  (u:Up G (hid H (ni i true H₀ G H ow)) G' H') (ob:ObjAt K (hid H (ni i true H₀ G H ow)) G' H' ow' 0 true C p fs'):StR K G₀ H₀ G' H' σ (ρ.set i (some (.obj true C p fs'))):=by
 have hl:i < ρ.length:=(List.getElem?_eq_some_iff.mp e).1
 have get:∀ (j:Nat) x,(ρ.set i (some (.obj true C p fs')))[j]?=some (some x)->(j=i/\x=.obj true C p fs')\/(j ≠ i/\ρ[j]?=some (some x)):=fun j x h=>by
  by_cases z:i=j
  ·subst z
   rw [List.getElem?_set_self hl] at h
   exact .inl ⟨rfl,by injection (Option.some.inj h) with q; exact q.symm⟩
  ·rw [List.getElem?_set_ne z] at h
   exact .inr ⟨fun q=>z q.symm,h⟩
 have keep:∀ a o,H a=some o->ni i true H₀ G H ow a=none->H' a=some o:=fun a o q n=>u.hh a o (by rw [fG n]; exact q)
 have out0:∀ a,H₀ a ≠ none->ni i true H₀ G H ow a=none:=fun a q=>by
  cases z:ni i true H₀ G H ow a with
  | none=>rfl
  | some t=>exact absurd ((hJ z).2.2.2 rfl) q
 have outT:∀ a j t,j ≠ i->ow a=some (j,t)->ni i true H₀ G H ow a=none:=fun a j t nj q=>by
  cases z:ni i true H₀ G H ow a with
  | none=>rfl
  | some t'=>have:=(hJ z).1; rw [q] at this; cases this; exact absurd rfl nj
 have gn:∀ a o,H a=some o->G a=none->ni i true H₀ G H ow a=none->G' a=none:=fun a o q g n=>by
  cases z:G' a with
  | none=>rfl
  | some o'=>
   rcases u.fr a o' z with z | z
   ·rw [g] at z; cases z
   ·rw [fG n,q] at z; cases z
 have up:Up G₀ H₀ G' H':=by
  refine ⟨u.sub,s.up.gg.trans u.gg,fun a o q=>keep a o (s.up.hh a o q) (out0 a (by rw [q]; simp)),fun a o q=>?_⟩
  rcases u.fr a o q with z | z
  ·exact s.up.fr a o z
  ·by_cases n:ni i true H₀ G H ow a=none
   ·rw [fG n] at z; exact .inr (s.up.hh.free z)
   ·cases y:ni i true H₀ G H ow a with
    | none=>exact absurd y n
    | some t=>exact .inr ((hJ y).2.2.2 rfl)
 have ob':ObSt K H₀ G' H' σ (ρ.set i (some (.obj true C p fs'))):=by
  refine ⟨fun a=>open Classical in if hid H (ni i true H₀ G H ow) a=none then sA 0 i ow' a else ow a,fun j ds l h1 h2=>?_,fun j m' C' p' fs'' h1=>?_⟩
  ·rcases get j _ h1 with ⟨_,z⟩ | ⟨nj,f1⟩
   ·cases z
   ·have ol:=o1 j ds l f1 h2
    obtain ⟨l2,vs,q1,q2,_⟩:=s.own j ds f1
    rw [h2] at q1; cases q1
    have n:=outT l j 0 nj ol
    refine (if_neg ?_).trans ol
    rw [fG n,q2]; simp
  ·rcases get j _ h1 with ⟨rfl,z⟩ | ⟨nj,f1⟩
   ·cases z
    refine ⟨(o2 j true C p fs e).1,?_⟩
    refine ob.newtag (fun a t q n=>(if_pos n).trans (oN q)) fun a n=>?_
    by_cases y:ni j true H₀ G H ow a=none
    ·rw [fG y] at n; exact s.up.hh.free n
    ·cases y':ni j true H₀ G H ow a with
     | none=>exact absurd y' y
     | some t=>exact (hJ y').2.2.2 rfl
   ·refine ⟨(o2 j m' C' p' fs'' f1).1,(o2 j m' C' p' fs'' f1).2.keep ⟨fun a t o q1 q=>keep a o q (outT a j t nj q1),u.gg,fun a t o q1 q n=>gn a o q n (outT a j t nj q1),fun a t o q1 q=>?_,fun a o _ _ n=>n⟩⟩
    refine (if_neg ?_).trans q1
    rw [fG (outT a j t nj q1),q]; simp
 refine ⟨⟨u.sub,by simp [s.e.len],fun j d h=>?_,ob'.rd⟩,s.sub0,up,fun j ds h=>?_,fun j k ds es l q1 q2 q3 q4=>?_,ob'⟩
 ·rcases get j _ h with ⟨_,z⟩ | ⟨_,f1⟩
  ·cases z
  ·obtain ⟨v,p1,p2⟩:=s.e.val j d f1
   exact ⟨v,p1,p2.mono u.gg⟩
 ·rcases get j _ h with ⟨_,z⟩ | ⟨nj,f1⟩
  ·cases z
  ·obtain ⟨l,vs,p1,p2,p3,p4,p5⟩:=s.own j ds f1
   have n:=outT l j 0 nj (o1 j ds l f1 p1)
   exact ⟨l,vs,p1,keep l _ p2 n,gn l _ p2 p3 n,p4,p5.mono u.gg⟩
 ·rcases get j _ q1 with ⟨_,z⟩ | ⟨nj,f1⟩
  ·cases z
  ·rcases get k _ q2 with ⟨_,z⟩ | ⟨nk,f2⟩
   ·cases z
   ·exact s.inj j k ds es l f1 f2 q3 q4
end L2
namespace L2
open PySem PySem.Spec PyProof.Rows
theorem kL:∀ j,j < fnames.length->∀ k,k < fnames.length->bP j=bP k->j=k:=by decide +kernel
def nu (k:Nat) (fd:Fd):List (Nat × Fd)->List (Nat × Fd)
 | []=>[(k,fd)]
 | (j,x)::r=>if j=k then (j,fd)::r else (j,x)::nu k fd r
theorem kE {k j:Nat} {fd:Fd} (h:j ≠ k):∀ {fs:List (Nat × Fd)},fs.lookup j=none->(nu k fd fs).lookup j=none
 | [],_=>by
  have z:(j==k)=false:=by simp [h]
  simp only [nu,List.lookup_cons,z,List.lookup_nil]
 | (a,x)::r,e=>by
  have ha:(j==a)=false:=by
   cases q:j==a with
   | false=>rfl
   | true=>simp only [List.lookup_cons,q] at e; cases e
  have er:r.lookup j=none:=by simpa only [List.lookup_cons,ha] using e
  unfold nu
  by_cases z:a=k
  ·rw [if_pos z]; simpa only [List.lookup_cons,ha] using er
  ·rw [if_neg z]; simp only [List.lookup_cons,ha]; exact kE h er
section
variable {K:PySem.W.Frag} {H₀ G H:Hp} {ow:hW} {i:Nat} {m:Bool} {k:Nat}
theorem FdsAt.keys:∀ {fs:List (Nat × Fd)} {vs:List (Str × V)},FdsAt K H₀ G H ow i m fs vs->∀ j fd,fs.lookup j=some fd->j < fnames.length
 | _,_,.nil,j,fd,e=>by simp at e
 | _,_,.cons (k:=a) h nk r t,j,fd,e=>by
  cases q:j==a with
  | true=>rw [beq_iff_eq.mp q]; exact h
  | false=>simp only [List.lookup_cons,q] at e; exact FdsAt.keys t j fd e
theorem FdsAt.get:∀ {fs:List (Nat × Fd)} {vs:List (Str × V)} {fd:Fd},FdsAt K H₀ G H ow i m fs vs->fs.lookup k=some fd->∃ v,vs.lookup (bP k)=some v/\FdAt K H₀ G H ow i m k fd v
 | _,_,_,.nil,e=>by simp at e
 | _,_,fd,.cons (k:=a) h nk r t,e=>by
  cases q:k==a with
  | true=>
   have z:=beq_iff_eq.mp q
   subst z
   simp only [List.lookup_cons,q] at e
   cases e
   exact ⟨_,by simp [List.lookup_cons],r⟩
  | false=>
   simp only [List.lookup_cons,q] at e
   obtain ⟨v,e1,e2⟩:=FdsAt.get t e
   have hk:=t.keys k fd e
   have ne:(bP k==bP a)=false:=by
    cases z:bP k==bP a with
    | false=>rfl
    | true=>have:=kL k hk a h (eq_of_beq z); rw [this] at q; simp at q
   exact ⟨v,by simp only [List.lookup_cons,ne]; exact e1,e2⟩
theorem FdsAt.put {fd:Fd} {v:V} (hk:k < fnames.length) (r:FdAt K H₀ G H ow i m k fd v):∀ {fs:List (Nat × Fd)} {vs:List (Str × V)},FdsAt K H₀ G H ow i m fs vs->FdsAt K H₀ G H ow i m (nu k fd fs) (mL (bP k) v vs)
 | _,_,.nil=>.cons hk rfl r .nil
 | _,_,.cons (k:=a) h nk r' t=>by
  unfold nu mL
  by_cases z:a=k
  ·subst z
   rw [if_pos rfl,if_pos rfl]
   exact .cons h nk r t
  ·rw [if_neg z,if_neg (fun q=>z (kL a h k hk q))]
   exact .cons h (kE (fun q=>z q) nk) r' (FdsAt.put hk r t)
theorem FdsAt.len:∀ {fs:List (Nat × Fd)} {vs:List (Str × V)},FdsAt K H₀ G H ow i m fs vs->vs.length=fs.length
 | _,_,.nil=>rfl
 | _,_,.cons h nk r t=>by simp [FdsAt.len t]
theorem FdsAt.keepL {H':Hp} {ow2:hW} (h:∀ l ws,H l=some (.lst ws)->H' l=some (.lst ws)/\ow2 l=ow l):∀ {fs:List (Nat × Fd)} {vs:List (Str × V)},FdsAt K H₀ G H ow i m fs vs->FdsAt K H₀ G H' ow2 i m fs vs
 | _,_,.nil=>.nil
 | _,_,.cons (fd:=fd) hk nk r t=>.cons hk nk (by
   cases fd with
   | val d=>exact r
   | own ds=>
    obtain ⟨l,ws,e,h1,h2,h3,h4,h5⟩:=r
    exact ⟨l,ws,e,(h l ws h1).1,h2,h3,h4,by rw [(h l ws h1).2]; exact h5⟩) (FdsAt.keepL h t)
theorem FdsAt.mutL {l:Addr} {us:List V} {es:List D} (re:Reps K G us es) (ol:ow l=some (i,k+1)) (gl:G l=none) (hl:m=true->H₀ l=none):∀ {fs:List (Nat × Fd)} {vs:List (Str × V)} {ds:List D},FdsAt K H₀ G H ow i m fs vs->fs.lookup k=some (.own ds)->vs.lookup (bP k)=some (.ref l)->
  FdsAt K H₀ G (upd H l (.lst us)) ow i m (nu k (.own es) fs) vs
 | _,_,_,.nil,e,_=>by simp at e
 | _,_,ds,.cons (k:=a) (fd:=fd) (v:=v) (fs:=fs) (vs:=vs) h nk r t,e,e2=>by
  have stay:∀ {j:Nat} {fd:Fd} {v:V},j ≠ k->FdAt K H₀ G H ow i m j fd v->FdAt K H₀ G (upd H l (.lst us)) ow i m j fd v:=fun {j fd v} nj q=>by
   cases fd with
   | val d=>exact q
   | own ds=>
    obtain ⟨l',ws,e,h1,h2,h3,h4,h5⟩:=q
    refine ⟨l',ws,e,?_,h2,h3,h4,h5⟩
    rw [aJ]; exact h1
    intro z; rw [z,ol] at h5; cases h5; exact nj rfl
  have stays:∀ {fs:List (Nat × Fd)} {vs:List (Str × V)},fs.lookup k=none->FdsAt K H₀ G H ow i m fs vs->FdsAt K H₀ G (upd H l (.lst us)) ow i m fs vs:=by
   intro fs vs n q
   induction q with
   | nil=>exact .nil
   | @cons b fd' v' fs' vs' h' nk' r' t' ih=>
    have nb:(k==b)=false:=by
     cases z:k==b with
     | false=>rfl
     | true=>simp only [List.lookup_cons,z] at n; cases n
    have nt:fs'.lookup k=none:=by simpa only [List.lookup_cons,nb] using n
    exact .cons h' nk' (stay (fun z=>by rw [z] at nb; simp at nb) r') (ih nt)
  unfold nu
  by_cases z:a=k
  ·subst z
   rw [if_pos rfl]
   have ev:v=.ref l:=by simpa [List.lookup_cons] using e2
   subst ev
   exact .cons h nk ⟨l,us,rfl,bc,gl,hl,re,ol⟩ (stays nk t)
  ·rw [if_neg z]
   have q1:(k==a)=false:=by simp; exact fun q=>z q.symm
   have e':fs.lookup k=some (.own ds):=by simpa only [List.lookup_cons,q1] using e
   have hk:=t.keys k _ e'
   have q2:(bP k==bP a)=false:=by
    cases y:bP k==bP a with
    | false=>rfl
    | true=>exact absurd (kL k hk a h (eq_of_beq y)) fun q=>z q.symm
   have e2':vs.lookup (bP k)=some (.ref l):=by simpa only [List.lookup_cons,q2] using e2
   exact .cons h (kE z nk) (stay z r) (FdsAt.mutL re ol gl hl t e' e2')
end
theorem StR.objTo {K:PySem.W.Frag} {G₀ H₀ G H H':Hp} {σ:St} {ρ:Ev} {i:Nat} {C p:Addr} {fs fs':List (Nat × Fd)} {ow ow2:hW} (s:StR K G₀ H₀ G H σ ρ) (e:ρ[i]?=some (some (.obj true C p fs))) (o1:∀ (j:Nat) ds l,ρ[j]?=some (some (.own ds))->σ[j]?=some (some (.ref l))->ow l=some (j,0))
  (o2:∀ (j:Nat) m C p fs,ρ[j]?=some (some (.obj m C p fs))->σ[j]?=some (some (.ref p))/\ObjAt K H₀ G H ow j m C p fs)
  (hh:∀ a o,H a=some o->(∀ t,ow a ≠ some (i,t))->H' a=some o) (h0:Same H₀ H') (sub:Same G H') (oo:∀ a j t o,j ≠ i->ow a=some (j,t)->H a=some o->ow2 a=some (j,t)) (ob:ObjAt K H₀ G H' ow2 i true C p fs'):StR K G₀ H₀ G H' σ (ρ.set i (some (.obj true C p fs'))):=by
 have hl:i < ρ.length:=(List.getElem?_eq_some_iff.mp e).1
 have get:∀ (j:Nat) x,(ρ.set i (some (.obj true C p fs')))[j]?=some (some x)->(j=i/\x=.obj true C p fs')\/(j ≠ i/\ρ[j]?=some (some x)):=fun j x h=>by
  by_cases z:i=j
  ·subst z
   rw [List.getElem?_set_self hl] at h
   exact .inl ⟨rfl,by injection (Option.some.inj h) with q; exact q.symm⟩
  ·rw [List.getElem?_set_ne z] at h
   exact .inr ⟨fun q=>z q.symm,h⟩
 have ob':ObSt K H₀ G H' σ (ρ.set i (some (.obj true C p fs'))):=by
  refine ⟨ow2,fun j ds l h1 h2=>?_,fun j m' C' p' fs'' h1=>?_⟩
  ·rcases get j _ h1 with ⟨_,z⟩ | ⟨nj,f1⟩
   ·cases z
   ·obtain ⟨l2,vs,q1,q2,_⟩:=s.own j ds f1
    rw [h2] at q1; cases q1
    exact oo l j 0 _ nj (o1 j ds l f1 h2) q2
  ·rcases get j _ h1 with ⟨rfl,z⟩ | ⟨nj,f1⟩
   ·cases z; exact ⟨(o2 j true C p fs e).1,ob⟩
   ·exact ⟨(o2 j m' C' p' fs'' f1).1,(o2 j m' C' p' fs'' f1).2.keep ⟨fun a t o q1 q=>hh a o q (fun t' z=>by rw [q1] at z; cases z; exact nj rfl),.refl _,fun a t o _ _ n=>n,fun a t o q1 q=>oo a j t o nj q1 q,fun a o _ _ n=>n⟩⟩
 refine ⟨⟨sub,by simp [s.e.len],fun j d h=>?_,ob'.rd⟩,s.sub0,⟨sub,s.up.gg,h0,s.up.fr⟩,fun j ds h=>?_,fun j k ds es l q1 q2 q3 q4=>?_,ob'⟩
 ·rcases get j _ h with ⟨_,z⟩ | ⟨_,f1⟩
  ·cases z
  ·exact s.e.val j d f1
 ·rcases get j _ h with ⟨_,z⟩ | ⟨nj,f1⟩
  ·cases z
  ·obtain ⟨l,vs,p1,p2,p3,p4,p5⟩:=s.own j ds f1
   exact ⟨l,vs,p1,hh l _ p2 (fun t z=>by rw [o1 j ds l f1 p1] at z; cases z; exact nj rfl),p3,p4,p5⟩
 ·rcases get j _ q1 with ⟨_,z⟩ | ⟨nj,f1⟩
  ·cases z
  ·rcases get k _ q2 with ⟨_,z⟩ | ⟨nk,f2⟩
   ·cases z
   ·exact s.inj j k ds es l f1 f2 q3 q4
section
variable {K:PySem.W.Frag} {G₀ H₀ G H:Hp} {σ:St} {ρ:Ev} {i k:Nat} {C p dx:Addr} {fs:List (Nat × Fd)} {vs:List (Str × V)}
theorem StR.fmut (s:StR K G₀ H₀ G H σ ρ) (e:ρ[i]?=some (some (.obj true C p fs))) {ds es:List D} {us:List V} (ek:fs.lookup k=some (.own ds)) (re:Reps K G us es) {l:Addr} (hp:H p=some (.ins C dx vs)) (el:vs.lookup (bP k)=some (.ref l)) :
  StR K G₀ H₀ G (upd H l (.lst us)) σ (ρ.set i (some (.obj true C p (nu k (.own es) fs)))):=by
 obtain ⟨ow,o1,o2⟩:=s.ob
 obtain ⟨_,dx',vs',h1,h2,h3,h4,h5,h6,h7,h8⟩:=o2 i true C p fs e
 rw [hp] at h1; cases h1
 obtain ⟨v,e1,l',ws,ev,g1,g2,g3,g4,g5⟩:=h8.get ek
 rw [el] at e1; cases e1; cases ev
 have np:∀ {a:Addr} {o:HO},H a=some o->(∀ xs,o ≠ .lst xs)->a ≠ l:=fun q n z=>by rw [z,g1] at q; cases q; exact n _ rfl
 refine s.objTo e o1 o2 (ow2:=ow) (fun a o q n=>?_) (fun a o q=>?_) (fun a o q=>?_) (fun a j t o _ q _=>q) ?_
 ·rw [aJ (fun z=>n _ (z ▸ g5))]; exact q
 ·rw [aJ (fun z=>by rw [z,g3 rfl] at q; cases q)]; exact s.up.hh a o q
 ·rw [aJ (fun z=>by rw [z,g2] at q; cases q)]; exact s.e.sub a o q
 ·refine ⟨dx,vs,?_,?_,h3,h4,h5,h6,h7,h8.mutL re g5 g2 g3 ek el⟩
  ·rw [aJ (np hp fun _ z=>by cases z)]; exact hp
  ·rw [aJ (np h2 fun _ z=>by cases z)]; exact h2
theorem StR.fputL (s:StR K G₀ H₀ G H σ ρ) (e:ρ[i]?=some (some (.obj true C p fs))) (hk:k < fnames.length) {l:Addr} {us:List V} {ds:List D} (hl:H l=none) (r:Reps K G us ds) (hp:H p=some (.ins C dx vs)) :
  StR K G₀ H₀ G (upd (upd H l (.lst us)) p (.ins C dx (mL (bP k) (.ref l) vs))) σ (ρ.set i (some (.obj true C p (nu k (.own ds) fs)))):=by
 obtain ⟨ow,o1,o2⟩:=s.ob
 obtain ⟨_,dx',vs',h1,h2,h3,h4,h5,h6,h7,h8⟩:=o2 i true C p fs e
 rw [hp] at h1; cases h1
 have nl:∀ {a:Addr} {o:HO},H a=some o->a ≠ l:=fun q z=>by rw [z,hl] at q; cases q
 have gl:G l=none:=s.e.sub.free hl
 have h0l:H₀ l=none:=s.up.hh.free hl
 refine s.objTo e o1 o2 (ow2:=fun a=>if a=l then some (i,k+1) else ow a) (fun a o q n=>?_) (fun a o q=>?_) (fun a o q=>?_) (fun a j t o _ q q2=>(if_neg (nl q2)).trans q) ?_
 ·rw [aJ (fun z=>n _ (z ▸ h6)),aJ (nl q)]; exact q
 ·rw [aJ (fun z=>by rw [z,(h5 rfl).1] at q; cases q),aJ (nl (s.up.hh a o q))]; exact s.up.hh a o q
 ·rw [aJ (fun z=>by rw [z,h3] at q; cases q),aJ (nl (s.e.sub a o q))]; exact s.e.sub a o q
 ·refine ⟨dx,_,bc,?_,h3,h4,h5,(if_neg (nl hp)).trans h6,(if_neg (nl h2)).trans h7,?_⟩
  ·rw [aJ (fun z=>by rw [z,hp] at h2; cases h2),aJ (nl h2)]; exact h2
  ·refine FdsAt.put (fd:=.own ds) hk ⟨l,us,rfl,?_,gl,fun _=>h0l,r,if_pos rfl⟩ (h8.keepL fun l' ws q=>⟨?_,if_neg (nl q)⟩)
   ·rw [aJ (fun z=>nl hp z.symm),bc]
   ·rw [aJ (fun z=>by rw [z,hp] at q; cases q),aJ (nl q)]; exact q
end
end L2
namespace L2
open PySem PySem.Spec PyProof.Rows
def oO (C:Addr) (ρ:Ev) (i:Nat):R (List (Nat × Fd)):=match ρ[i]? with
 | some (some (.obj _ C' _ fs))=>if C'=C then .ok fs else .no
 | _=>.no
def nq (C:Addr) (ρ:Ev) (i:Nat):R (Addr × List (Nat × Fd)):=match ρ[i]? with
 | some (some (.obj true C' p fs))=>if C'=C then .ok (p,fs) else .no
 | _=>.no
def fldL (fs:List (Nat × Fd)) (k:Nat):R (List D):=match fs.lookup k with
 | some (.own ds)=>.ok ds
 | _=>.no
def pA (C:Addr) (i k:Nat) (gb:Ev->R D):Ev->R D:=fun ρ=>oO C ρ i>>=fun fs=>fldL fs k>>=fun ds=>gb ρ>>=fun d=>ofO (ixD (.lst false ds) d)
def nY (C:Addr) (i k:Nat):Ev->R D:=fun ρ=>oO C ρ i>>=fun fs=>fldL fs k>>=fun ds=>.ok (.int ds.length)
def wl (C:Addr) (i k:Nat) (ga:Ev->R D):Ev->O:=fun ρ=>(nq C ρ i).out ρ fun o=>(fldL o.2 k).out ρ fun ds=>(ga ρ).out ρ fun d=>if ds.length < sizeLine then .nx (ρ.set i (some (.obj true C o.1 (nu k (.own (ds++[d])) o.2)))) else .no
def vk (C:Addr) (i k j:Nat):Ev->O:=fun ρ=>(nq C ρ i).out ρ fun o=>(fldL o.2 k).out ρ fun ds=>match ds.getLast? with
 | some d=>if i ≠ j then .nx ((ρ.set i (some (.obj true C o.1 (nu k (.own ds.dropLast) o.2)))).set j (some (.val d))) else .no
 | none=>.no
def uK (C:Addr) (i k:Nat) (gl:Ev->R (List D)):Ev->O:=fun ρ=>(nq C ρ i).out ρ fun o=>(gl ρ).out ρ fun ds=>if o.2.length < 900 then .nx (ρ.set i (some (.obj true C o.1 (nu k (.own ds) o.2)))) else .no
def xI (ga:Ev->R D):Ev->O:=fun ρ=>(ga ρ).out ρ fun d=>.re d ρ
structure CF (K:PySem.W.Frag) (C:Addr) (ks:List Nat):Prop where
 cl:Cls K C
 na:∀ k ∈ ks,k < fnames.length/\NoAttr K C (bP k)
theorem qD {C:Addr} {ρ:Ev} {i:Nat} {α:Type} {k:List (Nat × Fd)->R α} {P:α->Prop} {E:Addr->Prop} (h:(oO C ρ i>>=k).post P E):∃ m p fs,ρ[i]?=some (some (.obj m C p fs))/\(k fs).post P E:=by
 unfold oO at h
 split at h
 ·rename_i m C' p fs e
  by_cases z:C'=C
  ·subst z; rw [if_pos rfl] at h; exact ⟨m,p,fs,e,h⟩
  ·rw [if_neg z] at h; exact h.elim
 ·exact h.elim
theorem wM {fs:List (Nat × Fd)} {n:Nat} {α:Type} {k:List D->R α} {P:α->Prop} {E:Addr->Prop} (h:(fldL fs n>>=k).post P E):∃ ds,fs.lookup n=some (.own ds)/\(k ds).post P E:=by
 unfold fldL at h
 split at h
 ·rename_i ds e; exact ⟨ds,e,h⟩
 ·exact h.elim
theorem kW {X:Cx} {G₀ H₀:Hp} {D:Ends} {C:Addr} {ρ:Ev} {i:Nat} {k:Addr × List (Nat × Fd)->O} (h:oG X G₀ H₀ D ((nq C ρ i).out ρ k)):∃ p fs,ρ[i]?=some (some (.obj true C p fs))/\oG X G₀ H₀ D (k (p,fs)):=by
 unfold nq at h
 split at h
 ·rename_i C' p fs e
  by_cases z:C'=C
  ·subst z; rw [if_pos rfl] at h; exact ⟨p,fs,e,h⟩
  ·rw [if_neg z] at h; exact h.elim
 ·exact h.elim
theorem tx {X:Cx} {G₀ H₀:Hp} {D:Ends} {fs:List (Nat × Fd)} {n:Nat} {ρ:Ev} {k:List L2.D->O} (h:oG X G₀ H₀ D ((fldL fs n).out ρ k)):∃ ds,fs.lookup n=some (.own ds)/\oG X G₀ H₀ D (k ds):=by
 unfold fldL at h
 split at h
 ·rename_i ds e; exact ⟨ds,e,h⟩
 ·exact h.elim
section
variable {X:Cx} {e b:Expr} {es:List Expr} {ga gb:Ev->R D} {gl:Ev->R (List D)} {x f:Str} {i k:Nat} {C:Addr} {ks:List Nat} {p1 p2 p3 pos ap cp:Pos}
theorem StE.fldL {K:PySem.W.Frag} {G H:Hp} {σ:St} {ρ:Ev} {m:Bool} {p:Addr} {fs:List (Nat × Fd)} {ds:List D} (st:StE K G H σ ρ) (e:ρ[i]?=some (some (.obj m C p fs))) (ek:fs.lookup k=some (.own ds)) :
  ∃ dx vs l ws,σ[i]?=some (some (.ref p))/\H p=some (.ins C dx vs)/\vs.lookup (bP k)=some (.ref l)/\H l=some (.lst ws)/\Reps K G ws ds:=by
 obtain ⟨es,ow,dx,vs,h1,h2,h3,h4,h5,h6,h7,h8⟩:=st.obs i m C p fs e
 obtain ⟨v,e1,l,ws,rfl,g1,g2,g3,g4,g5⟩:=h8.get ek
 exact ⟨dx,vs,l,ws,es,h1,e1,g1,g4⟩
theorem vJ (i k:Nat) (c:CF X.K C ks) (hk:k ∈ ks) (hb:QF X b gb) (hi:X.N[i]?=some x:=by rfl) (hv:Vis X.env.scope x:=by first | exact Or.inl rfl | exact Or.inr (Or.inl rfl) | exact Or.inr (Or.inr rfl)) (hf:f=bP k:=by rfl)
  (hd:(x==("__debug__":Str))=false:=by decide) (hcd:(x==("__classdict__":Str))=false:=by decide) (hba:attributeBase (.Name x p1) f X.env (eval (.Name x p1) X.env)=eval (.Name x p1) X.env:=by rfl) (hs:lK b:=by exact fun _ _=>rfl) :
  QF X (.Subscript (.Attribute (.Name x p1) f p2) b pos) (pA C i k gb):=fun pins s σ H Q I h=>by
 subst hf
 refine E6 ix_list (tw (gJ hi hv hd hcd) hba) hb hs pins s σ H Q I ?_
 obtain ⟨G,ρ,st,h⟩:=h
 obtain ⟨m,p,fs,e1,h⟩:=qD h
 obtain ⟨ds,e2,h⟩:=wM h
 obtain ⟨dx,vs,l,ws,h1,h2,h3,h4,h5⟩:=st.fldL e1 e2
 refine ⟨.ref p,h1,p,C,dx,vs,.ref l,rfl,h2,c.cl,(c.na k hk).2,h3,?_⟩
 refine tG.intro st h fun d v G1 H1 u1 st1 r1 h'=>?_
 obtain ⟨d',e3,q⟩:=ofO.ok h'
 cases d with
 | int j=>
  have e3:atI ds j=some d':=e3
  obtain ⟨v',e4,r4⟩:=(h5.mono u1.gg).atI e3
  exact ⟨l,ws,j,v',rfl,r1.int_inv,.of (u1.hh _ _ h4),e4,q v' G1 H1 (.refl st1.sub) r4⟩
 | _=>cases e3
theorem uB (i k:Nat) (c:CF X.K C ks) (hk:k ∈ ks) (hg:Gl X "len") (hm:X.mg "len"=none) (hi:X.N[i]?=some x:=by rfl) (hv:Vis X.env.scope x:=by first | exact Or.inl rfl | exact Or.inr (Or.inl rfl) | exact Or.inr (Or.inr rfl)) (hf:f=bP k:=by rfl)
  (hd:(x==("__debug__":Str))=false:=by decide) (hcd:(x==("__classdict__":Str))=false:=by decide) (hba:attributeBase (.Name x p1) f X.env (eval (.Name x p1) X.env)=eval (.Name x p1) X.env:=by rfl)
  (he:starEach [.Attribute (.Name x p1) f p2] X.env=(false,eval (.Attribute (.Name x p1) f p2) X.env)::starEach [] X.env:=by rfl) :
  QF X (.Call (.Name "len" p3) [.Attribute (.Name x p1) f p2] [] pos) (nY C i k):=fun pins s σ H Q I h=>by
 subst hf
 refine nX pB hg hm PySem.boot_len (ee (tw (gJ hi hv hd hcd) hba) kQ he) (by decide) (by decide) he rfl pins s σ H Q I ?_
 obtain ⟨G,ρ,st,h⟩:=h
 obtain ⟨m,p,fs,e1,h⟩:=qD h
 obtain ⟨ds,e2,h⟩:=wM h
 obtain ⟨dx,vs,l,ws,h1,h2,h3,h4,h5⟩:=st.fldL e1 e2
 refine ⟨.ref p,h1,p,C,dx,vs,.ref l,rfl,h2,c.cl,(c.na k hk).2,h3,l,ws,rfl,.inl (.of h4),?_⟩
 rw [h5.length]
 exact h _ G H (.refl st.sub) (.int _)
theorem zm (i k:Nat) (c:CF X.K C ks) (hk:k ∈ ks) (he:QF X e ga) (hi:X.N[i]?=some x:=by rfl) (hv:Vis X.env.scope x:=by first | exact Or.inl rfl | exact Or.inr (Or.inl rfl) | exact Or.inr (Or.inr rfl)) (hf:f=bP k:=by rfl)
  (hd:(x==("__debug__":Str))=false:=by decide) (hcd:(x==("__classdict__":Str))=false:=by decide) (hba:attributeBase (.Name x p1) f X.env (eval (.Name x p1) X.env)=eval (.Name x p1) X.env:=by rfl)
  (hs1:starEach [e] X.env=(false,eval e X.env)::starEach [] X.env:=by rfl)
  (hbase:attributeBase (.Attribute (.Name x p1) f p2) "append" X.env (eval (.Attribute (.Name x p1) f p2) X.env)=eval (.Attribute (.Name x p1) f p2) X.env:=by rfl)
  (hfew:((backTo cp (starEach [e] X.env)).all (fun x=>!x.1) && (backToKw cp (keywordEach [] X.env)).all (fun x=>x.1.isSome)
   && decide ([e].length+([]:List Keyword).length+(if ([]:List Keyword).isEmpty then 0 else 1) < 30))=true:=by rfl)
  (hline:(ap.endLine==cp.line)=true:=by rfl)
  (hs:swapsWith (.Call (.Attribute (.Attribute (.Name x p1) f p2) "append" ap) [e] [] cp) none pos.line X.env=pure false:=by rfl) :
  QSF X (.Expr (.Call (.Attribute (.Attribute (.Name x p1) f p2) "append" ap) [e] [] cp) pos) (wl C i k ga):=fun G₀ H₀ pins s σ H D I h=>by
 subst hf
 refine kC (Bw PySem.F.plainAttrs_list PySem.F.slot_list_append PySem.F.type_list_append ij (tw (gJ hi hv hd hcd) hba) (ee he kQ hs1) hbase hfew hline hs1 rfl) hs pins s σ H D I ?_
 obtain ⟨G,ρ,sr,h⟩:=h
 obtain ⟨p,fs,e1,h⟩:=kW h
 obtain ⟨ds,e2,h⟩:=tx h
 obtain ⟨dx,vs,l,ws,h1,h2,h3,h4,h5⟩:=sr.e.fldL e1 e2
 refine ⟨.ref p,h1,p,C,dx,vs,.ref l,rfl,h2,c.cl,(c.na k hk).2,h3,.inl ⟨rfl,ws,.of h4⟩,G,ρ,sr.e,?_⟩
 cases q:ga ρ with
 | ok d=>
  rw [q] at h
  simp only [R.out] at h
  intro v G' H' u r
  by_cases hz:ds.length < sizeLine
  ·rw [if_pos hz] at h
   refine ⟨l,ws,v,rfl,rfl,u.hh _ _ h4,by rw [h5.length]; exact hz,h _ G' _ ?_⟩
   exact (sr.ups u).fmut e1 e2 ((h5.mono u.gg).append (.cons r .nil)) (u.hh _ _ h2) h3
  ·rw [if_neg hz] at h; exact h.elim
 | ex C=>rw [q] at h; exact Exx.of sr h
 | no=>rw [q] at h; exact h
theorem yA (i k j:Nat) {y:Str} {py:Pos} (c:CF X.K C ks) (hk:k ∈ ks) (hN:X.N.Nodup) (hi:X.N[i]?=some x:=by rfl) (hj:X.N[j]?=some y:=by rfl) (hv:Vis X.env.scope x:=by first | exact Or.inl rfl | exact Or.inr (Or.inl rfl) | exact Or.inr (Or.inr rfl)) (hf:f=bP k:=by rfl)
  (hx:Loc X.env.scope y:=by first | exact Or.inl rfl | exact Or.inr rfl) (hfn:X.fn y=true\/X.env.scope.names.lookup y=some .local:=by first | exact .inl rfl | exact .inr rfl)
  (hd:(x==("__debug__":Str))=false:=by decide) (hcd:(x==("__classdict__":Str))=false:=by decide) (hba:attributeBase (.Name x p1) f X.env (eval (.Name x p1) X.env)=eval (.Name x p1) X.env:=by rfl)
  (hbase:attributeBase (.Attribute (.Name x p1) f p2) "pop" X.env (eval (.Attribute (.Name x p1) f p2) X.env)=eval (.Attribute (.Name x p1) f p2) X.env:=by rfl) (hline:(ap.endLine==cp.line)=true:=by rfl)
  (hs:swapsWithSole [.Name y py] (.Call (.Attribute (.Attribute (.Name x p1) f p2) "pop" ap) [] [] cp) pos.line X.env=pure false:=by rfl) (hw:swappedStores [.Name y py] (.Call (.Attribute (.Attribute (.Name x p1) f p2) "pop" ap) [] [] cp) X.env=pure none:=by rfl) :
  QSF X (.Assign [.Name y py] (.Call (.Attribute (.Attribute (.Name x p1) f p2) "pop" ap) [] [] cp) pos) (vk C i k j):=fun G₀ H₀ pins s σ H D I h=>by
 subst hf
 refine AE (DW PySem.F.plainAttrs_list PySem.F.slot_list_pop PySem.F.type_list_pop EX (tw (gJ hi hv hd hcd) hba) hbase hline) (rZ (i:=j) hN hj hx hfn) hs hw rfl pins s σ H D I ?_
 obtain ⟨G,ρ,sr,h⟩:=h
 obtain ⟨p,fs,e1,h⟩:=kW h
 obtain ⟨ds,e2,h⟩:=tx h
 obtain ⟨dx,vs,l,ws,h1,h2,h3,h4,h5⟩:=sr.e.fldL e1 e2
 cases q:ds.getLast? with
 | none=>rw [q] at h; exact h.elim
 | some d=>
  rw [q] at h
  dsimp only at h
  by_cases nij:i ≠ j
  ·rw [if_pos nij] at h
   rw [List.getLast?_eq_getElem?] at q
   obtain ⟨v,ev,rv⟩:=h5.get q
   have hl:=h5.length
   refine ⟨.ref p,h1,p,C,dx,vs,.ref l,rfl,h2,c.cl,(c.na k hk).2,h3,.inl ⟨rfl,ws,.of h4⟩,l,ws,v,rfl,rfl,h4,by rw [hl]; exact ev,?_⟩
   have rd:Reps X.K G ws.dropLast ds.dropLast:=by
    rw [List.dropLast_eq_take,List.dropLast_eq_take,hl]; exact h5.take _
   exact h _ G _ ((sr.fmut e1 e2 rd h2 h3).set rv j)
  ·rw [if_neg nij] at h; exact h.elim
theorem zQ (i k:Nat) (c:CF X.K C ks) (hk:k ∈ ks) (he:QFL X e gl) (hi:X.N[i]?=some x:=by rfl) (hv:Vis X.env.scope x:=by first | exact Or.inl rfl | exact Or.inr (Or.inl rfl) | exact Or.inr (Or.inr rfl)) (hf:f=bP k:=by rfl)
  (hd:(x==("__debug__":Str))=false:=by decide) (hcd:(x==("__classdict__":Str))=false:=by decide) (hs:swapsWith e (some (.Attribute (.Name x p1) f p2)) pos.line X.env=pure false:=by rfl) :
  QSF X (.Assign [.Attribute (.Name x p1) f p2] e pos) (uK C i k gl):=fun G₀ H₀ pins s σ H D I h=>by
 subst hf
 refine Ep (gJ hi hv hd hcd) he hs pins s σ H D I ?_
 obtain ⟨G,ρ,sr,h⟩:=h
 obtain ⟨p,fs,e1,h⟩:=kW h
 refine ⟨G,ρ,sr.e,?_⟩
 cases q:gl ρ with
 | ok ds=>
  rw [q] at h
  simp only [R.out] at h
  intro l us G' H' u hl r
  obtain ⟨h1,ow,dx,vs,g1,g2,g3,g4,g5,g6,g7,g8⟩:=sr.e.obs i true C p fs e1
  by_cases hz:fs.length < 900
  ·rw [if_pos hz] at h
   have hp:=u.hh _ _ g1
   refine ⟨.ref p,h1,p,C,dx,vs,rfl,?_,c.cl,(c.na k hk).2,by rw [g8.len]; omega,h _ G' _ ((sr.ups u).fputL e1 (c.na k hk).1 hl r hp)⟩
   rw [aJ (fun z=>by rw [z,hl] at hp; cases hp)]; exact hp
  ·rw [if_neg hz] at h; exact h.elim
 | ex C=>rw [q] at h; exact Exx.of sr h
 | no=>rw [q] at h; exact h
theorem zl (he:QF X e ga):QSF X (.Return (some e) pos) (xI ga):=fun G₀ H₀ pins s σ H D I h=>by
 refine Az he pins s σ H D I ?_
 obtain ⟨G,ρ,sr,h⟩:=h
 have h:oG X G₀ H₀ D ((ga ρ).out ρ fun d=>.re d ρ):=h
 refine ⟨G,ρ,sr.e,?_⟩
 cases q:ga ρ with
 | ok d=>rw [q] at h; exact fun v G' H' u r=>h v σ G' H' (sr.ups u) r
 | ex C=>rw [q] at h; exact Exx.of sr h
 | no=>rw [q] at h; exact h
end
end L2
namespace L2
open PySem PySem.Spec PyProof.Rows
structure MCallee (P:Program) (w:World) (K:PySem.W.Frag) (mg:Str->Option Value) (base:Heap) (C:Addr) (mn:Str) (k n:Nat) (F:MF):Prop where
 ex:∃ f fd ps,FnM P w K mg base k f fd ps C F/\Meth K C mn f/\Binds K fd ps []/\ps.length=n+1
theorem MCallee.mono {P:Program} {w:World} {K:PySem.W.Frag} {mg:Str->Option Value} {base:Heap} {C:Addr} {mn:Str} {k n:Nat} {F:MF} (c:MCallee P w K mg base C mn k n F) (k':Nat) (h:k<=k':=by decide):MCallee P w K mg base C mn k' n F:=by
 obtain ⟨f,fd,ps,M,hm,hb,e⟩:=c.ex
 exact ⟨f,fd,ps,{ M with run:=fun A outer s H args us vs Q E hr=>M.run A outer s H args us vs Q E (hr.mono h) },hm,hb,e⟩
theorem FdsAt.none {K:PySem.W.Frag} {H₀ G H:Hp} {ow:hW} {i:Nat} {m:Bool} {mn:Str} (hn:∀ k,k < fnames.length->(mn==bP k)=false):∀ {fs:List (Nat × Fd)} {vs:List (Str × V)},FdsAt K H₀ G H ow i m fs vs->vs.lookup mn=Option.none
 | _,_,.nil=>rfl
 | _,_,.cons (k:=a) h nk r t=>by simp only [List.lookup_cons,hn a h]; exact FdsAt.none hn t
section
variable {X:Cx} {pins:List (Addr × Obj)} {σ:St} {G H:Hp} {s:Shared} {k n:Nat} {f:Addr} {fd:FuncData} {ps:List Str} {C p:Addr} {F:MF} {us:List Value} {vs:List V} {ds:List D} {fs:List (Nat × Fd)} {ow:hW} {Q:VK}
theorem nQ (M:FnM X.prog X.w X.K X.mg X.base k f fd ps C F) (hr:Room k X.A) (hb:Binds X.K fd ps []) (hl:ps.length=n+1) (I:Inv X pins σ H s) (r:Vals vs us) (rp:Reps X.K G vs ds) (hn:ds.length=n) (sub:Same G H) (og:∀ a t,ow a=some t->G a=none)
  (ob:ObjAt X.K (fun _=>none) G H ow 0 true C p fs) (h:match F fs ds with
   | .ok d fs'=>∀ v G' H' ow',Up G (hid H ow) G' H'->ObjAt X.K (hid H ow) G' H' ow' 0 true C p fs'->Rep X.K G' v d->Q v H'
   | .rd d=>∀ v G' H',Up G H G' H'->Rep X.K G' v d->Q v H'
   | .ex C'=>Exx X σ G H C'
   | .no=>False):wpAny (model X.prog X.w) X.A (call (.ref f) (.ref p::us)) (EP X pins σ Q) X.xe s:=by
 have hvl:(V.ref p::vs).length=ps.length:=by rw [hl,List.length_cons,rp.length,hn]
 have hul:(Value.ref p::us++[]).length=ps.length:=by rw [List.append_nil,List.length_cons,<- r.length,<- List.length_cons (a:=V.ref p)]; exact hvl
 have hbb:=hb s (.ref p::us) I.kIn hul
 rw [List.append_nil] at hbb
 refine wpAny_call (codeAny_mono (M.run X.A X.stack s H ⟨.ref p::us,[]⟩ (.ref p::us) (.ref p::vs) Q (fun c _ H'=>∃ C G',c=.ref C/\Up G H G' H'/\Exx X σ G H C) hr I.env0 hbb (.cons rfl r) ⟨hvl,G,p,vs,ds,fs,ow,rfl,rp,sub,og,ob,?_⟩) fun r' s' hq=>?_)
 ·cases q:F fs ds with
  | ok d fs'=>rw [q] at h; exact h
  | rd d=>rw [q] at h; exact h
  | ex C'=>rw [q] at h; exact fun G' H' u=>⟨C',G',rfl,u,h⟩
  | no=>rw [q] at h; exact h.elim
 ·cases r' with
  | error e'=>
   obtain ⟨a,C,H',rfl,fl,C',G',ec,u,q⟩:=hq
   cases ec
   exact q _ _ ⟨G,H,.refl sub,pins,s,a,rfl,I,.inr (.inl ⟨G',H',fl,u⟩)⟩
  | ok fl=>
   cases fl with
   | ret u=>exact I.after hq
   | next=>exact False.elim hq
   | brk=>exact False.elim hq
   | cont=>exact False.elim hq
end
def RM.read:RM->R D
 | .rd d=>.ok d
 | .ex C=>.ex C
 | _=>.no
def Hl (C:Addr) (i n:Nat) (F:MF) (gl:Ev->R (List D)):Ev->R D:=fun ρ=>oO C ρ i>>=fun fs=>gl ρ>>=fun ds=>if ds.length=n then (F fs ds).read else .no
def cT (C:Addr) (i:Nat) (F:MF):Ev->R D:=fun ρ=>oO C ρ i>>=fun fs=>(F fs []).read
def RM.out (r:RM) (C p:Addr) (i:Nat) (ρ:Ev):O:=match r with
 | .ok _ fs'=>.nx (ρ.set i (some (.obj true C p fs')))
 | .rd _=>.nx ρ
 | .ex E=>.ex E ρ
 | .no=>.no
def ux (C:Addr) (i n:Nat) (F:MF) (gl:Ev->R (List D)):Ev->O:=fun ρ=>(nq C ρ i).out ρ fun o=>(gl ρ).out ρ fun ds=>if ds.length=n then (F o.2 ds).out C o.1 i ρ else .no
def sP (C:Addr) (i:Nat) (F:MF):Ev->O:=fun ρ=>(nq C ρ i).out ρ fun o=>(F o.2 []).out C o.1 i ρ
section
variable {X:Cx} {e:Expr} {es:List Expr} {gl:Ev->R (List D)} {x mn:Str} {i k n:Nat} {C:Addr} {ks:List Nat} {F:MF} {p1 ap pos ep:Pos}
theorem tY {pl:Sem Bool} (i:Nat) (c:CF X.K C ks) (m:MCallee X.prog X.w X.K X.mg X.base C mn k 0 F) (hr:Room k X.A) (hi:X.N[i]?=some x:=by rfl) (hv:Vis X.env.scope x:=by first | exact Or.inl rfl | exact Or.inr (Or.inl rfl) | exact Or.inr (Or.inr rfl))
  (hd:(x==("__debug__":Str))=false:=by decide) (hcd:(x==("__classdict__":Str))=false:=by decide) (hmn:∀ k,k < fnames.length->(mn==bP k)=false:=by decide)
  (ht:eval (.Call (.Attribute (.Name x p1) mn ap) [] [] pos) X.env=(do
   let ov <- eval (.Name x p1) X.env
   standAt ap.atName
   let (f,first) <- holding [ov] (getMethod ov mn pl)
   callWith pos f first (backTo pos (starEach [] X.env)) (backToKw pos (keywordEach [] X.env))):=by rfl) :
  QF X (.Call (.Attribute (.Name x p1) mn ap) [] [] pos) (cT C i F):=fun pins s σ H Q I h=>by
 obtain ⟨f,fd,ps,M,hm,hb,hl⟩:=m.ex
 obtain ⟨G,ρ,st,h⟩:=h
 obtain ⟨mm,p,fs,e1,h⟩:=qD h
 obtain ⟨h1,ow1,ob1⟩:=st.obs i mm C p fs e1
 have v:PE X (.Name x p1) (FC i):=gJ hi hv hd hcd
 refine PySem.W.methodCall_KW (pl:=pl) (thn (v pins s σ H (fun u H'=>u=.ref p/\H'=H) I ⟨_,h1,rfl,rfl⟩) fun u s1 ⟨v',H',I',rv,ev,eh⟩=>?_) ht
 subst ev eh
 obtain rfl:u=Value.ref p:=rv
 obtain ⟨dx,vs,g1,g2,g3,g4,g5,g6,g7,g8⟩:=id ob1
 refine jc I' g1 c.cl hm (g8.none hmn) ?_
 refine PySem.W.callWith_K0 (first:=[.ref p]) I'.kIn hm.kp (nQ (us:=[]) M hr hb hl I' .nil .nil rfl st.sub (fun a t q=>(hJ q).2.2.1) ob1.cut ?_)
 cases q:F fs [] with
 | ok d fs'=>rw [q] at h; exact h.elim
 | rd d=>rw [q] at h; exact h
 | ex C'=>rw [q] at h; exact h
 | no=>rw [q] at h; exact h.elim
theorem xi {pl:Sem Bool} (i:Nat) (c:CF X.K C ks) (m:MCallee X.prog X.w X.K X.mg X.base C mn k n F) (hr:Room k X.A) (ha:QFA X (e::es) gl) (hi:X.N[i]?=some x:=by rfl) (hv:Vis X.env.scope x:=by first | exact Or.inl rfl | exact Or.inr (Or.inl rfl) | exact Or.inr (Or.inr rfl))
  (hd:(x==("__debug__":Str))=false:=by decide) (hcd:(x==("__classdict__":Str))=false:=by decide) (hmn:∀ k,k < fnames.length->(mn==bP k)=false:=by decide)
  (hst:starEach (e::es) X.env=(false,eval e X.env)::starEach es X.env:=by rfl) (hpl:(backTo pos (starEach es X.env)).any (·.1)=false:=by rfl)
  (hs:swapsWith (.Call (.Attribute (.Name x p1) mn ap) (e::es) [] pos) none ep.line X.env=pure false:=by rfl)
  (ht:eval (.Call (.Attribute (.Name x p1) mn ap) (e::es) [] pos) X.env=(do
   let ov <- eval (.Name x p1) X.env
   standAt ap.atName
   let (f,first) <- holding [ov] (getMethod ov mn pl)
   callWith pos f first (backTo pos (starEach (e::es) X.env)) (backToKw pos (keywordEach [] X.env))):=by rfl) :
  QSF X (.Expr (.Call (.Attribute (.Name x p1) mn ap) (e::es) [] pos) ep) (ux C i n F gl):=fun G₀ H₀ pins s σ H D I h=>by
 obtain ⟨f,fd,ps,M,hm,hb,hl⟩:=m.ex
 obtain ⟨G,ρ,sr,h⟩:=h
 obtain ⟨p,fs,e1,h⟩:=kW h
 obtain ⟨h1,_,_⟩:=sr.e.obs i true C p fs e1
 have v:PE X (.Name x p1) (FC i):=gJ hi hv hd hcd
 have pe:PE X (.Call (.Attribute (.Name x p1) mn ap) (e::es) [] pos) (fun σ' H' Q=>σ'=σ/\H'=H/\∀ v H2,D.nx σ H2->Q v H2):=by
  rintro pn2 sh2 σ' H' Q J ⟨rfl,rfl,hQ⟩
  refine PySem.W.methodCall_KW (pl:=pl) (thn (v pn2 sh2 σ' H' (fun u H2=>u=.ref p/\H2=H') J ⟨_,h1,rfl,rfl⟩) fun u s1 ⟨v',H2,I',rv,ev,eh⟩=>?_) ht
  subst ev eh
  obtain rfl:u=Value.ref p:=rv
  obtain ⟨_,ow,dx,vs,g1,g2,g3,g4,g5,g6,g7,g8⟩:=sr.e.obs i true C p fs e1
  refine jc I' g1 c.cl hm (g8.none hmn) ?_
  have t:tAF X gl σ' H2 (fun vs H1=>∃ G1 ds,Up G H2 G1 H1/\Reps X.K G1 vs ds/\ds.length=n/\oG X G₀ H₀ D ((F fs ds).out C p i ρ)):=by
   refine ⟨G,ρ,sr.e,?_⟩
   cases q:gl ρ with
   | ok ds=>
    rw [q] at h
    simp only [R.out] at h
    intro vs G1 H1 u r
    by_cases hz:ds.length=n
    ·rw [if_pos hz] at h; exact ⟨G1,ds,u,r,hz,h⟩
    ·rw [if_neg hz] at h; exact h.elim
   | ex C=>rw [q] at h; exact Exx.of sr h
   | no=>rw [q] at h; exact h
  refine PySem.W.callWith_K (first:=[.ref p]) (h₀:=X.base) J.ok.mod.kin hm.kp (thn (ha pos pn2 s1 σ' H2 _ I' t) fun us s2 q=>⟨?_,?_⟩) hst hpl
  ·obtain ⟨vs,H1,I1,r,_⟩:=q; exact I1.kIn
  obtain ⟨vs,H1,I1,r,G1,ds,u1,rp,hz,h2⟩:=q
  have sr1:=sr.ups u1
  obtain ⟨ow1,o1,o2⟩:=sr1.ob
  refine nQ M hr hb hl I1 r rp hz sr1.e.sub (fun a t q=>(hJ q).2.2.1) (o2 i true C p fs e1).2.cut ?_
  cases q:F fs ds with
  | ok d fs'=>rw [q] at h2; exact fun v G' H' ow' u ob _=>hQ v H' (h2 _ G' H' (sr1.meth e1 o1 o2 u ob))
  | rd d=>rw [q] at h2; exact fun v G' H' u _=>hQ v H' (h2 _ G' H' (sr1.ups u))
  | ex C'=>rw [q] at h2; exact Exx.of sr1 h2
  | no=>rw [q] at h2; exact h2.elim
 exact kC pe hs pins s σ H D I ⟨rfl,rfl,fun v H2 q=>q⟩
theorem uU {pl:Sem Bool} (i:Nat) (c:CF X.K C ks) (m:MCallee X.prog X.w X.K X.mg X.base C mn k 0 F) (hr:Room k X.A) (hi:X.N[i]?=some x:=by rfl) (hv:Vis X.env.scope x:=by first | exact Or.inl rfl | exact Or.inr (Or.inl rfl) | exact Or.inr (Or.inr rfl))
  (hd:(x==("__debug__":Str))=false:=by decide) (hcd:(x==("__classdict__":Str))=false:=by decide) (hmn:∀ k,k < fnames.length->(mn==bP k)=false:=by decide)
  (hs:swapsWith (.Call (.Attribute (.Name x p1) mn ap) [] [] pos) none ep.line X.env=pure false:=by rfl)
  (ht:eval (.Call (.Attribute (.Name x p1) mn ap) [] [] pos) X.env=(do
   let ov <- eval (.Name x p1) X.env
   standAt ap.atName
   let (f,first) <- holding [ov] (getMethod ov mn pl)
   callWith pos f first (backTo pos (starEach [] X.env)) (backToKw pos (keywordEach [] X.env))):=by rfl) :
  QSF X (.Expr (.Call (.Attribute (.Name x p1) mn ap) [] [] pos) ep) (sP C i F):=fun G₀ H₀ pins s σ H D I h=>by
 obtain ⟨f,fd,ps,M,hm,hb,hl⟩:=m.ex
 obtain ⟨G,ρ,sr,h⟩:=h
 obtain ⟨p,fs,e1,h⟩:=kW h
 have h:oG X G₀ H₀ D ((F fs []).out C p i ρ):=h
 obtain ⟨h1,_,_⟩:=sr.e.obs i true C p fs e1
 have v:PE X (.Name x p1) (FC i):=gJ hi hv hd hcd
 have pe:PE X (.Call (.Attribute (.Name x p1) mn ap) [] [] pos) (fun σ' H' Q=>σ'=σ/\H'=H/\∀ v H2,D.nx σ H2->Q v H2):=by
  rintro pn2 sh2 σ' H' Q J ⟨rfl,rfl,hQ⟩
  refine PySem.W.methodCall_KW (pl:=pl) (thn (v pn2 sh2 σ' H' (fun u H2=>u=.ref p/\H2=H') J ⟨_,h1,rfl,rfl⟩) fun u s1 ⟨v',H2,I',rv,ev,eh⟩=>?_) ht
  subst ev eh
  obtain rfl:u=Value.ref p:=rv
  obtain ⟨ow1,o1,o2⟩:=sr.ob
  obtain ⟨dx,vs,g1,g2,g3,g4,g5,g6,g7,g8⟩:=(o2 i true C p fs e1).2
  refine jc I' g1 c.cl hm (g8.none hmn) ?_
  refine PySem.W.callWith_K0 (first:=[.ref p]) I'.kIn hm.kp (nQ (us:=[]) M hr hb hl I' .nil .nil rfl sr.e.sub (fun a t q=>(hJ q).2.2.1) (o2 i true C p fs e1).2.cut ?_)
  cases q:F fs [] with
  | ok d fs'=>rw [q] at h; exact fun v G' H' ow' u ob _=>hQ v H' (h _ G' H' (sr.meth e1 o1 o2 u ob))
  | rd d=>rw [q] at h; exact fun v G' H' u _=>hQ v H' (h _ G' H' (sr.ups u))
  | ex C'=>rw [q] at h; exact Exx.of sr h
  | no=>rw [q] at h; exact h.elim
 exact kC pe hs pins s σ H D I ⟨rfl,rfl,fun v H2 q=>q⟩
end
end L2
namespace L2
open PySem PySem.Spec PyProof.Rows
structure MkC (P:Program) (w:World) (K:PySem.W.Frag) (mg:Str->Option Value) (base:Heap) (C:Addr) (cn:Str) (k n:Nat) (F:MF):Prop where
 ex:∃ f fd ps,FnM P w K mg base k f fd ps C F/\Mk K C f/\mg cn=some (.ref C)/\Binds K fd ps []/\ps.length=n+1
section
variable {X:Cx} {pins:List (Addr × Obj)} {σ:St} {G H:Hp} {s:Shared} {k n:Nat} {f:Addr} {fd:FuncData} {ps:List Str} {C:Addr} {F:MF} {us:List Value} {vs:List V} {ds:List D} {Q:VK}
theorem zE (M:Mk X.K C f) (Fi:FnM X.prog X.w X.K X.mg X.base k f fd ps C F) (hr:Room (k+1) X.A) (hb:Binds X.K fd ps []) (hl:ps.length=n+1) (I:Inv X pins σ H s) (r:Vals vs us) (rp:Reps X.K G vs ds) (hn:ds.length=n) (sub:Same G H)
  (h:match F [] ds with
   | .ok d fs'=>d=.non/\∀ x G' H' ow',Up G H G' H'->ObjAt X.K H G' H' ow' 0 true C x fs'->Q (.ref x) H'
   | .ex C'=>Exx X σ G H C'
   | _=>False):wpAny (model X.prog X.w) X.A (call (.ref C) us) (EP X pins σ Q) X.xe s:=by
 have I2:=Inv.made (C:=C) I
 generalize hx:s.heap.objs.size+1=x at I2
 generalize hd:s.heap.objs.size=dx at I2
 have fx:H x=none:=I.hok.fresh (by rw [<- hx]; exact Nat.le_succ _)
 have fd':H dx=none:=I.hok.fresh (by rw [<- hd]; exact Nat.le_refl _)
 have ne:dx ≠ x:=by rw [<- hx,<- hd]; exact Nat.ne_of_lt (Nat.lt_succ_self _)
 have gx:G x=none:=sub.free fx
 have gd:G dx=none:=sub.free fd'
 have hh:Same H (upd (upd H dx (.own x)) x (.ins C dx [])):=fun a o e=>by rw [aJ (aM e fx),aJ (aM e fd')]; exact e
 have sub2:Same G (upd (upd H dx (.own x)) x (.ins C dx [])):=sub.trans hh
 have up2:Up G H G (upd (upd H dx (.own x)) x (.ins C dx [])):=⟨sub2,.refl _,hh,fun _ _ e=>.inl e⟩
 let ow:hW:=fun a=>if a=x\/a=dx then some (0,0) else none
 have og:∀ a t,ow a=some t->G a=none:=fun a t q=>by
  by_cases z:a=x\/a=dx
  ·rcases z with z | z
   ·rw [z]; exact gx
   ·rw [z]; exact gd
  ·have:ow a=none:=if_neg z
   rw [this] at q; cases q
 have ob:ObjAt X.K (fun _=>none) G (upd (upd H dx (.own x)) x (.ins C dx [])) ow 0 true C x []:=
  ⟨dx,[],bc,by rw [aJ ne,bc],gx,gd,fun _=>⟨rfl,rfl⟩,if_pos (.inl rfl),if_pos (.inr rfl),.nil⟩
 have eh:hid (upd (upd H dx (.own x)) x (.ins C dx [])) ow=H:=by
  funext a
  by_cases z:a=x\/a=dx
  ·rw [jZ (t:=(0,0)) (if_pos z)]
   rcases z with z | z
   ·rw [z]; exact fx.symm
   ·rw [z]; exact fd'.symm
  ·rw [fG (if_neg z),aJ (fun q=>z (.inl q)),aJ (fun q=>z (.inr q))]
 have hvl:(V.ref x::vs).length=ps.length:=by rw [hl,List.length_cons,rp.length,hn]
 have hul:(Value.ref x::us++[]).length=ps.length:=by rw [List.append_nil,List.length_cons,<- r.length,<- List.length_cons (a:=V.ref x)]; exact hvl
 refine wpAny_call (yf (f:=f) I.kIn M.makes M.init (beq_iff_eq.mp M.fn) ?_)
 rw [hx,hd]
 have hbb:=hb _ (.ref x::us) I2.kIn hul
 rw [List.append_nil] at hbb
 refine codeAny_mono (Fi.run _ X.stack _ _ ⟨Value.ref x::us,[]⟩ (Value.ref x::us) (V.ref x::vs) (fun v H2=>v=.non/\Q (.ref x) H2) (fun c _ H'=>∃ C' G',c=.ref C'/\Up G (upd (upd H dx (.own x)) x (.ins C dx [])) G' H'/\Exx X σ G H C') (hr.make C us [])
  (I2.env0.make C us []) hbb (.cons rfl r) ⟨hvl,G,x,vs,ds,[],ow,rfl,rp,sub2,og,ob,?_⟩) fun r' s' hq=>?_
 ·cases q:F [] ds with
  | ok d fs'=>
   rw [q] at h
   intro v G' H' ow' u o rv
   rw [eh] at u o
   obtain ⟨rfl,h⟩:=h
   exact ⟨rv.non_inv,h x G' H' ow' u o⟩
  | rd d=>rw [q] at h; exact h.elim
  | ex C'=>rw [q] at h; exact fun G' H' u=>⟨C',G',rfl,u,h⟩
  | no=>rw [q] at h; exact h.elim
 ·cases r' with
  | error e'=>
   obtain ⟨a,C',H',rfl,fl,C'',G',ec,u,q⟩:=hq
   cases ec
   exact q _ _ ⟨G,_,up2,pins,_,a,rfl,I2,.inr (.inl ⟨G',H',fl,u⟩)⟩
  | ok fl=>
   cases fl with
   | ret u=>
    obtain ⟨v,H',I3,rv,ev,q3⟩:=I2.after hq
    subst ev
    exact ⟨rv,⟨V.ref x,H',I3,rfl,q3⟩⟩
   | next=>exact False.elim hq
   | brk=>exact False.elim hq
   | cont=>exact False.elim hq
end
def vi (F:MF) (n:Nat) (ds:List D):R (List (Nat × Fd)):=if ds.length=n then (match F [] ds with
 | .ok .non fs'=>.ok fs'
 | .ex C=>.ex C
 | _=>.no) else .no
def HZ (X:Cx) (C:Addr) (F:MF) (n:Nat) (gl:Ev->R (List D)):TE:=fun σ H Q=>∃ G ρ,StE X.K G H σ ρ/\(gl ρ>>=vi F n).post (fun fs'=>∀ x G' H' ow',Up G H G' H'->ObjAt X.K H G' H' ow' 0 true C x fs'->Q (.ref x) H') (Exx X σ G H)
section
variable {X:Cx} {e:Expr} {es:List Expr} {gl:Ev->R (List D)} {cn:Str} {k n:Nat} {C:Addr} {F:MF} {p pos:Pos}
theorem tE (c:MkC X.prog X.w X.K X.mg X.base C cn k n F) (hr:Room (k+1) X.A) (ha:QFA X (e::es) gl) (hg:Gl X cn:=by rfl) (hdb:(cn==("__debug__":Str))=false:=by decide)
  (he:starEach (e::es) X.env=(false,eval e X.env)::starEach es X.env:=by rfl) (hpl:(backTo pos (starEach es X.env)).any (·.1)=false:=by rfl):PE X (.Call (.Name cn p) (e::es) [] pos) (HZ X C F n gl):=by
 intro pins s σ H Q I h
 obtain ⟨f,fd,ps,M,mk,hm,hb,hl⟩:=c.ex
 obtain ⟨G,ρ,st,h⟩:=h
 refine wpAny_Call_Name_kw (nP I hg hm ?_ hdb)
 have t:tAF X gl σ H (fun vs H1=>∃ G1 ds,Up G H G1 H1/\Reps X.K G1 vs ds/\(vi F n ds).post (fun fs'=>∀ x G' H' ow',Up G H G' H'->ObjAt X.K H G' H' ow' 0 true C x fs'->Q (.ref x) H') (Exx X σ G H)):=by
  refine ⟨G,ρ,st,?_⟩
  cases q:gl ρ with
  | ok ds=>rw [q] at h; exact fun vs G1 H1 u r=>⟨G1,ds,u,r,h⟩
  | ex C=>rw [q] at h; exact h
  | no=>rw [q] at h; exact h
 refine PySem.W.callWith_K (h₀:=X.base) I.ok.mod.kin mk.kp (thn (ha pos pins s σ H _ I t) fun us s1 q=>⟨?_,?_⟩) he hpl
 ·obtain ⟨vs,H1,I1,r,_⟩:=q; exact I1.kIn
 obtain ⟨vs,H1,I1,r,G1,ds,u1,rp,h1⟩:=q
 unfold vi at h1
 by_cases hz:ds.length=n
 ·rw [if_pos hz] at h1
  refine zE mk M hr hb hl I1 r rp hz u1.sub ?_
  cases q:F [] ds with
  | ok d fs'=>
   rw [q] at h1
   cases d with
   | non=>
    refine ⟨rfl,fun x G' H' ow' u o=>h1 x G' H' ow' (u1.trans u) (o.keep ⟨fun _ _ _ _ e=>e,.refl _,fun _ _ _ _ _ n=>n,fun _ _ _ e _=>e,fun a o _ _ z=>u1.hh.free z⟩)⟩
   | _=>exact h1.elim
  | rd d=>rw [q] at h1; exact h1.elim
  | ex C'=>rw [q] at h1; exact Exx.up u1 h1
  | no=>rw [q] at h1; exact h1.elim
 ·rw [if_neg hz] at h1; exact h1.elim
end
theorem StR.setObj {K:PySem.W.Frag} {G₀ H₀ G H G' H':Hp} {σ:St} {ρ:Ev} {C x:Addr} {fs:List (Nat × Fd)} {ow':hW} (s:StR K G₀ H₀ G H σ ρ) (u:Up G H G' H') (ob:ObjAt K H G' H' ow' 0 true C x fs) (i:Nat):StR K G₀ H₀ G' H' (σ.set i (some (.ref x))) (ρ.set i (some (.obj true C x fs))):=by
 have get:∀ (j:Nat) y,(ρ.set i (some (.obj true C x fs)))[j]?=some (some y)->(j=i/\y=.obj true C x fs/\i < σ.length)\/(j ≠ i/\ρ[j]?=some (some y)/\(σ.set i (some (.ref x)))[j]?=σ[j]?):=fun j y h=>by
  by_cases e:i=j
  ·subst e
   have hl:i < ρ.length:=by
    have:=(List.getElem?_eq_some_iff.mp h).1
    simpa using this
   rw [List.getElem?_set_self hl] at h
   exact .inl ⟨rfl,by injection (Option.some.inj h) with q; exact q.symm,by rw [s.e.len]; exact hl⟩
  ·rw [List.getElem?_set_ne e] at h
   exact .inr ⟨fun z=>e z.symm,h,List.getElem?_set_ne e⟩
 have s1:=s.ups u
 have ob':ObSt K H₀ G' H' (σ.set i (some (.ref x))) (ρ.set i (some (.obj true C x fs))):=by
  obtain ⟨ow,o1,o2⟩:=s.ob
  refine ⟨fun a=>open Classical in if H a=none then sA 0 i ow' a else ow a,fun j ds l h1 h2=>?_,fun j m' C' p' fs' h1=>?_⟩
  ·rcases get j _ h1 with ⟨_,z,_⟩ | ⟨nj,f1,f2⟩
   ·cases z
   ·rw [f2] at h2
    obtain ⟨l2,vs,q1,q2,_⟩:=s.own j ds f1
    rw [h2] at q1; cases q1
    exact (if_neg (by rw [q2]; simp)).trans (o1 j ds l f1 h2)
  ·rcases get j _ h1 with ⟨rfl,z,hj⟩ | ⟨nj,f1,f2⟩
   ·cases z
    exact ⟨List.getElem?_set_self hj,ob.newtag (fun a t q n=>(if_pos n).trans (oN q)) fun a n=>s.up.hh.free n⟩
   ·rw [f2]
    have ku:ObKeep H₀ H₀ G H G' H' ow ow j:=.up u
    exact ⟨(o2 j m' C' p' fs' f1).1,(o2 j m' C' p' fs' f1).2.keep ⟨ku.hh,ku.gg,ku.gn,fun a t o q1 q2=>(if_neg (by rw [q2]; simp)).trans q1,ku.h0⟩⟩
 refine ⟨⟨s1.e.sub,by simp [s1.e.len],fun j d h=>?_,ob'.rd⟩,s1.sub0,s1.up,fun j ds h=>?_,fun j k ds es l q1 q2 q3 q4=>?_,ob'⟩
 ·rcases get j _ h with ⟨_,z,_⟩ | ⟨_,f1,f2⟩
  ·cases z
  ·rw [f2]; exact s1.e.val j d f1
 ·rcases get j _ h with ⟨_,z,_⟩ | ⟨nj,f1,f2⟩
  ·cases z
  ·rw [f2]; exact s1.own j ds f1
 ·rcases get j _ q1 with ⟨_,z,_⟩ | ⟨nj,f1,f2⟩
  ·cases z
  ·rcases get k _ q2 with ⟨_,z,_⟩ | ⟨nk,f3,f4⟩
   ·cases z
   ·exact s1.inj j k ds es l f1 f3 (f2 ▸ q3) (f4 ▸ q4)
def wX {α:Type} (X:Cx) (sts:List Stmt) (g:α->Ev->O):Prop:=∀ G₀ H₀,PSs X sts (fun D σ H=>∃ G ρ,StR X.K G₀ H₀ G H σ ρ/\∀ q,oG X G₀ H₀ D (g q ρ))
section
variable {X:Cx} {st:Stmt} {cq:List Stmt} {g1:Ev->O} {gs:Ev->O} {α:Type} {g2:α->Ev->O} {e:Expr} {es:List Expr} {gl gl':Ev->R (List D)} {cn:Str} {k n:Nat} {C:Addr} {F:MF} {p pos:Pos}
def zw (g:Ev->O):Unit->Ev->O:=fun _=>g
def uz (g1:Ev->O) (g2:α->Ev->O):α->Ev->O:=fun q ρ=>(g1 ρ).seq (g2 q)
def tP (C:Addr) (i j:Nat) (F:MF) (n:Nat) (gl gl':Ev->R (List D)) (g2:α->Ev->O):Addr × Addr × α->Ev->O:=fun q ρ=>(jx (gl ρ>>=vi F n)).out ρ fun fs=>(jx (gl' ρ>>=vi F n)).out ρ fun fs'=>g2 q.2.2 ((ρ.set i (some (.obj true C q.1 fs))).set j (some (.obj true C q.2.1 fs')))
theorem wq (h:nv X cq gs):wX X cq (zw gs):=fun G₀ H₀ pins s σ H D I ⟨G,ρ,sr,q⟩=>h G₀ H₀ pins s σ H D I ⟨G,ρ,sr,q ()⟩
theorem vS [Inhabited α] (h1:QSF X st g1) (h2:wX X cq g2):wX X (st::cq) (uz g1 g2):=fun G₀ H₀ pins s σ H D I h=>by
 refine oE (h1 G₀ H₀) (h2 G₀ H₀) pins s σ H D I ?_
 obtain ⟨G,ρ,sr,h⟩:=h
 have h:∀ q,oG X G₀ H₀ D ((g1 ρ).seq (g2 q)):=h
 refine ⟨G,ρ,sr,?_⟩
 cases q:g1 ρ with
 | nx ρ'=>rw [q] at h; exact fun σ' G' H' sr'=>⟨G',ρ',sr',h⟩
 | rt d=>rw [q] at h; exact h default
 | re d ρ'=>rw [q] at h; exact h default
 | bk ρ'=>rw [q] at h; exact h default
 | ct ρ'=>rw [q] at h; exact h default
 | ex C ρ'=>rw [q] at h; exact h default
 | no=>rw [q] at h; exact h default
theorem xt [Inhabited α] (i j:Nat) {y z:Str} {py pz pt pt2 q1 q2 q3 q4:Pos} {kt k2:Nat} {e':Expr} {es':List Expr} (c:MkC X.prog X.w X.K X.mg X.base C cn k n F) (hr:Room (k+1) X.A) (hc:X.calm=true) (hN:X.N.Nodup) (ha:QFA X (e::es) gl) (hb:QFA X (e'::es') gl') (h2:wX X cq g2) (hij:i ≠ j:=by decide)
  (hi:X.N[i]?=some y:=by rfl) (hj:X.N[j]?=some z:=by rfl) (hx:X.env.scope.names.lookup y=some .local:=by rfl) (hy:X.env.scope.names.lookup z=some .local:=by rfl)
  (hg:Gl X cn:=by rfl) (hdb:(cn==("__debug__":Str))=false:=by decide) (he:starEach (e::es) X.env=(false,eval e X.env)::starEach es X.env:=by rfl) (hpl:(backTo q2 (starEach es X.env)).any (·.1)=false:=by rfl)
  (he':starEach (e'::es') X.env=(false,eval e' X.env)::starEach es' X.env:=by rfl) (hpl':(backTo q4 (starEach es' X.env)).any (·.1)=false:=by rfl)
  (hse:starEach [.Call (.Name cn q1) (e::es) [] q2,.Call (.Name cn q3) (e'::es') [] q4] X.env=(false,eval (.Call (.Name cn q1) (e::es) [] q2) X.env)::starEach [.Call (.Name cn q3) (e'::es') [] q4] X.env:=by rfl)
  (hse2:starEach [.Call (.Name cn q3) (e'::es') [] q4] X.env=(false,eval (.Call (.Name cn q3) (e'::es') [] q4) X.env)::starEach [] X.env:=by rfl)
  (hw:swappedStores [.Tuple [.Name y py,.Name z pz] kt pt] (.Tuple [.Call (.Name cn q1) (e::es) [] q2,.Call (.Name cn q3) (e'::es') [] q4] k2 pt2) X.env=pure (some [y,z]):=by rfl)
  (hs:swapsWithSole [.Tuple [.Name y py,.Name z pz] kt pt] (.Tuple [.Call (.Name cn q1) (e::es) [] q2,.Call (.Name cn q3) (e'::es') [] q4] k2 pt2) pos.line X.env=pure false:=by rfl) :
  wX X (.Assign [.Tuple [.Name y py,.Name z pz] kt pt] (.Tuple [.Call (.Name cn q1) (e::es) [] q2,.Call (.Name cn q3) (e'::es') [] q4] k2 pt2) pos::cq) (tP C i j F n gl gl' g2):=fun G₀ H₀ pins s σ H D I h=>by
 refine oE (xa hc hN hi hj hij hx hy (ee (tE c hr ha hg hdb he hpl) (ee (tE c hr hb hg hdb he' hpl') kQ hse2) hse) hw hs) (h2 G₀ H₀) pins s σ H D I ?_
 obtain ⟨G,ρ,sr,h⟩:=h
 have h:∀ q:Addr × Addr × α,oG X G₀ H₀ D ((jx (gl ρ>>=vi F n)).out ρ fun fs=>(jx (gl' ρ>>=vi F n)).out ρ fun fs'=>g2 q.2.2 ((ρ.set i (some (.obj true C q.1 fs))).set j (some (.obj true C q.2.1 fs')))):=h
 refine ⟨G,ρ,sr.e,?_⟩
 cases q:gl ρ>>=vi F n with
 | ok fs=>
  rw [q] at h
  intro x G' H' ow' u ob
  refine ⟨G',ρ,(sr.ups u).e,?_⟩
  cases q':gl' ρ>>=vi F n with
  | ok fs'=>
   rw [q'] at h
   intro x' G'' H'' ow'' u' ob'
   exact ⟨.ref x,.ref x',rfl,G'',_,(sr.setObj u ob i).setObj u' ob' j,fun q2=>h (x,x',q2)⟩
  | ex C'=>rw [q'] at h; exact (h (0,0,default)).elim
  | no=>rw [q'] at h; exact (h (0,0,default)).elim
 | ex C'=>rw [q] at h; exact (h (0,0,default)).elim
 | no=>rw [q] at h; exact (h (0,0,default)).elim
end
theorem Fun.okA {P:Program} {w:World} {K:PySem.W.Frag} {mg:Str->Option Value} {base:Heap} {x qual:Str} {st:Stmt} {f:Addr} {fd:FuncData} {N ps:List Str} {k:Nat} {α:Type} (F:Fun K x qual st f fd) (S:FnScope N ps (ar st)) {g:α->Ev->O} {gr:List D->R D}
  (hg:∀ ds,ds.length=ps.length->gr ds=.no\/∀ q,ay (g q (ax N.length ds))=gr ds)
  (hbody:∀ (cdv:Value) (A:Around) (outer:List Env) (s:Shared) (H:Hp) (E:XK),Room k (A.deeper (envOfC qual (ar st) s.heap.objs.size f cdv))->wX (ib (CXo P w) P w K mg base N qual (ar st) f cdv A outer s H E) (cr st) g) :
  FnF P w K mg base (k+1) f fd ps gr:=by
 obtain ⟨oc,od,kV,doc,pm,an,cdv,ct,osl,rfl,lk,hcd⟩:=F.ex
 refine BV lk hcd S (fun vs H Q E h=>h.1) fun A outer s H vs Q E hr hsp=>?_
 obtain ⟨hl,G,ds,sub,r,h⟩:=hsp
 refine ⟨_,hbody cdv A outer s H E hr G H,G,ax N.length ds,sS sub r,fun q0=>?_⟩
 rcases hg ds (by rw [<- r.length]; exact hl) with z | z
 ·rw [z] at h; exact h.elim
 ·rw [<- z q0] at h
  cases q:g q0 (ax N.length ds) with
  | nx ρ=>rw [q] at h; exact fun σ G' H' sr=>h .non G' H' sr.up .non
  | rt d=>rw [q] at h; exact fun v G' H' u rv=>h v G' H' u rv
  | re d ρ=>rw [q] at h; exact fun v σ G' H' sr rv=>h v G' H' sr.up rv
  | bk ρ=>rw [q] at h; exact h.elim
  | ct ρ=>rw [q] at h; exact h.elim
  | ex C ρ=>rw [q] at h; exact fun e s' fl=>oa fl h
  | no=>rw [q] at h; exact h.elim
end L2
namespace L2
open PySem PySem.Spec PyProof.Rows
@[irreducible] def PF (X:Cx) (e:Expr) (g:Ev->R D):Prop:=QF X e g
@[irreducible] def PFA (X:Cx) (e:List Expr) (g:Ev->R (List D)):Prop:=QFA X e g
@[irreducible] def PB (X:Cx) (e:Expr) (g:Ev->R Bool):Prop:=QB X e g
@[irreducible] def PBW (X:Cx) (e:Expr) (g:Ev->R Bool):Prop:=QBW X e g
@[irreducible] def PSF (X:Cx) (e:Stmt) (g:Ev->O):Prop:=QSF X e g
@[irreducible] def vF (X:Cx) (e:List Stmt) (g:Ev->O):Prop:=nv X e g
@[irreducible] def PFL (X:Cx) (e:Expr) (g:Ev->R (List D)):Prop:=QFL X e g
@[irreducible] def PIF (X:Cx) (tg e:Expr) (g:Ev->R (List D)):Prop:=QIF X tg e g
@[irreducible] def PFO (X:Cx) (e:Option Expr) (g:Ev->R (Option Int)):Prop:=QFO X e g
section
variable {X:Cx} {e a b c:Expr} {ga gb gc:Ev->R D} {pos:Pos}
theorem aj {i:Int} {j:Nat}:PF X (.Constant (.int i) j pos) (fun _=>.ok (.int i)):=by
 with_unfolding_all exact yx
theorem pH {k:Bool} {j:Nat}:PF X (.Constant (.bool k) j pos) (fun _=>.ok (.bl k)):=by
 with_unfolding_all exact BW
theorem tT {j:Nat}:PF X (.Constant .none j pos) (fun _=>.ok .non):=by
 with_unfolding_all exact yC
theorem aR {x:Str} {j:Nat} {l:List Nat} (hl:x.cps.toList=l:=by rfl) (hz:l.length<=1000:=by decide):PF X (.Constant (.str x) j pos) (fun _=>.ok (.str l)):=by
 with_unfolding_all exact zJ hl hz
theorem dN {x:Str} {i:Int} {t:Tok} (hg:Gl X x) (hm:X.mg x=some (.int i t)) (hd:(x==("__debug__":Str))=false:=by decide):PF X (.Name x pos) (fun _=>.ok (.int i)):=by
 with_unfolding_all exact vb hg hm hd
end
section
variable {X:Cx}
theorem bg {a b:Expr} {ga gb:Ev->R D} {pos:Pos} (ha:PF X a ga) (hb:PF X b gb):PF X (.BinOp a .Add b pos) (g2 bE ga gb):=by
 with_unfolding_all exact Ab ha hb
theorem pR {a b:Expr} {ga gb:Ev->R D} {pos:Pos} (ha:PF X a ga) (hb:PF X b gb):PF X (.BinOp a .Sub b pos) (g2 we ga gb):=by
 with_unfolding_all exact zN ha hb
theorem C3 {a b:Expr} {ga gb:Ev->R D} {pos:Pos} (ha:PF X a ga) (hb:PF X b gb):PF X (.BinOp a .FloorDiv b pos) (g2 wf ga gb):=by
 with_unfolding_all exact vv ha hb
theorem sR {a b:Expr} {ga gb:Ev->R D} {pos:Pos} (ha:PF X a ga) (hb:PF X b gb):PF X (.BinOp a .Mod b pos) (g2 vg ga gb):=by
 with_unfolding_all exact zk ha hb
end
section
variable {X:Cx} {a b c e:Expr} {ga gb gc:Ev->R D} {pos:Pos}
theorem Fp (ha:PF X a ga) (hb:PF X b gb):PF X (.Compare a [.LtE] [b] pos) (g2 leD ga gb):=by
 with_unfolding_all exact B8 ha hb
theorem FS (ha:PF X a ga) (hb:PF X b gb):PF X (.Compare a [.Lt] [b] pos) (g2 ltD ga gb):=by
 with_unfolding_all exact AS ha hb
theorem rQ (ha:PF X a ga) (hb:PF X b gb) (hc:PF X c gc) (hm:lastMarks [.LtE,.LtE] [b,c]=false:=by with_unfolding_all rfl):PF X (.Compare a [.LtE,.LtE] [b,c] pos) (g3 leD leD ga gb gc):=by
 with_unfolding_all exact xw ha hb hc hm
end
section
variable {X:Cx} {a b:Expr} {ga gb:Ev->R D} {pos:Pos}
theorem ss (hu:X.A.units+64 < cLine) (ha:PF X a ga) (hb:PF X b gb):PF X (.Compare a [.Eq] [b] pos) (g2 eqF ga gb):=by
 with_unfolding_all exact Cy hu ha hb
theorem Gb (hu:X.A.units+64 < cLine) (ha:PF X a ga) (hb:PF X b gb):PF X (.Compare a [.NotEq] [b] pos) (g2 neF ga gb):=by
 with_unfolding_all exact A6 hu ha hb
end
section
variable {X:Cx} {a b c e:Expr} {es cq:List Expr} {ga gb gc:Ev->R D} {gt gu:Ev->R Bool} {gl:Ev->R (List D)} {pos:Pos}
theorem fk {op:BoolOp} (h:PF X a ga):PF X (.BoolOp op [a] pos) ga:=by
 with_unfolding_all exact yg h
theorem dJ (ha:PF X a ga) (hb:PF X (.BoolOp .And (b::cq) pos) gb):PF X (.BoolOp .And (a::b::cq) pos) (lJ ga gb):=by
 with_unfolding_all exact yu ha hb
theorem DX (ha:PF X a ga) (hb:PF X (.BoolOp .Or (b::cq) pos) gb):PF X (.BoolOp .Or (a::b::cq) pos) (gOr ga gb):=by
 with_unfolding_all exact Cq ha hb
theorem DY (ha:PF X a ga):PF X (.UnaryOp .Not a pos) (Gf ga):=by
 with_unfolding_all exact zS ha
theorem GA (ha:PF X a ga) (hb:PF X b gb):PB X (.Compare a [.GtE] [b] pos) (fun ρ=>g2 geD ga gb ρ>>=asB):=by
 with_unfolding_all exact Ci ha hb
theorem sL (ha:PB X a gt):PBW X (.BoolOp .And [a] pos) gt:=by
 with_unfolding_all exact uq ha
theorem cS (ha:PB X a gt):PBW X (.BoolOp .Or [a] pos) gt:=by
 with_unfolding_all exact xr ha
theorem xE (ha:PB X a gt) (hb:PBW X (.BoolOp .And (b::cq) pos) gu):PBW X (.BoolOp .And (a::b::cq) pos) (xK gt gu):=by
 with_unfolding_all exact xb ha hb
theorem eF (ha:PB X a gt) (hb:PBW X (.BoolOp .Or (b::cq) pos) gu):PBW X (.BoolOp .Or (a::b::cq) pos) (mZ gt gu):=by
 with_unfolding_all exact zW ha hb
theorem wV (hc:PB X c gt) (ha:PF X a ga) (hb:PF X b gb):PF X (.IfExp c a b pos) (gIf gt ga gb):=by
 with_unfolding_all exact Bp hc ha hb
theorem ae  : PFA X [] (fun _=>.ok []):=by
 with_unfolding_all exact pF
theorem aP (ha:PF X a ga) (hb:PF X b gb) (hs:lK b:=by exact fun _ _=>rfl):PF X (.Subscript a b pos) (g2 ixD ga gb):=by
 with_unfolding_all exact Bn ha hb hs
end
section
variable {X:Cx} {a b c e:Expr} {es cq:List Expr} {lo hi:Option Expr} {ga gb gc:Ev->R D} {go gp:Ev->R (Option Int)} {gl:Ev->R (List D)} {pos p2:Pos}
theorem ci  : PFO X none (fun _=>.ok none):=by
 with_unfolding_all exact um
theorem bZ (ha:PF X a ga) (hl:PFO X lo go) (hu:PFO X hi gp):PF X (.Subscript a (.Slice lo hi none p2) pos) (gSl ga go gp):=by
 with_unfolding_all exact ul ha hl hu
theorem yN {id:String} {x:Str} {p:Pos} {r:List V->Hp->VK->Prop} {f:List D->Option D} (hc:im X (.builtin id) r) (hf:AH X.K r f) (hg:Gl X x) (hm:X.mg x=none) (hv:bootBuiltins x=some (.builtin id)) (ha:PFA X (e::es) gl)
  (hn:x ≠ "__name__":=by decide) (hdb:(x==("__debug__":Str))=false:=by decide)
  (he:starEach (e::es) X.env=(false,eval e X.env)::starEach es X.env:=by rfl) (hpl:(backTo pos (starEach es X.env)).any (·.1)=false:=by rfl):PF X (.Call (.Name x p) (e::es) [] pos) (fun ρ=>gl ρ>>=fun ds=>ofO (f ds)):=by
 with_unfolding_all exact fW hc hf hg hm hv ha hn hdb he hpl
theorem wy {T:String} {x:Str} {p:Pos} {r:List V->Hp->VK->Prop} {f:List D->Option D} (hc:im X (.type T) r) (hf:AH X.K r f) (hg:Gl X x) (hm:X.mg x=none) (hv:bootBuiltins x=some (.type T)) (ha:PFA X (e::es) gl)
  (hn:x ≠ "__name__":=by decide) (hdb:(x==("__debug__":Str))=false:=by decide)
  (he:starEach (e::es) X.env=(false,eval e X.env)::starEach es X.env:=by rfl) (hpl:(backTo pos (starEach es X.env)).any (·.1)=false:=by rfl):PF X (.Call (.Name x p) (e::es) [] pos) (fun ρ=>gl ρ>>=fun ds=>ofO (f ds)):=by
 with_unfolding_all exact lP hc hf hg hm hv ha hn hdb he hpl
end
section
variable {X:Cx} {tg a e:Expr} {ga:Ev->R D} {gl:Ev->R (List D)} {pos:Pos}
end
section
end
section
variable {X:Cx} {elt iter:Expr} {ifs:List Expr} {x:Str} {px pos:Pos} {scope:Scope} {N':List Str} {ix:List Nat} {gi:Ev->R (List D)} {gt:Ev->R Bool} {ge:Ev->R D}
theorem eR (ok:CompOk X scope x N' ix) (hcalm:X.calm=true) (hi:PIF X (.Name x px) iter gi) (he:∀ C s₂ H₂ fp,PF (aX X N' scope C s₂ H₂ fp) elt ge) (ht:∀ C s₂ H₂ fp,PTs (aX X N' scope C s₂ H₂ fp) ifs gt)
  (hs:∀ x,foldedSetIterable iter X.env x=pure x:=by intro _; rfl):PFL X (.ListComp elt [⟨.Name x px,iter,ifs,0⟩] scope pos) (eU gi ix gt ge):=by
 with_unfolding_all exact uu ok hcalm hi he ht hs
end
section
variable {X:Cx} {st:Stmt} {cq body a b:List Stmt} {e c tg:Expr} {g g1 g2:Ev->O} {ga:Ev->R D} {gt:Ev->R Bool} {gl:Ev->R (List D)} {pos:Pos}
end
section
variable {X:Cx} {k:Nat} {f:Addr} {fd:FuncData} {ps:List Str} {x:Str} {p pos:Pos} {e:Expr} {es:List Expr} {gl:Ev->R (List D)} {g:List D->R D}
end
section
theorem Fun.okF {P:Program} {w:World} {K:PySem.W.Frag} {mg:Str->Option Value} {base:Heap} {x qual:Str} {st:Stmt} {f:Addr} {fd:FuncData} {N ps:List Str} {k:Nat} (F:Fun K x qual st f fd) (S:FnScope N ps (ar st)) {g:Ev->O}
  (hbody:∀ (cdv:Value) (A:Around) (outer:List Env) (s:Shared) (H:Hp) (E:XK),Room k (A.deeper (envOfC qual (ar st) s.heap.objs.size f cdv))->vF (ib (CXo P w) P w K mg base N qual (ar st) f cdv A outer s H E) (cr st) g):FnF P w K mg base (k+1) f fd ps (fun ds=>ay (g (ax N.length ds))):=by
 with_unfolding_all exact Fun.okF_0 F S hbody
end
section
variable {X:Cx}
theorem fj {a b:Expr} {ga gb:Ev->R D} {pos:Pos} (ha:PF X a ga) (hb:PF X b gb):PF X (.BinOp a .Mult b pos) (g2 gf ga gb):=by
 with_unfolding_all exact yd ha hb
end
section
variable {X:Cx} {e o:Expr} {es:List Expr} {ga gb:Ev->R D} {gl:Ev->R (List D)} {pos:Pos}
theorem A5 {T id:String} {name:Str} {ap cp:Pos} {r:V->List V->Hp->VK->Prop} {f:D->List D->Option D} (pa:PlainAttrs T) (slot:PySem.Slot T name id) (hty:typeOf (.builtin id)=pure (.type "method_descriptor")) (hm:MtR X id r) (hf:Bg X.K T r f) (ho:PF X o ga) (ha:PFA X (e::es) gl)
  (hbase:attributeBase o name X.env (eval o X.env)=eval o X.env:=by rfl)
  (hfew:((backTo cp (starEach (e::es) X.env)).all (fun x=>!x.1) && (backToKw cp (keywordEach [] X.env)).all (fun x=>x.1.isSome)
   && decide ((e::es).length+([]:List Keyword).length+(if ([]:List Keyword).isEmpty then 0 else 1) < 30))=true:=by rfl)
  (hline:(ap.endLine==cp.line)=true:=by rfl) (hs:starEach (e::es) X.env=(false,eval e X.env)::starEach es X.env:=by rfl) (hplain:(backTo cp (starEach es X.env)).any (·.1)=false:=by rfl):PF X (.Call (.Attribute o name ap) (e::es) [] cp) (fun ρ=>ga ρ>>=fun x=>if gW T x=true then gl ρ>>=fun ds=>ofO (f x ds) else .no):=by
 with_unfolding_all exact fH pa slot hty hm hf ho ha hbase hfew hline hs hplain
end
section
variable {X:Cx} {e:Expr} {es:List Expr} {ga:Ev->R D} {gl:Ev->R (List D)} {pos:Pos}
end
section
variable {X:Cx} {body suite:List Stmt} {b₀:Stmt} {gb gs:Ev->O} {pos hp tp:Pos} {tn nm:Str} {Ct:Addr}
end
section
end
section
variable {X:Cx} {e:Expr} {ga:Ev->R D} {p p2 pos:Pos}
end
section
variable {X:Cx} {st:Stmt} {cq body sa sb:List Stmt} {e a b c o tg:Expr} {es:List Expr} {g gs1 gs2:Ev->O} {ga gb gc:Ev->R D} {gt:Ev->R Bool} {gl:Ev->R (List D)} {pos p p2:Pos} {x:Str}
theorem ai (h1:PSF X st gs1) (h2:vF X cq gs2):vF X (st::cq) (aE gs1 gs2):=by
 with_unfolding_all exact yc h1 h2
theorem aF  : vF X [] oNx:=by
 with_unfolding_all exact CS
theorem bh (he:PF X e ga):PSF X (.Return (some e) pos) (bO ga):=by
 with_unfolding_all exact Bu he
theorem gh (hc:PB X c gt) (ha:vF X sa gs1) (hb:vF X sb gs2):PSF X (.If c sa sb pos) (oIf gt gs1 gs2):=by
 with_unfolding_all exact Ft hc ha hb
theorem gE (he:PF X e ga) (hs:swapsWith e none pos.line X.env=pure false:=by rfl):PSF X (.Expr e pos) (jo ga):=by
 with_unfolding_all exact ye he hs
theorem su {iter:Expr} {gi:Ev->R (List D)} {asg:D->Ev->R Ev} (hp:PassesOwn (model X.prog X.w) X.A X.env X.xe) (hcalm:X.calm=true) (hi:PIF X tg iter gi) (hg:PGF X tg asg) (hb:vF X body g)
  (hs:∀ x,foldedSetIterable iter X.env x=pure x:=by intro _; rfl) (hn:∀ d ρ C,asg d ρ ≠ .ex C:=by intro _ _ _ z; cases z):PSF X (.For tg iter body [] pos) (uR asg gi g):=by
 with_unfolding_all exact B1 hp hcalm hi hg hb hs hn
theorem dY (hg:Gl X "len") (hm:X.mg "len"=none) (ha:PFA X [e] gl) (he:starEach [e] X.env=[(false,eval e X.env)]:=by rfl):PF X (.Call (.Name "len" p) [e] [] pos) (gOf fc gl):=by
 with_unfolding_all exact B5 hg hm ha he
theorem zD (hc:X.calm=true) (hg:Gl X "all") (hm:X.mg "all"=none) (ha:PFA X [e] gl) (he:starEach [e] X.env=[(false,eval e X.env)]:=by rfl):PF X (.Call (.Name "all" p) [e] [] pos) (gOf zf gl):=by
 with_unfolding_all exact CW hc hg hm ha he
theorem aa (ha:PF X e ga) (hr:PFA X es gl) (hs:starEach (e::es) X.env=(false,eval e X.env)::starEach es X.env:=by rfl):PFA X (e::es) (ac ga gl):=by
 with_unfolding_all exact pL ha hr hs
theorem aI {k n:Nat} {f:List D->R D} (c:Callee X.prog X.w X.K X.mg X.base x k n f) (hr:Room k X.A) (ha:PFA X (e::es) gl) (hg:Gl X x:=by rfl)
  (hdb:(x==("__debug__":Str))=false:=by decide) (he:starEach (e::es) X.env=(false,eval e X.env)::starEach es X.env:=by rfl) (hpl:(backTo pos (starEach es X.env)).any (·.1)=false:=by rfl):PF X (.Call (.Name x p) (e::es) [] pos) (aL n f gl):=by
 with_unfolding_all exact zz c hr ha hg hdb he hpl
theorem jJ {gens:List Comprehension} {sc:Scope} (h:PFL X (.ListComp e gens sc pos) gl):PF X (.ListComp e gens sc pos) (cG gl):=by
 with_unfolding_all exact yO h
theorem DH (h:PFL X (.List es pos) gl):PF X (.List es pos) (cG gl):=by
 with_unfolding_all exact yr h
theorem wD (h:PFA X es gl):PFL X (.List es pos) (zT gl):=by
 with_unfolding_all exact AL h
theorem dn {k:Nat} (h:PFA X es gl):PF X (.Tuple es k pos) (aH mkT gl):=by
 with_unfolding_all exact Da h
theorem ug (ha:PF X a ga):PF X (.UnaryOp .USub a pos) (aH rR ga):=by
 with_unfolding_all exact Cw ha
theorem B0 (hm:X.mg "isinstance"=none) (ha:PF X e ga) (hm2:X.mg "int"=none) (hg2:Gl X "int":=by rfl) (hg:Gl X "isinstance":=by rfl) (hs1:starEach [e,.Name "int" p2] X.env=(false,eval e X.env)::starEach [.Name "int" p2] X.env:=by rfl):PF X (.Call (.Name "isinstance" p) [e,.Name "int" p2] [] pos) (aH (fX isInt) ga):=by
 with_unfolding_all exact vC hm ha hm2 hg2 hg hs1
theorem yP (hm:X.mg "isinstance"=none) (ha:PF X e ga) (hm2:X.mg "bool"=none) (hg2:Gl X "bool":=by rfl) (hg:Gl X "isinstance":=by rfl) (hs1:starEach [e,.Name "bool" p2] X.env=(false,eval e X.env)::starEach [.Name "bool" p2] X.env:=by rfl):PF X (.Call (.Name "isinstance" p) [e,.Name "bool" p2] [] pos) (aH (fX (·=="bool")) ga):=by
 with_unfolding_all exact uN hm ha hm2 hg2 hg hs1
theorem vM (hm:X.mg "isinstance"=none) (ha:PF X e ga) (hm2:X.mg "str"=none) (hg2:Gl X "str":=by rfl) (hg:Gl X "isinstance":=by rfl) (hs1:starEach [e,.Name "str" p2] X.env=(false,eval e X.env)::starEach [.Name "str" p2] X.env:=by rfl):PF X (.Call (.Name "isinstance" p) [e,.Name "str" p2] [] pos) (aH (fX (·=="str")) ga):=by
 with_unfolding_all exact wc hm ha hm2 hg2 hg hs1
theorem ir (hm:X.mg "isinstance"=none) (ha:PF X e ga) (hm2:X.mg "tuple"=none) (hg2:Gl X "tuple":=by rfl) (hg:Gl X "isinstance":=by rfl) (hs1:starEach [e,.Name "tuple" p2] X.env=(false,eval e X.env)::starEach [.Name "tuple" p2] X.env:=by rfl):PF X (.Call (.Name "isinstance" p) [e,.Name "tuple" p2] [] pos) (aH (fX (·=="tuple")) ga):=by
 with_unfolding_all exact rM hm ha hm2 hg2 hg hs1
theorem dX (h:PF X e ga):PFO X (some e) (dE ga):=by
 with_unfolding_all exact zu h
theorem AY (ha:PF X a ga) (hb:PF X b gb):PB X (.Compare a [.Lt] [b] pos) (gB2 ltD ga gb):=by
 with_unfolding_all exact BL ha hb
theorem B3 (ha:PF X a ga) (hb:PF X b gb):PB X (.Compare a [.Gt] [b] pos) (gB2 gtD ga gb):=by
 with_unfolding_all exact BX ha hb
theorem gw (hu:X.A.units+64 < cLine) (ha:PF X a ga) (hb:PF X b gb):PB X (.Compare a [.Eq] [b] pos) (gB2 eqF ga gb):=by
 with_unfolding_all exact Di hu ha hb
theorem ji (hu:X.A.units+64 < cLine) (ha:PF X a ga) (hb:PF X b gb):PB X (.Compare a [.NotEq] [b] pos) (gB2 neF ga gb):=by
 with_unfolding_all exact CZ hu ha hb
theorem GB (ha:PF X a ga) (hb:PF X b gb):PB X (.Compare a [.Is] [b] pos) (gB2 isF ga gb):=by
 with_unfolding_all exact Ba ha hb
theorem Bs (ha:PF X a ga) (hb:PF X b gb) (hc:PF X c gc) (hm:lastMarks [.LtE,.LtE] [b,c]=false:=by with_unfolding_all rfl):PB X (.Compare a [.LtE,.LtE] [b,c] pos) (gB3 leD leD ga gb gc):=by
 with_unfolding_all exact wg ha hb hc hm
theorem dv (ha:PB X a gt):PB X (.UnaryOp .Not a pos) (gBn gt):=by
 with_unfolding_all exact zX ha
theorem dF (h:PF X (.Call a es [] pos) ga):PB X (.Call a es [] pos) (aH iW ga):=by
 with_unfolding_all exact zx h
theorem iJ {op:BoolOp} (h:PBW X (.BoolOp op es pos) gt):PB X (.BoolOp op es pos) gt:=by
 with_unfolding_all exact A7 h
theorem eG (ha:PF X a ga):PIF X tg a (aH bw ga):=by
 with_unfolding_all exact zP ha
theorem iQ (hg:Gl X "range") (hm:X.mg "range"=none) (ha:PFA X [a] gl) (hs:starEach [a] X.env=[(false,eval a X.env)]:=by rfl):PIF X tg (.Call (.Name "range" p) [a] [] pos) (aH bD gl):=by
 with_unfolding_all exact uG hg hm ha hs
end
section
variable {X:Cx} {N:List Str} {i:Nat} {x:Str} {pos:Pos}
theorem ag {CX:CXT} {P:Program} {w:World} {K:PySem.W.Frag} {mg:Str->Option Value} {base:Heap} {qual:Str} {scope:Scope} {f:Addr} {cdv:Value} {A:Around} {outer:List Env} {s:Shared} {H:Hp} {E:XK} (h:At N i x)
  (hv:Vis (ib CX P w K mg base N qual scope f cdv A outer s H E).env.scope x:=by first | exact Or.inl rfl | exact Or.inr (Or.inl rfl) | exact Or.inr (Or.inr rfl)) (hd:(x==("__debug__":Str))=false:=by decide)
  (hcd:(x==("__classdict__":Str))=false:=by decide):PF (ib CX P w K mg base N qual scope f cdv A outer s H E) (.Name x pos) (fun ρ=>rdV ρ i):=by
 with_unfolding_all exact AM h hv hd hcd
theorem cQ {scope:Scope} {C:Addr} {s₂:Shared} {H₂:Hp} {fp:List Addr} (h:At N i x)
  (hv:Vis (aX X N scope C s₂ H₂ fp).env.scope x:=by first | exact Or.inl rfl | exact Or.inr (Or.inl rfl) | exact Or.inr (Or.inr rfl)) (hd:(x==("__debug__":Str))=false:=by decide)
  (hcd:(x==("__classdict__":Str))=false:=by decide):PF (aX X N scope C s₂ H₂ fp) (.Name x pos) (fun ρ=>rdV ρ i):=by
 with_unfolding_all exact yL h hv hd hcd
theorem ca {CX:CXT} {P:Program} {w:World} {K:PySem.W.Frag} {mg:Str->Option Value} {base:Heap} {qual:Str} {scope:Scope} {f:Addr} {cdv:Value} {A:Around} {outer:List Env} {s:Shared} {H:Hp} {E:XK} {e:Expr} {p:Pos} {ga:Ev->R D} (h:At N i x) (hN:N.Nodup)
  (he:PF (ib CX P w K mg base N qual scope f cdv A outer s H E) e ga) (hx:Loc (ib CX P w K mg base N qual scope f cdv A outer s H E).env.scope x:=by first | exact Or.inl rfl | exact Or.inr rfl)
  (hs:swapsWithSole [.Name x p] e pos.line (ib CX P w K mg base N qual scope f cdv A outer s H E).env=pure false:=by rfl) (hw:swappedStores [.Name x p] e (ib CX P w K mg base N qual scope f cdv A outer s H E).env=pure none:=by rfl)
  (hf:(ib CX P w K mg base N qual scope f cdv A outer s H E).fn x=true\/(ib CX P w K mg base N qual scope f cdv A outer s H E).env.scope.names.lookup x=some .local:=by first | exact .inl rfl | exact .inr rfl):PSF (ib CX P w K mg base N qual scope f cdv A outer s H E) (.Assign [.Name x p] e pos) (eB i ga):=by
 with_unfolding_all exact BP h hN he hx hs hw hf
end
section
theorem E0 {X:Cx} {e:Expr} {es:List Expr} {ga:Ev->R D} {pos pt:Pos} {k:Nat} {is:List Nat} (he:PF X e ga) (hc:X.calm=true) (h:Dm X es is) (hn:(assignEach es X.env).length=is.length:=by rfl) (hst:(assignEach es X.env).findIdx? (·.1)=none:=by rfl)
  (hs:swapsWithSole [.Tuple es k pt] e pos.line X.env=pure false:=by rfl) (hw:swappedStores [.Tuple es k pt] e X.env=pure none:=by rfl) (h1:(assignEach [.Tuple es k pt] X.env).map (·.2)=[assign (.Tuple es k pt) X.env]:=by rfl):PSF X (.Assign [.Tuple es k pt] e pos) (Fy (Ds is) ga):=by
 with_unfolding_all exact zI he hc h hn hst hs hw h1
theorem fb {X:Cx} {x:Str} {C:Addr} {e:Expr} {ga:Ev->R D} {np cp pos:Pos} (r:Ref x C X.mg X.base) (hh:X.A.handled=none) (ha:PF X e ga) (hg:Gl X x:=by rfl)
  (hdb:(x==("__debug__":Str))=false:=by decide) (hs:starEach [e] X.env=(false,eval e X.env)::starEach [] X.env:=by rfl):PSF X (.Raise (some (.Call (.Name x np) [e] [] cp)) none pos) (eJ C (ac ga fun _=>.ok [])):=by
 with_unfolding_all exact wE r hh ha hg hdb hs
end
section
variable {X:Cx} {elt iter:Expr} {ifs:List Expr} {x:Str} {px pos:Pos} {scope:Scope} {N':List Str} {ix:List Nat} {gi:Ev->R (List D)} {gt:Ev->R Bool} {ge:Ev->R D}
theorem ri (i:Nat) {y:Str} {py spos:Pos} (hN:X.N.Nodup) (ok:CompOk X scope x N' ix) (hcalm:X.calm=true) (hi:PIF X (.Name x px) iter gi) (he:∀ C s₂ H₂ fp,PF (aX X N' scope C s₂ H₂ fp) elt ge) (ht:∀ C s₂ H₂ fp,PTs (aX X N' scope C s₂ H₂ fp) ifs gt)
  (hni:X.N[i]?=some y:=by rfl) (hy:X.env.scope.names.lookup y=some .local:=by rfl) (hs:∀ x,foldedSetIterable iter X.env x=pure x:=by intro _; rfl)
  (hsw:swapsWith (.ListComp elt [⟨.Name x px,iter,ifs,0⟩] scope pos) (some (.Name y py)) spos.line X.env=pure true:=by rfl):PSF X (.Assign [.Name y py] (.ListComp elt [⟨.Name x px,iter,ifs,0⟩] scope pos) spos) (Bd i (eU gi ix gt ge)):=by
 with_unfolding_all exact xT i hN ok hcalm hi he ht hni hy hs hsw
end
section
variable {X:Cx} {st:Stmt} {cq body:List Stmt} {e c o:Expr} {es:List Expr} {g:Ev->O} {ga:Ev->R D} {gl:Ev->R (List D)} {pos p p2:Pos}
theorem ya (i:Nat) {x:Str} {p ap cp:Pos} (he:PF X e ga) (hi:X.N[i]?=some x:=by rfl) (hv:Vis X.env.scope x:=by first | exact Or.inl rfl | exact Or.inr (Or.inl rfl))
  (hd:(x==("__debug__":Str))=false:=by decide) (hcd:(x==("__classdict__":Str))=false:=by decide) (hs1:starEach [e] X.env=(false,eval e X.env)::starEach [] X.env:=by rfl)
  (hbase:attributeBase (.Name x p) "append" X.env (eval (.Name x p) X.env)=eval (.Name x p) X.env:=by rfl)
  (hfew:((backTo cp (starEach [e] X.env)).all (fun x=>!x.1) && (backToKw cp (keywordEach [] X.env)).all (fun x=>x.1.isSome)
   && decide ([e].length+([]:List Keyword).length+(if ([]:List Keyword).isEmpty then 0 else 1) < 30))=true:=by rfl)
  (hline:(ap.endLine==cp.line)=true:=by rfl)
  (hs:swapsWith (.Call (.Attribute (.Name x p) "append" ap) [e] [] cp) none pos.line X.env=pure false:=by rfl):PSF X (.Expr (.Call (.Attribute (.Name x p) "append" ap) [e] [] cp) pos) (FA i ga):=by
 with_unfolding_all exact uf i he hi hv hd hcd hs1 hbase hfew hline hs
theorem G0 (i j:Nat) {x y:Str} {a b:Expr} {px py pt pt2:Pos} {kt k2:Nat} (hc:X.calm=true) (hN:X.N.Nodup) (ha:PFA X [a,b] gl) (hij:i ≠ j:=by decide) (hi:X.N[i]?=some x:=by rfl) (hj:X.N[j]?=some y:=by rfl)
  (hx:X.env.scope.names.lookup x=some .local:=by rfl) (hy:X.env.scope.names.lookup y=some .local:=by rfl)
  (hw:swappedStores [.Tuple [.Name x px,.Name y py] kt pt] (.Tuple [a,b] k2 pt2) X.env=pure (some [x,y]):=by rfl)
  (hs:swapsWithSole [.Tuple [.Name x px,.Name y py] kt pt] (.Tuple [a,b] k2 pt2) pos.line X.env=pure false:=by rfl):PSF X (.Assign [.Tuple [.Name x px,.Name y py] kt pt] (.Tuple [a,b] k2 pt2) pos) (Fx i j gl):=by
 with_unfolding_all exact A8 i j hc hN ha hij hi hj hx hy hw hs
theorem BO {x:Str} (h:PF X (.Name x pos) ga):PB X (.Name x pos) (aH iW ga):=by
 with_unfolding_all exact vO h
theorem yh {sts:List Stmt} (i:Nat) (h:vF X sts g):vF X sts (B4 i g):=by
 with_unfolding_all exact B6 i h
end
section
variable {X:Cx} {e:Expr} {ga:Ev->R D} {p p2 pos:Pos} {rs:List Addr} {ts:List (Str × Addr)}
end
section
variable {CX:CXT} {P:Program} {w:World} {K:PySem.W.Frag} {mg:Str->Option Value} {base:Heap} {N:List Str} {i:Nat} {x:Str} {qual:Str} {scope:Scope} {f a:Addr} {cdv:Value} {A:Around} {outer:List Env} {s:Shared} {H:Hp} {E:XK} {pn:List (Addr × Obj)} {xe:Value->Shared->Prop} {pos p:Pos} {e:Expr} {ga:Ev->R D}
end
section
variable {X:Cx} {body suite:List Stmt} {b₀:Stmt} {gb gs:Ev->O} {pos hp tp:Pos} {nm:Str} {rs:List Addr} {ts:List (Str × Addr)}
end
section
variable {X:Cx} {st:Stmt} {cq body a b:List Stmt} {e c tg:Expr} {g g1 g2:Ev->O} {ga gb:Ev->R D} {gt:Ev->R Bool} {gl:Ev->R (List D)} {pos:Pos}
end
section
variable {X:Cx} {e:Expr} {ga:Ev->R D} {p p2 p3 p4 pos:Pos} {k:Nat}
end
section
theorem xj {X:Cx} {o e:Expr} {ga:Ev->R D} {gl:Ev->R (List D)} {ap cp:Pos} (ho:PF X o ga) (ha:PFA X [e] gl) (hbase:attributeBase o "join" X.env (eval o X.env)=eval o X.env:=by rfl)
  (hfew:((backTo cp (starEach [e] X.env)).all (fun x=>!x.1) && (backToKw cp (keywordEach [] X.env)).all (fun x=>x.1.isSome)
   && decide ([e].length+([]:List Keyword).length+(if ([]:List Keyword).isEmpty then 0 else 1) < 30))=true:=by rfl)
  (hline:(ap.endLine==cp.line)=true:=by rfl) (hs:starEach [e] X.env=(false,eval e X.env)::starEach [] X.env:=by rfl):PF X (.Call (.Attribute o "join" ap) [e] [] cp) (fv "str" iz ga gl):=by
 with_unfolding_all exact zg ho ha hbase hfew hline hs
end
section
variable {X:Cx}
theorem zR {e:Expr} {ga:Ev->R D} {p p2 pos:Pos} (hm:X.mg "isinstance"=none) (ha:PF X e ga) (hm2:X.mg "list"=none) (hg2:Gl X "list":=by rfl) (hg:Gl X "isinstance":=by rfl) (hs1:starEach [e,.Name "list" p2] X.env=(false,eval e X.env)::starEach [.Name "list" p2] X.env:=by rfl):PF X (.Call (.Name "isinstance" p) [e,.Name "list" p2] [] pos) (aH (fX (·=="list")) ga):=by
 with_unfolding_all exact uZ hm ha hm2 hg2 hg hs1
end
section
variable {X:Cx} {a b:Expr} {ga gb:Ev->R D} {elts:List Expr} {kt:Nat} {p pos tp kp:Pos}
end
section
variable {X:Cx} {elt iter tgt:Expr} {ifs:List Expr} {pos:Pos} {scope:Scope} {n:Nat} {N':List Str} {ix:List Nat} {asg:D->Ev->R Ev} {gi:Ev->R (List D)} {gt:Ev->R Bool} {ge:Ev->R D}
end
section
variable {X:Cx}
theorem GQ {e:Expr} {gl:Ev->R (List D)} {p pos:Pos} (hc:X.calm=true) (hg:Gl X "sum") (hm:X.mg "sum"=none) (ha:PFA X [e] gl) (he:starEach [e] X.env=(false,eval e X.env)::starEach [] X.env:=by rfl):PF X (.Call (.Name "sum" p) [e] [] pos) (gOf Bx gl):=by
 with_unfolding_all exact AO hc hg hm ha he
end
section
variable {X:Cx} {ga:Ev->R D} {gl:Ev->R (List D)} {pos:Pos}
theorem Fv (i j:Nat) {x y:Str} {a b:Expr} {px py pt pt2:Pos} {kt k2:Nat} (hc:X.calm=true) (hN:X.N.Nodup) (ha:PF X a ga) (hb:PFL X b gl) (hij:i ≠ j:=by decide) (hi:X.N[i]?=some x:=by rfl) (hj:X.N[j]?=some y:=by rfl)
  (hx:X.env.scope.names.lookup x=some .local:=by rfl) (hy:X.env.scope.names.lookup y=some .local:=by rfl)
  (hw:swappedStores [.Tuple [.Name x px,.Name y py] kt pt] (.Tuple [a,b] k2 pt2) X.env=pure (some [x,y]):=by rfl)
  (hs:swapsWithSole [.Tuple [.Name x px,.Name y py] kt pt] (.Tuple [a,b] k2 pt2) pos.line X.env=pure false:=by rfl)
  (h1:starEach [a,b] X.env=(false,eval a X.env)::starEach [b] X.env:=by rfl) (h2:starEach [b] X.env=(false,eval b X.env)::starEach [] X.env:=by rfl):PSF X (.Assign [.Tuple [.Name x px,.Name y py] kt pt] (.Tuple [a,b] k2 pt2) pos) (yH i j ga gl):=by
 with_unfolding_all exact yE i j hc hN ha hb hij hi hj hx hy hw hs h1 h2
end
section
variable {X:Cx} {a b:Expr} {gl:Ev->R (List D)} {elts:List Expr} {kt:Nat} {p pos tp:Pos}
end
section
variable {X:Cx} {a st:Expr} {ga gs:Ev->R D} {pos p2:Pos}
end
section
variable {X:Cx} {c e:Expr} {body:List Stmt} {gt:Ev->R Bool} {g:Ev->O} {ga:Ev->R D} {pos:Pos}
end
section
variable {X:Cx} {a b ix e:Expr} {es:List Expr} {ga gb gi:Ev->R D} {gl:Ev->R (List D)} {pos p1 p2 pl sp:Pos}
end
section
variable {X:Cx} {a b:Expr} {ga gb:Ev->R D} {pos:Pos}
theorem sW {x z:Str} {l:List Nat} {t:Tok} (hg:Gl X x) (hm:X.mg x=some (.str z t)) (hl:z.cps.toList=l:=by rfl) (hz:l.length<=1000:=by decide) (hd:(x==("__debug__":Str))=false:=by decide):PF X (.Name x pos) (fun _=>.ok (.str l)):=by
 with_unfolding_all exact uL hg hm hl hz hd
end
section
variable {X:Cx} {a b c e e1 e2 e3 e4 e5:Expr} {ga gb gc g1 g2' g3' g4 g5:Ev->R D} {gl:Ev->R (List D)} {pos p:Pos}
theorem BN (h:PF X e ga):PF X (.FormattedValue e (-1) none pos) (aH vA ga):=by
 with_unfolding_all exact Bj h
theorem xo (h1:PF X e1 g1) (h2:PF X e2 g2') (h3:PF X e3 g3'):PF X (.JoinedStr [e1,e2,e3] pos) (qO [g1,g2',g3']):=by
 with_unfolding_all exact wm h1 h2 h3
theorem AF (hg:Gl X "int") (hm:X.mg "int"=none) (ha:PFA X [e] gl) (he:starEach [e] X.env=(false,eval e X.env)::starEach [] X.env:=by rfl):PF X (.Call (.Name "int" p) [e] [] pos) (gOf qK gl):=by
 with_unfolding_all exact zF hg hm ha he
end
section
variable {X:Cx} {a b c e:Expr} {ga:Ev->R D} {gl:Ev->R (List D)} {pos p:Pos} {tg:Expr}
theorem xg {o:Expr} {ap cp:Pos} (ho:PF X o ga) (ha:PFA X [e] gl) (hbase:attributeBase o "split" X.env (eval o X.env)=eval o X.env:=by rfl)
  (hfew:((backTo cp (starEach [e] X.env)).all (fun x=>!x.1) && (backToKw cp (keywordEach [] X.env)).all (fun x=>x.1.isSome)
   && decide ([e].length+([]:List Keyword).length+(if ([]:List Keyword).isEmpty then 0 else 1) < 30))=true:=by rfl)
  (hline:(ap.endLine==cp.line)=true:=by rfl) (hs:starEach [e] X.env=(false,eval e X.env)::starEach [] X.env:=by rfl):PF X (.Call (.Attribute o "split" ap) [e] [] cp) (fv "str" ju ga gl):=by
 with_unfolding_all exact wj ho ha hbase hfew hline hs
end
section
variable {X:Cx} {elt iter:Expr} {ifs:List Expr} {x:Str} {px pos:Pos} {scope:Scope} {N':List Str} {ix:List Nat} {gi:Ev->R (List D)} {gt:Ev->R Bool} {ge:Ev->R D}
end
section
variable {X:Cx} {a b c:Expr} {gl:Ev->R (List D)} {elts:List Expr} {kt:Nat} {p pos tp:Pos}
end
section
variable {X:Cx} {a b e:Expr} {ga gb:Ev->R D} {gl:Ev->R (List D)} {pos p:Pos}
theorem E5 (ha:PF X a ga) (hb:PF X b gb) (hm:behindInMarks .In b=false:=by rfl):PF X (.Compare a [.In] [b] pos) (g2 Dk ga gb):=by
 with_unfolding_all exact zo ha hb hm
end
section
end
section
variable {X:Cx} {elt iter:Expr} {ifs:List Expr} {x:Str} {px pos:Pos} {scope:Scope} {N':List Str} {ix:List Nat} {gi:Ev->R (List D)} {gt:Ev->R Bool} {ge:Ev->R D}
theorem xm (hst:X.stack=X.env::X.outer) (hfr:X.env.frame=some X.env.locals) (ok:CompOk X scope x N' ix) (hcalm:X.calm=true) (hi:PIF X (.Name x px) iter gi) (he:∀ C s₂ H₂ fp pn xe,PF (dq X N' scope C s₂ H₂ fp pn xe) elt ge) (ht:∀ C s₂ H₂ fp,PTs (aX X N' scope C s₂ H₂ fp) ifs gt)
  (hs:∀ x,foldedSetIterable iter X.env x=pure x:=by intro _; rfl):PFL X (.ListComp elt [⟨.Name x px,iter,ifs,0⟩] scope pos) (qq gi ix gt ge):=by
 with_unfolding_all exact qG hst hfr ok hcalm hi he ht hs
end
section
variable {X:Cx} {a b c e ix:Expr} {es:List Expr} {ga gb gi:Ev->R D} {gl:Ev->R (List D)} {pos p p1 p2 p3 pl sp:Pos}
theorem D3 {o:Expr} {ap cp:Pos} (ho:PF X o ga) (ha:PFA X [e] gl) (hbase:attributeBase o "endswith" X.env (eval o X.env)=eval o X.env:=by rfl)
  (hfew:((backTo cp (starEach [e] X.env)).all (fun x=>!x.1) && (backToKw cp (keywordEach [] X.env)).all (fun x=>x.1.isSome)
   && decide ([e].length+([]:List Keyword).length+(if ([]:List Keyword).isEmpty then 0 else 1) < 30))=true:=by rfl)
  (hline:(ap.endLine==cp.line)=true:=by rfl) (hs:starEach [e] X.env=(false,eval e X.env)::starEach [] X.env:=by rfl):PF X (.Call (.Attribute o "endswith" ap) [e] [] cp) (fv "str" uw ga gl):=by
 with_unfolding_all exact zO ho ha hbase hfew hline hs
theorem EJ {o:Expr} {ap cp:Pos} (ho:PF X o ga) (ha:PFA X [e] gl) (hbase:attributeBase o "partition" X.env (eval o X.env)=eval o X.env:=by rfl)
  (hfew:((backTo cp (starEach [e] X.env)).all (fun x=>!x.1) && (backToKw cp (keywordEach [] X.env)).all (fun x=>x.1.isSome)
   && decide ([e].length+([]:List Keyword).length+(if ([]:List Keyword).isEmpty then 0 else 1) < 30))=true:=by rfl)
  (hline:(ap.endLine==cp.line)=true:=by rfl) (hs:starEach [e] X.env=(false,eval e X.env)::starEach [] X.env:=by rfl):PF X (.Call (.Attribute o "partition" ap) [e] [] cp) (fv "str" qN ga gl):=by
 with_unfolding_all exact zU ho ha hbase hfew hline hs
theorem Ca {N:List Str} {i:Nat} {x:Str} {pos:Pos} {scope:Scope} {C:Addr} {s₂:Shared} {H₂:Hp} {fp:List Addr} {pn:List (Addr × Obj)} {xe:Value->Shared->Prop} (h:At N i x)
  (hv:Vis (dq X N scope C s₂ H₂ fp pn xe).env.scope x:=by first | exact Or.inl rfl | exact Or.inr (Or.inl rfl) | exact Or.inr (Or.inr rfl)) (hd:(x==("__debug__":Str))=false:=by decide)
  (hcd:(x==("__classdict__":Str))=false:=by decide):PF (dq X N scope C s₂ H₂ fp pn xe) (.Name x pos) (fun ρ=>rdV ρ i):=by
 with_unfolding_all exact vx h hv hd hcd
end
section
end
section
variable {Y:Cx} {a:Addr} {xe:Value->Shared->Prop} {k n:Nat} {x:Str} {p pos:Pos} {e:Expr} {es:List Expr} {gl:Ev->R (List D)} {g:List D->R D}
end
section
end
section
variable {P:Program} {w:World} {K:PySem.W.Frag} {mg:Str->Option Value} {base:Heap} {x y:Str} {st:Stmt} {ft:Addr} {fd:FuncData} {k:Nat} {b₀:Stmt} {suite:List Stmt} {p1 p2 p3 tp hp tpos:Pos} {nm tn:Str} {gs:Ev->O} {fe:Addr->Option Bool} {Ct:Addr}
end
section
variable {X:Cx} {scope:Scope} {N':List Str} {ix:List Nat} {params:Arguments} {body:Expr} {lp p pos:Pos} {x:Str} {k j:Nat} {gb:Ev->R D} {g:R D->R D}
end
section
theorem Fun.okM {P:Program} {w:World} {K:PySem.W.Frag} {mg:Str->Option Value} {base:Heap} {x qual:Str} {st:Stmt} {f:Addr} {fd:FuncData} {N ps:List Str} {k:Nat} {C:Addr} {F:MF} (Fn:Fun K x qual st f fd) (S:FnScope N ps (ar st)) {g:Ev->O} (ok:dA C g N.length F)
  (hbody:∀ (cdv:Value) (A:Around) (outer:List Env) (s:Shared) (H:Hp) (E:XK),Room k (A.deeper (envOfC qual (ar st) s.heap.objs.size f cdv))->vF (ib (CXo P w) P w K mg base N qual (ar st) f cdv A outer s H E) (cr st) g):FnM P w K mg base (k+1) f fd ps C F:=by
 with_unfolding_all exact Fun.okM_0 Fn S ok hbody
end
section
variable {X:Cx} {e b:Expr} {es:List Expr} {ga gb:Ev->R D} {gl:Ev->R (List D)} {x f:Str} {i k:Nat} {C:Addr} {ks:List Nat} {p1 p2 p3 pos ap cp:Pos}
theorem wx (i k:Nat) (c:CF X.K C ks) (hk:k ∈ ks) (hb:PF X b gb) (hi:X.N[i]?=some x:=by rfl) (hv:Vis X.env.scope x:=by first | exact Or.inl rfl | exact Or.inr (Or.inl rfl) | exact Or.inr (Or.inr rfl)) (hf:f=bP k:=by rfl)
  (hd:(x==("__debug__":Str))=false:=by decide) (hcd:(x==("__classdict__":Str))=false:=by decide) (hba:attributeBase (.Name x p1) f X.env (eval (.Name x p1) X.env)=eval (.Name x p1) X.env:=by rfl) (hs:lK b:=by exact fun _ _=>rfl):PF X (.Subscript (.Attribute (.Name x p1) f p2) b pos) (pA C i k gb):=by
 with_unfolding_all exact vJ i k c hk hb hi hv hf hd hcd hba hs
theorem zq (i k:Nat) (c:CF X.K C ks) (hk:k ∈ ks) (hg:Gl X "len") (hm:X.mg "len"=none) (hi:X.N[i]?=some x:=by rfl) (hv:Vis X.env.scope x:=by first | exact Or.inl rfl | exact Or.inr (Or.inl rfl) | exact Or.inr (Or.inr rfl)) (hf:f=bP k:=by rfl)
  (hd:(x==("__debug__":Str))=false:=by decide) (hcd:(x==("__classdict__":Str))=false:=by decide) (hba:attributeBase (.Name x p1) f X.env (eval (.Name x p1) X.env)=eval (.Name x p1) X.env:=by rfl)
  (he:starEach [.Attribute (.Name x p1) f p2] X.env=(false,eval (.Attribute (.Name x p1) f p2) X.env)::starEach [] X.env:=by rfl):PF X (.Call (.Name "len" p3) [.Attribute (.Name x p1) f p2] [] pos) (nY C i k):=by
 with_unfolding_all exact uB i k c hk hg hm hi hv hf hd hcd hba he
theorem Al (i k:Nat) (c:CF X.K C ks) (hk:k ∈ ks) (he:PF X e ga) (hi:X.N[i]?=some x:=by rfl) (hv:Vis X.env.scope x:=by first | exact Or.inl rfl | exact Or.inr (Or.inl rfl) | exact Or.inr (Or.inr rfl)) (hf:f=bP k:=by rfl)
  (hd:(x==("__debug__":Str))=false:=by decide) (hcd:(x==("__classdict__":Str))=false:=by decide) (hba:attributeBase (.Name x p1) f X.env (eval (.Name x p1) X.env)=eval (.Name x p1) X.env:=by rfl)
  (hs1:starEach [e] X.env=(false,eval e X.env)::starEach [] X.env:=by rfl)
  (hbase:attributeBase (.Attribute (.Name x p1) f p2) "append" X.env (eval (.Attribute (.Name x p1) f p2) X.env)=eval (.Attribute (.Name x p1) f p2) X.env:=by rfl)
  (hfew:((backTo cp (starEach [e] X.env)).all (fun x=>!x.1) && (backToKw cp (keywordEach [] X.env)).all (fun x=>x.1.isSome)
   && decide ([e].length+([]:List Keyword).length+(if ([]:List Keyword).isEmpty then 0 else 1) < 30))=true:=by rfl)
  (hline:(ap.endLine==cp.line)=true:=by rfl)
  (hs:swapsWith (.Call (.Attribute (.Attribute (.Name x p1) f p2) "append" ap) [e] [] cp) none pos.line X.env=pure false:=by rfl):PSF X (.Expr (.Call (.Attribute (.Attribute (.Name x p1) f p2) "append" ap) [e] [] cp) pos) (wl C i k ga):=by
 with_unfolding_all exact zm i k c hk he hi hv hf hd hcd hba hs1 hbase hfew hline hs
theorem Ed (i k j:Nat) {y:Str} {py:Pos} (c:CF X.K C ks) (hk:k ∈ ks) (hN:X.N.Nodup) (hi:X.N[i]?=some x:=by rfl) (hj:X.N[j]?=some y:=by rfl) (hv:Vis X.env.scope x:=by first | exact Or.inl rfl | exact Or.inr (Or.inl rfl) | exact Or.inr (Or.inr rfl)) (hf:f=bP k:=by rfl)
  (hx:Loc X.env.scope y:=by first | exact Or.inl rfl | exact Or.inr rfl) (hfn:X.fn y=true\/X.env.scope.names.lookup y=some .local:=by first | exact .inl rfl | exact .inr rfl)
  (hd:(x==("__debug__":Str))=false:=by decide) (hcd:(x==("__classdict__":Str))=false:=by decide) (hba:attributeBase (.Name x p1) f X.env (eval (.Name x p1) X.env)=eval (.Name x p1) X.env:=by rfl)
  (hbase:attributeBase (.Attribute (.Name x p1) f p2) "pop" X.env (eval (.Attribute (.Name x p1) f p2) X.env)=eval (.Attribute (.Name x p1) f p2) X.env:=by rfl) (hline:(ap.endLine==cp.line)=true:=by rfl)
  (hs:swapsWithSole [.Name y py] (.Call (.Attribute (.Attribute (.Name x p1) f p2) "pop" ap) [] [] cp) pos.line X.env=pure false:=by rfl) (hw:swappedStores [.Name y py] (.Call (.Attribute (.Attribute (.Name x p1) f p2) "pop" ap) [] [] cp) X.env=pure none:=by rfl):PSF X (.Assign [.Name y py] (.Call (.Attribute (.Attribute (.Name x p1) f p2) "pop" ap) [] [] cp) pos) (vk C i k j):=by
 with_unfolding_all exact yA i k j c hk hN hi hj hv hf hx hfn hd hcd hba hbase hline hs hw
theorem vD (i k:Nat) (c:CF X.K C ks) (hk:k ∈ ks) (he:PFL X e gl) (hi:X.N[i]?=some x:=by rfl) (hv:Vis X.env.scope x:=by first | exact Or.inl rfl | exact Or.inr (Or.inl rfl) | exact Or.inr (Or.inr rfl)) (hf:f=bP k:=by rfl)
  (hd:(x==("__debug__":Str))=false:=by decide) (hcd:(x==("__classdict__":Str))=false:=by decide) (hs:swapsWith e (some (.Attribute (.Name x p1) f p2)) pos.line X.env=pure false:=by rfl):PSF X (.Assign [.Attribute (.Name x p1) f p2] e pos) (uK C i k gl):=by
 with_unfolding_all exact zQ i k c hk he hi hv hf hd hcd hs
theorem AB (he:PF X e ga):PSF X (.Return (some e) pos) (xI ga):=by
 with_unfolding_all exact zl he
end
section
variable {X:Cx} {e:Expr} {es:List Expr} {gl:Ev->R (List D)} {x mn:Str} {i k n:Nat} {C:Addr} {ks:List Nat} {F:MF} {p1 ap pos ep:Pos}
theorem de {pl:Sem Bool} (i:Nat) (c:CF X.K C ks) (m:MCallee X.prog X.w X.K X.mg X.base C mn k 0 F) (hr:Room k X.A) (hi:X.N[i]?=some x:=by rfl) (hv:Vis X.env.scope x:=by first | exact Or.inl rfl | exact Or.inr (Or.inl rfl) | exact Or.inr (Or.inr rfl))
  (hd:(x==("__debug__":Str))=false:=by decide) (hcd:(x==("__classdict__":Str))=false:=by decide) (hmn:∀ k,k < fnames.length->(mn==bP k)=false:=by decide)
  (ht:eval (.Call (.Attribute (.Name x p1) mn ap) [] [] pos) X.env=(do
   let ov <- eval (.Name x p1) X.env
   standAt ap.atName
   let (f,first) <- holding [ov] (getMethod ov mn pl)
   callWith pos f first (backTo pos (starEach [] X.env)) (backToKw pos (keywordEach [] X.env))):=by rfl):PF X (.Call (.Attribute (.Name x p1) mn ap) [] [] pos) (cT C i F):=by
 with_unfolding_all exact tY i c m hr hi hv hd hcd hmn ht
theorem qX {pl:Sem Bool} (i:Nat) (c:CF X.K C ks) (m:MCallee X.prog X.w X.K X.mg X.base C mn k n F) (hr:Room k X.A) (ha:PFA X (e::es) gl) (hi:X.N[i]?=some x:=by rfl) (hv:Vis X.env.scope x:=by first | exact Or.inl rfl | exact Or.inr (Or.inl rfl) | exact Or.inr (Or.inr rfl))
  (hd:(x==("__debug__":Str))=false:=by decide) (hcd:(x==("__classdict__":Str))=false:=by decide) (hmn:∀ k,k < fnames.length->(mn==bP k)=false:=by decide)
  (hst:starEach (e::es) X.env=(false,eval e X.env)::starEach es X.env:=by rfl) (hpl:(backTo pos (starEach es X.env)).any (·.1)=false:=by rfl)
  (hs:swapsWith (.Call (.Attribute (.Name x p1) mn ap) (e::es) [] pos) none ep.line X.env=pure false:=by rfl)
  (ht:eval (.Call (.Attribute (.Name x p1) mn ap) (e::es) [] pos) X.env=(do
   let ov <- eval (.Name x p1) X.env
   standAt ap.atName
   let (f,first) <- holding [ov] (getMethod ov mn pl)
   callWith pos f first (backTo pos (starEach (e::es) X.env)) (backToKw pos (keywordEach [] X.env))):=by rfl):PSF X (.Expr (.Call (.Attribute (.Name x p1) mn ap) (e::es) [] pos) ep) (ux C i n F gl):=by
 with_unfolding_all exact xi i c m hr ha hi hv hd hcd hmn hst hpl hs ht
theorem yZ {pl:Sem Bool} (i:Nat) (c:CF X.K C ks) (m:MCallee X.prog X.w X.K X.mg X.base C mn k 0 F) (hr:Room k X.A) (hi:X.N[i]?=some x:=by rfl) (hv:Vis X.env.scope x:=by first | exact Or.inl rfl | exact Or.inr (Or.inl rfl) | exact Or.inr (Or.inr rfl))
  (hd:(x==("__debug__":Str))=false:=by decide) (hcd:(x==("__classdict__":Str))=false:=by decide) (hmn:∀ k,k < fnames.length->(mn==bP k)=false:=by decide)
  (hs:swapsWith (.Call (.Attribute (.Name x p1) mn ap) [] [] pos) none ep.line X.env=pure false:=by rfl)
  (ht:eval (.Call (.Attribute (.Name x p1) mn ap) [] [] pos) X.env=(do
   let ov <- eval (.Name x p1) X.env
   standAt ap.atName
   let (f,first) <- holding [ov] (getMethod ov mn pl)
   callWith pos f first (backTo pos (starEach [] X.env)) (backToKw pos (keywordEach [] X.env))):=by rfl):PSF X (.Expr (.Call (.Attribute (.Name x p1) mn ap) [] [] pos) ep) (sP C i F):=by
 with_unfolding_all exact uU i c m hr hi hv hd hcd hmn hs ht
end
section
variable {X:Cx} {e:Expr} {es:List Expr} {gl:Ev->R (List D)} {cn:Str} {k n:Nat} {C:Addr} {F:MF} {p pos:Pos}
end
section
variable {X:Cx} {st:Stmt} {cq:List Stmt} {g1:Ev->O} {gs:Ev->O} {α:Type} {g2:α->Ev->O} {e:Expr} {es:List Expr} {gl gl':Ev->R (List D)} {cn:Str} {k n:Nat} {C:Addr} {F:MF} {p pos:Pos}
theorem BG (h:vF X cq gs):wX X cq (zw gs):=by
 with_unfolding_all exact wq h
theorem rL [Inhabited α] (h1:PSF X st g1) (h2:wX X cq g2):wX X (st::cq) (uz g1 g2):=by
 with_unfolding_all exact vS h1 h2
theorem BK [Inhabited α] (i j:Nat) {y z:Str} {py pz pt pt2 q1 q2 q3 q4:Pos} {kt k2:Nat} {e':Expr} {es':List Expr} (c:MkC X.prog X.w X.K X.mg X.base C cn k n F) (hr:Room (k+1) X.A) (hc:X.calm=true) (hN:X.N.Nodup) (ha:PFA X (e::es) gl) (hb:PFA X (e'::es') gl') (h2:wX X cq g2) (hij:i ≠ j:=by decide)
  (hi:X.N[i]?=some y:=by rfl) (hj:X.N[j]?=some z:=by rfl) (hx:X.env.scope.names.lookup y=some .local:=by rfl) (hy:X.env.scope.names.lookup z=some .local:=by rfl)
  (hg:Gl X cn:=by rfl) (hdb:(cn==("__debug__":Str))=false:=by decide) (he:starEach (e::es) X.env=(false,eval e X.env)::starEach es X.env:=by rfl) (hpl:(backTo q2 (starEach es X.env)).any (·.1)=false:=by rfl)
  (he':starEach (e'::es') X.env=(false,eval e' X.env)::starEach es' X.env:=by rfl) (hpl':(backTo q4 (starEach es' X.env)).any (·.1)=false:=by rfl)
  (hse:starEach [.Call (.Name cn q1) (e::es) [] q2,.Call (.Name cn q3) (e'::es') [] q4] X.env=(false,eval (.Call (.Name cn q1) (e::es) [] q2) X.env)::starEach [.Call (.Name cn q3) (e'::es') [] q4] X.env:=by rfl)
  (hse2:starEach [.Call (.Name cn q3) (e'::es') [] q4] X.env=(false,eval (.Call (.Name cn q3) (e'::es') [] q4) X.env)::starEach [] X.env:=by rfl)
  (hw:swappedStores [.Tuple [.Name y py,.Name z pz] kt pt] (.Tuple [.Call (.Name cn q1) (e::es) [] q2,.Call (.Name cn q3) (e'::es') [] q4] k2 pt2) X.env=pure (some [y,z]):=by rfl)
  (hs:swapsWithSole [.Tuple [.Name y py,.Name z pz] kt pt] (.Tuple [.Call (.Name cn q1) (e::es) [] q2,.Call (.Name cn q3) (e'::es') [] q4] k2 pt2) pos.line X.env=pure false:=by rfl):wX X (.Assign [.Tuple [.Name y py,.Name z pz] kt pt] (.Tuple [.Call (.Name cn q1) (e::es) [] q2,.Call (.Name cn q3) (e'::es') [] q4] k2 pt2) pos::cq) (tP C i j F n gl gl' g2):=by
 with_unfolding_all exact xt i j c hr hc hN ha hb h2 hij hi hj hx hy hg hdb he hpl he' hpl' hse hse2 hw hs
end
end L2
namespace L2
open PySem PySem.Spec PyProof.Rows
section
variable {ρ:Ev} {g g1 g2':Ev->O} {gt gu:Ev->R Bool} {ga gb gc:Ev->R D} {gl:Ev->R (List D)} {go gp:Ev->R (Option Int)} {i n:Nat} {f f':D->D->Option D} {asg:D->Ev->R Ev} {C:Addr}
theorem BH:aE g1 g2' ρ=(g1 ρ).seq g2':=rfl
theorem Iw:oIf gt g1 g2' ρ=(gt ρ).out ρ fun k=>if k=true then g1 ρ else g2' ρ:=rfl
theorem DF:eB i ga ρ=(ga ρ).out ρ fun d=>.nx (ρ.set i (some (.val d))):=rfl
theorem F0:bO ga ρ=(ga ρ).out ρ .rt:=rfl
theorem Ia:oNx ρ=.nx ρ:=rfl
theorem GE:Bd i gl ρ=(gl ρ).out ρ fun ds=>.nx (ρ.set i (some (.own ds))):=rfl
theorem DV:jo ga ρ=(ga ρ).out ρ fun _=>.nx ρ:=rfl
theorem Fo:uR asg gl g ρ=(gl ρ).out ρ fun items=>cF asg g items ρ:=rfl
theorem BB:eJ C gl ρ=(gl ρ).out ρ fun _=>.ex C ρ:=rfl
theorem FF:Fy asg ga ρ=(ga ρ).out ρ fun d=>(asg d ρ).out ρ .nx:=rfl
theorem GI:B4 i g ρ=g (frz i ρ):=rfl
theorem Au {α β:Type} {h:α->R β} {gx:Ev->R α}:aH h gx ρ=gx ρ>>=h:=rfl
theorem Ij {h:List D->Option D}:gOf h gl ρ=gl ρ>>=fun ds=>ofO (h ds):=rfl
theorem vT:ac ga gl ρ=ga ρ>>=fun x=>gl ρ>>=fun xs=>.ok (x::xs):=rfl
theorem CO:cG gl ρ=gl ρ>>=fun ds=>.ok (.lst false ds):=rfl
theorem FL:zT gl ρ=gl ρ>>=fun ds=>if ds.length<=sizeLine then .ok ds else .no:=rfl
theorem HB:gB2 f ga gb ρ=g2 f ga gb ρ>>=asB:=rfl
theorem HC:gBn gt ρ=gt ρ>>=fun k=>.ok (!k):=rfl
theorem ER:dE ga ρ=ga ρ>>=fun x=>asI x>>=fun i=>.ok (some i):=rfl
theorem Ei {T:String} {h:D->List D->Option D}:fv T h ga gl ρ=ga ρ>>=fun x=>if gW T x=true then gl ρ>>=fun ds=>ofO (h x ds) else .no:=rfl
theorem HR:g2 f ga gb ρ=ga ρ>>=fun x=>gb ρ>>=fun y=>ofO (f x y):=rfl
theorem Gm:lJ ga gb ρ=ga ρ>>=fun x=>asB x>>=fun k=>if k=true then gb ρ else .ok (.bl false):=rfl
theorem Iy:gOr ga gb ρ=ga ρ>>=fun x=>asB x>>=fun k=>if k=true then .ok (.bl true) else gb ρ:=rfl
theorem E1:xK gt gu ρ=gt ρ>>=fun k=>if k=true then gu ρ else .ok false:=rfl
theorem FP:mZ gt gu ρ=gt ρ>>=fun k=>if k=true then .ok true else gu ρ:=rfl
theorem GC:gIf gt ga gb ρ=gt ρ>>=fun k=>if k=true then ga ρ else gb ρ:=rfl
theorem Ib:gSl ga go gp ρ=ga ρ>>=fun x=>go ρ>>=fun l=>gp ρ>>=fun u=>ofO (Dn l u x):=rfl
theorem Er {ix:List Nat}:eU gl ix gt ga ρ=gl ρ>>=fun items=>eV gt ga items (eT ix ρ)>>=fun ds=>if ds.length<=sizeLine then .ok ds else .no:=rfl
theorem BU {h:List D->R D}:aL 1 h (ac ga fun _=>.ok []) ρ=ga ρ>>=fun x=>h [x]:=Aq
theorem C8 {h:List D->R D}:aL 2 h (ac ga (ac gb fun _=>.ok [])) ρ=ga ρ>>=fun x=>gb ρ>>=fun y=>h [x,y]:=vV
theorem Bb {h:List D->R D}:aL 3 h (ac ga (ac gb (ac gc fun _=>.ok []))) ρ=ga ρ>>=fun x=>gb ρ>>=fun y=>gc ρ>>=fun z=>h [x,y,z]:=wI
theorem Cv {h:List D->R D} {gd:Ev->R D}:aL 4 h (ac ga (ac gb (ac gc (ac gd fun _=>.ok [])))) ρ=ga ρ>>=fun x=>gb ρ>>=fun y=>gc ρ>>=fun z=>gd ρ>>=fun u=>h [x,y,z,u]:=by
 unfold aL
 simp only [vT]
 cases ga ρ <;> try rfl
 simp only [R.ok_bind]
 cases gb ρ <;> try rfl
 simp only [R.ok_bind]
 cases gc ρ <;> try rfl
 simp only [R.ok_bind]
 cases gd ρ <;> rfl
end
theorem GL (i:Nat) (ga:Ev->R D) (ρ:Ev):FA i ga ρ=(ownAt ρ i).out ρ fun ds=>(ga ρ).out ρ fun d=>if ds.length < sizeLine then .nx (ρ.set i (some (.own (ds++[d])))) else .no:=rfl
theorem FX (i j:Nat) (gl:Ev->R (List D)) (ρ:Ev):Fx i j gl ρ=(gl ρ).out ρ fun ds=>(nU [i,j] ds ρ).out ρ .nx:=rfl
theorem IJ (a0:Option Sl) (ds:List D) (ρ:Ev):frz 1 (a0::some (.own ds)::ρ)=a0::some (.val (.lst false ds))::ρ:=rfl
def g3k (f':D->D->Option D) (r:R D) (y:D):D->R D
 | .bl true=>r>>=fun w=>ofO (f' y w)
 | .bl false=>.ok (.bl false)
 | _=>.no
theorem HQ (f f':D->D->Option D) (ga gb gc:Ev->R D) (ρ:Ev):g3 f f' ga gb gc ρ=ga ρ>>=fun x=>gb ρ>>=fun y=>ofO (f x y)>>=g3k f' (gc ρ) y:=rfl
theorem FE (f':D->D->Option D) (r:R D) (y:D) (b:Bool):g3k f' r y (.bl b)=if b=true then (r>>=fun w=>ofO (f' y w)) else .ok (.bl false):=by cases b <;> rfl
theorem sv2 (i j:Nat) (x y:D) (ρ:Ev):nU [i,j] [x,y] ρ=.ok ((ρ.set i (some (.val x))).set j (some (.val y))):=rfl
theorem GZ (ρ:Ev) (k:Ev->O):(O.nx ρ).seq k=k ρ:=rfl
theorem GM (d:D) (k:Ev->O):(O.rt d).seq k=.rt d:=rfl
theorem Iu (C:Addr) (ρ:Ev) (k:Ev->O):(O.ex C ρ).seq k=.ex C ρ:=rfl
theorem Hk (d:D):ay (.rt d)=.ok d:=rfl
theorem HX (ρ:Ev):ay (.nx ρ)=.ok .non:=rfl
theorem IE (C:Addr) (ρ:Ev):ay (.ex C ρ)=.ex C:=rfl
theorem Im (k:Bool):asB (.bl k)=.ok k:=rfl
theorem jh (i:Int):asI (.int i)=.ok i:=rfl
theorem HE (k:Bool):iW (.bl k)=.ok k:=rfl
theorem rd7 (a0 a1 a2 a3 a4 a5 a6:Option Sl) (d:D) (ρ:Ev):rdV (a0::a1::a2::a3::a4::a5::a6::some (.val d)::ρ) 7=.ok d:=rfl
theorem rd8 (a0 a1 a2 a3 a4 a5 a6 a7:Option Sl) (d:D) (ρ:Ev):rdV (a0::a1::a2::a3::a4::a5::a6::a7::some (.val d)::ρ) 8=.ok d:=rfl
theorem rd9 (a0 a1 a2 a3 a4 a5 a6 a7 a8:Option Sl) (d:D) (ρ:Ev):rdV (a0::a1::a2::a3::a4::a5::a6::a7::a8::some (.val d)::ρ) 9=.ok d:=rfl
section
variable (i j:Int)
theorem G6:bE (.int i) (.int j)=some (.int (i+j)):=by simp only [bE]
theorem GN:we (.int i) (.int j)=some (.int (i - j)):=by simp only [we]
theorem HA:leD (.int i) (.int j)=some (.bl (decide (i<=j))):=by simp only [leD]
theorem Ix:ltD (.int i) (.int j)=some (.bl (decide (i < j))):=by simp only [ltD]
theorem IL:gtD (.int i) (.int j)=some (.bl (decide (j < i))):=by simp only [gtD]
theorem IM:geD (.int i) (.int j)=some (.bl (decide (j<=i))):=by simp only [geD]
theorem Hg:eqF (.int i) (.int j)=some (.bl (i==j)):=by simp only [eqF,eqD,Option.map_some]
theorem IA:neF (.int i) (.int j)=some (.bl (!(i==j))):=by simp only [neF,eqD,Option.map_some]
end
theorem D2 {i j:Int} (h : -(2 ^ 64) < i/\i < 2 ^ 64):gf (.int i) (.int j)=some (.int (i * j)):=by simp only [gf]; rw [if_pos (Or.inl h)]
theorem jN {x y:List Nat} (h:x.length+y.length<=sizeLine):bE (.str x) (.str y)=some (.str (x++y)):=by simp only [bE]; rw [if_pos h]
theorem yM {x y:List D} (h:x.length+y.length<=sizeLine):bE (.tup x) (.tup y)=some (.tup (x++y)):=by simp only [bE]; rw [if_pos h]
theorem HV (x y:List Nat):eqF (.str x) (.str y)=some (.bl (x==y)):=by simp only [eqF,eqD,Option.map_some]
theorem HN (x y:List Nat):neF (.str x) (.str y)=some (.bl (!(x==y))):=by simp only [neF,eqD,Option.map_some]
theorem zc {α:Type} (n:Nat) (x:α):(List.replicate n [x]).flatten=List.replicate n x:=by
 induction n with
 | zero=>rfl
 | succ n ih=>rw [List.replicate_succ,List.flatten_cons,ih]; rfl
theorem bo:(1000:Nat)<=sizeLine:=by decide
theorem G9 {c n:Nat} (h:n<=1000):gf (.str [c]) (.int (n:Int))=some (.str (List.replicate n c)):=by
 have:=bo
 simp only [gf]
 rw [if_pos (by refine ⟨by omega,by omega,?_⟩; simp; omega),Int.toNat_natCast,zc]
theorem wk {xs:List D} {k:Nat} {d:D} (h:xs[k]?=some d):ixD (.tup xs) (.int (k:Int))=some d:=by simp only [ixD]; exact xy h
theorem F3 {fz:Bool} {xs:List D} {k:Nat} {d:D} (h:xs[k]?=some d):ixD (.lst fz xs) (.int (k:Int))=some d:=by simp only [ixD]; exact xy h
theorem qJ {α:Type} (xs:List α) (k:Nat):io xs none (some (k:Int))=xs.take k:=by
 unfold io
 rw [HT.sIx_none,HT.sIx_nat,List.drop_zero,Nat.sub_zero]
 by_cases h:k<=xs.length
 ·rw [Nat.min_eq_left h]
 ·rw [Nat.min_eq_right (by omega),List.take_length,List.take_of_length_le (by omega)]
theorem lW {α:Type} (xs:List α) (k:Nat):io xs (some (k:Int)) none=xs.drop k:=by
 unfold io
 rw [HT.sIx_none,HT.sIx_nat]
 by_cases h:k<=xs.length
 ·rw [Nat.min_eq_left h,List.take_of_length_le (by simp)]
 ·rw [Nat.min_eq_right (by omega),List.drop_length,List.take_nil,List.drop_of_length_le (by omega)]
theorem Gv (lo hi:Option Int) (x:List Nat):Dn lo hi (.str x)=some (.str (io x lo hi)):=rfl
theorem Gj (lo hi:Option Int) (x:List D):Dn lo hi (.tup x)=some (.tup (io x lo hi)):=rfl
theorem GP (fz:Bool) (x:List D):fc [.lst fz x]=some (.int x.length):=rfl
theorem Gp (x:List D):fc [.tup x]=some (.int x.length):=rfl
theorem Gu (x:List Nat):fc [.str x]=some (.int x.length):=rfl
theorem m_t {ds:List D} (h:ds.length<=1000):mkT ds=.ok (.tup ds):=if_pos (Nat.le_trans h bo)
theorem jV {n:Nat} (h:n<=1000):bD [.int (n:Int)]=.ok ((List.range n).map fun (i:Nat)=>D.int (i:Int)):=by
 have e:bD [.int (n:Int)]=if -(2 ^ 62)<=(n:Int)/\(n:Int) < 2 ^ 62 then .ok ((List.range (n:Int).toNat).map fun i=>D.int (0+(i:Nat))) else .no:=by simp only [bD]
 rw [e,if_pos (by constructor <;> omega),Int.toNat_natCast]
 simp only [Int.zero_add]
theorem HS {α:Type} (a v:α) (l:List α):(a::l).set 0 v=v::l:=rfl
theorem fO {asg:D->Ev->R Ev} {g:Ev->O} {d:D} {ds:List D} {ρ ρ1 ρ2:Ev} (h1:asg d ρ=.ok ρ1) (h2:g ρ1=.nx ρ2):cF asg g (d::ds) ρ=cF asg g ds ρ2:=by
 rw [cF,h1]
 show (match g ρ1 with
  | .nx ρ2=>cF asg g ds ρ2
  | .ct ρ2=>cF asg g ds ρ2
  | .bk ρ2=>O.nx ρ2
  | .rt d=>O.rt d
  | .re d ρ2=>.re d ρ2
  | .ex C ρ2=>O.ex C ρ2
  | .no=>O.no)=_
 rw [h2]
theorem qz {X:Cx} {e:Expr} {gl:Ev->R (List D)} {p pos:Pos} (hg:Gl X "tuple") (hm:X.mg "tuple"=none) (ha:PFA X [e] gl) (he:starEach [e] X.env=(false,eval e X.env)::starEach [] X.env:=by rfl) :
  PF X (.Call (.Name "tuple" p) [e] [] pos) (gOf ko gl):=wy oP (yw _) hg hm PyProof.Rows.Boot.«tuple» ha (by decide) (by decide) he rfl
theorem GG {X:Cx} {a b:Expr} {gl:Ev->R (List D)} {p pos:Pos} (hc:X.calm=true) (hg:Gl X "min") (hm:X.mg "min"=none) (ha:PFA X [a,b] gl) (he:starEach [a,b] X.env=(false,eval a X.env)::starEach [b] X.env:=by rfl) (hpl:(backTo pos (starEach [b] X.env)).any (·.1)=false:=by rfl) :
  PF X (.Call (.Name "min" p) [a,b] [] pos) (gOf Ez gl):=yN (wt hc) (DN _) hg hm PyProof.Rows.Boot.«min» ha (by decide) (by decide) he hpl
end L2
namespace L2
open PySem PySem.Spec PyProof.Rows
theorem FD {X:Cx} {a b:Expr} {ga gb:Ev->R D} {pos:Pos} (ha:PF X a ga) (hb:PF X b gb):PB X (.Compare a [.GtE] [b] pos) (gB2 geD ga gb):=GA ha hb
def mM:D->List D->Option D
 | .str x,[.int i]=>if -1000<=i/\i<=1000 then some (.str (x++List.replicate (i.toNat - x.length) 32)) else none
 | _,_=>none
def Ap:V->List V->Hp->VK->Prop:=fun x vs H Q=>∃ (y:Str) (i:Int),x=.str y/\vs=[.int i]/\-1000<=i/\i<=1000/\Q (.str (Txt.ljust y i)) H
theorem zt {X:Cx}:MtR X "str.ljust" Ap:=by
 intro pins s σ H x xs v us Q I rx rv ⟨y,i,ex,exs,h1,h2,q⟩
 subst ex exs
 obtain ⟨t,rfl⟩:=rx
 obtain ⟨u,rfl,r1⟩:=rv.one
 obtain ⟨t',rfl⟩:=r1
 exact SC.ljust (padOk_of (by omega) (by omega)) (fun t'' k=>⟨.str _,H,I.tok _,⟨_,rfl⟩,q⟩)
theorem pb (y:Str) (i:Int):(Txt.ljust y i).cps.toList=y.cps.toList++List.replicate (i.toNat - y.cps.toList.length) 32:=by
 unfold Txt.ljust
 have hl:y.length=y.cps.toList.length:=by simp [Str.length]
 split
 ·rename_i h
  have:i.toNat - y.cps.toList.length=0:=by omega
  rw [this]; simp
 ·simp [Builtin.Str.padded,Str.length]
theorem zi (K:PySem.W.Frag):Bg K "str" Ap mM:=by
 intro G H x xs dx ds d Q s rx rs e q
 unfold mM at e
 split at e
 ·split at e
  ·rename_i hi
   cases e
   obtain ⟨v,rfl,r1⟩:=rs.one
   obtain ⟨y,rfl,ey,hy⟩:=rx.str_inv
   obtain rfl:=r1.int_inv
   refine ⟨y,_,rfl,rfl,hi.1,hi.2,q _ G H (.refl s) (.strL (by rw [pb,ey]) ?_)⟩
   have h1:y.length=y.cps.toList.length:=by simp [Str.length]
   have:=bo
   rw [h1,ey] at hy
   simp; omega
  ·cases e
 ·cases e
theorem A9 {X:Cx} {o e:Expr} {ga:Ev->R D} {gl:Ev->R (List D)} {ap cp:Pos} (ho:PF X o ga) (ha:PFA X [e] gl) (hbase:attributeBase o "ljust" X.env (eval o X.env)=eval o X.env:=by rfl)
  (hfew:((backTo cp (starEach [e] X.env)).all (fun x=>!x.1) && (backToKw cp (keywordEach [] X.env)).all (fun x=>x.1.isSome)
   && decide ([e].length+([]:List Keyword).length+(if ([]:List Keyword).isEmpty then 0 else 1) < 30))=true:=by rfl)
  (hline:(ap.endLine==cp.line)=true:=by rfl) (hs:starEach [e] X.env=(false,eval e X.env)::starEach [] X.env:=by rfl) :
  PF X (.Call (.Attribute o "ljust" ap) [e] [] cp) (fv "str" mM ga gl):=A5 PySem.F.plainAttrs_str PySem.F.slot_str_ljust PySem.F.type_str_ljust zt (zi _) ho ha hbase hfew hline hs rfl
end L2
namespace L2
open PySem PySem.Spec PyProof.Rows
def H0 (i:Nat) (ρ:Ev) (ds:List D) (d:D):Option Nat->O
 | some n=>if fl 10 d=true then .nx (ρ.set i (some (.own (ds.set n d)))) else .no
 | none=>.no
theorem EN (i j:Nat) (ga:Ev->R D) (gl:Ev->R (List D)) (ρ:Ev):yH i j ga gl ρ=(ga ρ).out ρ fun d=>(gl ρ).out ρ fun ds=>.nx ((ρ.set i (some (.val d))).set j (some (.own ds))):=rfl
theorem G8 (f:Bool) (lo hi:Option Int) (x:List D):Dn lo hi (.lst f x)=some (.lst false (io x lo hi)):=rfl
def HG (i:Nat):O->O
 | .nx ρ=>.nx (ρ.set i none)
 | .rt d=>.rt d
 | _=>.no
def IR (gs:Ev->O) (f:Addr->Option Bool) (i:Nat):O->O
 | .ex C ρ=>(match f C with
  | some true=>HG i (gs (ρ.set i (some (.val (.exc C)))))
  | _=>.no)
 | o=>o
def Ec (gs:List (Ev->R D)) (out:List Nat) (ρ:Ev):D->R D
 | .str x=>if (out++x).length<=sizeLine then jQ gs (out++x) ρ else .no
 | _=>.no
theorem Ef (gs:List (Ev->R D)) (ρ:Ev):qO gs ρ=jQ gs [] ρ:=rfl
theorem Bl (out:List Nat) (ρ:Ev):jQ [] out ρ=.ok (.str out):=rfl
theorem BZ (g:Ev->R D) (gs:List (Ev->R D)) (out:List Nat) (ρ:Ev):jQ (g::gs) out ρ=g ρ>>=Ec gs out ρ:=rfl
theorem Bq (gs:List (Ev->R D)) (out:List Nat) (ρ:Ev) (x:List Nat):Ec gs out ρ (.str x)=if (out++x).length<=sizeLine then jQ gs (out++x) ρ else .no:=rfl
theorem Dy {n:Nat} (h:n < 10000000000):vA (.int (n:Int))=.ok (.str (bx n)):=by
 show (if 0<=(n:Int)/\(n:Int) < 10000000000 then R.ok (D.str (bx (n:Int).toNat)) else .no)=_
 rw [if_pos (by omega),Int.toNat_natCast]
theorem AN (gi:Ev->R (List D)) (ix:List Nat) (gt:Ev->R Bool) (ge:Ev->R D) (ρ:Ev):qq gi ix gt ge ρ=gi ρ>>=fun items=>if items.length<=sizeLine then cI (fZ 0) gt ge items (eT ix ρ) else .no:=rfl
theorem Cm (C:Addr) (i k:Nat) (gb:Ev->R D) (ρ:Ev):pA C i k gb ρ=(oO C ρ i>>=fun fs=>fldL fs k>>=fun ds=>gb ρ>>=fun d=>ofO (ixD (.lst false ds) d)):=rfl
theorem zB (C:Addr) (i k:Nat) (ρ:Ev):nY C i k ρ=(oO C ρ i>>=fun fs=>fldL fs k>>=fun ds=>.ok (.int ds.length)):=rfl
theorem Es (C:Addr) (i k:Nat) (ga:Ev->R D) (ρ:Ev):wl C i k ga ρ=(nq C ρ i).out ρ fun o=>(fldL o.2 k).out ρ fun ds=>(ga ρ).out ρ fun d=>if ds.length < sizeLine then .nx (ρ.set i (some (.obj true C o.1 (nu k (.own (ds++[d])) o.2)))) else .no:=rfl
theorem E7 (C:Addr) (i k:Nat) (gl:Ev->R (List D)) (ρ:Ev):uK C i k gl ρ=(nq C ρ i).out ρ fun o=>(gl ρ).out ρ fun ds=>if o.2.length < 900 then .nx (ρ.set i (some (.obj true C o.1 (nu k (.own ds) o.2)))) else .no:=rfl
theorem EV (ga:Ev->R D) (ρ:Ev):xI ga ρ=(ga ρ).out ρ fun d=>.re d ρ:=rfl
theorem zV (C:Addr) (i:Nat) (F:MF) (ρ:Ev):cT C i F ρ=(oO C ρ i>>=fun fs=>(F fs []).read):=rfl
theorem Cu (C:Addr) (i n:Nat) (F:MF) (gl:Ev->R (List D)) (ρ:Ev):ux C i n F gl ρ=(nq C ρ i).out ρ fun o=>(gl ρ).out ρ fun ds=>if ds.length=n then (F o.2 ds).out C o.1 i ρ else .no:=rfl
theorem Ch (C:Addr) (i:Nat) (F:MF) (ρ:Ev):sP C i F ρ=(nq C ρ i).out ρ fun o=>(F o.2 []).out C o.1 i ρ:=rfl
theorem Ir (d:D) (ρ:Ev) (k:Ev->O):(O.re d ρ).seq k=.re d ρ:=rfl
theorem GX (d:D):RM.read (.rd d)=.ok d:=rfl
theorem Fe (d:D) (fs:List (Nat × Fd)) (C p:Addr) (i:Nat) (ρ:Ev):RM.out (.ok d fs) C p i ρ=.nx (ρ.set i (some (.obj true C p fs))):=rfl
end L2
section
open L2
set_option compiler.extract_closed false in
local macro_rules | `(tactic| walk_at "run")=>`(tactic| simp -implicitDefEqProofs only [AN,↓BU,↓C8,↓Bb,↓Cv,BH,Iw,DF,F0,Ia,GE,DV,Fo,BB,FF,GI,Au,Ij,vT,CO,FL,HB,HC,ER,Ei,HR,Gm,Iy,E1,FP,GC,Ib,Er,GL,qB,EN,G8,and_self,FX,IJ,HQ,FE,sv2,GZ,GM,Iu,Hk,HX,IE,Im,jh,HE,rd0,rd1,rd2,rd3,rd4,rd5,rd6,rd7,rd8,rd9,R.ok_bind,R.ok_out,R.ex_bind,R.ex_out,cf,G6,GN,HA,Ix,IL,IM,Hg,IA,HV,HN,GP,Gp,Gu,Gv,Gj,HS,List.set_cons_succ,List.length_nil,List.length_cons,List.cons_append,List.nil_append,Nat.reduceAdd,Nat.reduceBEq,Bool.not_true,Bool.not_false,Bool.false_eq_true,if_false,if_true,Ef,Bl,BZ,Bq,Int.reduceLT,Int.reduceLE,Int.reduceBEq,decide_true,decide_false,Cm,zB,Es,E7,EV,zV,Cu,Ch,Ir,GX,Fe, *])
namespace Q
open L2
open PySem (sizeLine Addr)
def Hs:D->Bool
 | .int _=>true
 | _=>false
def yJ:List D->R D
 | [.exc _]=>.no
 | [d]=>.ok (.bl (Hs d))
 | _=>.no
noncomputable def ke:Ev->O:=(bO (lJ (aH (fX isInt) (fun ρ=>rdV ρ 0)) (Gf (aH (fX (·=="bool")) (fun ρ=>rdV ρ 0)))))
noncomputable def dL:Ev->O:=(aE ke oNx)
theorem si:∀ ds:List D,ds.length=1->yJ ds=.no\/ay (dL  (ax 1 ds))=yJ ds:=by
 intro ds hl
 unfold dL ke
 match ds,hl with
 | [d],_=>cases d <;> first | exact Or.inr rfl | exact Or.inl rfl
def inB (d:D) (lo hi:Int):Bool:=match d with
 | .int i=>decide (lo<=i) && decide (i<=hi)
 | _=>false
def Ae:List D->R D
 | [.exc _,_,_]=>.no
 | [d,.int lo,.int hi]=>.ok (.bl (inB d lo hi))
 | _=>.no
noncomputable def jt (cJ:List D->R D):Ev->O:=(bO (lJ (aL 1 cJ (ac (fun ρ=>rdV ρ 0) (fun _=>R.ok []))) (g3 leD leD (fun ρ=>rdV ρ 1) (fun ρ=>rdV ρ 0) (fun ρ=>rdV ρ 2))))
noncomputable def cY (cJ:List D->R D):Ev->O:=(aE (jt cJ) oNx)
theorem pV:∀ ds:List D,ds.length=3->Ae ds=.no\/ay (cY yJ (ax 3 ds))=Ae ds:=by
 intro ds hl
 unfold cY jt
 match ds,hl with
 | [d,l,h],_=>
  cases d <;> first | exact Or.inl rfl | skip
  all_goals (cases l <;> first | exact Or.inl rfl | skip)
  all_goals (cases h <;> first | exact Or.inl rfl | skip)
  all_goals first | exact Or.inr rfl | skip
  rename_i i lo hi hl
  refine Or.inr ?_
  show ay (aE _ oNx [some (.val (.int i)),some (.val (.int lo)),some (.val (.int hi))])=R.ok (D.bl (inB (.int i) lo hi))
  by_cases h1:lo<=i <;> simp [aE,bO,lJ,aL,ac,g3,rdV,yJ,Hs,asB,leD,inB,ay,O.seq,h1]
def plain (x:List Nat):Bool:=x.all fun c=>decide (32<=c) && decide (c<=126)
def Bz:D->Bool
 | .str x=>plain x
 | _=>false
def qr:List D->R D
 | [.exc _]=>.no
 | [.str x]=>if x.length<=sizeLine then .ok (.bl (plain x)) else .no
 | [d]=>.ok (.bl false)
 | _=>.no
noncomputable def lx:Ev->O:=(bO (lJ (aH (fX (·=="str")) (fun ρ=>rdV ρ 0)) (gOf zf (ac (cG (eU (aH bw (fun ρ=>rdV ρ 0)) [] (fun _=>R.ok true) (g3 leD leD (fun _=>R.ok (D.str [32])) (fun ρ=>rdV ρ 0) (fun _=>R.ok (D.str [126]))))) (fun _=>R.ok [])))))
noncomputable def dQ:Ev->O:=(aE lx oNx)
theorem qH:∀ ds:List D,ds.length=1->qr ds=.no\/ay (dQ  (ax 1 ds))=qr ds:=by
 intro ds hl
 unfold dQ lx
 match ds,hl with
 | [d],_=>
  cases d <;> first | exact Or.inl rfl | exact Or.inr rfl | skip
  rename_i x hl
  by_cases hx:x.length<=sizeLine
  ·refine Or.inr ?_
   have e:eV (fun _=>R.ok true) (g3 leD leD (fun _=>.ok (.str [32])) (fun ρ=>rdV ρ 0) (fun _=>.ok (.str [126]))) (x.map fun c=>D.str [c]) [none]=.ok ((x.map fun c=>D.str [c]).map fun d=>.bl (match d with | .str [c]=>decide (32<=c) && decide (c<=126) | _=>false)):=by
    refine cb _ [] _ none fun d m=>⟨rfl,?_⟩
    obtain ⟨c,_,rfl⟩:=List.mem_map.1 m
    show (ofO (some (D.bl (!decide (([c]:List Nat) < [32]))))>>=fun z=>match z with
     | .bl true=>ofO (some (D.bl (!decide (([126]:List Nat) < [c]))))
     | .bl false=>R.ok (D.bl false)
     | _=>R.no:R D)=_
    rw [wO,wO,cf,R.ok_bind]
    cases h1:decide (32<=c) <;> simp [h1]
   have e2:qr [.str x]=.ok (.bl (plain x)):=if_pos hx
   rw [e2]
   show ay (aE _ oNx [some (.val (.str x))])=_
   simp only [aE,bO,lJ,aH,gOf,ac,cG,eU,rd0,fX,tyN,asB,eT,bw,R.ok_bind,List.map_nil]
   simp only [beq_self_eq_true,if_true,e,R.ok_bind]
   simp only [List.length_map,hx,if_true,R.ok_bind,iI,cf,R.ok_out,ay,O.seq,List.all_map,plain]
   rfl
  ·exact Or.inl (if_neg hx)
def A3:D->Bool
 | .exc _=>false
 | .str x=>decide (x.length<=sizeLine)
 | _=>true
def yS (d:D) (wd:Int):Bool:=match d with
 | .str x=>plain x && ((x.length:Int)==wd)
 | _=>false
def vj (d:D) (wd:Int):Bool:=match d with
 | .tup xs=>decide (1<=xs.length) && decide (xs.length<=12) && xs.all fun r=>yS r wd
 | _=>false
def wN:List D->R D
 | [.exc _,_]=>.no
 | [.tup xs,.int wd]=>if xs.all A3=true then .ok (.bl (vj (.tup xs) wd)) else .no
 | [d,.int wd]=>.ok (.bl false)
 | _=>.no
theorem ut {d:D} (h:A3 d=true):qr [d]=.ok (.bl (Bz d)):=by
 cases d <;> first | rfl | (cases h; done) | skip
 exact if_pos (of_decide_eq_true h)
noncomputable def fo (bi:List D->R D):Ev->O:=(oIf (mZ (gBn (aH iW (aH (fX (·=="tuple")) (fun ρ=>rdV ρ 0)))) (gBn (gB3 leD leD (fun _=>R.ok (D.int 1)) (gOf fc (ac (fun ρ=>rdV ρ 0) (fun _=>R.ok []))) (fun _=>R.ok (D.int 12))))) (aE (bO (fun _=>R.ok (D.bl false))) oNx) oNx)
noncomputable def fh (bi:List D->R D):Ev->O:=(bO (gOf zf (ac (cG (eU (aH bw (fun ρ=>rdV ρ 0)) [1] (fun _=>R.ok true) (lJ (aL 1 bi (ac (fun ρ=>rdV ρ 0) (fun _=>R.ok []))) (g2 eqF (gOf fc (ac (fun ρ=>rdV ρ 0) (fun _=>R.ok []))) (fun ρ=>rdV ρ 1))))) (fun _=>R.ok []))))
noncomputable def bV (bi:List D->R D):Ev->O:=(aE (fo bi) (aE (fh bi) oNx))
theorem jU:∀ ds:List D,ds.length=2->wN ds=.no\/ay (bV qr (ax 2 ds))=wN ds:=by
 intro ds hl
 unfold bV fo fh
 match ds,hl with
 | [d,l],_=>
  cases d <;> first | exact Or.inl rfl | skip
  all_goals (cases l <;> first | exact Or.inl rfl | exact Or.inr rfl | skip)
  rename_i xs wd hl
  by_cases hf:xs.all A3=true
  ·refine Or.inr ?_
   have e2:wN [.tup xs,.int wd]=.ok (.bl (vj (.tup xs) wd)):=if_pos hf
   rw [e2]
   have e:eV (fun _=>R.ok true) (lJ (aL 1 qr (ac (fun ρ=>rdV ρ 0) fun x=>R.ok [])) (g2 eqF (gOf fc (ac (fun ρ=>rdV ρ 0) fun x=>R.ok [])) fun ρ=>rdV ρ 1)) xs [none,some (.val (.int wd))]=.ok (xs.map fun d=>.bl (yS d wd)):=by
    refine cb _ [some (.val (.int wd))] xs none fun d m=>⟨rfl,?_⟩
    have hd:=List.all_eq_true.1 hf d m
    simp only [lJ,aL,ac,rd0,R.ok_bind,List.length_singleton,if_true,ut hd,asB]
    cases d <;> first | rfl | skip
    rename_i x
    show (if plain x=true then R.ok (D.bl ((x.length:Int)==wd)) else R.ok (.bl false))=R.ok (.bl (plain x && ((x.length:Int)==wd)))
    cases plain x <;> rfl
   show ay (aE _ _ [some (.val (.tup xs)),some (.val (.int wd))])=_
   have i2:eT [1] [some (.val (.tup xs)),some (.val (.int wd))]=[none,some (.val (.int wd))]:=rfl
   have t1:fX (fun x=>x=="tuple") (.tup xs)=.ok (.bl true):=rfl
   have t2:iW (.bl true)=.ok true:=rfl
   have t3:fc [.tup xs]=some (.int xs.length):=rfl
   simp only [aE,oIf,mZ,gBn,aH,gB3,g3,bO,gOf,ac,cG,eU,rd0,R.ok_bind,R.ok_out,bw,i2,e,t1,t2,t3,cf,leD,Bool.not_true,Bool.false_eq_true,if_false]
   by_cases h1:1<=xs.length
   ·have h1':(1:Int)<=(xs.length:Int):=by omega
    by_cases h2:xs.length<=12
    ·have h2':(xs.length:Int)<=12:=by omega
     have h3:xs.length<=sizeLine:=Nat.le_trans h2 (by decide)
     simp [h1,h1',h2,h2',h3,asB,oNx,O.seq,iI,ay,vj]
     simp only [aE,bO,gOf,ac,cG,eU,aH,rd0,R.ok_bind,bw,i2,e,List.length_map,h3,if_true,iI,cf,R.ok_out,O.seq]
    ·have h2' : ¬ (xs.length:Int)<=12:=by omega
     simp [h1,h1',h2,h2',asB,oNx,O.seq,ay,vj]
   ·have h1' : ¬ (1:Int)<=(xs.length:Int):=by omega
    simp [h1,h1',asB,oNx,O.seq,ay,vj]
  ·exact Or.inl (if_neg hf)
def qE (d:D) (wd m:Int):Bool:=match d with
 | .tup [a,b]=>inB a 0 (m - 1) && inB b 0 wd
 | _=>false
def jg:D->Bool
 | .exc _=>false
 | _=>true
def mO:List D->R D
 | [.exc _,_,_]=>.no
 | [.tup xs,.int wd,.int m]=>if xs.all jg=true then .ok (.bl (qE (.tup xs) wd m)) else .no
 | [d,.int wd,.int m]=>.ok (.bl false)
 | _=>.no
theorem eD {d:D} {lo hi:Int} (h:jg d=true):Ae [d,.int lo,.int hi]=.ok (.bl (inB d lo hi)):=by
 cases d <;> first | rfl | (cases h; done)
noncomputable def km (aA:List D->R D):Ev->O:=(oIf (mZ (gBn (aH iW (aH (fX (·=="tuple")) (fun ρ=>rdV ρ 0)))) (gB2 neF (gOf fc (ac (fun ρ=>rdV ρ 0) (fun _=>R.ok []))) (fun _=>R.ok (D.int 2)))) (aE (bO (fun _=>R.ok (D.bl false))) oNx) oNx)
noncomputable def kA (aA:List D->R D):Ev->O:=(bO (lJ (aL 3 aA (ac (g2 ixD (fun ρ=>rdV ρ 0) (fun _=>R.ok (D.int 0))) (ac (fun _=>R.ok (D.int 0)) (ac (g2 we (fun ρ=>rdV ρ 2) (fun _=>R.ok (D.int 1))) (fun _=>R.ok []))))) (aL 3 aA (ac (g2 ixD (fun ρ=>rdV ρ 0) (fun _=>R.ok (D.int 1))) (ac (fun _=>R.ok (D.int 0)) (ac (fun ρ=>rdV ρ 1) (fun _=>R.ok [])))))))
noncomputable def dM (aA:List D->R D):Ev->O:=(aE (km aA) (aE (kA aA) oNx))
theorem sv:∀ ds:List D,ds.length=3->mO ds=.no\/ay (dM Ae (ax 3 ds))=mO ds:=by
 intro ds hl
 unfold dM km kA
 match ds,hl with
 | [d,l,h],_=>
  cases d <;> first | exact Or.inl rfl | skip
  all_goals (cases l <;> first | exact Or.inl rfl | skip)
  all_goals (cases h <;> first | exact Or.inl rfl | exact Or.inr rfl | skip)
  rename_i xs wd m hl
  by_cases hf:xs.all jg=true
  ·refine Or.inr ?_
   have e2:mO [.tup xs,.int wd,.int m]=.ok (.bl (qE (.tup xs) wd m)):=if_pos hf
   rw [e2]
   match xs,hf with
   | [],_=>rfl
   | [_],_=>rfl
   | [a,b],hf=>
    have ha:jg a=true:=List.all_eq_true.1 hf a (by simp)
    have hb:jg b=true:=List.all_eq_true.1 hf b (by simp)
    show ay ((lJ (fun _=>Ae [a,.int 0,.int (m - 1)]) (fun _=>Ae [b,.int 0,.int wd]) []).out _ .rt |>.seq oNx)=_
    rw [lJ,eD ha,eD hb]
    show ay ((if inB a 0 (m - 1)=true then R.ok (D.bl (inB b 0 wd)) else R.ok (D.bl false)).out _ .rt |>.seq oNx)=R.ok (D.bl (inB a 0 (m - 1) && inB b 0 wd))
    cases inB a 0 (m - 1) <;> rfl
   | a::b::c::l,_=>
    show ay (aE _ _ [some (.val (.tup (a::b::c::l))),some (.val (.int wd)),some (.val (.int m))])=_
    have t1:fX (fun x=>x=="tuple") (.tup (a::b::c::l))=.ok (.bl true):=rfl
    have t2:iW (.bl true)=.ok true:=rfl
    have t3:fc [.tup (a::b::c::l)]=some (.int (a::b::c::l).length):=rfl
    have t4:neF (.int (a::b::c::l).length) (.int 2)=some (.bl true):=by
     have:(((a::b::c::l).length:Int)==2)=false:=by simp; omega
     show some (D.bl (!(((a::b::c::l).length:Int)==2)))=_
     rw [this]; rfl
    simp only [aE,oIf,mZ,gBn,aH,gB2,g2,bO,gOf,ac,rd0,R.ok_bind,R.ok_out,t1,t2,t3,t4,cf,Bool.not_true,Bool.false_eq_true,if_false]
    rfl
  ·exact Or.inl (if_neg hf)
def kh:D->Bool
 | .exc _=>false
 | .tup [w,r,p]=>jg w && (match r with | .exc _=>false | .tup xs=>xs.all A3 | _=>true) && (match p with | .exc _=>false | .tup xs=>xs.all jg | _=>true)
 | _=>true
def screen:D->Bool
 | .tup [a,r,p]=>match a with
  | .int wd=>inB (.int wd) 1 40 && vj r wd && (match r with | .tup rows=>qE p wd rows.length | _=>false)
  | _=>false
 | _=>false
def fF:List D->R D
 | [d]=>if kh d=true then .ok (.bl (screen d)) else .no
 | _=>.no
noncomputable def jI (aA aS bt:List D->R D):Ev->O:=(oIf (mZ (gBn (aH iW (aH (fX (·=="tuple")) (fun ρ=>rdV ρ 0)))) (gB2 neF (gOf fc (ac (fun ρ=>rdV ρ 0) (fun _=>R.ok []))) (fun _=>R.ok (D.int 3)))) (aE (bO (fun _=>R.ok (D.bl false))) oNx) oNx)
noncomputable def jA (aA aS bt:List D->R D):Ev->O:=(eB 1 (g2 ixD (fun ρ=>rdV ρ 0) (fun _=>R.ok (D.int 0))))
noncomputable def jy (aA aS bt:List D->R D):Ev->O:=(oIf (mZ (gBn (aH iW (aL 3 aA (ac (fun ρ=>rdV ρ 1) (ac (fun _=>R.ok (D.int 1)) (ac (fun _=>R.ok (D.int 40)) (fun _=>R.ok []))))))) (gBn (aH iW (aL 2 aS (ac (g2 ixD (fun ρ=>rdV ρ 0) (fun _=>R.ok (D.int 1))) (ac (fun ρ=>rdV ρ 1) (fun _=>R.ok []))))))) (aE (bO (fun _=>R.ok (D.bl false))) oNx) oNx)
noncomputable def jH (aA aS bt:List D->R D):Ev->O:=(bO (aL 3 bt (ac (g2 ixD (fun ρ=>rdV ρ 0) (fun _=>R.ok (D.int 2))) (ac (fun ρ=>rdV ρ 1) (ac (gOf fc (ac (g2 ixD (fun ρ=>rdV ρ 0) (fun _=>R.ok (D.int 1))) (fun _=>R.ok []))) (fun _=>R.ok []))))))
noncomputable def df (aA aS bt:List D->R D):Ev->O:=(aE (jI aA aS bt) (aE (jA aA aS bt) (aE (jy aA aS bt) (aE (jH aA aS bt) oNx))))
theorem qe:∀ ds:List D,ds.length=1->fF ds=.no\/ay (df Ae wN mO (ax 2 ds))=fF ds:=by
 intro ds hl
 unfold df jI jA jy jH
 match ds,hl with
 | [d],_=>
  cases d <;> first | exact Or.inl rfl | exact Or.inr rfl | skip
  rename_i xs hl
  match xs with
  | []=>exact Or.inr rfl
  | [_]=>exact Or.inr rfl
  | [_,_]=>exact Or.inr rfl
  | a::b::c::e::l=>
   refine Or.inr ?_
   show ay (aE _ _ [some (.val (.tup (a::b::c::e::l))),none])=_
   have t1:fX (fun x=>x=="tuple") (.tup (a::b::c::e::l))=.ok (.bl true):=rfl
   have t2:iW (.bl true)=.ok true:=rfl
   have t3:fc [.tup (a::b::c::e::l)]=some (.int (a::b::c::e::l).length):=rfl
   have t4:neF (.int (a::b::c::e::l).length) (.int 3)=some (.bl true):=by
    have:(((a::b::c::e::l).length:Int)==3)=false:=by simp; omega
    show some (D.bl (!(((a::b::c::e::l).length:Int)==3)))=_
    rw [this]; rfl
   simp only [aE,oIf,mZ,gBn,aH,gB2,g2,bO,gOf,ac,rd0,R.ok_bind,R.ok_out,t1,t2,t3,t4,cf,Bool.not_true,Bool.false_eq_true,if_false]
   rfl
  | [a,r,p]=>
   by_cases hf:kh (.tup [a,r,p])=true
   ·refine Or.inr ?_
    have e2:fF [.tup [a,r,p]]=.ok (.bl (screen (.tup [a,r,p]))):=if_pos hf
    rw [e2]
    simp only [kh,Bool.and_eq_true] at hf
    obtain ⟨⟨ha,hr⟩,hp⟩:=hf
    show ay (aE _ _ [some (.val (.tup [a,r,p])),none])=_
    have t1:fX (fun x=>x=="tuple") (.tup [a,r,p])=.ok (.bl true):=rfl
    have t2:∀ k,iW (.bl k)=.ok k:=fun _=>rfl
    have t3:fc [.tup [a,r,p]]=some (.int 3):=rfl
    have t4:neF (.int 3) (.int 3)=some (.bl false):=rfl
    have x0:ixD (.tup [a,r,p]) (.int 0)=some a:=rfl
    have x1:ixD (.tup [a,r,p]) (.int 1)=some r:=rfl
    have x2:ixD (.tup [a,r,p]) (.int 2)=some p:=rfl
    have s1:([some (.val (.tup [a,r,p])),none]:Ev).set 1 (some (.val a))=[some (.val (.tup [a,r,p])),some (.val a)]:=rfl
    simp only [aE,oIf,eB,mZ,gBn,aH,gB2,g2,bO,gOf,ac,rd0,rd1,R.ok_bind,R.ok_out,t1,t2,t3,t4,x0,x1,x2,s1,vV,wI,cf,asB,oNx,O.seq,Bool.not_true,Bool.false_eq_true,if_false,eD ha]
    cases hi:inB a 1 40 with
    | false=>
     have:screen (.tup [a,r,p])=false:=by
      cases a <;> first | rfl | skip
      simp only [screen,hi,Bool.false_and]
     rw [this]; rfl
    | true=>
     cases a <;> first | (cases hi; done) | skip
     rename_i i
     have e3:wN [r,.int i]=.ok (.bl (vj r i)):=by
      cases r <;> first | rfl | (cases hr; done) | exact if_pos hr
     cases hq:vj r i with
     | false=>
      have:screen (.tup [.int i,r,p])=false:=by simp only [screen,hi,hq,Bool.and_false,Bool.false_and]
      rw [e3,hq,this]; rfl
     | true=>
      cases r <;> first | (cases hq; done) | skip
      rename_i rows
      have e4:mO [p,.int i,.int rows.length]=.ok (.bl (qE p i rows.length)):=by
       cases p <;> first | rfl | (cases hp; done) | exact if_pos hp
      have e5:screen (.tup [.int i,.tup rows,p])=qE p i rows.length:=by simp only [screen,hi,hq,Bool.and_true,Bool.true_and]
      rw [e3,hq,e5]
      show ay ((mO [p,.int i,.int rows.length]).out _ .rt |>.seq _)=_
      rw [e4]; rfl
   ·exact Or.inl (if_neg hf)
def eP:List D->Option (List Int)
 | []=>some []
 | .int i::ds=>(eP ds).map (i::·)
 | _=>none
theorem eW:∀ {ds:List D} {ns:List Int},eP ds=some ns->ds=ns.map .int
 | [],ns,h=>by cases h; rfl
 | d::ds,ns,h=>by
  cases d <;> first | (cases h; done) | skip
  rename_i i
  cases q:eP ds with
  | none=>simp [eP,q] at h
  | some ms=>simp [eP,q] at h; subst h; rw [eW q]; rfl
theorem dz:∀ ns:List Int,eP (ns.map .int)=some ns
 | []=>rfl
 | i::ns=>by simp [eP,dz ns]
def cell (ns:List Int) (k:Nat):Int:=if k < ns.length then ns.getD k 0 else if ns.length=0 then 0 else ns.getD (k % ns.length) 0 * 31+k
def oA:List D->R D
 | [.lst _ ds,.int k]=>match eP ds with
  | some ns=>if 0<=k then .ok (.int (cell ns k.toNat)) else .no
  | none=>.no
 | _=>.no
theorem sU {ns:List Int} {k:Nat} (h:k < ns.length):atI (ns.map D.int) (k:Int)=some (.int (ns.getD k 0)):=by
 have e:ixN (ns.map D.int).length (k:Int)=some k:=by
  rw [List.length_map]
  simp [ixN]
  try omega
 rw [atI,e]
 simp [List.getD,h]
noncomputable def ky:Ev->O:=(oIf (gB2 ltD (fun ρ=>rdV ρ 1) (gOf fc (ac (fun ρ=>rdV ρ 0) (fun _=>R.ok [])))) (aE (bO (g2 ixD (fun ρ=>rdV ρ 0) (fun ρ=>rdV ρ 1))) oNx) oNx)
noncomputable def kf:Ev->O:=(oIf (gB2 eqF (fun ρ=>rdV ρ 0) (cG (zT (fun _=>R.ok [])))) (aE (bO (fun _=>R.ok (D.int 0))) oNx) oNx)
noncomputable def ly:Ev->O:=(bO (g2 bE (g2 gf (g2 ixD (fun ρ=>rdV ρ 0) (g2 vg (fun ρ=>rdV ρ 1) (gOf fc (ac (fun ρ=>rdV ρ 0) (fun _=>R.ok []))))) (fun _=>R.ok (D.int 31))) (fun ρ=>rdV ρ 1)))
noncomputable def dP:Ev->O:=(aE ky (aE kf (aE ly oNx)))
theorem rq:∀ ds:List D,ds.length=2->oA ds=.no\/ay (dP  (ax 2 ds))=oA ds:=by
 intro ds hl
 unfold dP ky kf ly
 match ds,hl with
 | [l,kd],_=>
  cases l <;> first | exact Or.inl rfl | skip
  cases kd <;> first | exact Or.inl rfl | skip
  rename_i fz ds k hl
  cases hi:eP ds with
  | none=>refine Or.inl ?_; simp only [oA,hi]
  | some ns=>
   have e:=eW hi
   subst e
   by_cases hk:0<=k
   ·refine Or.inr ?_
    have e2:oA [.lst fz (ns.map .int),.int k]=.ok (.int (cell ns k.toNat)):=by simp only [oA,hi,hk,if_true]
    rw [e2]
    obtain ⟨n,rfl⟩:=Int.eq_ofNat_of_zero_le hk
    rw [Int.toNat_natCast]
    show ay (aE _ _ [some (.val (.lst fz (ns.map .int))),some (.val (.int n))])=_
    have t3:fc [.lst fz (ns.map .int)]=some (.int ns.length):=by simp [fc]
    by_cases h1:n < ns.length
    ·have h1':(n:Int) < (ns.length:Int):=by omega
     have x1:ixD (.lst fz (ns.map .int)) (.int n)=some (.int (ns.getD n 0)):=sU h1
     simp only [aE,oIf,gB2,g2,bO,gOf,ac,rd0,rd1,R.ok_bind,R.ok_out,t3,x1,cf,ltD,asB,h1',decide_true,if_true,O.seq,ay,cell,h1]
    ·have h1' : ¬ (n:Int) < (ns.length:Int):=by omega
     cases ns with
     | nil=>rfl
     | cons a as=>
      have t4:eqF (.lst fz ((a::as).map .int)) (.lst false [])=some (.bl false):=rfl
      have h2:n % (a::as).length < (a::as).length:=Nat.mod_lt _ (by simp)
      have x1:ixD (.lst fz ((a::as).map .int)) (.int ((n % (a::as).length:Nat):Int))=some (.int ((a::as).getD (n % (a::as).length) 0)):=sU h2
      have m1:vg (.int n) (.int (a::as).length)=some (.int ((n % (a::as).length:Nat):Int)):=by
       have:(0:Int) < ((a::as).length:Int):=by simp
       simp only [vg,this,if_true]; rw [Int.natCast_emod]
      have m2:∀ z:Int,gf (.int z) (.int 31)=some (.int (z * 31)):=fun z=>if_pos (Or.inr (by decide))
      have z1:(0:Nat)<=sizeLine:=Nat.zero_le _
      have z2 : ¬ (a::as).length=0:=by simp
      simp only [aE,oIf,gB2,g2,bO,gOf,ac,cG,zT,rd0,rd1,R.ok_bind,R.ok_out,t3,t4,x1,m1,m2,cf,ltD,bE,asB,h1',decide_false,Bool.false_eq_true,if_false,O.seq,oNx,ay,cell,h1,List.length_nil,z1,if_true,z2]
   ·refine Or.inl ?_; simp only [oA,hi,hk,if_false]
def drawn (ns:List Int) (k:Nat):Int:=(cell ns k+6151 * ((k:Int)+1)) * 40692 % 2147483399
def dB (ns:List Int) (k:Nat) (m:Int):Int:=(drawn ns k * drawn ns k+drawn ns k / 31) % 2147483629 % m
theorem br (ns:List Int) (k:Nat) {m:Int} (h:0 < m):0<=dB ns k m/\dB ns k m < m:=⟨Int.emod_nonneg _ (by omega),Int.emod_lt_of_pos _ h⟩
def bS:List D->R D
 | [.lst _ ds,.int k,.int m]=>match eP ds with
  | some ns=>if 0<=k/\0 < m then .ok (.int (dB ns k.toNat m)) else .no
  | none=>.no
 | _=>.no
theorem wr {fz:Bool} {ns:List Int} {n:Nat}:oA [.lst fz (ns.map .int),.int n]=.ok (.int (cell ns n)):=by
 simp only [oA,dz,Int.natCast_nonneg,if_true,Int.toNat_natCast]
noncomputable def lu (bK:List D->R D):Ev->O:=(eB 3 (g2 vg (g2 gf (g2 bE (aL 2 bK (ac (fun ρ=>rdV ρ 0) (ac (fun ρ=>rdV ρ 1) (fun _=>R.ok [])))) (g2 gf (fun _=>R.ok (D.int 6151)) (g2 bE (fun ρ=>rdV ρ 1) (fun _=>R.ok (D.int 1))))) (fun _=>R.ok (D.int 40692))) (fun _=>R.ok (D.int 2147483399))))
noncomputable def lv (bK:List D->R D):Ev->O:=(bO (g2 vg (g2 vg (g2 bE (g2 gf (fun ρ=>rdV ρ 3) (fun ρ=>rdV ρ 3)) (g2 wf (fun ρ=>rdV ρ 3) (fun _=>R.ok (D.int 31)))) (fun _=>R.ok (D.int 2147483629))) (fun ρ=>rdV ρ 2)))
noncomputable def dS (bK:List D->R D):Ev->O:=(aE (lu bK) (aE (lv bK) oNx))
theorem rC:∀ ds:List D,ds.length=3->bS ds=.no\/ay (dS oA (ax 4 ds))=bS ds:=by
 intro ds hl
 unfold dS lu lv
 match ds,hl with
 | [l,kd,md],_=>
  cases l <;> first | exact Or.inl rfl | skip
  cases kd <;> first | exact Or.inl rfl | skip
  cases md <;> first | exact Or.inl rfl | skip
  rename_i fz ds k m hl
  cases hi:eP ds with
  | none=>refine Or.inl ?_; simp only [bS,hi]
  | some ns=>
   have e:=eW hi
   subst e
   by_cases hk:0<=k/\0 < m
   ·refine Or.inr ?_
    have e2:bS [.lst fz (ns.map .int),.int k,.int m]=.ok (.int (dB ns k.toNat m)):=by simp only [bS,hi,hk,and_self,if_true]
    rw [e2]
    obtain ⟨hk,hm⟩:=hk
    obtain ⟨n,rfl⟩:=Int.eq_ofNat_of_zero_le hk
    rw [Int.toNat_natCast]
    show ay (aE _ _ [some (.val (.lst fz (ns.map .int))),some (.val (.int n)),some (.val (.int m)),none])=_
    have m1:∀ z:Int,gf (.int 6151) (.int z)=some (.int (6151 * z)):=fun z=>by show (if ((-(2 ^ 64):Int) < 6151/\(6151:Int) < 2 ^ 64)\/((-(2 ^ 64):Int) < z/\z < 2 ^ 64) then some (D.int (6151 * z)) else none)=_; exact if_pos (Or.inl (by decide))
    have m2:∀ z:Int,gf (.int z) (.int 40692)=some (.int (z * 40692)):=fun z=>if_pos (Or.inr (by decide))
    have m3:∀ z:Int,vg (.int z) (.int 2147483399)=some (.int (z % 2147483399)):=fun z=>by show (if (0:Int) < 2147483399 then some (D.int (z % 2147483399)) else none)=_; exact if_pos (by decide)
    have m4:∀ z:Int,vg (.int z) (.int 2147483629)=some (.int (z % 2147483629)):=fun z=>by show (if (0:Int) < 2147483629 then some (D.int (z % 2147483629)) else none)=_; exact if_pos (by decide)
    have m5:∀ z:Int,vg (.int z) (.int m)=some (.int (z % m)):=fun z=>if_pos hm
    have m6:∀ z:Int,wf (.int z) (.int 31)=some (.int (z / 31)):=fun z=>by show (if (0:Int) < 31/\(31:Int) < 1073741824 then some (D.int (z / 31)) else none)=_; exact if_pos (by decide)
    have m7:∀ i j:Int,bE (.int i) (.int j)=some (.int (i+j)):=fun _ _=>rfl
    have hd:0<=drawn ns n/\drawn ns n < 2147483399:=⟨Int.emod_nonneg _ (by decide),Int.emod_lt_of_pos _ (by decide)⟩
    have m8:gf (.int (drawn ns n)) (.int (drawn ns n))=some (.int (drawn ns n * drawn ns n)):=if_pos (Or.inl (by omega))
    have s1:∀ v,([some (.val (.lst fz (ns.map .int))),some (.val (.int n)),some (.val (.int m)),none]:Ev).set 3 v=[some (.val (.lst fz (ns.map .int))),some (.val (.int n)),some (.val (.int m)),v]:=fun _=>rfl
    have q1:(cell ns n+6151 * ((n:Int)+1)) * 40692 % 2147483399=drawn ns n:=rfl
    simp only [aE,eB,bO,g2,vV,rd0,rd1,rd2,rd3,R.ok_bind,R.ok_out,wr,m1,m2,m3,m4,m5,m6,m7,cf,O.seq,s1,q1,m8,ay,dB]
   ·refine Or.inl ?_; simp only [bS,hi,hk,if_false]
def cH (C:Addr):List D->R D
 | [d]=>if kh d=true then (if screen d=true then .ok .non else .ex C) else .no
 | _=>.no
noncomputable def fR (aW:List D->R D) (bz:Addr):Ev->O:=(oIf (gBn (aH iW (aL 1 aW (ac (fun ρ=>rdV ρ 0) (fun _=>R.ok []))))) (aE (eJ bz (ac (fun _=>R.ok (D.str [116,104,105,115,32,105,115,32,110,111,32,115,99,114,101,101,110])) (fun _=>R.ok []))) oNx) oNx)
noncomputable def ce (aW:List D->R D) (bz:Addr):Ev->O:=(aE (fR aW bz) oNx)
theorem kn {C:Addr}:∀ ds:List D,ds.length=1->cH C ds=.no\/ay (ce fF C (ax 1 ds))=cH C ds:=by
 intro ds hl
 unfold ce fR
 match ds,hl with
 | [d],_=>
  by_cases hf:kh d=true
  ·refine Or.inr ?_
   have e1:fF [d]=.ok (.bl (screen d)):=if_pos hf
   have e2:cH C [d]=if screen d=true then .ok .non else .ex C:=if_pos hf
   rw [e2]
   show ay (aE _ _ [some (.val d)])=_
   have t2:∀ k,iW (.bl k)=.ok k:=fun _=>rfl
   simp only [aE,oIf,eJ,gBn,aH,Aq,rd0,R.ok_bind,R.ok_out,e1,t2]
   cases screen d <;> rfl
  ·exact Or.inl (if_neg hf)
theorem CN {α:Type} (n:Nat) (x:α):(List.replicate n [x]).flatten=List.replicate n x:=by
 induction n with
 | zero=>rfl
 | succ n ih=>rw [List.replicate_succ,List.flatten_cons,ih]; rfl
theorem bM {fz:Bool} {ns:List Int} {n:Nat} {m:Int} (h:0 < m):bS [.lst fz (ns.map .int),.int n,.int m]=.ok (.int (dB ns n m)):=by
 simp only [bS,dz,Int.natCast_nonneg,h,and_self,if_true,Int.toNat_natCast]
def sgn (ns:List Int) (k:Nat):Nat:=([32,32,97,98,35]:List Nat).getD (dB ns k 5).toNat 0
theorem Eg (ns:List Int) (k:Nat):ixD (.str [32,32,97,98,35]) (.int (dB ns k 5))=some (.str [sgn ns k]):=by
 have h:=br ns k (m:=5) (by decide)
 unfold sgn
 generalize dB ns k 5=v at h
 have:v=0\/v=1\/v=2\/v=3\/v=4:=by omega
 rcases this with rfl | rfl | rfl | rfl | rfl <;> rfl
theorem wb (ns:List Int) (k:Nat):32<=sgn ns k/\sgn ns k<=126:=by
 have h:=br ns k (m:=5) (by decide)
 unfold sgn
 generalize dB ns k 5=v at h
 have:v=0\/v=1\/v=2\/v=3\/v=4:=by omega
 rcases this with rfl | rfl | rfl | rfl | rfl <;> decide
def zA:Ev->O:=aE (eB 3 (g2 bE (fun ρ=>rdV ρ 3) (g2 ixD (fun x=>R.ok (D.str [32,32,97,98,35])) (aL 3 bS (ac (fun ρ=>rdV ρ 0) (ac (g2 bE (g2 bE (fun ρ=>rdV ρ 1) fun x=>R.ok (D.int 1)) fun ρ=>rdV ρ 4) (ac (fun x=>R.ok (D.int 5)) fun x=>R.ok []))))))) oNx
theorem tI (ns:List Int) (fz:Bool) (a:Nat) (W:Option Sl):∀ (ks:List Nat) (x:List Nat) (kk:Option Sl),x.length+ks.length<=sizeLine->
  ∃ kk',cF (fZ 4) zA (ks.map fun i=>D.int (0+(i:Nat))) [some (.val (.lst fz (ns.map .int))),some (.val (.int a)),W,some (.val (.str x)),kk,none]=.nx [some (.val (.lst fz (ns.map .int))),some (.val (.int a)),W,some (.val (.str (x++ks.map fun k=>sgn ns (a+1+k)))),kk',none]
 | [],x,kk,_=>⟨kk,by simp [cF]⟩
 | k::ks,x,kk,h=>by
  have h':(x++[sgn ns (a+1+k)]).length+ks.length<=sizeLine:=by simp at h ⊢; omega
  obtain ⟨kk',ih⟩:=tI ns fz a W ks (x++[sgn ns (a+1+k)]) (some (.val (.int (0+(k:Nat))))) h'
  refine ⟨kk',?_⟩
  have hx:x.length+1<=sizeLine:=by simp at h; omega
  have c1:((a:Int)+1+(0+(k:Int)))=((a+1+k:Nat):Int):=by omega
  have p5:∀ n:Nat,bS [.lst fz (ns.map .int),.int n,.int 5]=.ok (.int (dB ns n 5)):=fun n=>bM (by decide)
  have m7:∀ i j:Int,bE (.int i) (.int j)=some (.int (i+j)):=fun _ _=>rfl
  have m8:bE (.str x) (.str [sgn ns (a+1+k)])=some (.str (x++[sgn ns (a+1+k)])):=if_pos hx
  have hB:zA [some (.val (.lst fz (ns.map .int))),some (.val (.int a)),W,some (.val (.str x)),some (.val (.int (0+(k:Nat)))),none]=.nx [some (.val (.lst fz (ns.map .int))),some (.val (.int a)),W,some (.val (.str (x++[sgn ns (a+1+k)]))),some (.val (.int (0+(k:Nat)))),none]:=by
   simp only [zA,aE,eB,g2,wI,rd0,rd1,rd3,rd4,R.ok_bind,m7,c1,p5,Eg,m8,cf,R.ok_out,O.seq,oNx]
   rfl
  rw [List.map_cons,cF]
  show (match zA [some (.val (.lst fz (ns.map .int))),some (.val (.int a)),W,some (.val (.str x)),some (.val (.int (0+(k:Nat)))),none] with
   | .nx ρ2=>cF (fZ 4) zA _ ρ2
   | .ct ρ2=>cF (fZ 4) zA _ ρ2
   | .bk ρ2=>O.nx ρ2
   | .rt d=>O.rt d
   | .re d ρ2=>.re d ρ2
   | .ex C ρ2=>O.ex C ρ2
   | .no=>O.no)=_
  rw [hB]
  simp only [List.map_cons]
  rw [ih,List.append_assoc]
  rfl
def vh (ns:List Int) (a wd:Nat):List Nat:=
 if dB ns (a+20) 2=0 then (List.range wd).map fun k=>sgn ns (a+1+k) else ((List.range wd).map fun k=>sgn ns (a+1+k)).take (dB ns a (wd+1)).toNat++List.replicate (wd - (dB ns a (wd+1)).toNat) 32
theorem qC (ns:List Int) (a wd:Nat):(vh ns a wd).length=wd:=by
 have h:=br ns a (m:=(wd:Int)+1) (by omega)
 unfold vh
 split
 ·simp
 ·simp; omega
theorem uC (ns:List Int) (a wd:Nat):plain (vh ns a wd)=true:=by
 have hm:∀ c ∈ (List.range wd).map (fun k=>sgn ns (a+1+k)),32<=c/\c<=126:=by
  intro c hc
  obtain ⟨k,_,rfl⟩:=List.mem_map.1 hc
  exact wb ns _
 unfold plain
 rw [List.all_eq_true]
 intro c hc
 have:32<=c/\c<=126:=by
  unfold vh at hc
  split at hc
  ·exact hm c hc
  ·rcases List.mem_append.1 hc with q | q
   ·exact hm c (List.mem_of_mem_take q)
   ·have:=(List.mem_replicate.1 q).2; omega
 simp [this.1,this.2]
def xZ:List D->R D
 | [.lst _ ds,.int a,.int wd]=>match eP ds with
  | some ns=>if 0<=a/\0<=wd/\wd<=100 then .ok (.str (vh ns a.toNat wd.toNat)) else .no
  | none=>.no
 | _=>.no
theorem xk {wd:Nat} (h:wd<=100):bD [.int (wd:Int)]=.ok ((List.range wd).map fun i=>D.int (0+(i:Nat))):=by
 have e:bD [.int (wd:Int)]=if -(2 ^ 62)<=(wd:Int)/\(wd:Int) < 2 ^ 62 then .ok ((List.range (wd:Int).toNat).map fun i=>D.int (0+(i:Nat))) else .no:=by simp only [bD]
 rw [e,if_pos (by constructor <;> omega),Int.toNat_natCast]
theorem FJ {fz:Bool} {ns:List Int} {a:Nat}:bS [.lst fz (ns.map .int),.int ((a+20:Nat):Int),.int 2]=.ok (.int (dB ns (a+20) 2)):=bM (by decide)
def Gi (pk:List D->R D):Ev->O:=aE (eB 5 (aL 3 pk (ac (fun ρ=>rdV ρ 0) (ac (fun ρ=>rdV ρ 1) (ac (g2 bE (fun ρ=>rdV ρ 2) fun x=>R.ok (D.int 1)) fun x=>R.ok [])))))
 (aE (bO (gIf (gB2 eqF (aL 3 pk (ac (fun ρ=>rdV ρ 0) (ac (g2 bE (fun ρ=>rdV ρ 1) fun x=>R.ok (D.int 20)) (ac (fun x=>R.ok (D.int 2)) fun x=>R.ok [])))) fun x=>R.ok (D.int 0)) (fun ρ=>rdV ρ 3)
  (g2 bE (gSl (fun ρ=>rdV ρ 3) (fun x=>R.ok none) (dE fun ρ=>rdV ρ 5)) (g2 gf (fun x=>R.ok (D.str [32])) (g2 we (fun ρ=>rdV ρ 2) fun ρ=>rdV ρ 5))))) oNx)
theorem vL {n:Nat} (h:n<=100):gf (.str [32]) (.int (n:Int))=some (.str (List.replicate n 32)):=by
 have hz:(100:Nat)<=sizeLine:=by decide
 have e:[32]=[32]:=rfl
 rw [e,<- CN n 32]
 simp only [gf]
 rw [if_pos (by refine ⟨by omega,by omega,?_⟩; simp; omega),Int.toNat_natCast]
theorem CV (pk:List D->R D) (S:D) (a wd l:Nat) (z:Int) (x:List Nat) (kk:Option Sl) (h1:pk [S,.int a,.int ((wd:Int)+1)]=.ok (.int (l:Int))) (h2:pk [S,.int ((a:Int)+20),.int 2]=.ok (.int z)) (hx:x.length=wd) (hw:wd<=100) (hl:l<=wd) :
  Gi pk [some (.val S),some (.val (.int a)),some (.val (.int wd)),some (.val (.str x)),kk,none]=.rt (.str (if z=0 then x else x.take l++List.replicate (wd - l) 32)):=by
 have c1:(wd:Int) - (l:Int)=((wd - l:Nat):Int):=by omega
 have m1:gf (.str [32]) (.int ((wd - l:Nat):Int))=some (.str (List.replicate (wd - l) 32)):=vL (by omega)
 have m2:bE (.str (x.take l)) (.str (List.replicate (wd - l) 32))=some (.str (x.take l++List.replicate (wd - l) 32)):=jN (by have:=bo; simp; omega)
 have m3:=qJ x l
 unfold Gi
 clear hx hw hl
 walk_at "run"
 by_cases hz:z=0
 ·simp only [hz,if_true,beq_self_eq_true,R.ok_out,GM]
 ·have:(z==0)=false:=by simp [hz]
  simp only [hz,this,if_false,Bool.false_eq_true,R.ok_out,GM]
noncomputable def nr (af:List D->R D):Ev->O:=(eB 3 (fun _=>R.ok (D.str [])))
noncomputable def uO (af:List D->R D):Ev->O:=(aE (eB 3 (g2 bE (fun ρ=>rdV ρ 3) (g2 ixD (fun _=>R.ok (D.str [32,32,97,98,35])) (aL 3 af (ac (fun ρ=>rdV ρ 0) (ac (g2 bE (g2 bE (fun ρ=>rdV ρ 1) (fun _=>R.ok (D.int 1))) (fun ρ=>rdV ρ 4)) (ac (fun _=>R.ok (D.int 5)) (fun _=>R.ok [])))))))) oNx)
noncomputable def mQ (af:List D->R D):Ev->O:=(uR (fZ 4) (aH bD (ac (fun ρ=>rdV ρ 2) (fun _=>R.ok []))) (uO af))
noncomputable def ng (af:List D->R D):Ev->O:=(eB 5 (aL 3 af (ac (fun ρ=>rdV ρ 0) (ac (fun ρ=>rdV ρ 1) (ac (g2 bE (fun ρ=>rdV ρ 2) (fun _=>R.ok (D.int 1))) (fun _=>R.ok []))))))
noncomputable def nh (af:List D->R D):Ev->O:=(bO (gIf (gB2 eqF (aL 3 af (ac (fun ρ=>rdV ρ 0) (ac (g2 bE (fun ρ=>rdV ρ 1) (fun _=>R.ok (D.int 20))) (ac (fun _=>R.ok (D.int 2)) (fun _=>R.ok []))))) (fun _=>R.ok (D.int 0))) (fun ρ=>rdV ρ 3) (g2 bE (gSl (fun ρ=>rdV ρ 3) (fun _=>R.ok none) (dE (fun ρ=>rdV ρ 5))) (g2 gf (fun _=>R.ok (D.str [32])) (g2 we (fun ρ=>rdV ρ 2) (fun ρ=>rdV ρ 5))))))
noncomputable def eS (af:List D->R D):Ev->O:=(aE (nr af) (aE (mQ af) (aE (ng af) (aE (nh af) oNx))))
theorem uy:∀ ds:List D,ds.length=3->xZ ds=.no\/ay (eS bS (ax 6 ds))=xZ ds:=by
 intro ds hl
 unfold eS nr mQ ng nh
 match ds,hl with
 | [l,ad,wd],_=>
  cases l <;> first | exact Or.inl rfl | skip
  cases ad <;> first | exact Or.inl rfl | skip
  cases wd <;> first | exact Or.inl rfl | skip
  rename_i fz ds a wd hl
  cases hi:eP ds with
  | none=>refine Or.inl ?_; simp only [xZ,hi]
  | some ns=>
   have e:=eW hi
   subst e
   by_cases hk:0<=a/\0<=wd/\wd<=100
   ·refine Or.inr ?_
    have e2:xZ [.lst fz (ns.map .int),.int a,.int wd]=.ok (.str (vh ns a.toNat wd.toNat)):=by simp only [xZ,hi,hk,and_self,if_true]
    rw [e2]
    obtain ⟨ha,hw,hw2⟩:=hk
    obtain ⟨a,rfl⟩:=Int.eq_ofNat_of_zero_le ha
    obtain ⟨wd,rfl⟩:=Int.eq_ofNat_of_zero_le hw
    rw [Int.toNat_natCast,Int.toNat_natCast]
    have hw3:wd<=100:=by omega
    show ay (aE (eB 3 (fun _=>R.ok (D.str []))) (aE (uR (fZ 4) (aH bD (ac (fun ρ=>rdV ρ 2) fun _=>R.ok [])) zA) (Gi bS)) [some (.val (.lst fz (ns.map .int))),some (.val (.int a)),some (.val (.int wd)),none,none,none])=_
    obtain ⟨kk',hL⟩:=tI ns fz a (some (.val (.int wd))) (List.range wd) [] none (by have:=bo; simp; omega)
    have s2:uR (fZ 4) (aH bD (ac (fun ρ=>rdV ρ 2) fun _=>R.ok [])) zA [some (.val (.lst fz (ns.map .int))),some (.val (.int a)),some (.val (.int wd)),some (.val (.str [])),none,none]=.nx [some (.val (.lst fz (ns.map .int))),some (.val (.int a)),some (.val (.int wd)),some (.val (.str ([]++(List.range wd).map fun k=>sgn ns (a+1+k)))),kk',none]:=by
     rw [Fo,Au,vT,rd2,R.ok_bind,R.ok_bind,R.ok_bind,xk hw3,R.ok_out]
     exact hL
    have hp:=br ns a (m:=(wd:Int)+1) (by omega)
    have s3:=CV bS (.lst fz (ns.map .int)) a wd (dB ns a ((wd:Int)+1)).toNat (dB ns (a+20) 2) ([]++(List.range wd).map fun k=>sgn ns (a+1+k)) kk'
     (by rw [Int.toNat_of_nonneg hp.1]; exact bM (by omega)) (by exact FJ) (by simp) hw3 (by omega)
    rw [BH,DF,R.ok_out,GZ,BH]
    show ay ((uR (fZ 4) _ zA [some (.val (.lst fz (ns.map .int))),some (.val (.int a)),some (.val (.int wd)),some (.val (.str [])),none,none]).seq _)=_
    rw [s2,GZ,s3,Hk]
    unfold vh
    rw [List.nil_append]
   ·refine Or.inl ?_; simp only [xZ,hi,hk,if_false]
theorem yq {fz:Bool} {ns:List Int} {a wd:Nat} (h:wd<=100):xZ [.lst fz (ns.map .int),.int (a:Int),.int (wd:Int)]=.ok (.str (vh ns a wd)):=by
 have h2:(wd:Int)<=100:=by omega
 simp only [xZ,dz,Int.natCast_nonneg,h2,and_self,if_true,Int.toNat_natCast]
def rW (ns:List Int) (a wd m:Nat):List D:=(List.range m).map fun k=>.str (vh ns (a+30 * k) wd)
def GJ (ns:List Int) (a wd m:Nat):D:=.tup [.int wd,.tup (rW ns a wd m),.tup [.int (dB ns (a+400) m),.int (dB ns (a+401) (wd+1))]]
def me:List D->R D
 | [.lst _ ds,.int a,.int wd,.int m]=>match eP ds with
  | some ns=>if (0<=a/\0<=wd/\wd<=100)/\0 < m/\m<=100 then .ok (GJ ns a.toNat wd.toNat m.toNat) else .no
  | none=>.no
 | _=>.no
noncomputable def iq (bW af:List D->R D):Ev->O:=(eB 4 (gOf ko (ac (cG (eU (aH bD (ac (fun ρ=>rdV ρ 3) (fun _=>R.ok []))) [0,1,2] (fun _=>R.ok true) (aL 3 bW (ac (fun ρ=>rdV ρ 1) (ac (g2 bE (fun ρ=>rdV ρ 2) (g2 gf (fun _=>R.ok (D.int 30)) (fun ρ=>rdV ρ 0))) (ac (fun ρ=>rdV ρ 3) (fun _=>R.ok []))))))) (fun _=>R.ok []))))
noncomputable def iE (bW af:List D->R D):Ev->O:=(bO (aH mkT (ac (fun ρ=>rdV ρ 2) (ac (fun ρ=>rdV ρ 4) (ac (aH mkT (ac (aL 3 af (ac (fun ρ=>rdV ρ 0) (ac (g2 bE (fun ρ=>rdV ρ 1) (fun _=>R.ok (D.int 400))) (ac (fun ρ=>rdV ρ 3) (fun _=>R.ok []))))) (ac (aL 3 af (ac (fun ρ=>rdV ρ 0) (ac (g2 bE (fun ρ=>rdV ρ 1) (fun _=>R.ok (D.int 401))) (ac (g2 bE (fun ρ=>rdV ρ 2) (fun _=>R.ok (D.int 1))) (fun _=>R.ok []))))) (fun _=>R.ok [])))) (fun _=>R.ok []))))))
noncomputable def cL (bW af:List D->R D):Ev->O:=(aE (iq bW af) (aE (iE bW af) oNx))
theorem nV:∀ ds:List D,ds.length=4->me ds=.no\/ay (cL xZ bS (ax 5 ds))=me ds:=by
 intro ds hl
 unfold cL iq iE
 match ds,hl with
 | [l,ad,wd,md],_=>
  cases l <;> first | exact Or.inl rfl | skip
  cases ad <;> first | exact Or.inl rfl | skip
  cases wd <;> first | exact Or.inl rfl | skip
  cases md <;> first | exact Or.inl rfl | skip
  rename_i fz ds a wd m hl
  cases hi:eP ds with
  | none=>refine Or.inl ?_; simp only [me,hi]
  | some ns=>
   have e:=eW hi
   subst e
   by_cases hk:(0<=a/\0<=wd/\wd<=100)/\0 < m/\m<=100
   ·refine Or.inr ?_
    have e2:me [.lst fz (ns.map .int),.int a,.int wd,.int m]=.ok (GJ ns a.toNat wd.toNat m.toNat):=by simp only [me,hi,hk,and_self,if_true]
    rw [e2]
    obtain ⟨⟨ha,hw,hw2⟩,hm,hm2⟩:=hk
    obtain ⟨a,rfl⟩:=Int.eq_ofNat_of_zero_le ha
    obtain ⟨wd,rfl⟩:=Int.eq_ofNat_of_zero_le hw
    obtain ⟨m,rfl⟩:=Int.eq_ofNat_of_zero_le (Int.le_of_lt hm)
    rw [Int.toNat_natCast,Int.toNat_natCast,Int.toNat_natCast]
    have hw3:wd<=100:=by omega
    have hm3:m<=100:=by omega
    have e:eV (fun _=>R.ok true) (aL 3 xZ (ac (fun ρ=>rdV ρ 1) (ac (g2 bE (fun ρ=>rdV ρ 2) (g2 gf (fun _=>R.ok (D.int 30)) fun ρ=>rdV ρ 0)) (ac (fun ρ=>rdV ρ 3) fun _=>R.ok []))))
      ((List.range m).map fun (i:Nat)=>D.int (i:Int)) [none,some (.val (.lst fz (ns.map .int))),some (.val (.int a)),some (.val (.int wd))]=.ok (((List.range m).map fun (i:Nat)=>D.int (i:Int)).map fun d=>match d with | .int k=>.str (vh ns (a+30 * k.toNat) wd) | d=>d):=by
     refine cb _ _ _ none fun d hd=>⟨rfl,?_⟩
     obtain ⟨k,_,rfl⟩:=List.mem_map.1 hd
     have m1:gf (.int 30) (.int (k:Int))=some (.int ((30 * k:Nat):Int)):=by rw [D2 (by decide)]; congr 2
     have m2:(a:Int)+((30 * k:Nat):Int)=((a+30 * k:Nat):Int):=by omega
     have m3:=yq (fz:=fz) (ns:=ns) (a:=a+30 * k) hw3
     walk_at "run"
     simp only [Int.toNat_natCast]
    show ay (aE _ _ [some (.val (.lst fz (ns.map .int))),some (.val (.int a)),some (.val (.int wd)),some (.val (.int m)),none])=_
    have i1:eT [0,1,2] [some (.val (.lst fz (ns.map .int))),some (.val (.int a)),some (.val (.int wd)),some (.val (.int m)),none]=[none,some (.val (.lst fz (ns.map .int))),some (.val (.int a)),some (.val (.int wd))]:=rfl
    have r1:bD [.int (m:Int)]=.ok ((List.range m).map fun (i:Nat)=>D.int (i:Int)):=jV (by omega)
    have z1:(((List.range m).map fun (i:Nat)=>D.int (i:Int)).map fun d=>match d with | .int k=>.str (vh ns (a+30 * k.toNat) wd) | d=>d)=rW ns a wd m:=by
     rw [List.map_map]; unfold rW; refine List.map_congr_left fun k _=>?_; simp
    have z2:(rW ns a wd m).length<=sizeLine:=by have:=bo; unfold rW; simp; omega
    have p1:bS [.lst fz (ns.map .int),.int ((a:Int)+400),.int (m:Int)]=.ok (.int (dB ns (a+400) m)):=by have:=bM (fz:=fz) (ns:=ns) (n:=a+400) (m:=m) (by omega); exact this
    have p2:bS [.lst fz (ns.map .int),.int ((a:Int)+401),.int ((wd:Int)+1)]=.ok (.int (dB ns (a+401) (wd+1))):=by have:=bM (fz:=fz) (ns:=ns) (n:=a+401) (m:=(wd:Int)+1) (by omega); exact this
    have k1:∀ x:List D,ko [.lst false x]=some (.tup x):=fun _=>rfl
    have k2:∀ x y:D,mkT [x,y]=.ok (.tup [x,y]):=fun _ _=>m_t (by simp)
    have k3:∀ x y z:D,mkT [x,y,z]=.ok (.tup [x,y,z]):=fun _ _ _=>m_t (by simp)
    rw [z1] at e
    clear hi hl e2 hw hw2 hm hm2 hw3 hm3 z1
    walk_at "run"
    rfl
   ·refine Or.inl ?_; simp only [me,hi,hk,if_false]
def cl:Nat->D->Bool
 | 0,_=>false
 | _+1,.exc _=>false
 | n+1,.tup xs=>xs.all (cl n)
 | n+1,.lst _ xs=>xs.all (cl n)
 | _+1,_=>true
theorem oq {f:D->D->Option Bool}:∀ xs:List D,(∀ x ∈ xs,f x x=some true)->eqZ f xs xs=some (xs.map fun _=>true)
 | [],_=>rfl
 | x::xs,h=>by
  rw [eqZ,h x (List.mem_cons_self ..),oq xs fun y hy=>h y (List.mem_cons_of_mem _ hy)]; rfl
theorem nJ {α:Type}:∀ xs:List α,(xs.map fun _=>true).all id=true
 | []=>rfl
 | _::xs=>by rw [List.map_cons,List.all_cons,nJ xs]; rfl
theorem jY:∀ (n m:Nat) (d:D),n<=m->cl n d=true->eqD m d d=some true
 | 0,_,_,_,h=>by simp [cl] at h
 | n+1,0,_,h,_=>by omega
 | n+1,m+1,d,hm,h=>by
  cases d <;> first | (simp [cl] at h; done) | (simp [eqD]; done) | skip
  ·rename_i xs
   simp only [cl,List.all_eq_true] at h
   have:=oq (f:=eqD m) xs fun x hx=>jY n m x (by omega) (h x hx)
   simp only [eqD,this,Option.map_some,nJ,beq_self_eq_true,Bool.and_true]
  ·rename_i fz xs
   simp only [cl,List.all_eq_true] at h
   have:=oq (f:=eqD m) xs fun x hx=>jY n m x (by omega) (h x hx)
   simp only [eqD,if_true,this,Option.map_some,nJ]
theorem wz {d:D} (h:cl 10 d=true):neF d d=some (.bl false):=by
 unfold neF; rw [jY 10 40 d (by omega) h]; rfl
theorem sN {d:D} (h:cl 10 d=true):eqF d d=some (.bl true):=by
 unfold eqF; rw [jY 10 40 d (by omega) h]; rfl
end Q
namespace Q
open L2
open PySem (sizeLine Addr)
noncomputable def kx (af bI:List D->R D):Ev->O:=(bO (aL 4 bI (ac (fun ρ=>rdV ρ 0) (ac (g2 bE (fun ρ=>rdV ρ 1) (fun _=>R.ok (D.int 5))) (ac (g2 bE (fun _=>R.ok (D.int 1)) (aL 3 af (ac (fun ρ=>rdV ρ 0) (ac (fun ρ=>rdV ρ 1) (ac (fun _=>R.ok (D.int 8)) (fun _=>R.ok [])))))) (ac (g2 bE (fun _=>R.ok (D.int 1)) (aL 3 af (ac (fun ρ=>rdV ρ 0) (ac (g2 bE (fun ρ=>rdV ρ 1) (fun _=>R.ok (D.int 1))) (ac (fun _=>R.ok (D.int 4)) (fun _=>R.ok [])))))) (fun _=>R.ok [])))))))
noncomputable def fC (af bI:List D->R D):Ev->O:=(aE (kx af bI) oNx)
theorem sd {d:D} (h:screen d=true):kh d=true:=by
 cases d <;> first | (cases h; done) | skip
 rename_i xs
 match xs,h with
 | [],h=>cases h
 | [_],h=>cases h
 | [_,_],h=>cases h
 | a::b::c::e::l,h=>cases h
 | [a,r,p],h=>
  cases a <;> first | (cases h; done) | skip
  rename_i i
  cases r <;> first | (simp [screen,vj] at h; done) | skip
  rename_i rows
  simp only [screen,Bool.and_eq_true] at h
  obtain ⟨⟨h1,h2⟩,h3⟩:=h
  simp only [vj,Bool.and_eq_true,List.all_eq_true] at h2
  simp only [inB,Bool.and_eq_true,decide_eq_true_eq] at h1
  simp only [kh,Bool.and_eq_true,List.all_eq_true]
  refine ⟨⟨rfl,fun r hr=>?_⟩,?_⟩
  ·have q:=h2.2 r hr
   cases r <;> first | rfl | (cases q; done) | skip
   rename_i x
   simp only [yS,Bool.and_eq_true,beq_iff_eq] at q
   simp only [A3,decide_eq_true_eq]
   have:=bo
   omega
  ·cases p <;> first | (cases h3; done) | skip
   rename_i ps
   match ps,h3 with
   | [a,b],h3=>
    simp only [qE,Bool.and_eq_true] at h3
    show [a,b].all jg=true
    rw [List.all_eq_true]
    intro x hx
    rcases List.mem_cons.1 hx with rfl | hx
    ·cases x <;> first | rfl | exact absurd h3.1 (by simp [inB])
    ·rcases List.mem_cons.1 hx with rfl | hx
     ·cases x <;> first | rfl | exact absurd h3.2 (by simp [inB])
     ·cases hx
theorem pT {C:Addr} {d:D} (h:screen d=true):cH C [d]=.ok .non:=by
 show (if kh d=true then (if screen d=true then R.ok D.non else .ex C) else .no)=_
 rw [if_pos (sd h),if_pos h]
def vB (b m r:Int):Bool:=decide (0<=b) && decide (b<=r - 1) && (decide (1<=m) && decide (m<=r - b))
def EW (l w:Nat):D->D
 | .str x=>.str ((x.drop l).take w)
 | d=>d
def qN:List D->R D
 | [.tup [.int wd,.tup rows,p],.int t,.int l,.int h,.int w]=>if screen (.tup [.int wd,.tup rows,p])=true/\vB t h rows.length=true/\vB l w wd=true then .ok (.tup [.int w,.tup (((rows.drop t.toNat).take h.toNat).map (EW l.toNat w.toNat)),.tup [.int 0,.int 0]]) else .no
 | _=>.no
def wS (ns:List Int) (a:Nat):Nat:=(1+dB ns a 8).toNat
def mS (ns:List Int) (a:Nat):Nat:=(1+dB ns (a+1) 4).toNat
theorem tK (ns:List Int) (a:Nat):1<=wS ns a/\wS ns a<=8/\(1:Int)+dB ns a 8=(wS ns a:Int):=by
 have h:=br ns a (m:=8) (by decide)
 unfold wS; omega
theorem tQ (ns:List Int) (a:Nat):1<=mS ns a/\mS ns a<=4/\(1:Int)+dB ns (a+1) 4=(mS ns a:Int):=by
 have h:=br ns (a+1) (m:=4) (by decide)
 unfold mS; omega
def pl (ns:List Int) (a:Nat) (wd m:Nat):D:=.tup [.int (dB ns (a+400) m),.int (dB ns (a+401) (wd+1))]
def scS (ns:List Int) (a:Nat):D:=.tup [.int (wS ns a:Int),.tup (rW ns (a+5) (wS ns a) (mS ns a)),pl ns (a+5) (wS ns a) (mS ns a)]
def gz:List D->R D
 | [.lst _ ds,.int a]=>match eP ds with
  | some ns=>if 0<=a then .ok (scS ns a.toNat) else .no
  | none=>.no
 | _=>.no
theorem pG {fz:Bool} {ns:List Int} {a:Nat}:gz [.lst fz (ns.map .int),.int (a:Int)]=.ok (scS ns a):=by
 simp only [gz,dz,Int.natCast_nonneg,if_true,Int.toNat_natCast]
theorem sf:∀ ds:List D,ds.length=2->gz ds=.no\/ay (fC bS me (ax 2 ds))=gz ds:=by
 intro ds hl
 match ds,hl with
 | [l,a],_=>
  cases l <;> first | exact Or.inl rfl | skip
  cases a <;> first | exact Or.inl rfl | skip
  rename_i fz ds a hl
  cases hi:eP ds with
  | none=>refine Or.inl ?_; simp only [gz,hi]
  | some ns=>
   have e:=eW hi
   subst e
   by_cases hk:0<=a
   ·refine Or.inr ?_
    obtain ⟨a,rfl⟩:=Int.eq_ofNat_of_zero_le hk
    rw [pG]
    show ay (aE _ _ [some (.val (.lst fz (ns.map .int))),some (.val (.int a))])=_
    have p1:bS [.lst fz (ns.map .int),.int (a:Int),.int 8]=.ok (.int (dB ns a 8)):=bM (by decide)
    have p2:bS [.lst fz (ns.map .int),.int ((a:Int)+1),.int 4]=.ok (.int (dB ns (a+1) 4)):=bM (n:=a+1) (by decide)
    obtain ⟨w1,w2,w3⟩:=tK ns a
    obtain ⟨m1,m2,m3⟩:=tQ ns a
    have s1:me [.lst fz (ns.map .int),.int ((a:Int)+5),.int (wS ns a:Int),.int (mS ns a:Int)]=.ok (scS ns a):=by
     have e:me [.lst fz (ns.map .int),.int ((a:Int)+5),.int (wS ns a:Int),.int (mS ns a:Int)]=if ((0:Int)<=(a:Int)+5/\(0:Int)<=(wS ns a:Int)/\(wS ns a:Int)<=100)/\0 < (mS ns a:Int)/\(mS ns a:Int)<=100 then .ok (GJ ns ((a:Int)+5).toNat (wS ns a:Int).toNat (mS ns a:Int).toNat) else .no:=by simp only [me,dz]
     rw [e,if_pos (by omega),Int.toNat_natCast,Int.toNat_natCast,show ((a:Int)+5).toNat=a+5 by omega]; rfl
    unfold kx
    clear hl hi hk w1 w2 m1 m2
    walk_at "run"
   ·refine Or.inl ?_; simp only [gz,hi,hk,if_false]
end Q
namespace Q
open L2
open PySem (sizeLine Addr)
end Q
namespace Q
open L2
open PySem (sizeLine Addr)
def Hf:List Nat->D->D->Option D
 | [],_,v=>some v
 | k::ks,.tup xs,v=>match xs[k]? with
  | some x=>if xs.length<=1000 then (Hf ks x v).map fun y=>.tup (xs.take k++[y]++xs.drop (k+1)) else none
  | none=>none
 | _,_,_=>none
def Fb:List D->Option (List Nat)
 | []=>some []
 | .int i::ds=>if 0<=i then (Fb ds).map (i.toNat::·) else none
 | _::_=>none
def mL (n:Nat):List D->R D
 | [d,.tup p,v]=>match Fb p with
  | some ks=>if ks.length < n/\n<=500 then ofO (Hf ks d v) else .no
  | none=>.no
 | _=>.no
def pt:Nat->D->Bool
 | 0,_=>false
 | _+1,.int _=>true
 | _+1,.str x=>decide (x.length<=900)
 | n+1,.tup xs=>xs.all (pt n) && decide (xs.length<=900)
 | _+1,_=>false
def good:Nat->D->Bool
 | 0,_=>true
 | _+1,.exc _=>false
 | _+1,.str x=>decide (x.length<=1000)
 | n+1,.tup xs=>xs.all (good n)
 | n+1,.lst _ xs=>xs.all (good n)
 | _+1,_=>true
theorem lU {d:D} (h:good 4 d=true):kh d=true:=by
 cases d <;> first | (simp [good] at h; done) | rfl | skip
 rename_i xs
 match xs,h with
 | [],_=>rfl
 | [_],_=>rfl
 | [_,_],_=>rfl
 | _::_::_::_::_,_=>rfl
 | [a,r,p],h=>
  simp only [good,List.all_cons,List.all_nil,Bool.and_true,Bool.and_eq_true] at h
  obtain ⟨ha,hr,hp⟩:=h
  have l1:=bo
  have na:jg a=true:=by cases a <;> first | (simp [good] at ha; done) | rfl
  simp only [kh,Bool.and_eq_true]
  refine ⟨⟨na,?_⟩,?_⟩
  ·cases r <;> first | (simp [good] at hr; done) | rfl | skip
   rename_i xs
   simp only [good,List.all_eq_true] at hr
   show xs.all A3=true
   rw [List.all_eq_true]
   intro x hx
   have:=hr x hx
   cases x <;> first | (simp [good] at this; done) | rfl | skip
   simp only [good,decide_eq_true_eq] at this
   simp only [A3,decide_eq_true_eq]; omega
  ·cases p <;> first | (simp [good] at hp; done) | rfl | skip
   rename_i xs
   simp only [good,List.all_eq_true] at hp
   show xs.all jg=true
   rw [List.all_eq_true]
   intro x hx
   have:=hp x hx
   cases x <;> first | (simp [good] at this; done) | rfl
end Q
namespace Q
open L2
open PySem (sizeLine Addr)
noncomputable def ph (bi:List D->R D):Ev->O:=(bO (lJ (g2 eqF (gOf fc (ac (fun ρ=>rdV ρ 0) (fun _=>R.ok []))) (fun _=>R.ok (D.int 2))) (lJ (g2 eqF (g2 ixD (fun ρ=>rdV ρ 0) (fun _=>R.ok (D.int 0))) (fun _=>R.ok (D.str [115,97,121]))) (lJ (aL 1 bi (ac (g2 ixD (fun ρ=>rdV ρ 0) (fun _=>R.ok (D.int 1))) (fun _=>R.ok []))) (g3 leD leD (fun _=>R.ok (D.int 1)) (gOf fc (ac (g2 ixD (fun ρ=>rdV ρ 0) (fun _=>R.ok (D.int 1))) (fun _=>R.ok []))) (fun _=>R.ok (D.int 40)))))))
noncomputable def fV (bi:List D->R D):Ev->O:=(aE (ph bi) oNx)
noncomputable def sQ (aA:List D->R D):Ev->O:=(oIf (mZ (gB2 neF (gOf fc (ac (fun ρ=>rdV ρ 0) (fun _=>R.ok []))) (fun _=>R.ok (D.int 3))) (gB2 neF (g2 ixD (fun ρ=>rdV ρ 0) (fun _=>R.ok (D.int 0))) (fun _=>R.ok (D.str [103,111])))) (aE (bO (fun _=>R.ok (D.bl false))) oNx) oNx)
noncomputable def tB (aA:List D->R D):Ev->O:=(bO (lJ (aL 3 aA (ac (g2 ixD (fun ρ=>rdV ρ 0) (fun _=>R.ok (D.int 1))) (ac (fun _=>R.ok (D.int 0)) (ac (g2 we (fun _=>R.ok (D.int 12)) (fun _=>R.ok (D.int 1))) (fun _=>R.ok []))))) (aL 3 aA (ac (g2 ixD (fun ρ=>rdV ρ 0) (fun _=>R.ok (D.int 2))) (ac (fun _=>R.ok (D.int 0)) (ac (fun _=>R.ok (D.int 40)) (fun _=>R.ok [])))))))
noncomputable def iM (aA:List D->R D):Ev->O:=(aE (sQ aA) (aE (tB aA) oNx))
noncomputable def kI (dg eX:List D->R D):Ev->O:=(oIf (gBn (aH iW (aH (fX (·=="tuple")) (fun ρ=>rdV ρ 0)))) (aE (bO (fun _=>R.ok (D.bl false))) oNx) oNx)
noncomputable def lm (dg eX:List D->R D):Ev->O:=(bO (gOr (aL 1 dg (ac (fun ρ=>rdV ρ 0) (fun _=>R.ok []))) (gOr (aL 1 eX (ac (fun ρ=>rdV ρ 0) (fun _=>R.ok []))) (g2 eqF (fun ρ=>rdV ρ 0) (aH mkT (ac (fun _=>R.ok (D.str [119,105,112,101])) (fun _=>R.ok [])))))))
noncomputable def dI (dg eX:List D->R D):Ev->O:=(aE (kI dg eX) (aE (lm dg eX) oNx))
noncomputable def gM (bf:List D->R D) (ba:Addr):Ev->O:=(oIf (gBn (aH iW (aL 1 bf (ac (fun ρ=>rdV ρ 0) (fun _=>R.ok []))))) (aE (eJ ba (ac (fun _=>R.ok (D.str [116,104,105,115,32,105,115,32,110,111,32,111,114,100,101,114])) (fun _=>R.ok []))) oNx) oNx)
noncomputable def cA (bf:List D->R D) (ba:Addr):Ev->O:=(aE (gM bf ba) oNx)
noncomputable def cV:Ev->O:=(eB 3 (g2 ixD (g2 ixD (fun ρ=>rdV ρ 0) (fun _=>R.ok (D.int 2))) (fun _=>R.ok (D.int 0))))
noncomputable def cW:Ev->O:=(eB 4 (g2 bE (g2 bE (gSl (g2 ixD (fun ρ=>rdV ρ 0) (fun _=>R.ok (D.int 1))) (fun _=>R.ok none) (dE (fun ρ=>rdV ρ 3))) (aH mkT (ac (fun ρ=>rdV ρ 1) (fun _=>R.ok [])))) (gSl (g2 ixD (fun ρ=>rdV ρ 0) (fun _=>R.ok (D.int 1))) (dE (g2 bE (fun ρ=>rdV ρ 3) (fun _=>R.ok (D.int 1)))) (fun _=>R.ok none))))
noncomputable def cX:Ev->O:=(bO (aH mkT (ac (g2 ixD (fun ρ=>rdV ρ 0) (fun _=>R.ok (D.int 0))) (ac (fun ρ=>rdV ρ 4) (ac (aH mkT (ac (fun ρ=>rdV ρ 3) (ac (fun ρ=>rdV ρ 2) (fun _=>R.ok [])))) (fun _=>R.ok []))))))
noncomputable def bA:Ev->O:=(aE cV (aE cW (aE cX oNx)))
noncomputable def jE (am:List D->R D) (aZ:Addr):Ev->O:=(eB 2 (g2 ixD (g2 ixD (fun ρ=>rdV ρ 0) (fun _=>R.ok (D.int 1))) (g2 ixD (g2 ixD (fun ρ=>rdV ρ 0) (fun _=>R.ok (D.int 2))) (fun _=>R.ok (D.int 0)))))
noncomputable def jq (am:List D->R D) (aZ:Addr):Ev->O:=(eB 3 (g2 ixD (g2 ixD (fun ρ=>rdV ρ 0) (fun _=>R.ok (D.int 2))) (fun _=>R.ok (D.int 1))))
noncomputable def jL (am:List D->R D) (aZ:Addr):Ev->O:=(eB 4 (g2 bE (fun ρ=>rdV ρ 3) (gOf fc (ac (fun ρ=>rdV ρ 1) (fun _=>R.ok [])))))
noncomputable def jB (am:List D->R D) (aZ:Addr):Ev->O:=(oIf (gB2 gtD (fun ρ=>rdV ρ 4) (g2 ixD (fun ρ=>rdV ρ 0) (fun _=>R.ok (D.int 0)))) (aE (eJ aZ (ac (fun _=>R.ok (D.str [116,104,101,32,116,101,120,116,32,105,115,32,119,105,100,101,114,32,116,104,97,110,32,119,104,97,116,32,105,115,32,108,101,102,116,32,111,102,32,116,104,101,32,114,111,119])) (fun _=>R.ok []))) oNx) oNx)
noncomputable def jv (am:List D->R D) (aZ:Addr):Ev->O:=(bO (aL 3 am (ac (fun ρ=>rdV ρ 0) (ac (g2 bE (g2 bE (gSl (fun ρ=>rdV ρ 2) (fun _=>R.ok none) (dE (fun ρ=>rdV ρ 3))) (fun ρ=>rdV ρ 1)) (gSl (fun ρ=>rdV ρ 2) (dE (fun ρ=>rdV ρ 4)) (fun _=>R.ok none))) (ac (fun ρ=>rdV ρ 4) (fun _=>R.ok []))))))
noncomputable def da (am:List D->R D) (aZ:Addr):Ev->O:=(aE (jE am aZ) (aE (jq am aZ) (aE (jL am aZ) (aE (jB am aZ) (aE (jv am aZ) oNx)))))
noncomputable def kU (aZ:Addr):Ev->O:=(oIf (mZ (gB2 geD (fun ρ=>rdV ρ 1) (gOf fc (ac (g2 ixD (fun ρ=>rdV ρ 0) (fun _=>R.ok (D.int 1))) (fun _=>R.ok [])))) (gB2 gtD (fun ρ=>rdV ρ 2) (g2 ixD (fun ρ=>rdV ρ 0) (fun _=>R.ok (D.int 0))))) (aE (eJ aZ (ac (fun _=>R.ok (D.str [116,104,101,32,115,99,114,101,101,110,32,100,111,101,115,32,110,111,116,32,104,97,118,101,32,116,104,105,115,32,112,108,97,99,101])) (fun _=>R.ok []))) oNx) oNx)
noncomputable def lC (aZ:Addr):Ev->O:=(bO (aH mkT (ac (g2 ixD (fun ρ=>rdV ρ 0) (fun _=>R.ok (D.int 0))) (ac (g2 ixD (fun ρ=>rdV ρ 0) (fun _=>R.ok (D.int 1))) (ac (aH mkT (ac (fun ρ=>rdV ρ 1) (ac (fun ρ=>rdV ρ 2) (fun _=>R.ok [])))) (fun _=>R.ok []))))))
noncomputable def dU (aZ:Addr):Ev->O:=(aE (kU aZ) (aE (lC aZ) oNx))
noncomputable def ii (am:List D->R D):Ev->O:=(eB 1 (g2 ixD (g2 ixD (fun ρ=>rdV ρ 0) (fun _=>R.ok (D.int 1))) (g2 ixD (g2 ixD (fun ρ=>rdV ρ 0) (fun _=>R.ok (D.int 2))) (fun _=>R.ok (D.int 0)))))
noncomputable def iK (am:List D->R D):Ev->O:=(eB 2 (g2 ixD (g2 ixD (fun ρ=>rdV ρ 0) (fun _=>R.ok (D.int 2))) (fun _=>R.ok (D.int 1))))
noncomputable def iV (am:List D->R D):Ev->O:=(bO (aL 3 am (ac (fun ρ=>rdV ρ 0) (ac (fv "str" mM (gSl (fun ρ=>rdV ρ 1) (fun _=>R.ok none) (dE (fun ρ=>rdV ρ 2))) (ac (g2 ixD (fun ρ=>rdV ρ 0) (fun _=>R.ok (D.int 0))) (fun _=>R.ok []))) (ac (fun ρ=>rdV ρ 2) (fun _=>R.ok []))))))
noncomputable def cK (am:List D->R D):Ev->O:=(aE (ii am) (aE (iK am) (aE (iV am) oNx)))
noncomputable def gF (bv bF bp:List D->R D):Ev->O:=(oIf (gB2 eqF (g2 ixD (fun ρ=>rdV ρ 1) (fun _=>R.ok (D.int 0))) (fun _=>R.ok (D.str [115,97,121]))) (aE (bO (aL 2 bv (ac (fun ρ=>rdV ρ 0) (ac (g2 ixD (fun ρ=>rdV ρ 1) (fun _=>R.ok (D.int 1))) (fun _=>R.ok []))))) oNx) oNx)
noncomputable def gR (bv bF bp:List D->R D):Ev->O:=(oIf (gB2 eqF (g2 ixD (fun ρ=>rdV ρ 1) (fun _=>R.ok (D.int 0))) (fun _=>R.ok (D.str [103,111]))) (aE (bO (aL 3 bF (ac (fun ρ=>rdV ρ 0) (ac (g2 ixD (fun ρ=>rdV ρ 1) (fun _=>R.ok (D.int 1))) (ac (g2 ixD (fun ρ=>rdV ρ 1) (fun _=>R.ok (D.int 2))) (fun _=>R.ok [])))))) oNx) oNx)
noncomputable def gQ (bv bF bp:List D->R D):Ev->O:=(bO (aL 1 bp (ac (fun ρ=>rdV ρ 0) (fun _=>R.ok []))))
noncomputable def cw (bv bF bp:List D->R D):Ev->O:=(aE (gF bv bF bp) (aE (gR bv bF bp) (aE (gQ bv bF bp) oNx)))
noncomputable def wC (ah aq az:List D->R D):Ev->O:=(jo (aL 1 ah (ac (fun ρ=>rdV ρ 0) (fun _=>R.ok []))))
noncomputable def wa (ah aq az:List D->R D):Ev->O:=(jo (aL 1 aq (ac (fun ρ=>rdV ρ 1) (fun _=>R.ok []))))
noncomputable def wZ (ah aq az:List D->R D):Ev->O:=(bO (aL 2 az (ac (fun ρ=>rdV ρ 0) (ac (fun ρ=>rdV ρ 1) (fun _=>R.ok [])))))
noncomputable def jW (ah aq az:List D->R D):Ev->O:=(aE (wC ah aq az) (aE (wa ah aq az) (aE (wZ ah aq az) oNx)))
noncomputable def kj:Ev->O:=(Fy (Ds [2,3,4]) (fun ρ=>rdV ρ 0))
noncomputable def lB:Ev->O:=(oIf (gB2 eqF (g2 ixD (fun ρ=>rdV ρ 1) (fun _=>R.ok (D.int 0))) (fun _=>R.ok (D.str [103,111]))) (aE (eB 5 (lJ (g2 ltD (g2 ixD (fun ρ=>rdV ρ 1) (fun _=>R.ok (D.int 1))) (gOf fc (ac (fun ρ=>rdV ρ 3) (fun _=>R.ok [])))) (g2 leD (g2 ixD (fun ρ=>rdV ρ 1) (fun _=>R.ok (D.int 2))) (fun ρ=>rdV ρ 2)))) (aE (bO (gIf (aH iW (fun ρ=>rdV ρ 5)) (aH mkT (ac (fun ρ=>rdV ρ 2) (ac (fun ρ=>rdV ρ 3) (ac (aH mkT (ac (g2 ixD (fun ρ=>rdV ρ 1) (fun _=>R.ok (D.int 1))) (ac (g2 ixD (fun ρ=>rdV ρ 1) (fun _=>R.ok (D.int 2))) (fun _=>R.ok [])))) (fun _=>R.ok []))))) (fun _=>R.ok (D.str [110,111,32,114,111,111,109])))) oNx)) oNx)
noncomputable def lN:Ev->O:=(eB 6 (gIf (gB2 eqF (g2 ixD (fun ρ=>rdV ρ 1) (fun _=>R.ok (D.int 0))) (fun _=>R.ok (D.str [115,97,121]))) (g2 ixD (fun ρ=>rdV ρ 1) (fun _=>R.ok (D.int 1))) (g2 gf (fun _=>R.ok (D.str [32])) (g2 we (fun ρ=>rdV ρ 2) (g2 ixD (fun ρ=>rdV ρ 4) (fun _=>R.ok (D.int 1)))))))
noncomputable def li:Ev->O:=(eB 7 (g2 bE (g2 ixD (fun ρ=>rdV ρ 4) (fun _=>R.ok (D.int 1))) (gOf fc (ac (fun ρ=>rdV ρ 6) (fun _=>R.ok [])))))
noncomputable def lG:Ev->O:=(oIf (gB2 gtD (fun ρ=>rdV ρ 7) (fun ρ=>rdV ρ 2)) (aE (bO (fun _=>R.ok (D.str [110,111,32,114,111,111,109]))) oNx) oNx)
noncomputable def lh:Ev->O:=(eB 8 (g2 ixD (fun ρ=>rdV ρ 3) (g2 ixD (fun ρ=>rdV ρ 4) (fun _=>R.ok (D.int 0)))))
noncomputable def kX:Ev->O:=(eB 8 (g2 bE (g2 bE (gSl (fun ρ=>rdV ρ 8) (fun _=>R.ok none) (dE (g2 ixD (fun ρ=>rdV ρ 4) (fun _=>R.ok (D.int 1))))) (fun ρ=>rdV ρ 6)) (gSl (fun ρ=>rdV ρ 8) (dE (fun ρ=>rdV ρ 7)) (fun _=>R.ok none))))
noncomputable def lS:Ev->O:=(eB 9 (g2 bE (g2 bE (gSl (fun ρ=>rdV ρ 3) (fun _=>R.ok none) (dE (g2 ixD (fun ρ=>rdV ρ 4) (fun _=>R.ok (D.int 0))))) (aH mkT (ac (fun ρ=>rdV ρ 8) (fun _=>R.ok [])))) (gSl (fun ρ=>rdV ρ 3) (dE (g2 bE (g2 ixD (fun ρ=>rdV ρ 4) (fun _=>R.ok (D.int 0))) (fun _=>R.ok (D.int 1)))) (fun _=>R.ok none))))
noncomputable def lF:Ev->O:=(bO (aH mkT (ac (fun ρ=>rdV ρ 2) (ac (fun ρ=>rdV ρ 9) (ac (aH mkT (ac (g2 ixD (fun ρ=>rdV ρ 4) (fun _=>R.ok (D.int 0))) (ac (gIf (gB2 eqF (g2 ixD (fun ρ=>rdV ρ 1) (fun _=>R.ok (D.int 0))) (fun _=>R.ok (D.str [115,97,121]))) (fun ρ=>rdV ρ 7) (g2 ixD (fun ρ=>rdV ρ 4) (fun _=>R.ok (D.int 1)))) (fun _=>R.ok [])))) (fun _=>R.ok []))))))
noncomputable def dW:Ev->O:=(aE kj (aE lB (aE lN (aE li (aE lG (aE lh (aE kX (aE lS (aE lF oNx)))))))))
def gA:D->Bool
 | .tup [.str x,.str y]=>(x==[115,97,121]) && (plain y && (decide (1<=y.length) && decide (y.length<=40)))
 | _=>false
def mV:D->Bool
 | .tup [.str x,b,c]=>(x==[103,111]) && (inB b 0 11 && inB c 0 40)
 | _=>false
def eM:D->Bool
 | .tup [.str x]=>x==[119,105,112,101]
 | _=>false
def bR (d:D):Bool:=gA d || (mV d || eM d)
def Fq:List D->R D
 | [.tup xs]=>if good 3 (.tup xs)=true then .ok (.bl (gA (.tup xs))) else .no
 | _=>.no
def goF:List D->R D
 | [.tup xs]=>if good 3 (.tup xs)=true then .ok (.bl (mV (.tup xs))) else .no
 | _=>.no
def pK:List D->R D
 | [d]=>if good 3 d=true then .ok (.bl (bR d)) else .no
 | _=>.no
def cP (C:Addr):List D->R D
 | [d]=>if good 3 d=true then (if bR d=true then .ok .non else .ex C) else .no
 | _=>.no
def isX (x:List Nat):D->Bool
 | .str y=>y==x
 | _=>false
def Fl:D->Bool
 | .str y=>decide (1<=y.length) && decide (y.length<=40)
 | _=>false
theorem wB (a b:D):gA (.tup [a,b])=(isX ([115,97,121]) a && (Bz b && Fl b)):=by
 cases a <;> cases b <;> first | rfl | (simp only [gA,isX,Bz,Fl,Bool.and_false,Bool.false_and])
theorem FI (a b c:D):mV (.tup [a,b,c])=(isX ([103,111]) a && (inB b 0 11 && inB c 0 40)):=by
 cases a <;> first | rfl | (simp only [mV,isX,Bool.false_and])
theorem CY (a:D):eM (.tup [a])=isX ([119,105,112,101]) a:=by
 cases a <;> rfl
theorem D1 {d:D} (h:jg d=true) (x:List Nat):eqF d (.str x)=some (.bl (isX x d)):=by
 cases d <;> first | (cases h; done) | rfl
theorem Eh {d:D} (h:jg d=true) (x:List Nat):neF d (.str x)=some (.bl (!isX x d)):=by
 cases d <;> first | (cases h; done) | rfl
theorem jj {n:Nat} {d:D} (h:good (n+1) d=true):jg d=true:=by
 cases d <;> first | (simp [good] at h; done) | rfl
theorem yo {n:Nat} {d:D} (h:good (n+1) d=true):qr [d]=.ok (.bl (Bz d)):=by
 cases d <;> first | (simp [good] at h; done) | rfl | skip
 rename_i x
 simp only [good,decide_eq_true_eq] at h
 have:=bo
 exact if_pos (by omega)
theorem xc:∀ ds:List D,ds.length=1->Fq ds=.no\/ay (fV qr (ax 1 ds))=Fq ds:=by
 have c1:True:=trivial
 have c2:True:=trivial
 have c3:True:=trivial
 have r1:True:=trivial
 have k1:True:=trivial
 have k3:True:=trivial
 intro ds hl
 unfold fV ph
 match ds,hl with
 | [d],_=>
  cases d <;> first | exact Or.inl rfl | skip
  rename_i xs hl
  by_cases hg:good 3 (.tup xs)=true
  ·refine Or.inr ?_
   have e2:Fq [.tup xs]=.ok (.bl (gA (.tup xs))):=if_pos hg
   rw [e2]
   show ay (aE _ _ [some (.val (.tup xs))])=_
   clear hl e2 c1
   match xs,hg with
   | [],_=>
    have q:(((0:Nat):Int)==2)=false:=rfl
    walk_at "run"
    all_goals rfl
   | [a],_=>
    have q:(((1:Nat):Int)==2)=false:=rfl
    have e:gA (.tup [a])=false:=by cases a <;> rfl
    walk_at "run"
   | a::b::c::l,_=>
    have q:(((l.length+1+1+1:Nat):Int)==2)=false:=by simp; omega
    have e:gA (.tup (a::b::c::l))=false:=by cases a <;> cases b <;> rfl
    walk_at "run"
   | [a,b],hg=>
    simp only [good,List.all_cons,List.all_nil,Bool.and_true,Bool.and_eq_true] at hg
    have q:(((2:Nat):Int)==2)=true:=rfl
    have x0:ixD (.tup [a,b]) (.int 0)=some a:=rfl
    have x1:ixD (.tup [a,b]) (.int 1)=some b:=rfl
    have p1:=yo hg.2
    have ea:=D1 (jj hg.1) ([115,97,121])
    rw [wB]
    cases h1:isX ([115,97,121]) a with
    | false=>
     walk_at "run"
     all_goals rfl
    | true=>
     cases h2:Bz b with
     | false=>
      walk_at "run"
      all_goals rfl
     | true=>
      cases b <;> first | (cases h2; done) | skip
      rename_i y
      simp only [Fl]
      have d3:∀ n:Nat,decide ((1:Int)<=(n:Int))=decide (1<=n):=fun n=>by by_cases h:1<=n <;> simp [h] <;> omega
      have d4:∀ n:Nat,decide ((n:Int)<=(40:Int))=decide (n<=40):=fun n=>by by_cases h:n<=40 <;> simp [h] <;> omega
      clear hg
      cases h3:decide (1<=y.length) <;> cases h4:decide (y.length<=40)
      all_goals
       walk_at "run"
       try rfl
  ·exact Or.inl (if_neg hg)
theorem yX:∀ ds:List D,ds.length=1->goF ds=.no\/ay (iM Ae (ax 1 ds))=goF ds:=by
 have c1:True:=trivial
 have c2:True:=trivial
 have c3:True:=trivial
 have r1:True:=trivial
 have k1:True:=trivial
 have k3:True:=trivial
 intro ds hl
 unfold iM tB sQ
 match ds,hl with
 | [d],_=>
  cases d <;> first | exact Or.inl rfl | skip
  rename_i xs hl
  by_cases hg:good 3 (.tup xs)=true
  ·refine Or.inr ?_
   have e2:goF [.tup xs]=.ok (.bl (mV (.tup xs))):=if_pos hg
   rw [e2]
   show ay (aE _ _ [some (.val (.tup xs))])=_
   clear hl e2 c1
   match xs,hg with
   | [],_=>
    have q:(((0:Nat):Int)==3)=false:=rfl
    walk_at "run"
    all_goals rfl
   | [a],_=>
    have q:(((1:Nat):Int)==3)=false:=rfl
    have e:mV (.tup [a])=false:=by cases a <;> rfl
    walk_at "run"
   | [a,b],_=>
    have q:(((2:Nat):Int)==3)=false:=rfl
    have e:mV (.tup [a,b])=false:=by cases a <;> rfl
    walk_at "run"
   | a::b::c::d::l,_=>
    have q:(((l.length+1+1+1+1:Nat):Int)==3)=false:=by simp; omega
    have e:mV (.tup (a::b::c::d::l))=false:=by cases a <;> rfl
    walk_at "run"
   | [a,b,c],hg=>
    simp only [good,List.all_cons,List.all_nil,Bool.and_true,Bool.and_eq_true] at hg
    have q:(((3:Nat):Int)==3)=true:=rfl
    have x0:ixD (.tup [a,b,c]) (.int 0)=some a:=rfl
    have x1:ixD (.tup [a,b,c]) (.int 1)=some b:=rfl
    have x2:ixD (.tup [a,b,c]) (.int 2)=some c:=rfl
    have ea:=Eh (jj hg.1) ([103,111])
    have p1:=eD (lo:=0) (hi:=11) (jj hg.2.1)
    have p2:=eD (lo:=0) (hi:=40) (jj hg.2.2)
    have m1:(12:Int) - 1=11:=rfl
    rw [FI]
    clear hg
    cases h1:isX ([103,111]) a with
    | false=>
     walk_at "run"
     all_goals rfl
    | true=>
     cases h2:inB b 0 11 <;> cases h3:inB c 0 40
     all_goals
      walk_at "run"
      try rfl
  ·exact Or.inl (if_neg hg)
theorem Bf {xs:List D} (hg:good 3 (.tup xs)=true):eqF (.tup xs) (.tup [.str [119,105,112,101]])=some (.bl (eM (.tup xs))):=by
 match xs,hg with
 | [],_=>rfl
 | [a],hg=>
  simp only [good,List.all_cons,List.all_nil,Bool.and_true] at hg
  rw [CY]
  have:=jj hg
  cases a <;> first | (cases this; done) | skip
  all_goals simp [eqF,eqD,eqZ,isX]
 | a::b::l,hg=>
  simp only [good,List.all_cons,Bool.and_eq_true] at hg
  have:=jj hg.1
  have e:eM (.tup (a::b::l))=false:=by cases a <;> rfl
  rw [e]
  cases a <;> first | (cases this; done) | skip
  all_goals simp [eqF,eqD,eqZ]
theorem qP:∀ ds:List D,ds.length=1->pK ds=.no\/ay (dI Fq goF (ax 1 ds))=pK ds:=by
 have c1:True:=trivial
 have c2:True:=trivial
 have c3:True:=trivial
 have r1:True:=trivial
 have k1:True:=trivial
 have k3:True:=trivial
 intro ds hl
 unfold dI lm kI
 match ds,hl with
 | [d],_=>
  by_cases hg:good 3 d=true
  ·refine Or.inr ?_
   have e2:pK [d]=.ok (.bl (bR d)):=if_pos hg
   rw [e2]
   show ay (aE _ _ [some (.val d)])=_
   clear hl e2 c1 c2
   cases d <;> first | (simp [good] at hg; done) | rfl | skip
   rename_i xs hl2
   clear hl2
   have y1:fX (fun x=>x=="tuple") (.tup xs)=.ok (.bl true):=rfl
   have s1:Fq [.tup xs]=.ok (.bl (gA (.tup xs))):=if_pos hg
   have s2:goF [.tup xs]=.ok (.bl (mV (.tup xs))):=if_pos hg
   have s3:=Bf hg
   have k1:∀ x,mkT [x]=.ok (.tup [x]):=fun _=>m_t (by simp)
   unfold bR
   clear hg
   cases h1:gA (.tup xs) <;> cases h2:mV (.tup xs)
   all_goals
    walk_at "run"
    try rfl
  ·exact Or.inl (if_neg hg)
theorem mJ {C:Addr}:∀ ds:List D,ds.length=1->(cP C) ds=.no\/ay (cA pK C (ax 1 ds))=(cP C) ds:=by
 have c1:True:=trivial
 have c2:True:=trivial
 have c3:True:=trivial
 have r1:True:=trivial
 have k1:True:=trivial
 have k3:True:=trivial
 intro ds hl
 unfold cA gM
 match ds,hl with
 | [d],_=>
  by_cases hg:good 3 d=true
  ·refine Or.inr ?_
   have e1:pK [d]=.ok (.bl (bR d)):=if_pos hg
   have e2:cP C [d]=if bR d=true then .ok .non else .ex C:=if_pos hg
   rw [e2]
   show ay (aE _ _ [some (.val d)])=_
   clear hl e2 c1 hg
   cases h1:bR d
   all_goals
    walk_at "run"
    try rfl
  ·exact Or.inl (if_neg hg)
def scr (wd:Nat) (rows:List (List Nat)) (r c:Nat):D:=.tup [.int (wd:Int),.tup (rows.map .str),.tup [.int (r:Int),.int (c:Int)]]
def dD:List D->Option (List (List Nat))
 | []=>some []
 | .str x::ds=>(dD ds).map (x::·)
 | _::_=>none
theorem qh:∀ rows:List (List Nat),dD (rows.map .str)=some rows
 | []=>rfl
 | x::rows=>by simp [dD,qh rows]
theorem sG:∀ {ds:List D} {rows:List (List Nat)},dD ds=some rows->ds=rows.map .str
 | [],rows,h=>by simp [dD] at h; subst h; rfl
 | d::ds,rows,h=>by
  cases d <;> first | (simp [dD] at h; done) | skip
  rename_i x
  cases q:dD ds with
  | none=>simp [dD,q] at h
  | some ms=>simp [dD,q] at h; subst h; rw [sG q]; rfl
def gX:D->Option (Nat × List (List Nat) × Nat × Nat)
 | .tup [.int wd,.tup rows,.tup [.int r,.int c]]=>(dD rows).bind fun rs=>if (0<=wd/\wd<=100)/\0<=r/\(0<=c/\c<=wd)/\r.toNat < rs.length/\rs.length<=100/\(rs.all fun x=>decide (x.length=wd.toNat))=true then some (wd.toNat,rs,r.toNat,c.toNat) else none
 | _=>none
structure SOk (wd:Nat) (rows:List (List Nat)) (r c:Nat):Prop where
 w:wd<=100
 c:c<=wd
 r:r < rows.length
 m:rows.length<=100
 l:∀ x ∈ rows,x.length=wd
theorem tH {wd:Nat} {rows:List (List Nat)} {r c:Nat} (h:SOk wd rows r c):gX (scr wd rows r c)=some (wd,rows,r,c):=by
 obtain ⟨h1,h2,h3,h4,h5⟩:=h
 have h6:(rows.all fun x=>decide (x.length=wd))=true:=by rw [List.all_eq_true]; intro x hx; simp [h5 x hx]
 simp only [gX,scr,qh,Option.bind_some,Int.toNat_natCast]
 rw [if_pos (by refine ⟨⟨by omega,by omega⟩,by omega,⟨by omega,by omega⟩,h3,h4,h6⟩)]
theorem fS {d:D} {wd:Nat} {rows:List (List Nat)} {r c:Nat} (h:gX d=some (wd,rows,r,c)):d=scr wd rows r c/\SOk wd rows r c:=by
 unfold gX at h
 split at h
 ·rename_i w0 rs0 r0 c0
  cases q:dD rs0 with
  | none=>rw [q] at h; cases h
  | some rs=>
   rw [q,Option.bind_some] at h
   split at h
   ·rename_i hc
    cases h
    obtain ⟨⟨a1,a2⟩,a3,⟨a4,a5⟩,a6,a7,a8⟩:=hc
    rw [sG q]
    refine ⟨?_,⟨by omega,by omega,a6,a7,fun x hx=>of_decide_eq_true (List.all_eq_true.1 a8 x hx)⟩⟩
    unfold scr
    rw [Int.toNat_of_nonneg a1,Int.toNat_of_nonneg a3,Int.toNat_of_nonneg a4]
   ·cases h
 ·cases h
theorem vw {wd:Nat} {rows:List (List Nat)} {r c:Nat} (h:SOk wd rows r c):(rows.map D.str)[r]?=some (.str (rows.getD r []))/\(rows.getD r []).length=wd:=by
 have g:rows[r]?=some (rows.getD r []):=by rw [List.getElem?_eq_getElem h.r]; simp [List.getD,h.r]
 refine ⟨by rw [List.getElem?_map,g]; rfl,h.l _ (List.mem_of_getElem? g)⟩
theorem sM (rows:List (List Nat)) (r:Nat) (x:List Nat) (h:r < rows.length):(rows.map D.str).take r++[D.str x]++(rows.map D.str).drop (r+1)=(rows.set r x).map D.str:=by
 rw [List.set_eq_take_append_cons_drop,if_pos h]
 simp [List.map_take,List.map_drop]
def mv:List D->R D
 | [d,.str x,.int col]=>match gX d with
  | some (wd,rows,r,_)=>if 0<=col then .ok (scr wd (rows.set r x) r col.toNat) else .no
  | none=>.no
 | _=>.no
theorem gj:∀ ds:List D,ds.length=3->mv ds=.no\/ay (bA (ax 5 ds))=mv ds:=by
 have c1:True:=trivial
 have c2:True:=trivial
 have c3:True:=trivial
 have r1:True:=trivial
 have k1:True:=trivial
 have k3:True:=trivial
 intro ds hl
 unfold bA cX cW cV
 match ds,hl with
 | [d,xd,cd],_=>
  cases xd <;> first | exact Or.inl rfl | skip
  cases cd <;> first | exact Or.inl rfl | skip
  rename_i x col hl
  cases hu:gX d with
  | none=>refine Or.inl ?_; simp only [mv,hu]
  | some q=>
   obtain ⟨wd,rows,r,c⟩:=q
   by_cases hc:0<=col
   ·refine Or.inr ?_
    have e2:mv [d,.str x,.int col]=.ok (scr wd (rows.set r x) r col.toNat):=by simp only [mv,hu]; rw [if_pos hc]
    rw [e2]
    obtain ⟨rfl,ok⟩:=fS hu
    obtain ⟨j,rfl⟩:=Int.eq_ofNat_of_zero_le hc
    rw [Int.toNat_natCast]
    show ay (aE _ _ [some (.val (scr wd rows r c)),some (.val (.str x)),some (.val (.int (j:Int))),none,none])=_
    have x0:ixD (scr wd rows r c) (.int 0)=some (.int (wd:Int)):=rfl
    have x1:ixD (scr wd rows r c) (.int 1)=some (.tup (rows.map .str)):=rfl
    have x2:ixD (scr wd rows r c) (.int 2)=some (.tup [.int (r:Int),.int (c:Int)]):=rfl
    have x3:ixD (.tup [.int (r:Int),.int (c:Int)]) (.int 0)=some (.int (r:Int)):=rfl
    have c1:=qJ (rows.map D.str) r
    have c2:io (rows.map D.str) (some ((r:Int)+1)) none=(rows.map D.str).drop (r+1):=lW _ (r+1)
    have k1:∀ x,mkT [x]=.ok (.tup [x]):=fun _=>m_t (by simp)
    have k2:∀ x y,mkT [x,y]=.ok (.tup [x,y]):=fun _ _=>m_t (by simp)
    have k3:∀ x y z,mkT [x,y,z]=.ok (.tup [x,y,z]):=fun _ _ _=>m_t (by simp)
    have a1:bE (.tup ((rows.map D.str).take r)) (.tup [.str x])=some (.tup ((rows.map D.str).take r++[.str x])):=yM (by have:=bo; have:=ok.m; simp; omega)
    have a2:bE (.tup ((rows.map D.str).take r++[.str x])) (.tup ((rows.map D.str).drop (r+1)))=some (.tup ((rows.set r x).map D.str)):=by
     rw [<- sM rows r x ok.r]; exact yM (by have:=bo; have:=ok.m; simp; omega)
    clear hu hc e2 ok
    walk_at "run"
    all_goals rfl
   ·refine Or.inl ?_; simp only [mv,hu]; rw [if_neg hc]
def fT (C:Addr):List D->R D
 | [d,.str x]=>match gX d with
  | some (wd,rows,r,c)=>if x.length<=900 then (if wd < c+x.length then .ex C else .ok (scr wd (rows.set r ((rows.getD r []).take c++x++(rows.getD r []).drop (c+x.length))) r (c+x.length))) else .no
  | none=>.no
 | _=>.no
theorem tU {wd:Nat} {rows:List (List Nat)} {r c j:Nat} {x:List Nat} (ok:SOk wd rows r c):mv [scr wd rows r c,.str x,.int (j:Int)]=.ok (scr wd (rows.set r x) r j):=by
 simp only [mv,tH ok,Int.toNat_natCast]
 rw [if_pos (by omega)]
theorem pU {C:Addr}:∀ ds:List D,ds.length=2->(fT C) ds=.no\/ay (da mv C (ax 5 ds))=(fT C) ds:=by
 have c1:True:=trivial
 have c2:True:=trivial
 have c3:True:=trivial
 have r1:True:=trivial
 have k1:True:=trivial
 have k3:True:=trivial
 intro ds hl
 unfold da jv jB jL jq jE
 match ds,hl with
 | [d,xd],_=>
  cases xd <;> first | exact Or.inl rfl | skip
  rename_i x hl
  cases hu:gX d with
  | none=>refine Or.inl ?_; simp only [fT,hu]
  | some q=>
   obtain ⟨wd,rows,r,c⟩:=q
   by_cases hc:x.length<=900
   ·refine Or.inr ?_
    have e2:fT C [d,.str x]=if wd < c+x.length then .ex C else .ok (scr wd (rows.set r ((rows.getD r []).take c++x++(rows.getD r []).drop (c+x.length))) r (c+x.length)):=by simp only [fT,hu]; rw [if_pos hc]
    rw [e2]
    obtain ⟨rfl,ok⟩:=fS hu
    show ay (aE _ _ [some (.val (scr wd rows r c)),some (.val (.str x)),none,none,none])=_
    obtain ⟨g1,g2⟩:=vw ok
    have x0:ixD (scr wd rows r c) (.int 0)=some (.int (wd:Int)):=rfl
    have x1:ixD (scr wd rows r c) (.int 1)=some (.tup (rows.map .str)):=rfl
    have x2:ixD (scr wd rows r c) (.int 2)=some (.tup [.int (r:Int),.int (c:Int)]):=rfl
    have x3:ixD (.tup [.int (r:Int),.int (c:Int)]) (.int 0)=some (.int (r:Int)):=rfl
    have x4:ixD (.tup [.int (r:Int),.int (c:Int)]) (.int 1)=some (.int (c:Int)):=rfl
    have x5:ixD (.tup (rows.map .str)) (.int (r:Int))=some (.str (rows.getD r [])):=wk g1
    have n1:(c:Int)+(x.length:Int)=((c+x.length:Nat):Int):=by omega
    have hw:=ok.w
    generalize hrow:rows.getD r []=row at x5 g2
    have c1:=qJ row c
    have c2:=lW row (c+x.length)
    have a1:bE (.str (row.take c)) (.str x)=some (.str (row.take c++x)):=jN (by have:=bo; simp; omega)
    have a2:bE (.str (row.take c++x)) (.str (row.drop (c+x.length)))=some (.str (row.take c++x++row.drop (c+x.length))):=jN (by have:=bo; simp; omega)
    have w1:=tU ok (x:=row.take c++x++row.drop (c+x.length)) (j:=c+x.length)
    by_cases hn:wd < c+x.length
    ·have d1:decide ((wd:Int) < ((c+x.length:Nat):Int))=true:=by simp; omega
     rw [if_pos hn]
     clear hu hc e2 ok g1 g2 hrow hn hw r1 c1
     walk_at "run"
    ·have d1:decide ((wd:Int) < ((c+x.length:Nat):Int))=false:=by simp; omega
     rw [if_neg hn]
     clear hu hc e2 ok g1 g2 hrow hn hw r1
     walk_at "run"
   ·refine Or.inl ?_; simp only [fT,hu]; rw [if_neg hc]
def fL (C:Addr):List D->R D
 | [d,.int n,.int col]=>match gX d with
  | some (wd,rows,_,_)=>if 0<=n/\0<=col then (if (rows.length:Int)<=n\/(wd:Int) < col then .ex C else .ok (scr wd rows n.toNat col.toNat)) else .no
  | none=>.no
 | _=>.no
def dk:List D->R D
 | [d]=>match gX d with
  | some (wd,rows,r,c)=>.ok (scr wd (rows.set r ((rows.getD r []).take c++List.replicate (wd - c) 32)) r c)
  | none=>.no
 | _=>.no
theorem sk {C:Addr}:∀ ds:List D,ds.length=3->(fL C) ds=.no\/ay (dU C (ax 3 ds))=(fL C) ds:=by
 have c1:True:=trivial
 have c2:True:=trivial
 have c3:True:=trivial
 have r1:True:=trivial
 have k1:True:=trivial
 have k3:True:=trivial
 intro ds hl
 unfold dU lC kU
 match ds,hl with
 | [d,nd,cd],_=>
  cases nd <;> first | exact Or.inl rfl | skip
  cases cd <;> first | exact Or.inl rfl | skip
  rename_i n col hl
  cases hu:gX d with
  | none=>refine Or.inl ?_; simp only [fL,hu]
  | some q=>
   obtain ⟨wd,rows,r,c⟩:=q
   by_cases hc:0<=n/\0<=col
   ·refine Or.inr ?_
    have e2:fL C [d,.int n,.int col]=if (rows.length:Int)<=n\/(wd:Int) < col then .ex C else .ok (scr wd rows n.toNat col.toNat):=by simp only [fL,hu]; rw [if_pos hc]
    rw [e2]
    obtain ⟨rfl,ok⟩:=fS hu
    obtain ⟨hn,hc⟩:=hc
    obtain ⟨n,rfl⟩:=Int.eq_ofNat_of_zero_le hn
    obtain ⟨col,rfl⟩:=Int.eq_ofNat_of_zero_le hc
    rw [Int.toNat_natCast,Int.toNat_natCast]
    show ay (aE _ _ [some (.val (scr wd rows r c)),some (.val (.int (n:Int))),some (.val (.int (col:Int)))])=_
    have x0:ixD (scr wd rows r c) (.int 0)=some (.int (wd:Int)):=rfl
    have x1:ixD (scr wd rows r c) (.int 1)=some (.tup (rows.map .str)):=rfl
    have l1:(rows.map D.str).length=rows.length:=by simp
    have k2:∀ x y,mkT [x,y]=.ok (.tup [x,y]):=fun _ _=>m_t (by simp)
    have k3:∀ x y z,mkT [x,y,z]=.ok (.tup [x,y,z]):=fun _ _ _=>m_t (by simp)
    clear hu hn hc e2 ok r1
    by_cases h1:(rows.length:Int)<=(n:Int)
    ·have d1:decide ((rows.length:Int)<=(n:Int))=true:=by simp only [h1,decide_true]
     rw [if_pos (Or.inl h1)]
     clear h1
     walk_at "run"
    ·have d1:decide ((rows.length:Int)<=(n:Int))=false:=by simp only [h1,decide_false]
     by_cases h2:(wd:Int) < (col:Int)
     ·have d2:decide ((wd:Int) < (col:Int))=true:=by simp only [h2,decide_true]
      rw [if_pos (Or.inr h2)]
      clear h1 h2
      walk_at "run"
     ·have d2:decide ((wd:Int) < (col:Int))=false:=by simp only [h2,decide_false]
      rw [if_neg (fun q=>q.elim h1 h2)]
      clear h1 h2
      walk_at "run"
      all_goals rfl
   ·refine Or.inl ?_; simp only [fL,hu]; rw [if_neg hc]
theorem oH:∀ ds:List D,ds.length=1->dk ds=.no\/ay (cK mv (ax 3 ds))=dk ds:=by
 have c1:True:=trivial
 have c2:True:=trivial
 have c3:True:=trivial
 have r1:True:=trivial
 have k1:True:=trivial
 have k3:True:=trivial
 intro ds hl
 unfold cK iV iK ii
 match ds,hl with
 | [d],_=>
  cases hu:gX d with
  | none=>refine Or.inl ?_; simp only [dk,hu]
  | some q=>
   obtain ⟨wd,rows,r,c⟩:=q
   refine Or.inr ?_
   have e2:dk [d]=.ok (scr wd (rows.set r ((rows.getD r []).take c++List.replicate (wd - c) 32)) r c):=by simp only [dk,hu]
   rw [e2]
   obtain ⟨rfl,ok⟩:=fS hu
   show ay (aE _ _ [some (.val (scr wd rows r c)),none,none])=_
   obtain ⟨g1,g2⟩:=vw ok
   have x0:ixD (scr wd rows r c) (.int 0)=some (.int (wd:Int)):=rfl
   have x1:ixD (scr wd rows r c) (.int 1)=some (.tup (rows.map .str)):=rfl
   have x2:ixD (scr wd rows r c) (.int 2)=some (.tup [.int (r:Int),.int (c:Int)]):=rfl
   have x3:ixD (.tup [.int (r:Int),.int (c:Int)]) (.int 0)=some (.int (r:Int)):=rfl
   have x4:ixD (.tup [.int (r:Int),.int (c:Int)]) (.int 1)=some (.int (c:Int)):=rfl
   have x5:ixD (.tup (rows.map .str)) (.int (r:Int))=some (.str (rows.getD r [])):=wk g1
   have hw:=ok.w
   have hcw:=ok.c
   generalize hrow:rows.getD r []=row at x5 g2
   have c1:=qJ row c
   have lt:(row.take c).length=c:=by simp; omega
   have j1:mM (.str (row.take c)) [.int (wd:Int)]=some (.str (row.take c++List.replicate (wd - c) 32)):=by
    simp only [mM,lt,Int.toNat_natCast]; rw [if_pos (by omega)]
   have kd:∀ x,gW "str" (.str x)=true:=fun _=>rfl
   have w1:=tU ok (x:=row.take c++List.replicate (wd - c) 32) (j:=c)
   clear hu e2 ok g1 g2 hrow hw hcw lt
   walk_at "run"
def eA (C:Addr):List D->R D
 | [d,.tup (.str h::l)]=>if h=[115,97,121] then (match l with | x::_=>fT C [d,x] | _=>.no) else if h=[103,111] then (match l with | n::c::_=>fL C [d,n,c] | _=>.no) else dk [d]
 | _=>.no
theorem mB {C:Addr}:∀ ds:List D,ds.length=2->(eA C) ds=.no\/ay (cw (fT C) (fL C) dk (ax 2 ds))=(eA C) ds:=by
 have c1:True:=trivial
 have c2:True:=trivial
 have c3:True:=trivial
 have r1:True:=trivial
 have k1:True:=trivial
 have k3:True:=trivial
 intro ds hl
 unfold cw gQ gR gF
 match ds,hl with
 | [d,od],_=>
  cases od <;> first | exact Or.inl rfl | skip
  rename_i xs hl
  cases xs with
  | nil=>exact Or.inl rfl
  | cons a l=>
   cases a <;> first | exact Or.inl rfl | skip
   rename_i hl2 h
   have x0:ixD (.tup (.str h::l)) (.int 0)=some (.str h):=wk (k:=0) rfl
   clear hl hl2 c1 c2 c3
   by_cases h1:h=[115,97,121]
   ·cases l with
    | nil=>refine Or.inl ?_; simp only [eA,h1,if_true]
    | cons x l=>
     refine Or.inr ?_
     have e2:eA C [d,.tup (.str h::x::l)]=fT C [d,x]:=by simp only [eA,h1,if_true]
     rw [e2]
     show ay (aE _ _ [some (.val d),some (.val (.tup (.str h::x::l)))])=_
     have x1:ixD (.tup (.str h::x::l)) (.int 1)=some x:=wk (k:=1) rfl
     have q1:(h==[115,97,121])=true:=by rw [h1]; exact beq_self_eq_true _
     clear h1 e2
     walk_at "run"
     cases fT C [d,x] <;> rfl
   ·have q1:(h==[115,97,121])=false:=beq_eq_false_iff_ne.2 h1
    by_cases h2:h=[103,111]
    ·match l with
     | []=>refine Or.inl ?_; simp only [eA,h1,h2,if_true,if_false]; rw [if_neg (by rw [<- h2]; exact h1)]
     | [x]=>refine Or.inl ?_; simp only [eA,h1,h2,if_true,if_false]; rw [if_neg (by rw [<- h2]; exact h1)]
     | x::y::l=>
      refine Or.inr ?_
      have e2:eA C [d,.tup (.str h::x::y::l)]=fL C [d,x,y]:=by simp only [eA]; rw [if_neg h1,if_pos h2]
      rw [e2]
      show ay (aE _ _ [some (.val d),some (.val (.tup (.str h::x::y::l)))])=_
      have x1:ixD (.tup (.str h::x::y::l)) (.int 1)=some x:=wk (k:=1) rfl
      have x2:ixD (.tup (.str h::x::y::l)) (.int 2)=some y:=wk (k:=2) rfl
      have q2:(h==[103,111])=true:=by rw [h2]; exact beq_self_eq_true _
      clear h1 h2 e2
      walk_at "run"
      cases fL C [d,x,y] <;> rfl
    ·have q2:(h==[103,111])=false:=beq_eq_false_iff_ne.2 h2
     refine Or.inr ?_
     have e2:eA C [d,.tup (.str h::l)]=dk [d]:=by simp only [eA]; rw [if_neg h1,if_neg h2]
     rw [e2]
     show ay (aE _ _ [some (.val d),some (.val (.tup (.str h::l)))])=_
     clear h1 h2 e2
     walk_at "run"
     cases dk [d] <;> rfl
def rK (Cs Co Cr:Addr):List D->R D
 | [d,o]=>if good 4 d=true/\good 3 o=true then (if screen d=true then (if bR o=true then eA Cr [d,o] else .ex Co) else .ex Cs) else .no
 | _=>.no
theorem CC {Cs Co Cr:Addr}:∀ ds:List D,ds.length=2->(rK Cs Co Cr) ds=.no\/ay (jW (cH Cs) (cP Co) (eA Cr) (ax 2 ds))=(rK Cs Co Cr) ds:=by
 have c1:True:=trivial
 have c2:True:=trivial
 have c3:True:=trivial
 have r1:True:=trivial
 have k1:True:=trivial
 have k3:True:=trivial
 intro ds hl
 unfold jW wZ wa wC
 match ds,hl with
 | [d,o],_=>
  by_cases hg:good 4 d=true/\good 3 o=true
  ·refine Or.inr ?_
   have e2:rK Cs Co Cr [d,o]=if screen d=true then (if bR o=true then eA Cr [d,o] else .ex Co) else .ex Cs:=if_pos hg
   rw [e2]
   show ay (aE _ _ [some (.val d),some (.val o)])=_
   have s1:cH Cs [d]=if screen d=true then .ok .non else .ex Cs:=if_pos (lU hg.1)
   have s2:cP Co [o]=if bR o=true then .ok .non else .ex Co:=if_pos hg.2
   clear hl c1 c2 c3 e2 hg
   cases h1:screen d with
   | false=>
    rw [h1] at s1
    walk_at "run"
   | true=>
    rw [h1] at s1
    cases h2:bR o with
    | false=>
     rw [h2] at s2
     walk_at "run"
    | true=>
     rw [h2] at s2
     walk_at "run"
     cases eA Cr [d,o] <;> rfl
  ·exact Or.inl (if_neg hg)
def Dt:List D->Bool
 | [b]=>Bz b && Fl b
 | _=>false
def goT:List D->Bool
 | [b,c]=>inB b 0 11 && inB c 0 40
 | _=>false
theorem CT (l:List D):bR (.tup (.str ([115,97,121])::l))=Dt l:=by
 have h1:(([115,97,121])==[103,111])=false:=by decide
 have h2:(([115,97,121])==[119,105,112,101])=false:=by decide
 match l with
 | []=>simp [bR,gA,mV,eM,Dt,h2]
 | [b]=>rw [bR,wB]; simp [isX,mV,eM,Dt]
 | [b,c]=>simp [bR,gA,mV,eM,Dt,h1]
 | b::c::d::l=>simp [bR,gA,mV,eM,Dt]
theorem En (l:List D):bR (.tup (.str ([103,111])::l))=goT l:=by
 have h1:(([103,111])==[115,97,121])=false:=by decide
 have h2:(([103,111])==[119,105,112,101])=false:=by decide
 match l with
 | []=>simp [bR,gA,mV,eM,goT,h2]
 | [b]=>rw [bR,wB]; simp [isX,mV,eM,goT,h1]
 | [b,c]=>simp [bR,gA,mV,eM,goT]
 | b::c::d::l=>simp [bR,gA,mV,eM,goT]
def bG:List D->R D:=fun ds=>match eA 0 ds with
 | .ok r=>.ok r
 | .ex _=>.ok ((D.str [110,111,32,114,111,111,109]))
 | .no=>.no
theorem yi {C : Addr} {d : D} (hu : gX d = none) (o : D) : eA C [d, o] = .no := by
  cases o <;> first | rfl | skip
  rename_i xs
  cases xs with
  | nil => rfl
  | cons a l =>
    cases a <;> first | rfl | skip
    rename_i h
    simp only [eA]
    split
    · cases l with
      | nil => rfl
      | cons x l => cases x <;> first | rfl | (simp only [fT, hu])
    · split
      · match l with
        | [] => rfl
        | [_] => rfl
        | n :: c :: l => cases n <;> first | rfl | skip
                         cases c <;> first | rfl | (simp only [fL, hu])
      · simp only [dk, hu]
theorem rG:∀ ds:List D,ds.length=2->bG ds=.no\/ay (dW (ax 10 ds))=bG ds:=by
 have c1:True:=trivial
 have c2:True:=trivial
 have c3:True:=trivial
 have r1:True:=trivial
 have k1:True:=trivial
 have k3:True:=trivial
 intro ds hl
 unfold dW lF lS kX lh lG li lN lB kj
 match ds,hl with
 | [d,o],_=>
  cases hu:gX d with
  | none=>refine Or.inl ?_; simp only [bG,yi hu]
  | some q=>
   obtain ⟨wd,rows,r,c⟩:=q
   obtain ⟨rfl,ok⟩:=fS hu
   cases o <;> first | exact Or.inl rfl | skip
   rename_i xs hl2
   cases xs with
   | nil=>exact Or.inl rfl
   | cons a l=>
    cases a <;> first | exact Or.inl rfl | skip
    rename_i h
    obtain ⟨g1,g2⟩:=vw ok
    have hw:=ok.w
    have hcw:=ok.c
    have hrr:=ok.r
    have hmm:=ok.m
    have o0:ixD (.tup (.str h::l)) (.int 0)=some (.str h):=wk (k:=0) rfl
    have x3:ixD (.tup [.int (r:Int),.int (c:Int)]) (.int 0)=some (.int (r:Int)):=rfl
    have x4:ixD (.tup [.int (r:Int),.int (c:Int)]) (.int 1)=some (.int (c:Int)):=rfl
    have x5:ixD (.tup (rows.map .str)) (.int (r:Int))=some (.str (rows.getD r [])):=wk g1
    have l1:(rows.map D.str).length=rows.length:=by simp
    have k1:∀ x,mkT [x]=.ok (.tup [x]):=fun _=>m_t (by simp)
    have k2:∀ x y,mkT [x,y]=.ok (.tup [x,y]):=fun _ _=>m_t (by simp)
    have k3:∀ x y z,mkT [x,y,z]=.ok (.tup [x,y,z]):=fun _ _ _=>m_t (by simp)
    have c5:=qJ (rows.map D.str) r
    have c6:io (rows.map D.str) (some ((r:Int)+1)) none=(rows.map D.str).drop (r+1):=lW _ (r+1)
    have s1:∀ o:D,Ds [2,3,4] (scr wd rows r c) [some (.val (scr wd rows r c)),some (.val o),none,none,none,none,none,none,none,none]=.ok [some (.val (scr wd rows r c)),some (.val o),some (.val (.int (wd:Int))),some (.val (.tup (rows.map .str))),some (.val (.tup [.int (r:Int),.int (c:Int)])),none,none,none,none,none]:=fun _=>rfl
    have b7:∀ y:List Nat,bE (.tup ((rows.map D.str).take r)) (.tup [.str y])=some (.tup ((rows.map D.str).take r++[.str y])):=fun y=>yM (by have:=bo; simp; omega)
    have b8:∀ y:List Nat,bE (.tup ((rows.map D.str).take r++[.str y])) (.tup ((rows.map D.str).drop (r+1)))=some (.tup ((rows.set r y).map D.str)):=fun y=>by
     rw [<- sM rows r y hrr]; exact yM (by have:=bo; simp; omega)
    clear hl hl2
    by_cases hs:h=[115,97,121]
    ·have q1:(h==[115,97,121])=true:=by rw [hs]; exact beq_self_eq_true _
     have q2:(h==[103,111])=false:=by rw [hs]; decide
     cases l with
     | nil=>refine Or.inl ?_; simp only [bG,eA,hs,if_true]
     | cons x l=>
      have e0:eA 0 [scr wd rows r c,.tup (.str h::x::l)]=fT 0 [scr wd rows r c,x]:=by simp only [eA,hs,if_true]
      cases x <;> first | (refine Or.inl ?_; simp only [bG,e0]; rfl) | skip
      rename_i x
      by_cases hx:x.length<=900
      ·refine Or.inr ?_
       have o1:ixD (.tup (.str h::.str x::l)) (.int 1)=some (.str x):=wk (k:=1) rfl
       have e1:fT 0 [scr wd rows r c,.str x]=if wd < c+x.length then .ex 0 else .ok (scr wd (rows.set r ((rows.getD r []).take c++x++(rows.getD r []).drop (c+x.length))) r (c+x.length)):=by simp only [fT,hu]; rw [if_pos hx]
       have n1:(c:Int)+(x.length:Int)=((c+x.length:Nat):Int):=by omega
       show ay (aE _ _ [some (.val (scr wd rows r c)),some (.val (.tup (.str h::.str x::l))),none,none,none,none,none,none,none,none])=_
       generalize hrow:rows.getD r []=row at x5 g2 e1
       have c1:=qJ row c
       have c2:=lW row (c+x.length)
       have a1:bE (.str (row.take c)) (.str x)=some (.str (row.take c++x)):=jN (by have:=bo; simp; omega)
       have a2:bE (.str (row.take c++x)) (.str (row.drop (c+x.length)))=some (.str (row.take c++x++row.drop (c+x.length))):=jN (by have:=bo; simp; omega)
       by_cases hn:wd < c+x.length
       ·have d1:decide ((wd:Int) < ((c+x.length:Nat):Int))=true:=by simp; omega
        have e3:bG [scr wd rows r c,.tup (.str h::.str x::l)]=.ok ((D.str [110,111,32,114,111,111,109])):=by simp only [bG,e0,e1]; rw [if_pos hn]
        rw [e3]
        clear hu hx e0 e1 e3 g1 g2 hrow hn hw hcw hrr hmm hs ok
        walk_at "run"
        all_goals rfl
       ·have d1:decide ((wd:Int) < ((c+x.length:Nat):Int))=false:=by simp; omega
        have e3:bG [scr wd rows r c,.tup (.str h::.str x::l)]=.ok (scr wd (rows.set r (row.take c++x++row.drop (c+x.length))) r (c+x.length)):=by simp only [bG,e0,e1]; rw [if_neg hn]
        rw [e3]
        clear hu hx e0 e1 e3 g1 g2 hrow hn hw hcw hrr hmm hs ok
        walk_at "run"
        all_goals rfl
      ·refine Or.inl ?_; simp only [bG,e0,fT,hu]; rw [if_neg hx]
    ·have q1:(h==[115,97,121])=false:=beq_eq_false_iff_ne.2 hs
     by_cases hgo:h=[103,111]
     ·have q2:(h==[103,111])=true:=by rw [hgo]; exact beq_self_eq_true _
      match l with
      | []=>refine Or.inl ?_; simp only [bG,eA]; rw [if_neg hs,if_pos hgo]
      | [x]=>refine Or.inl ?_; simp only [bG,eA]; rw [if_neg hs,if_pos hgo]
      | x::y::l=>
       have e0:eA 0 [scr wd rows r c,.tup (.str h::x::y::l)]=fL 0 [scr wd rows r c,x,y]:=by simp only [eA]; rw [if_neg hs,if_pos hgo]
       cases x <;> first | (refine Or.inl ?_; simp only [bG,e0]; rfl) | skip
       cases y <;> first | (refine Or.inl ?_; simp only [bG,e0]; rfl) | skip
       rename_i n col
       by_cases hc:0<=n/\0<=col
       ·refine Or.inr ?_
        have e1:fL 0 [scr wd rows r c,.int n,.int col]=if (rows.length:Int)<=n\/(wd:Int) < col then .ex 0 else .ok (scr wd rows n.toNat col.toNat):=by simp only [fL,hu]; rw [if_pos hc]
        obtain ⟨hn0,hc0⟩:=hc
        obtain ⟨n,rfl⟩:=Int.eq_ofNat_of_zero_le hn0
        obtain ⟨col,rfl⟩:=Int.eq_ofNat_of_zero_le hc0
        rw [Int.toNat_natCast,Int.toNat_natCast] at e1
        have o1:ixD (.tup (.str h::.int (n:Int)::.int (col:Int)::l)) (.int 1)=some (.int (n:Int)):=wk (k:=1) rfl
        have o2:ixD (.tup (.str h::.int (n:Int)::.int (col:Int)::l)) (.int 2)=some (.int (col:Int)):=wk (k:=2) rfl
        show ay (aE _ _ [some (.val (scr wd rows r c)),some (.val (.tup (.str h::.int (n:Int)::.int (col:Int)::l))),none,none,none,none,none,none,none,none])=_
        by_cases h1:(n:Int) < (rows.length:Int)
        ·have d1:decide ((n:Int) < (rows.length:Int))=true:=by simp only [h1,decide_true]
         by_cases h2:(col:Int)<=(wd:Int)
         ·have d2:decide ((col:Int)<=(wd:Int))=true:=by simp only [h2,decide_true]
          have e3:bG [scr wd rows r c,.tup (.str h::.int (n:Int)::.int (col:Int)::l)]=.ok (scr wd rows n col):=by simp only [bG,e0,e1]; rw [if_neg (by omega)]
          rw [e3]
          clear hu e0 e1 e3 g1 g2 hw hcw hrr hmm hs hgo ok h1 h2 hn0 hc0
          walk_at "run"
          all_goals rfl
         ·have d2:decide ((col:Int)<=(wd:Int))=false:=by simp only [h2,decide_false]
          have e3:bG [scr wd rows r c,.tup (.str h::.int (n:Int)::.int (col:Int)::l)]=.ok ((D.str [110,111,32,114,111,111,109])):=by simp only [bG,e0,e1]; rw [if_pos (by omega)]
          rw [e3]
          clear hu e0 e1 e3 g1 g2 hw hcw hrr hmm hs hgo ok h1 h2 hn0 hc0
          walk_at "run"
          all_goals rfl
        ·have d1:decide ((n:Int) < (rows.length:Int))=false:=by simp only [h1,decide_false]
         have e3:bG [scr wd rows r c,.tup (.str h::.int (n:Int)::.int (col:Int)::l)]=.ok ((D.str [110,111,32,114,111,111,109])):=by simp only [bG,e0,e1]; rw [if_pos (by omega)]
         rw [e3]
         clear hu e0 e1 e3 g1 g2 hw hcw hrr hmm hs hgo ok h1 hn0 hc0
         walk_at "run"
         all_goals rfl
       ·refine Or.inl ?_; simp only [bG,e0,fL,hu]; rw [if_neg hc]
     ·have q2:(h==[103,111])=false:=beq_eq_false_iff_ne.2 hgo
      refine Or.inr ?_
      have e0:eA 0 [scr wd rows r c,.tup (.str h::l)]=dk [scr wd rows r c]:=by simp only [eA]; rw [if_neg hs,if_neg hgo]
      have e1:dk [scr wd rows r c]=.ok (scr wd (rows.set r ((rows.getD r []).take c++List.replicate (wd - c) 32)) r c):=by simp only [dk,hu]
      generalize hrow:rows.getD r []=row at x5 g2 e1
      have e3:bG [scr wd rows r c,.tup (.str h::l)]=.ok (scr wd (rows.set r (row.take c++List.replicate (wd - c) 32)) r c):=by simp only [bG,e0,e1]
      rw [e3]
      show ay (aE _ _ [some (.val (scr wd rows r c)),some (.val (.tup (.str h::l))),none,none,none,none,none,none,none,none])=_
      have n0:(wd:Int) - (c:Int)=((wd - c:Nat):Int):=by omega
      have r1:gf (.str [32]) (.int ((wd - c:Nat):Int))=some (.str (List.replicate (wd - c) 32)):=G9 (by omega)
      have lr:(List.replicate (wd - c) 32).length=wd - c:=by simp
      have n1:(c:Int)+((wd - c:Nat):Int)=(wd:Int):=by omega
      have d1:decide ((wd:Int) < (wd:Int))=false:=by simp
      have c1:=qJ row c
      have c2:io row (some (wd:Int)) none=[]:=by rw [lW row wd]; exact List.drop_of_length_le (by omega)
      have a1:bE (.str (row.take c)) (.str (List.replicate (wd - c) 32))=some (.str (row.take c++List.replicate (wd - c) 32)):=jN (by have:=bo; simp; omega)
      have a2:bE (.str (row.take c++List.replicate (wd - c) 32)) (.str [])=some (.str (row.take c++List.replicate (wd - c) 32)):=by rw [jN (by have:=bo; simp; omega),List.append_nil]
      clear hu e0 e1 e3 g1 g2 hrow hw hcw hrr hmm hs hgo ok
      walk_at "run"
      all_goals rfl
end Q
namespace Q
open L2
open PySem (sizeLine Addr)
noncomputable def fA (aq:List D->R D) (ba:Addr):Ev->O:=(oIf (gBn (aH iW (aH (fX (·=="list")) (fun ρ=>rdV ρ 0)))) (aE (eJ ba (ac (fun _=>R.ok (D.str [116,104,105,115,32,105,115,32,110,111,32,108,105,115,116,32,111,102,32,111,114,100,101,114,115])) (fun _=>R.ok []))) oNx) oNx)
noncomputable def bu (aq:List D->R D) (ba:Addr):Ev->O:=(aE (jo (aL 1 aq (ac (fun ρ=>rdV ρ 1) (fun _=>R.ok [])))) oNx)
noncomputable def fy (aq:List D->R D) (ba:Addr):Ev->O:=(uR (fZ 1) (aH bw (fun ρ=>rdV ρ 0)) (bu aq ba))
noncomputable def cR (aq:List D->R D) (ba:Addr):Ev->O:=(aE (fA aq ba) (aE (fy aq ba) oNx))
noncomputable def kM (ah ao az:List D->R D):Ev->O:=(jo (aL 1 ah (ac (fun ρ=>rdV ρ 0) (fun _=>R.ok []))))
noncomputable def kH (ah ao az:List D->R D):Ev->O:=(jo (aL 1 ao (ac (fun ρ=>rdV ρ 1) (fun _=>R.ok []))))
noncomputable def kJ (ah ao az:List D->R D):Ev->O:=(eB 2 (fun ρ=>rdV ρ 0))
noncomputable def cj (ah ao az:List D->R D):Ev->O:=(aE (eB 2 (aL 2 az (ac (fun ρ=>rdV ρ 2) (ac (fun ρ=>rdV ρ 3) (fun _=>R.ok []))))) oNx)
noncomputable def lI (ah ao az:List D->R D):Ev->O:=(uR (fZ 3) (aH bw (fun ρ=>rdV ρ 1)) (cj ah ao az))
noncomputable def kv (ah ao az:List D->R D):Ev->O:=(bO (fun ρ=>rdV ρ 2))
noncomputable def fJ (ah ao az:List D->R D):Ev->O:=(aE (kM ah ao az) (aE (kH ah ao az) (aE (kJ ah ao az) (aE (lI ah ao az) (aE (kv ah ao az) oNx)))))
noncomputable def iR:Ev->O:=(oIf (gB2 eqF (g2 ixD (fun ρ=>rdV ρ 0) (fun _=>R.ok (D.int 0))) (fun _=>R.ok (D.str [115,97,121]))) (aE (bO (gOf fc (ac (g2 ixD (fun ρ=>rdV ρ 0) (fun _=>R.ok (D.int 1))) (fun _=>R.ok [])))) oNx) oNx)
noncomputable def iv:Ev->O:=(oIf (gB2 eqF (g2 ixD (fun ρ=>rdV ρ 0) (fun _=>R.ok (D.int 0))) (fun _=>R.ok (D.str [103,111]))) (aE (bO (fun _=>R.ok (D.int 2))) oNx) oNx)
noncomputable def iH:Ev->O:=(bO (fun _=>R.ok (D.int 1)))
noncomputable def eu:Ev->O:=(aE iR (aE iv (aE iH oNx)))
noncomputable def xM (ao aQ:List D->R D):Ev->O:=(jo (aL 1 ao (ac (fun ρ=>rdV ρ 0) (fun _=>R.ok []))))
noncomputable def wL (ao aQ:List D->R D):Ev->O:=(bO (gOf Bx (ac (cG (eU (aH bw (fun ρ=>rdV ρ 0)) [] (fun _=>R.ok true) (aL 1 aQ (ac (fun ρ=>rdV ρ 0) (fun _=>R.ok []))))) (fun _=>R.ok []))))
noncomputable def oi (ao aQ:List D->R D):Ev->O:=(aE (xM ao aQ) (aE (wL ao aQ) oNx))
inductive Od where
 | say (x:List Nat)
 | go (r c:Nat)
 | wipe
def oD:Od->D
 | .say x=>.tup [.str [115,97,121],.str x]
 | .go r c=>.tup [.str [103,111],.int (r:Int),.int (c:Int)]
 | .wipe=>.tup [.str [119,105,112,101]]
def okO:Od->Bool
 | .say x=>plain x && (decide (1<=x.length) && decide (x.length<=40))
 | .go r c=>decide (r<=11) && decide (c<=40)
 | .wipe=>true
def odD:D->Option Od
 | .tup [.str h,.str x]=>if h=[115,97,121] then some (.say x) else none
 | .tup [.str h,.int r,.int c]=>if h=[103,111]/\0<=r/\0<=c then some (.go r.toNat c.toNat) else none
 | .tup [.str h]=>if h=[119,105,112,101] then some .wipe else none
 | _=>none
theorem kZ (o:Od):odD (oD o)=some o:=by
 cases o <;> simp [oD,odD]
theorem Fg {d:D} {o:Od} (h:odD d=some o):d=oD o:=by
 unfold odD at h
 split at h
 ·split at h
  ·rename_i e; cases h; subst e; rfl
  ·cases h
 ·split at h
  ·rename_i e
   cases h
   obtain ⟨rfl,e1,e2⟩:=e
   simp only [oD]
   rw [Int.toNat_of_nonneg e1,Int.toNat_of_nonneg e2]
  ·cases h
 ·split at h
  ·rename_i e; cases h; subst e; rfl
  ·cases h
 ·cases h
def Dp:List D->Option (List Od)
 | []=>some []
 | d::ds=>(odD d).bind fun o=>(Dp ds).map (o::·)
theorem nH:∀ os:List Od,Dp (os.map oD)=some os
 | []=>rfl
 | o::os=>by simp [Dp,kZ,nH os]
theorem ig (o:Od):bR (oD o)=okO o:=by
 cases o with
 | say x=>simp only [oD]; rw [CT]; simp [Dt,Bz,Fl,okO]
 | go r c=>
  simp only [oD]; rw [En]
  simp only [goT,inB,okO]
  have a1:decide ((0:Int)<=(r:Int))=true:=by simp
  have a2:decide ((0:Int)<=(c:Int))=true:=by simp
  have a3:decide ((r:Int)<=11)=decide (r<=11):=by by_cases h:r<=11 <;> simp [h] <;> omega
  have a4:decide ((c:Int)<=40)=decide (c<=40):=by by_cases h:c<=40 <;> simp [h] <;> omega
  rw [a1,a2,a3,a4,Bool.true_and,Bool.true_and]
 | wipe=>decide
theorem GU {o:D} (h:mV o=true):∃ n c:Nat,o=.tup [.str [103,111],.int (n:Int),.int (c:Int)]:=by
 unfold mV at h
 split at h
 ·rename_i x b c
  simp only [Bool.and_eq_true,beq_iff_eq] at h
  obtain ⟨rfl,h1,h2⟩:=h
  cases b <;> first | (cases h1; done) | skip
  cases c <;> first | (cases h2; done) | skip
  rename_i i j
  simp only [inB,Bool.and_eq_true,decide_eq_true_eq] at h1 h2
  obtain ⟨i,rfl⟩:=Int.eq_ofNat_of_zero_le h1.1
  obtain ⟨j,rfl⟩:=Int.eq_ofNat_of_zero_le h2.1
  exact ⟨i,j,rfl⟩
 ·cases h
theorem yz {d:D} (h:bR d=true):∃ o,d=oD o:=by
 unfold bR at h
 rcases Bool.or_eq_true_iff.mp h with h | h
 ·unfold gA at h
  split at h
  ·simp only [Bool.and_eq_true,beq_iff_eq] at h
   obtain ⟨rfl,_⟩:=h
   exact ⟨.say _,rfl⟩
  ·cases h
 ·rcases Bool.or_eq_true_iff.mp h with h | h
  ·obtain ⟨n,c,rfl⟩:=GU h
   exact ⟨.go n c,rfl⟩
  ·unfold eM at h
   split at h
   ·rw [beq_iff_eq] at h; subst h; exact ⟨.wipe,rfl⟩
   ·cases h
theorem xp:∀ {ds:List D},ds.all bR=true->∃ os:List Od,ds=os.map oD/\∀ o ∈ os,okO o=true
 | [],_=>⟨[],rfl,fun _ h=>by cases h⟩
 | d::ds,h=>by
  rw [List.all_cons,Bool.and_eq_true] at h
  obtain ⟨o,rfl⟩:=yz h.1
  obtain ⟨os,rfl,hh⟩:=xp h.2
  have h1:=h.1
  rw [ig] at h1
  refine ⟨o::os,rfl,fun x hx=>?_⟩
  rcases List.mem_cons.1 hx with rfl | hx
  ·exact h1
  ·exact hh x hx
theorem zY {os:List Od} (h:∀ o ∈ os,okO o=true):(os.map oD).all bR=true:=by
 rw [List.all_eq_true]
 intro d hd
 obtain ⟨o,ho,rfl⟩:=List.mem_map.1 hd
 rw [ig]; exact h o ho
theorem nA {o:Od} (h:okO o=true):good 3 (oD o)=true:=by
 cases o with
 | say x=>
  simp only [okO,Bool.and_eq_true,decide_eq_true_eq] at h
  have h2:=h.2.2
  simp only [oD,good,List.all_cons,List.all_nil,Bool.and_true,Bool.and_eq_true,decide_eq_true_eq]
  exact ⟨by decide,by omega⟩
 | go r c=>rfl
 | wipe=>rfl
def tgD:D->Bool
 | .exc _=>false
 | .lst _ ds=>ds.all (good 3) && decide (ds.length<=1000)
 | _=>true
def iA:D->Bool
 | .lst _ ds=>ds.all bR
 | _=>false
theorem CA {f:Bool} {os:List Od} (h:∀ o ∈ os,okO o=true) (hl:os.length<=1000):tgD (.lst f (os.map oD))=true/\iA (.lst f (os.map oD))=true:=by
 refine ⟨?_,zY h⟩
 simp only [tgD,Bool.and_eq_true,decide_eq_true_eq,List.length_map,List.all_eq_true]
 refine ⟨fun d hd=>?_,hl⟩
 obtain ⟨o,ho,rfl⟩:=List.mem_map.1 hd
 exact nA (h o ho)
theorem xH {asg:D->Ev->R Ev} {g:Ev->O} {d:D} {ds:List D} {ρ ρ1 ρ2:Ev} {C:Addr} (h1:asg d ρ=.ok ρ1) (h2:g ρ1=.ex C ρ2):cF asg g (d::ds) ρ=.ex C ρ2:=by
 simp only [cF,h1,R.ok_out,h2]
def lsD:D->List D
 | .lst _ ds=>ds
 | _=>[]
def wR (C:Addr):List D->R D
 | [t]=>if tgD t=true then (if iA t=true then .ok .non else .ex C) else .no
 | _=>.no
theorem sV {C:Addr} (x0:Option Sl):∀ (ds:List D) (x1:Option Sl),ds.all (good 3)=true->(ds.all bR=true->∃ y1,cF (fZ 1) (bu (cP C) C) ds [x0,x1]=.nx [x0,y1])/\(ds.all bR=false->∃ ρ,cF (fZ 1) (bu (cP C) C) ds [x0,x1]=.ex C ρ)
 | [],x1,_=>⟨fun _=>⟨x1,rfl⟩,fun h=>by cases h⟩
 | d::ds,x1,h=>by
  rw [List.all_cons,Bool.and_eq_true] at h
  have e1:cP C [d]=if bR d=true then .ok .non else .ex C:=if_pos h.1
  obtain ⟨i1,i2⟩:=sV (C:=C) x0 ds (some (.val d)) h.2
  cases hd:bR d with
  | true=>
   rw [hd,if_pos rfl] at e1
   have hB:bu (cP C) C [x0,some (.val d)]=.nx [x0,some (.val d)]:=by
    unfold bu
    clear h hd i1 i2
    walk_at "run"
   refine ⟨fun ha=>?_,fun ha=>?_⟩
   ·rw [List.all_cons,hd,Bool.true_and] at ha
    obtain ⟨y,hy⟩:=i1 ha
    exact ⟨y,by rw [fO (ρ1:=[x0,some (.val d)]) rfl hB,hy]⟩
   ·rw [List.all_cons,hd,Bool.true_and] at ha
    obtain ⟨y,hy⟩:=i2 ha
    exact ⟨y,by rw [fO (ρ1:=[x0,some (.val d)]) rfl hB,hy]⟩
  | false=>
   rw [hd,if_neg (by decide)] at e1
   have hB:bu (cP C) C [x0,some (.val d)]=.ex C [x0,some (.val d)]:=by
    unfold bu
    clear h hd i1 i2
    walk_at "run"
   refine ⟨fun ha=>?_,fun _=>⟨[x0,some (.val d)],?_⟩⟩
   ·rw [List.all_cons,hd,Bool.false_and] at ha; cases ha
   ·exact xH (ρ1:=[x0,some (.val d)]) rfl hB
theorem lf {C:Addr}:∀ ds:List D,ds.length=1->wR C ds=.no\/ay (cR (cP C) C (ax 2 ds))=wR C ds:=by
 intro ds hl
 match ds,hl with
 | [t],_=>
  by_cases hd:tgD t=true
  ·refine Or.inr ?_
   have e0:wR C [t]=if iA t=true then .ok .non else .ex C:=if_pos hd
   rw [e0]
   show ay (aE _ _ [some (.val t),none])=_
   unfold fA fy
   have tb:∀ b:Bool,iW (.bl b)=.ok b:=fun _=>rfl
   cases t <;> first | (cases hd; done) | rfl | skip
   rename_i f ts hl2
   simp only [tgD,Bool.and_eq_true,decide_eq_true_eq] at hd
   have y1:fX (fun x=>x=="list") (.lst f ts)=.ok (.bl true):=rfl
   have il:bw (.lst f ts)=.ok ts:=rfl
   have eo:iA (.lst f ts)=ts.all bR:=rfl
   rw [eo]
   obtain ⟨i1,i2⟩:=sV (C:=C) (some (.val (.lst f ts))) ts none hd.1
   cases ha:ts.all bR with
   | true=>
    obtain ⟨y,hy⟩:=i1 ha
    rw [if_pos rfl]
    clear hl hl2 e0 hd i1 i2 ha eo
    walk_at "run"
   | false=>
    obtain ⟨y,hy⟩:=i2 ha
    rw [if_neg (by decide)]
    clear hl hl2 e0 hd i1 i2 ha eo
    walk_at "run"
  ·exact Or.inl (if_neg hd)
def ql (C:Addr):D->List D->R D
 | d,[]=>.ok d
 | d,o::os=>match eA C [d,o] with
  | .ok d'=>ql C d' os
  | .ex C=>.ex C
  | .no=>.no
def adF (Cs Co Cr:Addr):List D->R D
 | [d,t]=>if good 4 d=true/\tgD t=true then (if screen d=true then (if iA t=true then ql Cr d (lsD t) else .ex Co) else .ex Cs) else .no
 | _=>.no
theorem sK {F1 F2:List D->R D} {C:Addr} (x0 x1:Option Sl):∀ (os:List D) (d:D) (x3:Option Sl),(∀ r,ql C d os=.ok r->∃ y3,cF (fZ 3) (cj F1 F2 (eA C)) os [x0,x1,some (.val d),x3]=.nx [x0,x1,some (.val r),y3])/\(∀ C',ql C d os=.ex C'->∃ ρ,cF (fZ 3) (cj F1 F2 (eA C)) os [x0,x1,some (.val d),x3]=.ex C' ρ)
 | [],d,x3=>⟨fun r h=>(by cases h; exact ⟨x3,rfl⟩),fun C' h=>(by cases h)⟩
 | o::os,d,x3=>by
  cases q:eA C [d,o] with
  | ok d'=>
   obtain ⟨i1,i2⟩:=sK (F1:=F1) (F2:=F2) (C:=C) x0 x1 os d' (some (.val o))
   have e:ql C d (o::os)=ql C d' os:=by simp only [ql,q]
   have hB:cj F1 F2 (eA C) [x0,x1,some (.val d),some (.val o)]=.nx [x0,x1,some (.val d'),some (.val o)]:=by
    unfold cj
    clear i1 i2 e
    walk_at "run"
   refine ⟨fun r h=>?_,fun C' h=>?_⟩
   ·obtain ⟨y,hy⟩:=i1 r (by rw [<- e]; exact h)
    exact ⟨y,by rw [fO (ρ1:=[x0,x1,some (.val d),some (.val o)]) rfl hB,hy]⟩
   ·obtain ⟨y,hy⟩:=i2 C' (by rw [<- e]; exact h)
    exact ⟨y,by rw [fO (ρ1:=[x0,x1,some (.val d),some (.val o)]) rfl hB,hy]⟩
  | ex C2=>
   have e:ql C d (o::os)=.ex C2:=by simp only [ql,q]
   have hB:cj F1 F2 (eA C) [x0,x1,some (.val d),some (.val o)]=.ex C2 [x0,x1,some (.val d),some (.val o)]:=by
    unfold cj
    clear e
    walk_at "run"
   refine ⟨fun r h=>(by rw [e] at h; cases h),fun C' h=>?_⟩
   rw [e] at h
   cases h
   refine ⟨[x0,x1,some (.val d),some (.val o)],?_⟩
   exact xH (ρ1:=[x0,x1,some (.val d),some (.val o)]) rfl hB
  | no=>
   have e:ql C d (o::os)=.no:=by simp only [ql,q]
   exact ⟨fun r h=>(by rw [e] at h; cases h),fun C' h=>(by rw [e] at h; cases h)⟩
theorem rm {Cs Co Cr:Addr}:∀ ds:List D,ds.length=2->adF Cs Co Cr ds=.no\/ay (fJ (cH Cs) (wR Co) (eA Cr) (ax 4 ds))=adF Cs Co Cr ds:=by
 intro ds hl
 match ds,hl with
 | [d,t],_=>
  by_cases hd:good 4 d=true/\tgD t=true
  ·have e0:adF Cs Co Cr [d,t]=if screen d=true then (if iA t=true then ql Cr d (lsD t) else .ex Co) else .ex Cs:=if_pos hd
   rw [e0]
   have s1:cH Cs [d]=if screen d=true then .ok .non else .ex Cs:=if_pos (lU hd.1)
   have s2:wR Co [t]=if iA t=true then .ok .non else .ex Co:=if_pos hd.2
   show _\/ay (aE _ _ [some (.val d),some (.val t),none,none])=_
   unfold kM kH kJ lI kv
   by_cases h1:screen d=true
   ·rw [if_pos h1] at s1 ⊢
    by_cases h2:iA t=true
    ·rw [if_pos h2] at s2 ⊢
     cases t <;> first | (cases h2; done) | skip
     rename_i f ts hl2
     have il:bw (.lst f ts)=.ok ts:=rfl
     have el:lsD (.lst f ts)=ts:=rfl
     rw [el]
     obtain ⟨i1,i2⟩:=sK (F1:=cH Cs) (F2:=wR Co) (C:=Cr) (some (.val d)) (some (.val (.lst f ts))) ts d none
     cases q:ql Cr d ts with
     | no=>exact Or.inl rfl
     | ok r=>
      refine Or.inr ?_
      obtain ⟨y,hy⟩:=i1 r q
      clear hl hl2 e0 hd i1 i2 h1 h2 el
      walk_at "run"
     | ex C=>
      refine Or.inr ?_
      obtain ⟨y,hy⟩:=i2 C q
      clear hl hl2 e0 hd i1 i2 h1 h2 el
      walk_at "run"
    ·rw [if_neg h2] at s2 ⊢
     refine Or.inr ?_
     clear hl e0 hd h1 h2
     walk_at "run"
   ·rw [if_neg h1] at s1 ⊢
    refine Or.inr ?_
    clear hl e0 hd h1 s2
    walk_at "run"
  ·exact Or.inl (if_neg hd)
def bT:Od->Nat
 | .say x=>x.length
 | .go _ _=>2
 | .wipe=>1
def ocF:List D->R D
 | [d]=>match odD d with
  | some o=>.ok (.int (bT o:Int))
  | none=>.no
 | _=>.no
theorem oI:∀ ds:List D,ds.length=1->ocF ds=.no\/ay (eu (ax 1 ds))=ocF ds:=by
 intro ds hl
 match ds,hl with
 | [d],_=>
  cases q:odD d with
  | none=>exact Or.inl (by simp only [ocF,q])
  | some o=>
   refine Or.inr ?_
   have e0:ocF [d]=.ok (.int (bT o:Int)):=by simp only [ocF,q]
   rw [e0]
   have:=Fg q
   subst this
   show ay (aE _ _ [some (.val (oD o))])=_
   unfold iR iv iH
   clear q e0 hl
   cases o <;> rfl
def coF (C:Addr):List D->R D
 | [t]=>if tgD t=true then (if iA t=true then (match Dp (lsD t) with
   | some os=>.ok (.int ((os.map bT).sum:Nat))
   | none=>.no) else .ex C) else .no
 | _=>.no
theorem Cl {C:Addr}:∀ ds:List D,ds.length=1->coF C ds=.no\/ay (oi (wR C) ocF (ax 1 ds))=coF C ds:=by
 intro ds hl
 match ds,hl with
 | [t],_=>
  by_cases hd:tgD t=true
  ·refine Or.inr ?_
   have s2:wR C [t]=if iA t=true then .ok .non else .ex C:=if_pos hd
   show ay (aE _ _ [some (.val t)])=_
   unfold xM wL
   by_cases h2:iA t=true
   ·rw [if_pos h2] at s2
    cases t <;> first | (cases h2; done) | skip
    rename_i f ts hl2
    obtain ⟨os,rfl,hok⟩:=xp (ds:=ts) h2
    have e0:coF C [.lst f (os.map oD)]=.ok (.int ((os.map bT).sum:Nat)):=by
     show (if _ then (if _ then _ else _) else _)=_
     rw [if_pos hd,if_pos h2]
     show (match Dp (os.map oD) with | some os=>R.ok (D.int ((os.map bT).sum:Nat)) | none=>.no)=_
     rw [nH]
    rw [e0]
    have il:bw (.lst f (os.map oD))=.ok (os.map oD):=rfl
    have hn:os.length<=1000:=by
     simp only [tgD,Bool.and_eq_true,decide_eq_true_eq,List.length_map] at hd; exact hd.2
    have e:eV (fun _=>R.ok true) (aL 1 ocF (ac (fun ρ=>rdV ρ 0) (fun _=>R.ok []))) (os.map oD) [none]=.ok (os.map fun o=>.int (bT o:Int)):=by
     have:=cb (gt:=fun _=>R.ok true) (ge:=aL 1 ocF (ac (fun ρ=>rdV ρ 0) (fun _=>R.ok []))) (fun d=>match odD d with | some o=>.int (bT o:Int) | none=>.non) [] (os.map oD) none fun d hd=>⟨rfl,by
      obtain ⟨o,_,rfl⟩:=List.mem_map.1 hd
      have e1:ocF [oD o]=.ok (.int (bT o:Int)):=by simp only [ocF,kZ]
      rw [kZ]
      clear hd hl hl2 h2 hok s2 e0 il hn
      walk_at "run"⟩
     rw [this,List.map_map]
     refine congrArg R.ok (List.map_congr_left fun o _=>?_)
     show (match odD (oD o) with | some o=>D.int (bT o:Int) | none=>.non)=_
     rw [kZ]
    have z:(os.map fun o=>D.int (bT o:Int)).length<=sizeLine:=by have:=bo; simp; omega
    have sm:Bx [.lst false (os.map fun o=>D.int (bT o:Int))]=some (.int ((os.map bT).sum:Nat)):=by
     have key:∀ l:List Od,oz (l.map fun o=>D.int (bT o:Int))=some (l.map fun o=>(bT o:Int)):=by
      intro l
      induction l with
      | nil=>rfl
      | cons o l ih=>rw [List.map_cons,oz,ih]; rfl
     have key2:∀ l:List Od,(l.map fun o=>(bT o:Int)).sum=((l.map bT).sum:Nat):=by
      intro l
      induction l with
      | nil=>rfl
      | cons o l ih=>rw [List.map_cons,List.sum_cons,ih,List.map_cons,List.sum_cons,Int.natCast_add]
     simp only [Bx,key,Option.map_some,key2]
    have i0:∀ x:Option Sl,eT [] [x]=[none]:=fun _=>rfl
    clear hl hl2 e0 hd h2 hok hn
    walk_at "run"
   ·rw [if_neg h2] at s2
    have e0:coF C [t]=.ex C:=by
     show (if _ then (if _ then _ else _) else _)=_
     rw [if_pos hd,if_neg h2]
    rw [e0]
    clear hl e0 hd h2
    walk_at "run"
  ·exact Or.inl (if_neg hd)
end Q
namespace Q70
open L2 Q
open PySem (sizeLine Addr)
noncomputable def gT:Ev->O:=(bO (lJ (g2 neF (fun ρ=>rdV ρ 0) (fun _=>R.ok (D.str []))) (gOf zf (ac (cG (eU (aH bw (fun ρ=>rdV ρ 0)) [] (fun _=>R.ok true) (g2 Dk (fun ρ=>rdV ρ 0) (fun _=>R.ok (D.str [48,49,50,51,52,53,54,55,56,57]))))) (fun _=>R.ok [])))))
noncomputable def cz:Ev->O:=(aE gT oNx)
noncomputable def jC:Ev->O:=(bO (qO [(aH vA (fun ρ=>rdV ρ 0)),(fun _=>R.ok (D.str [32])),(aH vA (fun ρ=>rdV ρ 1))]))
noncomputable def db:Ev->O:=(aE jC oNx)
noncomputable def dR (bL:List D->R D):Ev->O:=(bO (lJ (aL 1 bL (ac (fun ρ=>rdV ρ 0) (fun _=>R.ok []))) (g2 leD (gOf fc (ac (fun ρ=>rdV ρ 0) (fun _=>R.ok []))) (fun _=>R.ok (D.int 2)))))
noncomputable def bJ (bL:List D->R D):Ev->O:=(aE (dR bL) oNx)
noncomputable def fI (aV:List D->R D):Ev->O:=(eB 1 (fv "str" ju (fun ρ=>rdV ρ 0) (ac (fun _=>R.ok (D.str [32])) (fun _=>R.ok []))))
noncomputable def fw (aV:List D->R D):Ev->O:=(oIf (mZ (gB2 neF (gOf fc (ac (fun ρ=>rdV ρ 1) (fun _=>R.ok []))) (fun _=>R.ok (D.int 2))) (gBn (aH iW (gOf zf (ac (cG (eU (aH bw (fun ρ=>rdV ρ 1)) [] (fun _=>R.ok true) (aL 1 aV (ac (fun ρ=>rdV ρ 0) (fun _=>R.ok []))))) (fun _=>R.ok [])))))) (aE (bO (fun _=>R.ok D.non)) oNx) oNx)
noncomputable def fP (aV:List D->R D):Ev->O:=(bO (aH mkT (ac (gOf qK (ac (g2 ixD (fun ρ=>rdV ρ 1) (fun _=>R.ok (D.int 0))) (fun _=>R.ok []))) (ac (gOf qK (ac (g2 ixD (fun ρ=>rdV ρ 1) (fun _=>R.ok (D.int 1))) (fun _=>R.ok []))) (fun _=>R.ok [])))))
noncomputable def cg (aV:List D->R D):Ev->O:=(aE (fI aV) (aE (fw aV) (aE (fP aV) oNx)))
noncomputable def kB (aO:Addr):Ev->O:=(oIf (mZ (gBn (aH iW (aH (fX (·=="str")) (fun ρ=>rdV ρ 0)))) (xK (gB2 neF (fun ρ=>rdV ρ 0) (fun _=>R.ok (D.str []))) (gBn (aH iW (fv "str" uw (fun ρ=>rdV ρ 0) (ac (fun _=>R.ok (D.str [10])) (fun _=>R.ok []))))))) (aE (eJ aO (ac (fun _=>R.ok (D.str [116,104,105,115,32,105,115,32,110,111,32,116,101,120,116,32,111,102,32,108,105,110,101,115,32,116,104,97,116,32,97,114,101,32,101,97,99,104,32,101,110,100,101,100,32,98,121,32,97,32,108,105,110,101,32,102,101,101,100])) (fun _=>R.ok []))) oNx) oNx)
noncomputable def lj (aO:Addr):Ev->O:=(bO (gSl (fv "str" ju (fun ρ=>rdV ρ 0) (ac (fun _=>R.ok (D.str [10])) (fun _=>R.ok []))) (fun _=>R.ok none) (dE (aH rR (fun _=>R.ok (D.int 1))))))
noncomputable def dG (aO:Addr):Ev->O:=(aE (kB aO) (aE (lj aO) oNx))
noncomputable def iy (aq aK:List D->R D):Ev->O:=(jo (aL 1 aq (ac (fun ρ=>rdV ρ 0) (fun _=>R.ok []))))
noncomputable def iG (aq aK:List D->R D):Ev->O:=(oIf (gB2 eqF (g2 ixD (fun ρ=>rdV ρ 0) (fun _=>R.ok (D.int 0))) (fun _=>R.ok (D.str [115,97,121]))) (aE (bO (g2 bE (fun _=>R.ok (D.str [115,97,121,32])) (g2 ixD (fun ρ=>rdV ρ 0) (fun _=>R.ok (D.int 1))))) oNx) oNx)
noncomputable def ie (aq aK:List D->R D):Ev->O:=(oIf (gB2 eqF (g2 ixD (fun ρ=>rdV ρ 0) (fun _=>R.ok (D.int 0))) (fun _=>R.ok (D.str [103,111]))) (aE (bO (g2 bE (fun _=>R.ok (D.str [103,111,32])) (aL 2 aK (ac (g2 ixD (fun ρ=>rdV ρ 0) (fun _=>R.ok (D.int 1))) (ac (g2 ixD (fun ρ=>rdV ρ 0) (fun _=>R.ok (D.int 2))) (fun _=>R.ok [])))))) oNx) oNx)
noncomputable def iL (aq aK:List D->R D):Ev->O:=(bO (fun _=>R.ok (D.str [119,105,112,101])))
noncomputable def cN (aq aK:List D->R D):Ev->O:=(aE (iy aq aK) (aE (iG aq aK) (aE (ie aq aK) (aE (iL aq aK) oNx))))
noncomputable def gO (ao aN:List D->R D):Ev->O:=(jo (aL 1 ao (ac (fun ρ=>rdV ρ 0) (fun _=>R.ok []))))
noncomputable def gP (ao aN:List D->R D):Ev->O:=(bO (fv "str" iz (fun _=>R.ok (D.str [])) (ac (cG (eU (aH bw (fun ρ=>rdV ρ 0)) [] (fun _=>R.ok true) (g2 bE (aL 1 aN (ac (fun ρ=>rdV ρ 0) (fun _=>R.ok []))) (fun _=>R.ok (D.str [10]))))) (fun _=>R.ok []))))
noncomputable def cB (ao aN:List D->R D):Ev->O:=(aE (gO ao aN) (aE (gP ao aN) oNx))
noncomputable def fu (aB:List D->R D):Ev->O:=(eB 1 (fv "str" qN (fun ρ=>rdV ρ 0) (ac (fun _=>R.ok (D.str [32])) (fun _=>R.ok []))))
noncomputable def fi (aB:List D->R D):Ev->O:=(oIf (gB2 eqF (g2 ixD (fun ρ=>rdV ρ 1) (fun _=>R.ok (D.int 0))) (fun _=>R.ok (D.str [115,97,121]))) (aE (bO (aH mkT (ac (fun _=>R.ok (D.str [115,97,121])) (ac (g2 ixD (fun ρ=>rdV ρ 1) (fun _=>R.ok (D.int 2))) (fun _=>R.ok []))))) oNx) oNx)
noncomputable def fm (aB:List D->R D):Ev->O:=(oIf (gB2 eqF (g2 ixD (fun ρ=>rdV ρ 1) (fun _=>R.ok (D.int 0))) (fun _=>R.ok (D.str [103,111]))) (aE (eB 2 (aL 1 aB (ac (g2 ixD (fun ρ=>rdV ρ 1) (fun _=>R.ok (D.int 2))) (fun _=>R.ok [])))) (aE (bO (gIf (gB2 isF (fun ρ=>rdV ρ 2) (fun _=>R.ok D.non)) (fun _=>R.ok D.non) (aH mkT (ac (fun _=>R.ok (D.str [103,111])) (ac (g2 ixD (fun ρ=>rdV ρ 2) (fun _=>R.ok (D.int 0))) (ac (g2 ixD (fun ρ=>rdV ρ 2) (fun _=>R.ok (D.int 1))) (fun _=>R.ok []))))))) oNx)) oNx)
noncomputable def fg (aB:List D->R D):Ev->O:=(bO (aH mkT (ac (fun _=>R.ok (D.str [119,105,112,101])) (fun _=>R.ok []))))
noncomputable def bX (aB:List D->R D):Ev->O:=(aE (fu aB) (aE (fi aB) (aE (fm aB) (aE (fg aB) oNx))))
noncomputable def ip (bb bf aN:List D->R D) (aO:Addr):Ev->O:=(eB 1 (aL 1 bb (ac (fun ρ=>rdV ρ 0) (fun _=>R.ok []))))
noncomputable def ic (bb bf aN:List D->R D) (aO:Addr):Ev->O:=(oIf (mZ (gBn (aH iW (aL 1 bf (ac (fun ρ=>rdV ρ 1) (fun _=>R.ok []))))) (gB2 neF (aL 1 aN (ac (fun ρ=>rdV ρ 1) (fun _=>R.ok []))) (fun ρ=>rdV ρ 0))) (aE (eJ aO (ac (fun _=>R.ok (D.str [110,111,32,111,114,100,101,114,32,105,115,32,119,114,105,116,116,101,110,32,115,111])) (fun _=>R.ok []))) oNx) oNx)
noncomputable def iU (bb bf aN:List D->R D) (aO:Addr):Ev->O:=(bO (fun ρ=>rdV ρ 1))
noncomputable def cM (bb bf aN:List D->R D) (aO:Addr):Ev->O:=(aE (ip bb bf aN aO) (aE (ic bb bf aN aO) (aE (iU bb bf aN aO) oNx)))
noncomputable def gU (bd bU:List D->R D):Ev->O:=(bO (cG (qq (aH bw (aL 1 bd (ac (fun ρ=>rdV ρ 0) (fun _=>R.ok [])))) [] (fun _=>R.ok true) (aL 1 bU (ac (fun ρ=>rdV ρ 0) (fun _=>R.ok []))))))
noncomputable def cD (bd bU:List D->R D):Ev->O:=(aE (gU bd bU) oNx)
theorem dc:20000<=sizeLine:=by decide
theorem mY {n k:Nat} (hk:0 < k) (h:n < 10 ^ k):(bx n).length<=k:=by
 unfold bx; rw [List.length_map]; exact (Nat.length_toDigits_le_iff (by decide) hk).2 h
theorem qY (n:Nat):1<=(bx n).length:=by
 unfold bx; rw [List.length_map]
 have:Nat.toDigits 10 n ≠ []:=Nat.toDigits_ne_nil
 exact List.length_pos_iff.2 this
theorem Bh (n:Nat):∀ c ∈ bx n,48<=c/\c<=57:=by
 intro c hc
 unfold bx at hc
 obtain ⟨ch,h1,rfl⟩:=List.mem_map.1 hc
 have:=Nat.isDigit_of_mem_toDigits (by decide) (by decide) h1
 simp only [Char.isDigit,Bool.and_eq_true,decide_eq_true_eq,UInt32.le_iff_toNat_le] at this
 exact this
theorem Ao:∀ d:Nat,d < 10->(Nat.digitChar d).toNat - 48=d:=by decide
theorem zZ (x:List Nat) (c:Nat):vf (x++[c])=vf x * 10+(c - 48):=by
 unfold vf; rw [List.foldl_append]; rfl
theorem wG (n:Nat):vf (bx n)=n:=by
 induction n using Nat.strongRecOn with
 | _ n ih=>
  by_cases h:n < 10
  ·have e:bx n=[(Nat.digitChar n).toNat]:=by unfold bx; rw [Nat.toDigits_of_lt_base h]; rfl
   rw [e]
   show 0 * 10+((Nat.digitChar n).toNat - 48)=n
   rw [Ao n h]; omega
  ·have e:bx n=bx (n / 10)++[(Nat.digitChar (n % 10)).toNat]:=by
    have t:=Nat.toDigits_append_toDigits (b:=10) (n:=n / 10) (d:=n % 10) (by decide) (by omega) (by omega)
    rw [show 10 * (n / 10)+n % 10=n by omega] at t
    unfold bx
    rw [<- t,List.map_append,Nat.toDigits_of_lt_base (show n % 10 < 10 by omega)]; rfl
   rw [e,zZ,ih (n / 10) (by omega),Ao (n % 10) (by omega)]
   omega
theorem yK (n:Nat):yt (bx n)=true:=by
 unfold yt; rw [List.all_eq_true]; intro c hc
 have:=Bh n c hc
 simp only [Bool.and_eq_true,decide_eq_true_eq]; exact this
noncomputable def agF:List D->R D:=fun ds=>ay (cz (ax 1 ds))
theorem lX:∀ ds:List D,ds.length=1->agF ds=.no\/ay (cz (ax 1 ds))=agF ds:=fun _ _=>.inr rfl
def vd (x:List Nat):Bool:=!(x==[]) && yt x
theorem Cj (c:Nat):decide (c ∈ [48,49,50,51,52,53,54,55,56,57])=(decide (48<=c) && decide (c<=57)):=by
 by_cases h:48<=c/\c<=57
 ·rw [decide_eq_true h.1,decide_eq_true h.2,decide_eq_true]; rfl
  simp only [List.mem_cons,List.mem_nil_iff,or_false]; omega
 ·rw [decide_eq_false (p:=c ∈ [48,49,50,51,52,53,54,55,56,57])]
  ·by_cases h1:48<=c
   ·rw [decide_eq_true h1,decide_eq_false (by omega)]; rfl
   ·rw [decide_eq_false h1]; rfl
  ·simp only [List.mem_cons,List.mem_nil_iff,or_false]; omega
theorem EM {x:List Nat} (hx:x.length<=1000):agF [.str x]=.ok (.bl (vd x)):=by
 have lb:=dc
 have cm:eV (fun _=>R.ok true) (g2 Dk (fun ρ=>rdV ρ 0) (fun _=>R.ok (D.str [48,49,50,51,52,53,54,55,56,57]))) (x.map fun c=>.str [c]) [none]=.ok ((x.map fun c=>D.str [c]).map fun d=>.bl (match d with | .str [c]=>decide (48<=c) && decide (c<=57) | _=>false)):=by
  refine cb (fun d=>.bl (match d with | .str [c]=>decide (48<=c) && decide (c<=57) | _=>false)) [] _ none fun d hd=>⟨rfl,?_⟩
  obtain ⟨c,_,rfl⟩:=List.mem_map.1 hd
  show _=R.ok (D.bl (decide (48<=c) && decide (c<=57)))
  rw [<- Cj]; rfl
 have al:=iI (fun d=>match d with | .str [c]=>decide (48<=c) && decide (c<=57) | _=>false) false (x.map fun c=>D.str [c])
 have ea:((x.map fun c=>D.str [c]).all fun d=>match d with | .str [c]=>decide (48<=c) && decide (c<=57) | _=>false)=yt x:=by
  rw [List.all_map]; rfl
 rw [ea] at al
 have z:((x.map fun c=>D.str [c]).map fun d=>D.bl (match d with | .str [c]=>decide (48<=c) && decide (c<=57) | _=>false)).length<=sizeLine:=by simp; omega
 have it:bw (.str x)=.ok (x.map fun c=>.str [c]):=rfl
 have i1:∀ a0:Option Sl,eT [] [a0]=[none]:=fun _=>rfl
 generalize (x.map fun c=>D.str [c]).map (fun d=>D.bl (match d with | .str [c]=>decide (48<=c) && decide (c<=57) | _=>false))=u at *
 generalize x.map (fun c=>D.str [c])=v at *
 show ay (aE _ _ [some (.val (.str x))])=_
 unfold gT vd
 cases hx0:(x==[]) with
 | true=>
  clear lb hx z al cm ea
  walk_at "run"
  all_goals rfl
 | false=>
  have e:(!false && yt x)=yt x:=rfl
  rw [e]
  clear lb hx ea e
  walk_at "run"
  all_goals rfl
theorem vP {x:List Nat} (h:vd x=true) (hx:x.length<=600):qK [.str x]=some (.int (vf x:Nat)):=by
 unfold vd at h
 rw [Bool.and_eq_true] at h
 have hd:x.dropWhile (fun c=>c==32)=x:=by
  cases x with
  | nil=>rfl
  | cons c r=>
   have:=List.all_eq_true.1 h.2 c (List.mem_cons_self ..)
   simp only [Bool.and_eq_true,decide_eq_true_eq] at this
   exact List.dropWhile_cons_of_neg (by simp; omega)
 show (if yt (x.dropWhile (fun c=>c==32))=true/\x.dropWhile (fun c=>c==32) ≠ []/\x.length<=640 then some (D.int ((vf (x.dropWhile (fun c=>c==32)):Nat):Int)) else none)=_
 rw [hd,if_pos]
 exact ⟨h.2,fun z=>by rw [z] at h; simp at h,by omega⟩
theorem hU (n:Nat):vd (bx n)=true:=by
 unfold vd
 rw [yK,Bool.and_true]
 have:=qY n
 cases h:bx n with
 | nil=>rw [h] at this; simp at this
 | cons a l=>rfl
def oT:Od->List Nat
 | .say x=>[115,97,121,32]++x
 | .go r c=>[103,111,32]++(bx r++[32]++bx c)
 | .wipe=>[119,105,112,101]
theorem Fc {x:List Nat} (h:vd x=true) (c:Nat) (hc:c < 48):c ∉ x:=fun hm=>by
 unfold vd at h
 rw [Bool.and_eq_true] at h
 have:=List.all_eq_true.1 h.2 c hm
 simp only [Bool.and_eq_true,decide_eq_true_eq] at this
 omega
theorem kO {r c:Nat} (hr:r<=11) (hc:c<=40):(bx r).length<=2/\(bx c).length<=2:=⟨mY (by decide) (by omega),mY (by decide) (by omega)⟩
theorem wn {o:Od} (h:okO o=true):(oT o).length<=44:=by
 cases o with
 | say x=>
  simp only [okO,Bool.and_eq_true,decide_eq_true_eq] at h
  show ([115,97,121,32]++x).length<=44
  simp; omega
 | go r c=>
  simp only [okO,Bool.and_eq_true,decide_eq_true_eq] at h
  have:=kO h.1 h.2
  show ([103,111,32]++(bx r++[32]++bx c)).length<=44
  simp; omega
 | wipe=>decide
theorem AW {o:Od} (h:okO o=true):10 ∉ oT o:=by
 cases o with
 | say x=>
  simp only [okO,Bool.and_eq_true] at h
  intro z
  have z:10 ∈ [115,97,121,32]++x:=z
  rcases List.mem_append.1 z with z | z
  ·simp at z
  ·have:=List.all_eq_true.1 h.1 10 z
   simp at this
 | go r c=>
  intro z
  have z:10 ∈ [103,111,32]++(bx r++[32]++bx c):=z
  have h1:=Fc (hU r) 10 (by decide)
  have h2:=Fc (hU c) 10 (by decide)
  simp [h1,h2] at z
 | wipe=>decide
noncomputable def stF:List D->R D:=fun ds=>ay (db (ax 2 ds))
theorem pE:∀ ds:List D,ds.length=2->stF ds=.no\/ay (db (ax 2 ds))=stF ds:=fun _ _=>.inr rfl
theorem AC {r c:Nat} (hr:r<=11) (hc:c<=40):stF [.int (r:Int),.int (c:Int)]=.ok (.str (bx r++[32]++bx c)):=by
 have lb:=dc
 have f1:=Dy (n:=r) (by omega)
 have f2:=Dy (n:=c) (by omega)
 have g:=kO hr hc
 have b1:(bx r).length<=sizeLine:=by omega
 have b2:(bx r++[32]).length<=sizeLine:=by simp; omega
 have b3:(bx r++[32]++bx c).length<=sizeLine:=by simp; omega
 have en:∀ a:List Nat,([]:List Nat)++a=a:=fun _=>rfl
 show ay (aE _ _ [some (.val (.int (r:Int))),some (.val (.int (c:Int)))])=_
 unfold jC
 clear lb hr hc g
 walk_at "run"
noncomputable def Dq:List D->R D:=fun ds=>ay (bJ agF (ax 1 ds))
theorem iO:∀ ds:List D,ds.length=1->Dq ds=.no\/ay (bJ agF (ax 1 ds))=Dq ds:=fun _ _=>.inr rfl
def shB (x:List Nat):Bool:=vd x && decide (x.length<=2)
theorem DD {x:List Nat} (hx:x.length<=1000):Dq [.str x]=.ok (.bl (shB x)):=by
 have a1:=EM hx
 have q:decide ((x.length:Int)<=2)=decide (x.length<=2):=by
  by_cases h:x.length<=2
  ·rw [decide_eq_true h,decide_eq_true (by omega)]
  ·rw [decide_eq_false h,decide_eq_false (by omega)]
 show ay (aE _ _ [some (.val (.str x))])=_
 unfold dR shB
 clear hx
 cases hf:vd x with
 | true=>rw [hf] at a1; walk_at "run"; try rfl
 | false=>rw [hf] at a1; walk_at "run"; try rfl
noncomputable def soF:List D->R D:=fun ds=>ay (cg Dq (ax 2 ds))
theorem kP:∀ ds:List D,ds.length=1->soF ds=.no\/ay (cg Dq (ax 2 ds))=soF ds:=fun _ _=>.inr rfl
def iX (x:List Nat):D:=match aU 32 x with
 | [p,q]=>if shB p=true/\shB q=true then .tup [.int (vf p:Nat),.int (vf q:Nat)] else .non
 | _=>.non
theorem Ah {x:List Nat} (hx:x.length<=1000):soF [.str x]=.ok (iX x):=by
 have lb:=dc
 have sp:ju (.str x) [.str [32]]=some (.lst false ((aU 32 x).map .str)):=if_pos (by omega)
 have kd:gW "str" (.str x)=true:=rfl
 have sl:=je 32 x
 have cm:eV (fun _=>R.ok true) (aL 1 Dq (ac (fun ρ=>rdV ρ 0) (fun _=>R.ok []))) ((aU 32 x).map .str) [none]=.ok (((aU 32 x).map D.str).map fun d=>.bl (match d with | .str p=>shB p | _=>false)):=by
  refine cb (fun d=>.bl (match d with | .str p=>shB p | _=>false)) [] _ none fun d hd=>⟨rfl,?_⟩
  obtain ⟨p,hp,rfl⟩:=List.mem_map.1 hd
  have:=fK 32 x p hp
  have a1:=DD (x:=p) (by omega)
  show _=R.ok (D.bl (shB p))
  clear hd this hp
  walk_at "run"
 have al:=iI (fun d=>match d with | .str p=>shB p | _=>false) false ((aU 32 x).map D.str)
 have ea:(((aU 32 x).map D.str).all fun d=>match d with | .str p=>shB p | _=>false)=(aU 32 x).all shB:=by rw [List.all_map]; rfl
 rw [ea] at al
 have z:(((aU 32 x).map D.str).map fun d=>D.bl (match d with | .str p=>shB p | _=>false)).length<=sizeLine:=by simp; omega
 have it:∀ (f:Bool) (l:List D),bw (.lst f l)=.ok l:=fun _ _=>rfl
 have i1:∀ a0 a1:Option Sl,eT [] [a0,a1]=[none]:=fun _ _=>rfl
 have ll:((aU 32 x).map D.str).length=(aU 32 x).length:=List.length_map ..
 show ay (aE _ _ [some (.val (.str x)),none])=_
 unfold fI fw fP
 by_cases h2:(aU 32 x).length=2
 ·have q:(((aU 32 x).length:Int)==2)=true:=by rw [beq_iff_eq]; omega
  obtain ⟨p,q',e⟩:∃ p q',aU 32 x=[p,q']:=by
   match h:aU 32 x,h2 with
   | [p,q'],_=>exact ⟨p,q',rfl⟩
  cases hf:(aU 32 x).all shB with
  | true=>
   rw [hf] at al
   have hpq:shB p=true/\shB q'=true:=by rw [e] at hf; simpa using hf
   have es:iX x=.tup [.int (vf p:Nat),.int (vf q':Nat)]:=by unfold iX; rw [e]; exact if_pos hpq
   have l1:=fK 32 x p (by rw [e]; simp)
   have l2:=fK 32 x q' (by rw [e]; simp)
   have fp:vd p=true/\p.length<=2:=by have:=hpq.1; unfold shB at this; simpa using this
   have fq:vd q'=true/\q'.length<=2:=by have:=hpq.2; unfold shB at this; simpa using this
   have n1:=vP fp.1 (by omega)
   have n2:=vP fq.1 (by omega)
   have x0:ixD (.lst false ((aU 32 x).map D.str)) (.int 0)=some (.str p):=by rw [e]; exact F3 (k:=0) rfl
   have x1:ixD (.lst false ((aU 32 x).map D.str)) (.int 1)=some (.str q'):=by rw [e]; exact F3 (k:=1) rfl
   have tt:∀ a b:D,mkT [a,b]=.ok (.tup [a,b]):=fun _ _=>m_t (by simp)
   rw [es]
   generalize ((aU 32 x).map D.str).map (fun d=>D.bl (match d with | .str p=>shB p | _=>false))=u at *
   generalize (aU 32 x).map D.str=v at *
   clear lb hx sl ea e es hf hpq l1 l2 fp fq h2
   walk_at "run"
  | false=>
   rw [hf] at al
   have es:iX x=.non:=by
    unfold iX; rw [e]
    refine if_neg fun z=>?_
    rw [e] at hf; simp [z.1,z.2] at hf
   rw [es]
   generalize ((aU 32 x).map D.str).map (fun d=>D.bl (match d with | .str p=>shB p | _=>false))=u at *
   generalize (aU 32 x).map D.str=v at *
   clear lb hx sl ea e es hf h2
   walk_at "run"
 ·have q:(((aU 32 x).length:Int)==2)=false:=by rw [beq_eq_false_iff_ne]; omega
  have es:iX x=.non:=by
   unfold iX
   split
   ·rename_i p q' e; rw [e] at h2; simp at h2
   ·rfl
  rw [es]
  generalize ((aU 32 x).map D.str).map (fun d=>D.bl (match d with | .str p=>shB p | _=>false))=u at *
  generalize (aU 32 x).map D.str=v at *
  clear lb hx sl ea es h2
  walk_at "run"
theorem xB {r c:Nat} (hr:r<=11) (hc:c<=40):iX (bx r++[32]++bx c)=.tup [.int (r:Int),.int (c:Int)]:=by
 have g:=kO hr hc
 have e:aU 32 (bx r++[32]++bx c)=[bx r,bx c]:=by
  rw [List.append_assoc]
  show aU 32 (bx r++32::bx c)=_
  rw [dj _ (Fc (hU r) 32 (by decide)),iY (Fc (hU c) 32 (by decide))]
 unfold iX
 rw [e]
 show (if shB (bx r)=true/\shB (bx c)=true then _ else _)=_
 rw [if_pos,wG,wG]
 unfold shB
 rw [hU,hU]
 simp; exact g
theorem wu (x:List Nat):iX x=.non\/∃ a b:Nat,iX x=.tup [.int (a:Int),.int (b:Int)]:=by
 unfold iX
 split
 ·split
  ·exact .inr ⟨_,_,rfl⟩
  ·exact .inl rfl
 ·exact .inl rfl
noncomputable def ooF:List D->R D:=fun ds=>ay (bX soF (ax 3 ds))
theorem jM:∀ ds:List D,ds.length=1->ooF ds=.no\/ay (bX soF (ax 3 ds))=ooF ds:=fun _ _=>.inr rfl
def DE (x:List Nat):D:=if (du 32 x).1=[115,97,121] then .tup [.str [115,97,121],.str (du 32 x).2.2] else if (du 32 x).1=[103,111] then (match iX (du 32 x).2.2 with | .tup [a,b]=>.tup [.str [103,111],a,b] | _=>.non) else .tup [.str [119,105,112,101]]
theorem EK {x:List Nat} (hx:x.length<=1000):ooF [.str x]=.ok (DE x):=by
 have lb:=dc
 have pl:=pq 32 x
 have pt:qN (.str x) [.str [32]]=some (.tup [.str (du 32 x).1,.str (du 32 x).2.1,.str (du 32 x).2.2]):=if_pos (by omega)
 have so:=Ah (x:=(du 32 x).2.2) (by omega)
 have kd:gW "str" (.str x)=true:=rfl
 have x0:∀ a b c:D,ixD (.tup [a,b,c]) (.int 0)=some a:=fun _ _ _=>rfl
 have x2:∀ a b c:D,ixD (.tup [a,b,c]) (.int 2)=some c:=fun _ _ _=>rfl
 have y0:∀ a b:D,ixD (.tup [a,b]) (.int 0)=some a:=fun _ _=>rfl
 have y1:∀ a b:D,ixD (.tup [a,b]) (.int 1)=some b:=fun _ _=>rfl
 have t1:∀ a:D,mkT [a]=.ok (.tup [a]):=fun _=>m_t (by simp)
 have t2':∀ a b:D,mkT [a,b]=.ok (.tup [a,b]):=fun _ _=>m_t (by simp)
 have t3:∀ a b c:D,mkT [a,b,c]=.ok (.tup [a,b,c]):=fun _ _ _=>m_t (by simp)
 have i1:isF .non .non=some (.bl true):=rfl
 have i2:∀ l,isF (.tup l) .non=some (.bl false):=fun _=>rfl
 have sg:=wu (du 32 x).2.2
 show ay (aE _ _ [some (.val (.str x)),none,none])=_
 unfold fu fi fm fg DE
 generalize (du 32 x).1=u1 at *
 generalize (du 32 x).2.1=u2 at *
 generalize (du 32 x).2.2=u3 at *
 clear lb hx pl
 by_cases h1:u1=[115,97,121]
 ·subst h1
  rw [if_pos rfl]
  have q:(([115,97,121]:List Nat)==[115,97,121])=true:=rfl
  walk_at "run"
 ·have q:(u1==[115,97,121])=false:=by rw [beq_eq_false_iff_ne]; exact h1
  rw [if_neg h1]
  by_cases h2:u1=[103,111]
  ·subst h2
   rw [if_pos rfl]
   have q2:(([103,111]:List Nat)==[103,111])=true:=rfl
   rcases sg with e | ⟨a,b,e⟩
   ·rw [e] at so ⊢; clear h1; walk_at "run"
   ·rw [e] at so ⊢; clear h1; walk_at "run"
  ·have q2:(u1==[103,111])=false:=by rw [beq_eq_false_iff_ne]; exact h2
   rw [if_neg h2]
   clear h1 h2 sg
   walk_at "run"
theorem BA {o:Od} (h:okO o=true):DE (oT o)=oD o:=by
 cases o with
 | say x=>
  have e:du 32 (oT (.say x))=([115,97,121],[32],x):=rfl
  unfold DE
  rw [e]; rfl
 | go r c=>
  simp only [okO,Bool.and_eq_true,decide_eq_true_eq] at h
  have e:du 32 (oT (.go r c))=([103,111],[32],bx r++[32]++bx c):=rfl
  unfold DE
  rw [e]
  show (if ([103,111]:List Nat)=[115,97,121] then _ else if ([103,111]:List Nat)=[103,111] then _ else _)=_
  rw [if_neg (by decide),if_pos rfl,xB h.1 h.2]; rfl
 | wipe=>rfl
end Q70
namespace Q70
open L2 Q
open PySem (sizeLine Addr)
noncomputable def otF (C:Addr):List D->R D:=fun ds=>ay (cN (cP C) stF (ax 1 ds))
theorem nG {C:Addr}:∀ ds:List D,ds.length=1->otF C ds=.no\/ay (cN (cP C) stF (ax 1 ds))=otF C ds:=fun _ _=>.inr rfl
theorem El {C:Addr} {o:Od} (h:okO o=true):cP C [oD o]=.ok .non:=by
 show (if good 3 (oD o)=true then (if bR (oD o)=true then R.ok D.non else .ex C) else .no)=_
 rw [if_pos (nA h),ig,if_pos h]
theorem DT {C:Addr} {o:Od} (h:okO o=true):otF C [oD o]=.ok (.str (oT o)):=by
 have lb:=dc
 have c1:=El (C:=C) h
 show ay (aE _ _ [some (.val (oD o))])=_
 unfold iy iG ie iL
 have x0:∀ a b c:D,ixD (.tup [a,b,c]) (.int 0)=some a:=fun _ _ _=>rfl
 have x1:∀ a b c:D,ixD (.tup [a,b,c]) (.int 1)=some b:=fun _ _ _=>rfl
 have x2:∀ a b c:D,ixD (.tup [a,b,c]) (.int 2)=some c:=fun _ _ _=>rfl
 have y0:∀ a b:D,ixD (.tup [a,b]) (.int 0)=some a:=fun _ _=>rfl
 have y1:∀ a b:D,ixD (.tup [a,b]) (.int 1)=some b:=fun _ _=>rfl
 have z0:∀ a:D,ixD (.tup [a]) (.int 0)=some a:=fun _=>rfl
 have q1:(([115,97,121]:List Nat)==[115,97,121])=true:=rfl
 have q2:(([103,111]:List Nat)==[115,97,121])=false:=rfl
 have q3:(([103,111]:List Nat)==[103,111])=true:=rfl
 have q4:(([119,105,112,101]:List Nat)==[115,97,121])=false:=rfl
 have q5:(([119,105,112,101]:List Nat)==[103,111])=false:=rfl
 cases o with
 | say x=>
  simp only [okO,Bool.and_eq_true,decide_eq_true_eq] at h
  have a1:bE (.str [115,97,121,32]) (.str x)=some (.str (oT (.say x))):=jN (by simp; omega)
  have c1:cP C [.tup [.str [115,97,121],.str x]]=.ok .non:=c1
  have e:oD (.say x)=.tup [.str [115,97,121],.str x]:=rfl
  rw [e]
  generalize oT (.say x)=w at *
  clear lb h e
  walk_at "run"
 | go r c=>
  simp only [okO,Bool.and_eq_true,decide_eq_true_eq] at h
  have g:=kO h.1 h.2
  have s1:=AC h.1 h.2
  have a1:bE (.str [103,111,32]) (.str (bx r++[32]++bx c))=some (.str (oT (.go r c))):=jN (by simp; omega)
  have c1:cP C [.tup [.str [103,111],.int (r:Int),.int (c:Int)]]=.ok .non:=c1
  have e:oD (.go r c)=.tup [.str [103,111],.int (r:Int),.int (c:Int)]:=rfl
  rw [e]
  generalize oT (.go r c)=w at *
  generalize bx r++[32]++bx c=w2 at *
  clear lb h g e
  walk_at "run"
 | wipe=>
  have c1:cP C [.tup [.str [119,105,112,101]]]=.ok .non:=c1
  have e:oD .wipe=.tup [.str [119,105,112,101]]:=rfl
  have e2:oT .wipe=[119,105,112,101]:=rfl
  rw [e,e2]
  clear lb h e e2
  walk_at "run"
def txL (os:List Od):List Nat:=(os.map fun o=>oT o++[10]).flatten
theorem wW {os:List Od} (h:∀ o ∈ os,okO o=true):(txL os).length<=45 * os.length:=by
 induction os with
 | nil=>simp [txL]
 | cons o os ih=>
  have i:=ih fun p hp=>h p (List.mem_cons_of_mem _ hp)
  have:=wn (h o (List.mem_cons_self ..))
  have e:txL (o::os)=(oT o++[10])++txL os:=rfl
  rw [e,List.length_append,List.length_append,List.length_cons]
  simp; omega
noncomputable def osF (C:Addr):List D->R D:=fun ds=>ay (cB (wR C) (otF C) (ax 1 ds))
theorem mx {C:Addr}:∀ ds:List D,ds.length=1->osF C ds=.no\/ay (cB (wR C) (otF C) (ax 1 ds))=osF C ds:=fun _ _=>.inr rfl
theorem oQ:∀ l:List (List Nat),hV [] l=l.flatten
 | []=>rfl
 | [q]=>by simp [hV]
 | q::r::l=>by
  have ih:=oQ (r::l)
  show q++[]++hV [] (r::l)=_
  rw [ih]; simp
theorem ox:∀ l:List (List Nat),L2.dD (l.map .str)=some l
 | []=>rfl
 | q::l=>by
  have ih:=ox l
  rw [List.map_cons]
  unfold L2.dD
  first | (rw [ih]; rfl) | (simp only [ih]; rfl) | simp [ih]
theorem Gr {C:Addr} {f:Bool} {os:List Od} (h:∀ o ∈ os,okO o=true) (hl:os.length<=10):osF C [.lst f (os.map oD)]=.ok (.str (txL os)):=by
 have lb:=dc
 have tg:=CA (f:=f) h (by omega)
 have c1:wR C [.lst f (os.map oD)]=.ok .non:=by
  show (if tgD (.lst f (os.map oD))=true then (if iA (.lst f (os.map oD))=true then R.ok D.non else .ex C) else .no)=_
  rw [if_pos tg.1,if_pos tg.2]
 have cm:eV (fun _=>R.ok true) (g2 bE (aL 1 (otF C) (ac (fun ρ=>rdV ρ 0) (fun _=>R.ok []))) (fun _=>R.ok (D.str [10]))) (os.map oD) [none]=.ok ((os.map fun o=>oT o++[10]).map .str):=by
  have:=cb (gt:=fun _=>R.ok true) (ge:=g2 bE (aL 1 (otF C) (ac (fun ρ=>rdV ρ 0) (fun _=>R.ok []))) (fun _=>R.ok (D.str [10]))) (fun d=>match odD d with | some o=>.str (oT o++[10]) | none=>.non) [] (os.map oD) none fun d hd=>⟨rfl,by
   obtain ⟨o,ho,rfl⟩:=List.mem_map.1 hd
   have o1:=DT (C:=C) (h o ho)
   have ol:=wn (h o ho)
   have a1:bE (.str (oT o)) (.str [10])=some (.str (oT o++[10])):=jN (by simp; omega)
   rw [kZ]
   show _=R.ok (D.str (oT o++[10]))
   generalize oD o=d at *
   generalize oT o++[10]=w at *
   clear hd ho ol tg c1
   walk_at "run"⟩
  rw [this,List.map_map,List.map_map]
  congr 1
  refine List.map_congr_left fun o _=>?_
  show (match odD (oD o) with | some o=>D.str (oT o++[10]) | none=>.non)=_
  rw [kZ]; rfl
 have tl:=wW h
 have jn:iz (.str []) [.lst false ((os.map fun o=>oT o++[10]).map .str)]=some (.str (txL os)):=by
  simp only [iz,ox,oQ]
  have e:(((os.map fun o=>oT o++[10]).map List.length).sum)=(txL os).length:=by unfold txL; rw [List.length_flatten]
  rw [if_pos (by rw [e]; simp; omega)]; rfl
 have kd:gW "str" (.str [])=true:=rfl
 have it:∀ (f:Bool) (l:List D),bw (.lst f l)=.ok l:=fun _ _=>rfl
 have i1:∀ a0:Option Sl,eT [] [a0]=[none]:=fun _=>rfl
 have z:((os.map fun o=>oT o++[10]).map D.str).length<=sizeLine:=by simp; omega
 show ay (aE _ _ [some (.val (.lst f (os.map oD)))])=_
 unfold gO gP
 generalize (os.map fun o=>oT o++[10]).map D.str=u at *
 generalize os.map oD=v at *
 generalize txL os=w at *
 clear lb tg h hl tl
 walk_at "run"
noncomputable def lnF (C:Addr):List D->R D:=fun ds=>ay (dG C (ax 1 ds))
theorem qZ {C:Addr}:∀ ds:List D,ds.length=1->lnF C ds=.no\/ay (dG C (ax 1 ds))=lnF C ds:=fun _ _=>.inr rfl
def Dr (x:List Nat):Bool:=(x==[]) || (x.getLast?==some 10)
theorem lA {α:Type} (xs:List α):io xs none (some (-1))=xs.dropLast:=by
 unfold io
 have e:HT.sIx xs.length xs.length (some (-1))=xs.length - 1:=by
  show (if (-1:Int) < 0 then ((-1:Int)+(xs.length:Int)).toNat else min (-1:Int).toNat xs.length)=_
  rw [if_pos (by omega)]; omega
 rw [e,HT.sIx_none,List.drop_zero,Nat.sub_zero,List.dropLast_eq_take]
theorem AJ {C:Addr} {x:List Nat} (hx:x.length<=1000):lnF C [.str x]=if Dr x=true then .ok (.lst false ((aU 10 x).dropLast.map .str)) else .ex C:=by
 have sp:ju (.str x) [.str [10]]=some (.lst false ((aU 10 x).map .str)):=if_pos (by omega)
 have kd:gW "str" (.str x)=true:=rfl
 have ty:fX (fun x=>x=="str") (.str x)=.ok (.bl true):=rfl
 have en:uw (.str x) [.str [10]]=some (.bl (x.getLast?==some 10)):=rfl
 have ng1:rR (.int 1)=.ok (.int (-1)):=rfl
 have cu:io ((aU 10 x).map D.str) none (some (-1))=(aU 10 x).dropLast.map .str:=by rw [lA,List.map_dropLast]
 show ay (aE _ _ [some (.val (.str x))])=_
 unfold kB lj Dr
 generalize (aU 10 x).dropLast.map D.str=u at *
 generalize (aU 10 x).map D.str=v at *
 clear hx
 cases h1:(x==[]) with
 | true=>rw [Bool.true_or,if_pos rfl]; walk_at "run"
 | false=>
  rw [Bool.false_or]
  cases h2:(x.getLast?==some 10) with
  | true=>rw [h2] at en; rw [if_pos rfl]; walk_at "run"
  | false=>rw [h2] at en; rw [if_neg (by decide)]; walk_at "run"
noncomputable def roF (C6 C7:Addr):List D->R D:=fun ds=>ay (cM ooF pK (otF C6) C7 (ax 2 ds))
theorem ot {C6 C7:Addr}:∀ ds:List D,ds.length=1->roF C6 C7 ds=.no\/ay (cM ooF pK (otF C6) C7 (ax 2 ds))=roF C6 C7 ds:=fun _ _=>.inr rfl
theorem FR {C6 C7:Addr} {o:Od} (h:okO o=true):roF C6 C7 [.str (oT o)]=.ok (oD o):=by
 have o1:=EK (x:=oT o) (by have:=wn h; omega)
 rw [BA h] at o1
 have ho:pK [oD o]=.ok (.bl true):=by
  show (if good 3 (oD o)=true then R.ok (D.bl (bR (oD o))) else .no)=_
  rw [if_pos (nA h),ig,h]
 have t1:=DT (C:=C6) h
 have n5:∀ z:List Nat,(z==z)=true:=fun z=>by simp
 show ay (aE _ _ [some (.val (.str (oT o))),none])=_
 unfold ip ic iU
 generalize oD o=d at *
 generalize oT o=w at *
 clear h
 walk_at "run"
noncomputable def rsF (C6 C7:Addr):List D->R D:=fun ds=>ay (cD (lnF C7) (roF C6 C7) (ax 1 ds))
theorem ma {C6 C7:Addr}:∀ ds:List D,ds.length=1->rsF C6 C7 ds=.no\/ay (cD (lnF C7) (roF C6 C7) (ax 1 ds))=rsF C6 C7 ds:=fun _ _=>.inr rfl
theorem CL {ge:Ev->R D} {d:D} {ds:List D} {a:Option Sl}:cI (fZ 0) (fun _=>R.ok true) ge (d::ds) [a]=(ge [some (.val d)]>>=fun x=>cI (fZ 0) (fun _=>R.ok true) ge ds [some (.val d)]>>=fun xs=>.ok (x::xs)):=rfl
theorem td:∀ {os:List Od},(∀ o ∈ os,okO o=true)->aU 10 (txL os)=os.map oT++[[]]
 | [],_=>rfl
 | o::os,h=>by
  have ih:=td fun p hp=>h p (List.mem_cons_of_mem _ hp)
  have e:txL (o::os)=oT o++10::txL os:=by unfold txL; simp
  rw [e,dj _ (AW (h o (List.mem_cons_self ..))),ih]; rfl
theorem Ay:∀ os:List Od,Dr (txL os)=true
 | []=>rfl
 | o::os=>by
  have ih:=Ay os
  have e:txL (o::os)=(oT o++[10])++txL os:=rfl
  rw [e]
  unfold Dr at ih ⊢
  cases h:txL os with
  | nil=>simp
  | cons c r=>rw [h] at ih; simp at ih ⊢; exact ih
theorem tM {C6 C7:Addr}:∀ (os:List Od) (a:Option Sl),(∀ o ∈ os,okO o=true)->cI (fZ 0) (fun _=>R.ok true) (aL 1 (roF C6 C7) (ac (fun ρ=>rdV ρ 0) (fun _=>R.ok []))) ((os.map oT).map .str) [a]=.ok (os.map oD)
 | [],a,_=>rfl
 | o::os,a,h=>by
  have ih:=tM (C6:=C6) (C7:=C7) os (some (.val (.str (oT o)))) fun y hy=>h y (List.mem_cons_of_mem _ hy)
  have e1:(aL 1 (roF C6 C7) (ac (fun ρ=>rdV ρ 0) (fun _=>R.ok []))) [some (.val (.str (oT o)))]=roF C6 C7 [.str (oT o)]:=by
   clear ih; walk_at "run"
  rw [List.map_cons,List.map_cons,CL,e1,FR (h o (List.mem_cons_self ..)),R.ok_bind,ih]; rfl
theorem Go {C6 C7:Addr} {os:List Od} (h:∀ o ∈ os,okO o=true) (hl:os.length<=10):rsF C6 C7 [.str (txL os)]=.ok (.lst false (os.map oD)):=by
 have lb:=dc
 have tl:=wW h
 have l1:=AJ (C:=C7) (x:=txL os) (by omega)
 rw [Ay,if_pos rfl,td h] at l1
 have ed:(os.map oT++[[]]).dropLast=os.map oT:=by simp
 rw [ed] at l1
 have c:=tM (C6:=C6) (C7:=C7) os none h
 have it:∀ (f:Bool) (l:List D),bw (.lst f l)=.ok l:=fun _ _=>rfl
 have i1:∀ a0:Option Sl,eT [] [a0]=[none]:=fun _=>rfl
 have z:((os.map oT).map D.str).length<=sizeLine:=by simp; omega
 show ay (aE _ _ [some (.val (.str (txL os)))])=_
 unfold gU
 generalize (os.map oT).map D.str=u at *
 generalize os.map oD=v at *
 generalize txL os=w at *
 clear lb tl h hl ed
 walk_at "run"
end Q70
namespace Q96
open L2 Q Q70
open PySem (sizeLine Addr)
noncomputable def gC (ah aK:List D->R D):Ev->O:=(jo (aL 1 ah (ac (fun ρ=>rdV ρ 0) (fun _=>R.ok []))))
noncomputable def gN (ah aK:List D->R D):Ev->O:=(Bd 1 (eU (aH bw (g2 ixD (fun ρ=>rdV ρ 0) (fun _=>R.ok (D.int 1)))) [] (fun _=>R.ok true) (qO [(fun _=>R.ok (D.str [124])),(aH vA (fun ρ=>rdV ρ 0)),(fun _=>R.ok (D.str [124,10]))])))
noncomputable def gB (ah aK:List D->R D):Ev->O:=(bO (g2 bE (g2 bE (fv "str" iz (fun _=>R.ok (D.str [])) (ac (fun ρ=>rdV ρ 1) (fun _=>R.ok []))) (aL 2 aK (ac (g2 ixD (g2 ixD (fun ρ=>rdV ρ 0) (fun _=>R.ok (D.int 2))) (fun _=>R.ok (D.int 0))) (ac (g2 ixD (g2 ixD (fun ρ=>rdV ρ 0) (fun _=>R.ok (D.int 2))) (fun _=>R.ok (D.int 1))) (fun _=>R.ok []))))) (fun _=>R.ok (D.str [10]))))
noncomputable def cC (ah aK:List D->R D):Ev->O:=(aE (gC ah aK) (aE (gN ah aK) (B4 1 (aE (gB ah aK) oNx))))
noncomputable def eK (aB:List D->R D):Ev->O:=(oIf (gB2 ltD (gOf fc (ac (fun ρ=>rdV ρ 0) (fun _=>R.ok []))) (fun _=>R.ok (D.int 2))) (aE (bO (fun _=>R.ok D.non)) oNx) oNx)
noncomputable def eE (aB:List D->R D):Ev->O:=(Bd 1 (eU (aH bw (gSl (fun ρ=>rdV ρ 0) (fun _=>R.ok none) (dE (aH rR (fun _=>R.ok (D.int 1)))))) [] (fun _=>R.ok true) (gSl (fun ρ=>rdV ρ 0) (dE (fun _=>R.ok (D.int 1))) (dE (aH rR (fun _=>R.ok (D.int 1)))))))
noncomputable def eO (aB:List D->R D):Ev->O:=(bO (aH mkT (ac (gOf fc (ac (g2 ixD (fun ρ=>rdV ρ 1) (fun _=>R.ok (D.int 0))) (fun _=>R.ok []))) (ac (gOf ko (ac (fun ρ=>rdV ρ 1) (fun _=>R.ok []))) (ac (aL 1 aB (ac (g2 ixD (fun ρ=>rdV ρ 0) (aH rR (fun _=>R.ok (D.int 1)))) (fun _=>R.ok []))) (fun _=>R.ok []))))))
noncomputable def bQ (aB:List D->R D):Ev->O:=(aE (eK aB) (aE (eE aB) (B4 1 (aE (eO aB) oNx))))
noncomputable def gS (bd aY:List D->R D) (aW ak:List D->R D) (aO:Addr):Ev->O:=(eB 1 (aL 1 aY (ac (aL 1 bd (ac (fun ρ=>rdV ρ 0) (fun _=>R.ok []))) (fun _=>R.ok []))))
noncomputable def gK (bd aY:List D->R D) (aW ak:List D->R D) (aO:Addr):Ev->O:=(oIf (mZ (gBn (aH iW (aL 1 aW (ac (fun ρ=>rdV ρ 1) (fun _=>R.ok []))))) (gB2 neF (aL 1 ak (ac (fun ρ=>rdV ρ 1) (fun _=>R.ok []))) (fun ρ=>rdV ρ 0))) (aE (eJ aO (ac (fun _=>R.ok (D.str [110,111,32,115,99,114,101,101,110,32,105,115,32,119,114,105,116,116,101,110,32,115,111])) (fun _=>R.ok []))) oNx) oNx)
noncomputable def gG (bd aY:List D->R D) (aW ak:List D->R D) (aO:Addr):Ev->O:=(bO (fun ρ=>rdV ρ 1))
noncomputable def cE (bd aY:List D->R D) (aW ak:List D->R D) (aO:Addr):Ev->O:=(aE (gS bd aY aW ak aO) (aE (gK bd aY aW ak aO) (aE (gG bd aY aW ak aO) oNx)))
def scT (rows:List (List Nat)) (r c:Nat):List Nat:=(rows.map fun x=>[124]++x++[124,10]).flatten++(bx r++[32]++bx c)++[10]
noncomputable def sxF (C:Addr):List D->R D:=fun ds=>ay (cC (cH C) stF (ax 2 ds))
theorem zQz9 {C:Addr}:∀ ds:List D,ds.length=1->sxF C ds=.no\/ay (cC (cH C) stF (ax 2 ds))=sxF C ds:=fun _ _=>.inr rfl
theorem tz {rows:List (List Nat)} {w:Nat} (h:∀ x ∈ rows,x.length=w):(rows.map fun x=>[124]++x++[124,10]).flatten.length=(w+3) * rows.length:=by
 induction rows with
 | nil=>rfl
 | cons x rows ih=>
  have i:=ih fun y hy=>h y (List.mem_cons_of_mem _ hy)
  have hx:=h x (List.mem_cons_self ..)
  rw [List.map_cons,List.flatten_cons,List.length_append,i,List.length_cons,Nat.mul_succ]
  simp; omega
theorem Eo {C:Addr} {wd:Nat} {rows:List (List Nat)} {r c:Nat} (hw:wd<=40) (hm:rows.length<=12) (hl:∀ x ∈ rows,x.length=wd) (hr:r<=11) (hc:c<=40) (hk:cH C [scr wd rows r c]=.ok .non):sxF C [scr wd rows r c]=.ok (.str (scT rows r c)):=by
 have lb:=dc
 have s1:=AC hr hc
 have g:=kO hr hc
 have fl:=tz hl
 have fl2:(wd+3) * rows.length<=43 * 12:=Nat.mul_le_mul (by omega) hm
 have x1:ixD (scr wd rows r c) (.int 1)=some (.tup (rows.map .str)):=rfl
 have x2:ixD (scr wd rows r c) (.int 2)=some (.tup [.int (r:Int),.int (c:Int)]):=rfl
 have y0:∀ a b:D,ixD (.tup [a,b]) (.int 0)=some a:=fun _ _=>rfl
 have y1:∀ a b:D,ixD (.tup [a,b]) (.int 1)=some b:=fun _ _=>rfl
 have it:∀ l:List D,bw (.tup l)=.ok l:=fun _=>rfl
 have i1:∀ a0 a1:Option Sl,eT [] [a0,a1]=[none]:=fun _ _=>rfl
 have cm:eV (fun _=>R.ok true) (qO [(fun _=>R.ok (D.str [124])),(aH vA (fun ρ=>rdV ρ 0)),(fun _=>R.ok (D.str [124,10]))]) (rows.map .str) [none]=.ok ((rows.map fun x=>[124]++x++[124,10]).map .str):=by
  have:=cb (gt:=fun _=>R.ok true) (ge:=qO [(fun _=>R.ok (D.str [124])),(aH vA (fun ρ=>rdV ρ 0)),(fun _=>R.ok (D.str [124,10]))]) (fun d=>match d with | .str x=>.str ([124]++x++[124,10]) | d=>d) [] (rows.map .str) none fun d hd=>⟨rfl,by
   obtain ⟨x,hx,rfl⟩:=List.mem_map.1 hd
   have hxl:=hl x hx
   have b1:([124]:List Nat).length<=sizeLine:=by simp; omega
   have b2:([124]++x).length<=sizeLine:=by simp; omega
   have b3:([124]++x++[124,10]).length<=sizeLine:=by simp; omega
   have f1:vA (.str x)=.ok (.str x):=rfl
   show jQ _ [] _=R.ok (D.str ([124]++x++[124,10]))
   show (if ([]++[124]:List Nat).length<=sizeLine then (if (([]++[124]:List Nat)++x).length<=sizeLine then (if ((([]++[124]:List Nat)++x)++[124,10]).length<=sizeLine then R.ok (D.str ((([]++[124]:List Nat)++x)++[124,10])) else .no) else .no) else .no)=_
   rw [List.nil_append,if_pos b1,if_pos b2,if_pos b3]⟩
  rw [this,List.map_map,List.map_map]; rfl
 have z:((rows.map fun x=>[124]++x++[124,10]).map D.str).length<=sizeLine:=by simp; omega
 have jn:iz (.str []) [.lst false ((rows.map fun x=>[124]++x++[124,10]).map .str)]=some (.str (rows.map fun x=>[124]++x++[124,10]).flatten):=by
  simp only [iz,ox,oQ]
  rw [if_pos]
  rw [<- List.length_flatten]; simp only [List.length_nil,Nat.mul_zero]; omega
 have kd:gW "str" (.str [])=true:=rfl
 have a1:bE (.str (rows.map fun x=>[124]++x++[124,10]).flatten) (.str (bx r++[32]++bx c))=some (.str ((rows.map fun x=>[124]++x++[124,10]).flatten++(bx r++[32]++bx c))):=jN (by simp only [List.length_append,List.length_cons,List.length_nil]; omega)
 have a2:bE (.str ((rows.map fun x=>[124]++x++[124,10]).flatten++(bx r++[32]++bx c))) (.str [10])=some (.str (scT rows r c)):=jN (by simp only [List.length_append,List.length_cons,List.length_nil]; omega)
 show ay (aE _ _ [some (.val (scr wd rows r c)),none])=_
 unfold gC gN gB
 generalize scr wd rows r c=d at *
 generalize scT rows r c=w5 at *
 generalize (rows.map fun x=>[124]++x++[124,10]).flatten++(bx r++[32]++bx c)=w4 at *
 generalize (rows.map fun x=>[124]++x++[124,10]).flatten=w3 at *
 generalize (rows.map fun x=>[124]++x++[124,10]).map D.str=u at *
 generalize bx r++[32]++bx c=w2 at *
 generalize rows.map D.str=v at *
 clear lb g fl fl2 hw hm hl hr hc
 walk_at "run"
end Q96
namespace Q96
open L2 Q Q70
open PySem (sizeLine Addr)
noncomputable def EH:List D->R D:=fun ds=>ay (bQ soF (ax 2 ds))
theorem jk:∀ ds:List D,ds.length=1->EH ds=.no\/ay (bQ soF (ax 2 ds))=EH ds:=fun _ _=>.inr rfl
theorem mU {x y:List Nat}:∀ {rows:List (List Nat)},(∀ z ∈ rows,10 ∉ z)->10 ∉ y->aU 10 ((rows.map fun x=>[124]++x++[124,10]).flatten++y++[10])=(rows.map fun x=>[124]++x++[124])++[y]++[[]]
 | [],_,hy=>by
  show aU 10 (y++[10])=_
  rw [dj _ hy]; rfl
 | z::rows,h,hy=>by
  have ih:=mU (x:=x) (rows:=rows) (fun w hw=>h w (List.mem_cons_of_mem _ hw)) hy
  have hz:=h z (List.mem_cons_self ..)
  have e:((z::rows).map fun x=>[124]++x++[124,10]).flatten++y++[10]=([124]++z++[124])++10::((rows.map fun x=>[124]++x++[124,10]).flatten++y++[10]):=by simp
  rw [e,dj _ (by simp [hz]),ih]; rfl
theorem CP (z:List Nat):io ([124]++z++[124]) (some 1) (some (-1))=z:=by
 unfold io
 have e1:HT.sIx ([124]++z++[124]).length 0 (some 1)=1:=by
  show (if (1:Int) < 0 then ((1:Int)+(([124]++z++[124]).length:Int)).toNat else min (1:Int).toNat ([124]++z++[124]).length)=1
  rw [if_neg (by omega)]; simp
 have e2:HT.sIx ([124]++z++[124]).length ([124]++z++[124]).length (some (-1))=z.length+1:=by
  show (if (-1:Int) < 0 then ((-1:Int)+(([124]++z++[124]).length:Int)).toNat else min (-1:Int).toNat ([124]++z++[124]).length)=_
  rw [if_pos (by omega)]; simp; omega
 rw [e1,e2]
 simp
theorem DZ (f:Bool) (l:List D) (d:D):ixD (.lst f (l++[d])) (.int (-1))=some d:=by
 show atI (l++[d]) (-1)=some d
 have e:ixN (l++[d]).length (-1)=some l.length:=by
  unfold ixN
  rw [if_neg (by omega),List.length_append,List.length_singleton,if_pos (by omega)]
  congr 1; omega
 unfold atI; rw [e]
 show (l++[d])[l.length]?=some d
 simp
theorem Gs {wd:Nat} {rows:List (List Nat)} {r c:Nat} (hm:rows.length<=12) (h0:0 < rows.length) (hw:wd<=40) (hl:∀ x ∈ rows,x.length=wd) (hr:r<=11) (hc:c<=40):EH [.lst false (((rows.map fun x=>[124]++x++[124])++[bx r++[32]++bx c]).map .str)]=.ok (scr wd rows r c):=by
 have lb:=dc
 have g:=kO hr hc
 have so:=Ah (x:=bx r++[32]++bx c) (by simp; omega)
 rw [xB hr hc] at so
 have em:(((rows.map fun x=>[124]++x++[124])++[bx r++[32]++bx c]).map D.str)=(rows.map fun x=>[124]++x++[124]).map D.str++[D.str (bx r++[32]++bx c)]:=by rw [List.map_append]; rfl
 rw [em]
 have ll:((rows.map fun x=>[124]++x++[124]).map D.str++[D.str (bx r++[32]++bx c)]).length=rows.length+1:=by simp
 have q:decide (((rows.length+1:Nat):Int) < 2)=false:=by simp; omega
 have ng1:rR (.int 1)=.ok (.int (-1)):=rfl
 have cu:io ((rows.map fun x=>[124]++x++[124]).map D.str++[D.str (bx r++[32]++bx c)]) none (some (-1))=(rows.map fun x=>[124]++x++[124]).map D.str:=by rw [lA]; simp
 have la:=DZ false ((rows.map fun x=>[124]++x++[124]).map D.str) (.str (bx r++[32]++bx c))
 have cm:eV (fun _=>R.ok true) (gSl (fun ρ=>rdV ρ 0) (dE (fun _=>R.ok (D.int 1))) (dE (aH rR (fun _=>R.ok (D.int 1))))) ((rows.map fun x=>[124]++x++[124]).map D.str) [none]=.ok (rows.map .str):=by
  have:=cb (gt:=fun _=>R.ok true) (ge:=gSl (fun ρ=>rdV ρ 0) (dE (fun _=>R.ok (D.int 1))) (dE (aH rR (fun _=>R.ok (D.int 1))))) (fun d=>match d with | .str x=>.str (io x (some 1) (some (-1))) | d=>d) [] ((rows.map fun x=>[124]++x++[124]).map D.str) none fun d hd=>⟨rfl,by
   obtain ⟨x,hx,rfl⟩:=List.mem_map.1 hd
   clear hx hd la cu ll em so
   walk_at "run"⟩
  rw [this,List.map_map,List.map_map]
  refine congrArg R.ok (List.map_congr_left fun o _=>?_)
  show D.str (io ([124]++o++[124]) (some 1) (some (-1)))=.str o
  rw [CP]
 obtain ⟨a,rs,ea⟩:∃ a rs,rows=a::rs:=by
  cases rows with
  | nil=>simp at h0
  | cons a rs=>exact ⟨a,rs,rfl⟩
 have x0:ixD (.lst false (rows.map .str)) (.int 0)=some (.str a):=by rw [ea]; exact F3 (k:=0) rfl
 have al:(a.length:Int)=(wd:Int):=by rw [hl a (by rw [ea]; simp)]
 have tu:ko [.lst false (rows.map .str)]=some (.tup (rows.map .str)):=rfl
 have t3:∀ a b c:D,mkT [a,b,c]=.ok (.tup [a,b,c]):=fun _ _ _=>m_t (by simp)
 have it:∀ (f:Bool) (l:List D),bw (.lst f l)=.ok l:=fun _ _=>rfl
 have i1:∀ a0 a1:Option Sl,eT [] [a0,a1]=[none]:=fun _ _=>rfl
 have z:(rows.map D.str).length<=sizeLine:=by simp; omega
 have es:scr wd rows r c=.tup [.int (wd:Int),.tup (rows.map .str),.tup [.int (r:Int),.int (c:Int)]]:=rfl
 rw [es]
 show ay (aE _ _ [some (.val (.lst false ((rows.map fun x=>[124]++x++[124]).map D.str++[D.str (bx r++[32]++bx c)]))),none])=_
 unfold eK eE eO
 generalize (rows.map fun x=>[124]++x++[124]).map D.str++[D.str (bx r++[32]++bx c)]=u1 at *
 generalize (rows.map fun x=>[124]++x++[124]).map D.str=u2 at *
 generalize rows.map D.str=u3 at *
 generalize bx r++[32]++bx c=w at *
 clear lb g hm h0 hw hl hr hc em es ea
 walk_at "run"
noncomputable def rdF (C1 C7:Addr):List D->R D:=fun ds=>ay (cE (lnF C7) EH fF (sxF C1) C7 (ax 2 ds))
theorem mC {C1 C7:Addr}:∀ ds:List D,ds.length=1->rdF C1 C7 ds=.no\/ay (cE (lnF C7) EH fF (sxF C1) C7 (ax 2 ds))=rdF C1 C7 ds:=fun _ _=>.inr rfl
theorem tR (n c:Nat) (hc:c < 48):c ∉ bx n:=Fc (hU n) c hc
theorem GK {C1 C7:Addr} {wd:Nat} {rows:List (List Nat)} {r c:Nat} (hm:rows.length<=12) (h0:0 < rows.length) (hw:wd<=40) (hl:∀ x ∈ rows,x.length=wd) (hf:∀ x ∈ rows,10 ∉ x) (hr:r<=11) (hc:c<=40) (hk:cH C1 [scr wd rows r c]=.ok .non) (hs:fF [scr wd rows r c]=.ok (.bl true)):rdF C1 C7 [.str (scT rows r c)]=.ok (scr wd rows r c):=by
 have g:=kO hr hc
 have fl:=tz hl
 have fl2:(wd+3) * rows.length<=43 * 12:=Nat.mul_le_mul (by omega) hm
 have ln:(scT rows r c).length<=1000:=by
  unfold scT
  simp only [List.length_append,List.length_cons,List.length_nil]; omega
 have l1:=AJ (C:=C7) (x:=scT rows r c) ln
 have eb:Dr (scT rows r c)=true:=by
  unfold Dr scT
  rw [List.getLast?_concat]; simp
 have sp:aU 10 (scT rows r c)=(rows.map fun x=>[124]++x++[124])++[bx r++[32]++bx c]++[[]]:=by
  have d1:=tR r 10 (by decide)
  have d2:=tR c 10 (by decide)
  exact mU (x:=[]) hf (by simp [d1,d2])
 rw [eb,if_pos rfl,sp] at l1
 have ed:((rows.map fun x=>[124]++x++[124])++[bx r++[32]++bx c]++[[]]).dropLast=(rows.map fun x=>[124]++x++[124])++[bx r++[32]++bx c]:=by simp
 rw [ed] at l1
 have s1:=Gs hm h0 hw hl hr hc
 have t1:=Eo (C:=C1) hw hm hl hr hc hk
 have n5:∀ z:List Nat,(z==z)=true:=fun z=>by simp
 show ay (aE _ _ [some (.val (.str (scT rows r c))),none])=_
 unfold gS gK gG
 generalize scr wd rows r c=d at *
 generalize scT rows r c=w at *
 generalize ((rows.map fun x=>[124]++x++[124])++[bx r++[32]++bx c]).map D.str=u at *
 clear g fl fl2 ln eb sp ed hm h0 hw hl hf hr hc hk
 walk_at "run"
end Q96
namespace Q
open L2
open PySem (sizeLine Addr)
noncomputable def gY (C_Pad:Addr) (ah:List D->R D):Ev->O:=(jo (aL 1 ah (ac (fun ρ=>rdV ρ 1) (fun _=>R.ok []))))
noncomputable def ki (C_Pad:Addr) (ah:List D->R D):Ev->O:=(uK C_Pad 0 0 (zT (ac (aH mkT (ac (fun _=>R.ok (D.str [109,97,100,101])) (ac (fun ρ=>rdV ρ 1) (ac (fun _=>R.ok (D.int 0)) (fun _=>R.ok []))))) (fun _=>R.ok []))))
noncomputable def kS (C_Pad:Addr) (ah:List D->R D):Ev->O:=(uK C_Pad 0 1 (zT (fun _=>R.ok [])))
noncomputable def jD (C_Pad:Addr) (ah:List D->R D):Ev->O:=(aE (gY C_Pad ah) (aE (ki C_Pad ah) (aE (kS C_Pad ah) oNx)))
noncomputable def jz (C_Pad:Addr):Ev->O:=(bO (g2 ixD (pA C_Pad 0 0 (aH rR (fun _=>R.ok (D.int 1)))) (fun _=>R.ok (D.int 1))))
noncomputable def iw (C_Pad:Addr):Ev->O:=(aE (jz C_Pad) oNx)
noncomputable def jG (C_Pad:Addr):Ev->O:=(bO (g2 ixD (pA C_Pad 0 0 (aH rR (fun _=>R.ok (D.int 1)))) (fun _=>R.ok (D.int 2))))
noncomputable def iP (C_Pad:Addr):Ev->O:=(aE (jG C_Pad) oNx)
noncomputable def gD (C_Pad:Addr) (M_Pad_spent:MF):Ev->O:=(wl C_Pad 0 0 (aH mkT (ac (fun ρ=>rdV ρ 1) (ac (fun ρ=>rdV ρ 2) (ac (g2 bE (cT C_Pad 0 M_Pad_spent) (fun ρ=>rdV ρ 3)) (fun _=>R.ok []))))))
noncomputable def gI (C_Pad:Addr) (M_Pad_spent:MF):Ev->O:=(uK C_Pad 0 1 (zT (fun _=>R.ok [])))
noncomputable def fD (C_Pad:Addr) (M_Pad_spent:MF):Ev->O:=(aE (gD C_Pad M_Pad_spent) (aE (gI C_Pad M_Pad_spent) oNx))
noncomputable def lL (C_Pad:Addr) (M_Pad_sheet:MF) (M_Pad_step_to:MF) (M_Pad_spent:MF) (gL aQ:List D->R D):Ev->O:=(eB 2 (aL 2 gL (ac (cT C_Pad 0 M_Pad_sheet) (ac (fun ρ=>rdV ρ 1) (fun _=>R.ok [])))))
noncomputable def pw (C_Pad:Addr) (M_Pad_sheet:MF) (M_Pad_step_to:MF) (M_Pad_spent:MF) (gL aQ:List D->R D):Ev->O:=(ux C_Pad 0 3 M_Pad_step_to (ac (fun _=>R.ok (D.str [100,111])) (ac (fun ρ=>rdV ρ 2) (ac (aL 1 aQ (ac (fun ρ=>rdV ρ 1) (fun _=>R.ok []))) (fun _=>R.ok [])))))
noncomputable def qp (C_Pad:Addr) (M_Pad_sheet:MF) (M_Pad_step_to:MF) (M_Pad_spent:MF) (gL aQ:List D->R D):Ev->O:=(xI (cT C_Pad 0 M_Pad_spent))
noncomputable def mT (C_Pad:Addr) (M_Pad_sheet:MF) (M_Pad_step_to:MF) (M_Pad_spent:MF) (gL aQ:List D->R D):Ev->O:=(aE (lL C_Pad M_Pad_sheet M_Pad_step_to M_Pad_spent gL aQ) (aE (pw C_Pad M_Pad_sheet M_Pad_step_to M_Pad_spent gL aQ) (aE (qp C_Pad M_Pad_sheet M_Pad_step_to M_Pad_spent gL aQ) oNx)))
noncomputable def hG (C_Pad bB:Addr):Ev->O:=(oIf (gB2 eqF (nY C_Pad 0 0) (fun _=>R.ok (D.int 1))) (aE (eJ bB (ac (fun _=>R.ok (D.str [116,104,101,114,101,32,105,115,32,110,111,32,115,116,101,112,32,116,104,97,116,32,99,97,110,32,98,101,32,116,97,107,101,110,32,98,97,99,107])) (fun _=>R.ok []))) oNx) oNx)
noncomputable def lz (C_Pad bB:Addr):Ev->O:=(vk C_Pad 0 0 1)
noncomputable def lR (C_Pad bB:Addr):Ev->O:=(wl C_Pad 0 1 (fun ρ=>rdV ρ 1))
noncomputable def kg (C_Pad bB:Addr):Ev->O:=(xI (g2 ixD (fun ρ=>rdV ρ 1) (fun _=>R.ok (D.int 0))))
noncomputable def jr (C_Pad bB:Addr):Ev->O:=(aE (hG C_Pad bB) (aE (lz C_Pad bB) (aE (lR C_Pad bB) (aE (kg C_Pad bB) oNx))))
theorem fN {m:Bool} {C p:Addr} {fs:List (Nat × Fd)} {ρ:Ev} {i:Nat} (h:ρ[i]?=some (some (.obj m C p fs))):oO C ρ i=.ok fs:=by
 unfold oO; rw [h]; exact if_pos rfl
theorem gZ {C p:Addr} {fs:List (Nat × Fd)} {ρ:Ev} {i:Nat} (h:ρ[i]?=some (some (.obj true C p fs))):nq C ρ i=.ok (p,fs):=by
 unfold nq; rw [h]; exact if_pos rfl
def dZ:List Nat:=[109,97,100,101]
def wDo:List Nat:=[100,111]
def bC (sts tk:List D):List (Nat × Fd):=[(0,.own sts),(1,.own tk)]
def st3 (a b:D) (c:Int):D:=.tup [a,b,.int c]
def Ek:List (Nat × Fd)->Option (List D × List D)
 | [(0,.own a),(1,.own b)]=>some (a,b)
 | _=>none
theorem Df {fs:List (Nat × Fd)} {a b:List D} (h:Ek fs=some (a,b)):fs=bC a b:=by
 unfold Ek at h
 split at h
 ·cases h; rfl
 ·cases h
def t3D:D->Option (D × D × Int)
 | .tup [a,b,.int c]=>some (a,b,c)
 | _=>none
theorem Fa {d a b:D} {c:Int} (h:t3D d=some (a,b,c)):d=st3 a b c:=by
 unfold t3D at h
 split at h
 ·cases h; rfl
 ·cases h
def uX (sts:List D):Option (D × D × Int):=sts.getLast?.bind t3D
theorem zj {sts:List D} {a b:D} {c:Int} (h:uX sts=some (a,b,c)):∃ l,sts=l++[st3 a b c]:=by
 unfold uX at h
 cases q:sts.getLast? with
 | none=>rw [q] at h; cases h
 | some d=>
  rw [q] at h
  have e:=Fa h
  subst e
  exact List.getLast?_eq_some_iff.1 q
theorem xJ (l:List D) (a b:D) (c:Int):uX (l++[st3 a b c])=some (a,b,c):=by
 unfold uX; rw [List.getLast?_concat]; rfl
theorem xU (l:List D) (d:D):ixD (.lst false (l++[d])) (.int (-1))=some d:=by
 show atI (l++[d]) (-1)=some d
 have e:ixN (l++[d]).length (-1)=some l.length:=by
  unfold ixN
  rw [if_neg (by decide),if_pos (by simp; omega)]
  simp
  omega
 unfold atI
 rw [e]
 simp
section
variable {Cs Co Cr Cb Cp:Addr}
def mz (Cs:Addr):MF:=fun fs ds=>match fs,ds with
 | [],[d]=>(match cH Cs [d] with
  | .ok _=>.ok .non (bC [st3 (.str dZ) d 0] [])
  | .ex E=>.ex E
  | .no=>.no)
 | _,_=>.no
def xY (k:List D->List D->D->D->Int->List D->RM):MF:=fun fs ds=>match Ek fs with
 | none=>.no
 | some (sts,tk)=>(match uX sts with
  | none=>.no
  | some (a,b,c)=>k sts tk a b c ds)
def fU:MF:=xY fun _ _ _ b _ ds=>match ds with
 | []=>.rd b
 | _=>.no
def eI:MF:=xY fun _ _ _ _ c ds=>match ds with
 | []=>.rd (.int c)
 | _=>.no
def B2:MF:=xY fun sts _ _ _ c ds=>match ds with
 | [a,b,.int p]=>if sts.length < 1000 then .ok .non (bC (sts++[st3 a b (c+p)]) []) else .no
 | _=>.no
def doM (Cs Co Cr:Addr):MF:=xY fun sts _ _ b c ds=>match ds with
 | [o]=>(match rK Cs Co Cr [b,o] with
  | .ok b'=>(match ocF [o] with
   | .ok (.int p)=>if sts.length < 1000 then .ok (.int (c+p)) (bC (sts++[st3 (.str wDo) b' (c+p)]) []) else .no
   | _=>.no)
  | .ex E=>.ex E
  | .no=>.no)
 | _=>.no
def oB (Cb:Addr):MF:=xY fun sts tk a b c ds=>match ds with
 | []=>if sts.length=1 then .ex Cb else if tk.length < 1000 then .ok a (bC sts.dropLast (tk++[st3 a b c])) else .no
 | _=>.no
theorem eY (k:List D->List D->D->D->Int->List D->RM) (l tk:List D) (a b:D) (c:Int) (ds:List D):xY k (bC (l++[st3 a b c]) tk) ds=k (l++[st3 a b c]) tk a b c ds:=by
 unfold xY
 have e:Ek (bC (l++[st3 a b c]) tk)=some (l++[st3 a b c],tk):=rfl
 rw [e]
 dsimp only
 rw [xJ]
theorem kD {g:Ev->O} {n:Nat} {k:List D->List D->D->D->Int->List D->RM} (h:∀ p l tk a b c ds,match k (l++[st3 a b c]) tk a b c ds with
  | .ok d fs'=>∃ ρ',ρ'[0]?=some (some (.obj true Cp p fs'))/\(g (cU true Cp p (bC (l++[st3 a b c]) tk) n ds)=.re d ρ'\/(g (cU true Cp p (bC (l++[st3 a b c]) tk) n ds)=.nx ρ'/\d=.non))
  | .rd d=>g (cU false Cp p (bC (l++[st3 a b c]) tk) n ds)=.rt d
  | .ex E=>∃ ρ',g (cU false Cp p (bC (l++[st3 a b c]) tk) n ds)=.ex E ρ'
  | .no=>True):dA Cp g n (xY k):=by
 intro p fs ds
 cases q:Ek fs with
 | none=>simp only [xY,q]
 | some z=>
  obtain ⟨sts,tk⟩:=z
  have e:=Df q
  subst e
  cases q2:uX sts with
  | none=>simp only [xY,q,q2]
  | some z2=>
   obtain ⟨a,b,c⟩:=z2
   obtain ⟨l,rfl⟩:=zj q2
   have:=h p l tk a b c ds
   rw [eY]
   exact this
theorem fl0 (sts tk:List D):fldL (bC sts tk) 0=.ok sts:=rfl
theorem pk0 (sts tk x:List D):nu 0 (.own x) (bC sts tk)=bC x tk:=rfl
theorem pk1 (sts tk x:List D):nu 1 (.own x) (bC sts tk)=bC sts x:=rfl
theorem CD:dA Cp (iw Cp) 1 fU:=by
 refine kD fun p l tk a b c ds=>?_
 cases ds with
 | cons _ _=>trivial
 | nil=>
  have l1:=xU l (st3 a b c)
  have f0:=fl0 (l++[st3 a b c]) tk
  have o0:∀ r,oO Cp (some (.obj false Cp p (bC (l++[st3 a b c]) tk))::r) 0=.ok (bC (l++[st3 a b c]) tk):=fun r=>fN rfl
  have ng1:rR (.int 1)=.ok (.int (-1)):=rfl
  have i1:ixD (st3 a b c) (.int 1)=some b:=rfl
  show aE _ _ [some (.obj false Cp p (bC (l++[st3 a b c]) tk))]=_
  unfold jz
  walk_at "run"
theorem Dj:dA Cp (iP Cp) 1 eI:=by
 refine kD fun p l tk a b c ds=>?_
 cases ds with
 | cons _ _=>trivial
 | nil=>
  have l1:=xU l (st3 a b c)
  have f0:=fl0 (l++[st3 a b c]) tk
  have o0:∀ r,oO Cp (some (.obj false Cp p (bC (l++[st3 a b c]) tk))::r) 0=.ok (bC (l++[st3 a b c]) tk):=fun r=>fN rfl
  have ng1:rR (.int 1)=.ok (.int (-1)):=rfl
  have i1:ixD (st3 a b c) (.int 2)=some (.int c):=rfl
  show aE _ _ [some (.obj false Cp p (bC (l++[st3 a b c]) tk))]=_
  unfold jG
  walk_at "run"
theorem ET {l:List D} {d:D} (h:(l++[d]).length < 1000):(l++[d]).length < sizeLine:=Nat.lt_trans h (by decide)
theorem DM:dA Cp (fD Cp eI) 4 B2:=by
 refine kD fun p l tk a b c ds=>?_
 match ds with
 | []=>trivial
 | [_]=>trivial
 | [_,_]=>trivial
 | _::_::_::_::_=>simp
 | [x,y,z]=>
  cases z with
  | int pr=>
   dsimp only
   by_cases hl:(l++[st3 a b c]).length < 1000
   ·rw [if_pos hl]
    dsimp only
    have f0:=fl0 (l++[st3 a b c]) tk
    have lk:=ET hl
    have s1:eI (bC (l++[st3 a b c]) tk) []=.rd (.int c):=eY _ l tk a b c []
    have o0:∀ r,oO Cp (some (.obj true Cp p (bC (l++[st3 a b c]) tk))::r) 0=.ok (bC (l++[st3 a b c]) tk):=fun r=>fN rfl
    have o1:∀ r fs,nq Cp (some (.obj true Cp p fs)::r) 0=.ok (p,fs):=fun r fs=>gZ rfl
    have mk3:∀ x y z,mkT [x,y,z]=.ok (.tup [x,y,z]):=fun _ _ _=>rfl
    have k0:=pk0 (l++[st3 a b c]) tk
    have k1:=pk1 (l++[st3 a b c]++[st3 x y (c+pr)]) tk
    have w:(bC (l++[st3 a b c]++[st3 x y (c+pr)]) tk).length < 900:=by show 2 < 900; decide
    have e3:D.tup [x,y,D.int (c+pr)]=st3 x y (c+pr):=rfl
    have z0:0<=sizeLine:=by decide
    have z3:3<=sizeLine:=by decide
    refine ⟨[some (.obj true Cp p (bC (l++[st3 a b c]++[st3 x y (c+pr)]) [])),some (.val x),some (.val y),some (.val (.int pr))],rfl,.inr ⟨?_,rfl⟩⟩
    show aE _ _ [some (.obj true Cp p (bC (l++[st3 a b c]) tk)),some (.val x),some (.val y),some (.val (.int pr))]=_
    unfold gD gI
    clear hl
    walk_at "run"
   ·rw [if_neg hl]; trivial
  | _=>trivial
theorem Ig:dA Cp (mT Cp fU B2 eI (rK Cs Co Cr) ocF) 3 (doM Cs Co Cr):=by
 refine kD fun p l tk a b c ds=>?_
 match ds with
 | []=>trivial
 | _::_::_=>simp
 | [o]=>
  dsimp only
  have f0:=fl0 (l++[st3 a b c]) tk
  have s2:fU (bC (l++[st3 a b c]) tk) []=.rd b:=eY _ l tk a b c []
  have o0:∀ m r,oO Cp (some (.obj m Cp p (bC (l++[st3 a b c]) tk))::r) 0=.ok (bC (l++[st3 a b c]) tk):=fun m r=>fN rfl
  cases hd:rK Cs Co Cr [b,o] with
  | no=>trivial
  | ex E=>
   dsimp only
   refine ⟨[some (.obj false Cp p (bC (l++[st3 a b c]) tk)),some (.val o),none],?_⟩
   show aE _ _ [some (.obj false Cp p (bC (l++[st3 a b c]) tk)),some (.val o),none]=_
   unfold lL
   walk_at "run"
  | ok b'=>
   dsimp only
   cases ho:ocF [o] with
   | ex E=>trivial
   | no=>trivial
   | ok pd=>
    cases pd with
    | int pr=>
     dsimp only
     by_cases hl:(l++[st3 a b c]).length < 1000
     ·rw [if_pos hl]
      dsimp only
      have s1:eI (bC (l++[st3 a b c]++[st3 (.str wDo) b' (c+pr)]) []) []=.rd (.int (c+pr)):=eY _ (l++[st3 a b c]) [] (.str wDo) b' (c+pr) []
      have s3:B2 (bC (l++[st3 a b c]) tk) [.str wDo,b',.int pr]=.ok .non (bC (l++[st3 a b c]++[st3 (.str wDo) b' (c+pr)]) []):=(eY _ l tk a b c _).trans (if_pos hl)
      have o1:∀ r fs,nq Cp (some (.obj true Cp p fs)::r) 0=.ok (p,fs):=fun r fs=>gZ rfl
      have o2:∀ r,oO Cp (some (.obj true Cp p (bC (l++[st3 a b c]++[st3 (.str wDo) b' (c+pr)]) []))::r) 0=.ok (bC (l++[st3 a b c]++[st3 (.str wDo) b' (c+pr)]) []):=fun r=>fN rfl
      have wd:D.str [100,111]=.str wDo:=rfl
      refine ⟨[some (.obj true Cp p (bC (l++[st3 a b c]++[st3 (.str wDo) b' (c+pr)]) [])),some (.val o),some (.val b')],rfl,.inl ?_⟩
      show aE _ _ [some (.obj true Cp p (bC (l++[st3 a b c]) tk)),some (.val o),none]=_
      unfold lL pw qp
      clear hl
      walk_at "run"
     ·rw [if_neg hl]; trivial
    | _=>trivial
theorem Fw:dA Cp (jr Cp Cb) 2 (oB Cb):=by
 refine kD fun p l tk a b c ds=>?_
 match ds with
 | _::_=>trivial
 | []=>
  dsimp only
  have f0:=fl0 (l++[st3 a b c]) tk
  have o0:∀ m r,oO Cp (some (.obj m Cp p (bC (l++[st3 a b c]) tk))::r) 0=.ok (bC (l++[st3 a b c]) tk):=fun m r=>fN rfl
  by_cases h1:(l++[st3 a b c]).length=1
  ·rw [if_pos h1]
   dsimp only
   refine ⟨[some (.obj false Cp p (bC (l++[st3 a b c]) tk)),none],?_⟩
   show aE _ _ [some (.obj false Cp p (bC (l++[st3 a b c]) tk)),none]=_
   have e1:D.int ((l++[st3 a b c]).length:Int)=.int 1:=by rw [h1]; rfl
   unfold hG
   clear h1
   walk_at "run"
  ·rw [if_neg h1]
   by_cases hl:tk.length < 1000
   ·rw [if_pos hl]
    dsimp only
    have e1:eqF (D.int ((l++[st3 a b c]).length:Int)) (.int 1)=some (.bl false):=by
     rw [Hg]; simp at h1 ⊢; intro z; exact h1 (List.length_eq_zero_iff.1 (by omega))
    have lk:tk.length < sizeLine:=Nat.lt_trans hl (by decide)
    have f1:∀ x,fldL (bC x tk) 1=.ok tk:=fun x=>rfl
    have o1:∀ r fs,nq Cp (some (.obj true Cp p fs)::r) 0=.ok (p,fs):=fun r fs=>gZ rfl
    have pp:vk Cp 0 0 1 [some (.obj true Cp p (bC (l++[st3 a b c]) tk)),none]=.nx [some (.obj true Cp p (bC (l++[st3 a b c]).dropLast tk)),some (.val (st3 a b c))]:=by
     unfold vk
     rw [o1,R.ok_out]
     dsimp only
     rw [f0,R.ok_out,List.getLast?_concat]
     rfl
    have k1:∀ x y,nu 1 (.own y) (bC x tk)=bC x y:=fun x y=>rfl
    have ix0:ixD (st3 a b c) (.int 0)=some a:=rfl
    refine ⟨[some (.obj true Cp p (bC (l++[st3 a b c]).dropLast (tk++[st3 a b c]))),some (.val (st3 a b c))],rfl,.inl ?_⟩
    show aE _ _ [some (.obj true Cp p (bC (l++[st3 a b c]) tk)),none]=_
    unfold hG lz lR kg
    generalize (l++[st3 a b c]).dropLast=dl at pp ⊢
    generalize hL:l++[st3 a b c]=L at *
    clear h1 hl hL
    walk_at "run"
   ·rw [if_neg hl]; trivial
theorem Ey:dA Cp (jD Cp (cH Cs)) 2 (mz Cs):=by
 intro p fs ds
 unfold mz
 match fs,ds with
 | [],[d]=>
  dsimp only
  cases hc:cH Cs [d] with
  | no=>trivial
  | ex E=>
   dsimp only
   refine ⟨[some (.obj false Cp p []),some (.val d)],?_⟩
   show aE _ _ [some (.obj false Cp p []),some (.val d)]=_
   unfold gY
   walk_at "run"
  | ok x=>
   dsimp only
   have o1:∀ r fs,nq Cp (some (.obj true Cp p fs)::r) 0=.ok (p,fs):=fun r fs=>gZ rfl
   have mk3:∀ x y z,mkT [x,y,z]=.ok (.tup [x,y,z]):=fun _ _ _=>rfl
   have z1:1<=sizeLine:=by decide
   have z0:0<=sizeLine:=by decide
   have w0:(0:Nat) < 900:=by decide
   have w1':(1:Nat) < 900:=by decide
   have k0:nu 0 (.own [.tup [.str [109,97,100,101],d,.int 0]]) []=[(0,Fd.own [st3 (.str dZ) d 0])]:=rfl
   have w1:([(0,Fd.own [st3 (.str dZ) d 0])]:List (Nat × Fd)).length < 900:=by show 1 < 900; decide
   have k1:nu 1 (.own []) [(0,Fd.own [st3 (.str dZ) d 0])]=bC [st3 (.str dZ) d 0] []:=rfl
   refine ⟨[some (.obj true Cp p (bC [st3 (.str dZ) d 0] [])),some (.val d)],rfl,.inr ⟨?_,rfl⟩⟩
   show aE _ _ [some (.obj true Cp p []),some (.val d)]=_
   unfold gY ki kS
   walk_at "run"
 | [],[]=>trivial
 | [],_::_::_=>trivial
 | _::_,_=>trivial
end
end Q
namespace Q
open L2
open PySem (sizeLine Addr)
abbrev St:=Nat × List (List Nat) × Nat × Nat
def sD (s:St):D:=scr s.1 s.2.1 s.2.2.1 s.2.2.2
def bN:St->Od->Option St
 | (wd,rows,r,c),.say x=>if wd < c+x.length then none else some (wd,rows.set r ((rows.getD r []).take c++x++(rows.getD r []).drop (c+x.length)),r,c+x.length)
 | (wd,rows,r,c),.go n k=>if rows.length<=n\/wd < k then none else some (wd,rows,n,k)
 | (wd,rows,r,c),.wipe=>some (wd,rows.set r ((rows.getD r []).take c++List.replicate (wd - c) 32),r,c)
structure GS (s:St):Prop where
 w1:1<=s.1
 w2:s.1<=40
 m:s.2.1.length<=12
 r:s.2.2.1 < s.2.1.length
 c:s.2.2.2<=s.1
 l:∀ x ∈ s.2.1,x.length=s.1/\plain x=true
theorem GS.ok {s:St} (h:GS s):SOk s.1 s.2.1 s.2.2.1 s.2.2.2:=⟨by have:=h.w2; omega,h.c,h.r,by have:=h.m; omega,fun x hx=>(h.l x hx).1⟩
theorem GS.un {s:St} (h:GS s):gX (sD s)=some s:=tH h.ok
theorem GS.screen {s:St} (h:GS s):screen (sD s)=true:=by
 obtain ⟨wd,rows,r,c⟩:=s
 have h1:=h.w1
 have h2:=h.w2
 have h3:=h.m
 have h4:=h.r
 have h5:=h.c
 have h6:=h.l
 dsimp only at h1 h2 h3 h4 h5 h6
 have hf:vj (.tup (rows.map .str)) (wd:Int)=true:=by
  simp only [vj,List.length_map,Bool.and_eq_true,decide_eq_true_eq,List.all_eq_true]
  refine ⟨⟨by omega,by omega⟩,fun d hd=>?_⟩
  obtain ⟨x,hx,rfl⟩:=List.mem_map.1 hd
  obtain ⟨q1,q2⟩:=h6 x hx
  simp [yS,q1,q2]
 simp only [sD,scr,Q.screen,hf,qE,inB,List.length_map,Bool.and_eq_true,decide_eq_true_eq]
 refine ⟨⟨⟨by omega,by omega⟩,trivial⟩,?_⟩
 omega
theorem GS.good {s:St} (h:GS s):good 4 (sD s)=true:=by
 obtain ⟨wd,rows,r,c⟩:=s
 have h2:=h.w2
 have h6:=h.l
 dsimp only at h2 h6
 have:(rows.map D.str).all (Q.good 2)=true:=by
  rw [List.all_eq_true]
  intro d hd
  obtain ⟨x,hx,rfl⟩:=List.mem_map.1 hd
  have:=(h6 x hx).1
  simp only [Q.good,decide_eq_true_eq]; omega
 simp only [sD,scr,Q.good,List.all_cons,List.all_nil,this,Bool.and_true]
theorem E8 (s:St):cl 10 (sD s)=true:=by
 have:(s.2.1.map D.str).all (cl 8)=true:=by
  rw [List.all_eq_true]; intro d hd; obtain ⟨x,_,rfl⟩:=List.mem_map.1 hd; rfl
 simp only [sD,scr,cl,List.all_cons,List.all_nil,this,Bool.and_true,Bool.and_self]
def Ge:Option St->D
 | some s=>sD s
 | none=>.str [110,111,32,114,111,111,109]
def FV (C:Addr):Option St->R D
 | some s=>.ok (sD s)
 | none=>.ex C
theorem xf {C:Addr} {s:St} {o:Od} (h:GS s) (ho:okO o=true):eA C [sD s,oD o]=FV C (bN s o):=by
 have hu:=h.un
 obtain ⟨wd,rows,r,c⟩:=s
 have n1 : ¬ ([103,111]:List Nat)=[115,97,121]:=by decide
 have n2 : ¬ ([119,105,112,101]:List Nat)=[115,97,121]:=by decide
 have n3 : ¬ ([119,105,112,101]:List Nat)=[103,111]:=by decide
 cases o with
 | say x=>
  simp only [okO,Bool.and_eq_true,decide_eq_true_eq] at ho
  have e:eA C [sD (wd,rows,r,c),oD (.say x)]=fT C [sD (wd,rows,r,c),.str x]:=by simp only [oD,eA,if_true]
  rw [e]
  simp only [fT,hu]
  rw [if_pos (by omega)]
  by_cases hn:wd < c+x.length
  ·rw [if_pos hn]; simp only [bN,hn,if_true]; rfl
  ·rw [if_neg hn]; simp only [bN,hn,if_false]; rfl
 | go n k=>
  have e:eA C [sD (wd,rows,r,c),oD (.go n k)]=fL C [sD (wd,rows,r,c),.int (n:Int),.int (k:Int)]:=by simp only [oD,eA]; rw [if_neg n1,if_pos trivial]
  rw [e]
  simp only [fL,hu,Int.toNat_natCast]
  rw [if_pos (by omega)]
  by_cases hn:rows.length<=n\/wd < k
  ·rw [if_pos (by omega)]; simp only [bN,hn,if_true]; rfl
  ·rw [if_neg (by omega)]; simp only [bN,hn,if_false]; rfl
 | wipe=>
  have e:eA C [sD (wd,rows,r,c),oD .wipe]=dk [sD (wd,rows,r,c)]:=by simp only [oD,eA]; rw [if_neg n2,if_neg n3]
  rw [e]
  simp only [dk,hu]
  rfl
theorem jl {x y:List Nat} (h1:plain x=true) (h2:plain y=true):plain (x++y)=true:=by
 simp only [plain,List.all_append,Bool.and_eq_true] at *; exact ⟨h1,h2⟩
theorem lO {x y:List Nat} (h:plain x=true) (hs:∀ c ∈ y,c ∈ x):plain y=true:=by
 simp only [plain,List.all_eq_true] at h ⊢; exact fun c hc=>h c (hs c hc)
theorem tJ {α:Type} {l:List α} {i:Nat} {a x:α} (h:x ∈ l.set i a):x=a\/x ∈ l:=by
 rcases List.mem_or_eq_of_mem_set h with h | h
 ·exact .inr h
 ·exact .inl h
theorem zM {rows:List (List Nat)} {r:Nat} (h:r < rows.length):rows.getD r [] ∈ rows:=by
 rw [List.getD_eq_getElem?_getD,List.getElem?_eq_getElem h]; exact List.getElem_mem h
theorem oj {s s':St} {o:Od} (h:GS s) (ho:okO o=true) (e:bN s o=some s'):GS s':=by
 obtain ⟨wd,rows,r,c⟩:=s
 have h1:=h.w1
 have h2:=h.w2
 have h3:=h.m
 have h4:=h.r
 have h5:=h.c
 have h6:=h.l
 dsimp only at h1 h2 h3 h4 h5 h6
 obtain ⟨g1,g2⟩:=h6 _ (zM h4)
 cases o with
 | say x=>
  simp only [okO,Bool.and_eq_true,decide_eq_true_eq] at ho
  by_cases hn:wd < c+x.length
  ·simp only [bN,hn,if_true] at e; cases e
  ·simp only [bN,hn,if_false] at e
   cases e
   refine ⟨h1,h2,by simpa using h3,by simpa using h4,by dsimp only; omega,fun y hy=>?_⟩
   rcases tJ hy with rfl | hy
   ·refine ⟨by simp only [List.length_append,List.length_take,List.length_drop,List.length_replicate]; omega,jl (jl (lO g2 fun c hc=>List.mem_of_mem_take hc) ho.1) (lO g2 fun c hc=>List.mem_of_mem_drop hc)⟩
   ·exact h6 y hy
 | go n k=>
  by_cases hn:rows.length<=n\/wd < k
  ·simp only [bN,hn,if_true] at e; cases e
  ·simp only [bN,hn,if_false] at e
   cases e
   exact ⟨h1,h2,h3,by dsimp only; omega,by dsimp only; omega,h6⟩
 | wipe=>
  simp only [bN] at e
  cases e
  refine ⟨h1,h2,by simpa using h3,by simpa using h4,h5,fun y hy=>?_⟩
  rcases tJ hy with rfl | hy
  ·refine ⟨by simp only [List.length_append,List.length_take,List.length_drop,List.length_replicate]; omega,jl (lO g2 fun c hc=>List.mem_of_mem_take hc) ?_⟩
   simp only [plain,List.all_eq_true]
   intro z hz
   rw [(List.mem_replicate.1 hz).2]; decide
  ·exact h6 y hy
def rn (a:Option St) (os:List Od):Option St:=os.foldl (fun a o=>a.bind fun s=>bN s o) a
theorem ld (a:Option St) (o:Od) (os:List Od):rn a (o::os)=rn (a.bind fun s=>bN s o) os:=rfl
theorem EC (a:Option St) (os ps:List Od):rn a (os++ps)=rn (rn a os) ps:=List.foldl_append ..
theorem ja:∀ os:List Od,rn none os=none
 | []=>rfl
 | _::os=>ja os
theorem Aj {C:Addr}:∀ (os:List Od) {s:St},GS s->(∀ o ∈ os,okO o=true)->ql C (sD s) (os.map oD)=FV C (rn (some s) os)
 | [],s,_,_=>rfl
 | o::os,s,h,ho=>by
  have ha:=xf (C:=C) h (ho o (List.mem_cons_self ..))
  rw [ld,Option.bind_some,List.map_cons]
  cases q:bN s o with
  | none=>
   rw [q] at ha
   have ha:eA C [sD s,oD o]=.ex C:=ha
   simp only [ql,ha,ja]; rfl
  | some s1=>
   rw [q] at ha
   have ha:eA C [sD s,oD o]=.ok (sD s1):=ha
   simp only [ql,ha]
   exact Aj os (oj h (ho o (List.mem_cons_self ..)) q) fun p hp=>ho p (List.mem_cons_of_mem _ hp)
theorem Ew (ns:List Int) (a:Nat):∃ s:St,GS s/\scS ns a=sD s/\s.1=wS ns a/\s.2.1.length=mS ns a:=by
 obtain ⟨w1,w2,_⟩:=tK ns a
 obtain ⟨m1,m2,_⟩:=tQ ns a
 have p1:=br ns (a+5+400) (m:=(mS ns a:Int)) (by omega)
 have p2:=br ns (a+5+401) (m:=(wS ns a:Int)+1) (by omega)
 refine ⟨(wS ns a,(List.range (mS ns a)).map (fun k=>vh ns (a+5+30 * k) (wS ns a)),(dB ns (a+5+400) (mS ns a)).toNat,(dB ns (a+5+401) (wS ns a+1)).toNat),⟨w1,by show wS ns a<=40; omega,by simp; omega,by simp; omega,by show (dB ns (a+5+401) (wS ns a+1)).toNat<=wS ns a; omega,fun x hx=>?_⟩,?_,rfl,by simp⟩
 ·obtain ⟨k,_,rfl⟩:=List.mem_map.1 hx
  exact ⟨qC ns _ _,uC ns _ _⟩
 ·show D.tup _=D.tup _
  have e1:((dB ns (a+5+400) (mS ns a)).toNat:Int)=dB ns (a+5+400) (mS ns a):=by omega
  have e2:((dB ns (a+5+401) (wS ns a+1)).toNat:Int)=dB ns (a+5+401) (wS ns a+1):=by omega
  unfold pl rW
  dsimp only
  rw [e1,e2,List.map_map]
  rfl
end Q
namespace Q
open L2
open PySem (sizeLine Addr)
theorem AU {s:St} {o:Od} (h:GS s) (ho:okO o=true):bG [sD s,oD o]=.ok (Ge (bN s o)):=by
 have:=xf (C:=0) h ho
 simp only [bG,this]
 cases bN s o <;> rfl
theorem BI {Cs Co Cr:Addr} {s s':St} {o:Od} (h:GS s) (ho:okO o=true) (e:bN s o=some s'):rK Cs Co Cr [sD s,oD o]=.ok (sD s'):=by
 have g1:=h.good
 have g2:=nA ho
 have g3:=h.screen
 have g4:bR (oD o)=true:=by rw [ig]; exact ho
 have g5:=xf (C:=Cr) h ho
 rw [e] at g5
 show (if _ then _ else _)=_
 rw [if_pos ⟨g1,g2⟩,if_pos g3,if_pos g4]
 exact g5
theorem FZ (o:Od):ocF [oD o]=.ok (.int (bT o:Int)):=by simp only [ocF,kZ]
theorem DC {Cs Co Cr:Addr} {s s':St} {o:Od} (h:GS s) (ho:okO o=true) (e:bN s o=some s') {l tk:List D} {a:D} {c:Int} (hl:l.length < 900) :
  doM Cs Co Cr (bC (l++[st3 a (sD s) c]) tk) [oD o]=.ok (.int (c+(bT o:Int))) (bC (l++[st3 a (sD s) c]++[st3 (.str wDo) (sD s') (c+(bT o:Int))]) []):=by
 unfold doM
 rw [eY]
 dsimp only
 rw [BI h ho e]
 dsimp only
 rw [FZ]
 dsimp only
 rw [if_pos (by simp; omega)]
def cO (s:St) (c:Int):List Od->List D
 | []=>[]
 | o::os=>match bN s o with
  | some s'=>st3 (.str wDo) (sD s') (c+(bT o:Int))::cO s' (c+(bT o:Int)) os
  | none=>[]
def jp (os:List Od):Int:=((os.map bT).sum:Nat)
theorem uP (o:Od) (os:List Od):jp (o::os)=(bT o:Int)+jp os:=by unfold jp; simp
theorem qk:∀ (os:List Od) (s s':St) (c:Int),rn (some s) os=some s'->(cO s c os).length=os.length
 | [],_,_,_,_=>rfl
 | o::os,s,s',c,h=>by
  rw [ld] at h
  show (cO s c (o::os)).length=_
  unfold cO
  cases e:bN s o with
  | none=>rw [show (some s).bind (fun s=>bN s o)=none from e,ja] at h; cases h
  | some s1=>
   rw [show (some s).bind (fun s=>bN s o)=some s1 from e] at h
   simp only [List.length_cons]
   rw [qk os s1 s' _ h]
theorem sH:∀ (os:List Od) (s s':St) (a:D) (c:Int) (l:List D),rn (some s) os=some s'->∃ l' a',l++[st3 a (sD s) c]++cO s c os=l'++[st3 a' (sD s') (c+jp os)]
 | [],s,s',a,c,l,h=>by
  cases h
  refine ⟨l,a,?_⟩
  simp [cO,jp]
 | o::os,s,s',a,c,l,h=>by
  rw [ld] at h
  unfold cO
  cases e:bN s o with
  | none=>rw [show (some s).bind (fun s=>bN s o)=none from e,ja] at h; cases h
  | some s1=>
   rw [show (some s).bind (fun s=>bN s o)=some s1 from e] at h
   obtain ⟨l',a',q⟩:=sH os s1 s' (.str wDo) (c+(bT o:Int)) (l++[st3 a (sD s) c]) h
   refine ⟨l',a',?_⟩
   rw [uP,show c+((bT o:Int)+jp os)=c+(bT o:Int)+jp os by omega,<- q]
   simp
theorem sC {l tk:List D} {a:D} {s:St} {c:Int}:fU (bC (l++[st3 a (sD s) c]) tk) []=.rd (sD s):=eY _ l tk a (sD s) c []
theorem sY {l tk:List D} {a:D} {s:St} {c:Int}:eI (bC (l++[st3 a (sD s) c]) tk) []=.rd (.int c):=eY _ l tk a (sD s) c []
theorem B7 {Cs:Addr} {s:St} (h:GS s):vi (mz Cs) 1 [sD s]=.ok (bC [st3 (.str dZ) (sD s) 0] []):=by
 have e:cH Cs [sD s]=.ok .non:=pT h.screen
 unfold vi mz
 rw [if_pos (show [sD s].length=1 from rfl)]
 dsimp only
 rw [e]
theorem AQ {Cb:Addr} {l tk:List D} {a b:D} {c:Int} (h:0 < l.length) (hk:tk.length < 1000):oB Cb (bC (l++[st3 a b c]) tk) []=.ok a (bC l (tk++[st3 a b c])):=by
 unfold oB
 rw [eY]
 dsimp only
 rw [if_neg (by simp; intro z; rw [z] at h; simp at h),if_pos hk,List.dropLast_concat]
end Q
namespace Q96
open L2 Q Q70
open PySem (sizeLine Addr)
noncomputable def AD (C_Pad:Addr) (M_Pad_do:MF) (M_Pad_sheet:MF) (M_Pad_spent:MF) (M_Pad_back:MF) (M_Pad_init:MF) (aC af:List D->R D) (aD av:List D->R D) (au bq:List D->R D) (aG ak aw:List D->R D):Ev->O:=(eB 1 (aL 2 aC (ac (fun ρ=>rdV ρ 0) (ac (fun _=>R.ok (D.int 10)) (fun _=>R.ok [])))))
noncomputable def Ad (C_Pad:Addr) (M_Pad_do:MF) (M_Pad_sheet:MF) (M_Pad_spent:MF) (M_Pad_back:MF) (M_Pad_init:MF) (aC af:List D->R D) (aD av:List D->R D) (au bq:List D->R D) (aG ak aw:List D->R D):Ev->O:=(yH 2 3 (fun ρ=>rdV ρ 1) (zT (fun _=>R.ok [])))
noncomputable def kR (C_Pad:Addr) (M_Pad_do:MF) (M_Pad_sheet:MF) (M_Pad_spent:MF) (M_Pad_back:MF) (M_Pad_init:MF) (aC af:List D->R D) (aD av:List D->R D) (au bq:List D->R D) (aG ak aw:List D->R D):Ev->O:=(aE (Fx 5 6 (ac (aL 3 af (ac (fun ρ=>rdV ρ 0) (ac (g2 bE (fun _=>R.ok (D.int 600)) (g2 gf (fun _=>R.ok (D.int 10)) (fun ρ=>rdV ρ 4))) (ac (fun _=>R.ok (D.int 3)) (fun _=>R.ok []))))) (ac (aH mkT (ac (fun _=>R.ok (D.str [119,105,112,101])) (fun _=>R.ok []))) (fun _=>R.ok [])))) (aE (oIf (gB2 eqF (fun ρ=>rdV ρ 5) (fun _=>R.ok (D.int 0))) (aE (eB 7 (aL 3 af (ac (fun ρ=>rdV ρ 0) (ac (g2 bE (fun _=>R.ok (D.int 601)) (g2 gf (fun _=>R.ok (D.int 10)) (fun ρ=>rdV ρ 4))) (ac (gOf fc (ac (g2 ixD (fun ρ=>rdV ρ 1) (fun _=>R.ok (D.int 1))) (fun _=>R.ok []))) (fun _=>R.ok [])))))) (aE (eB 6 (aH mkT (ac (fun _=>R.ok (D.str [103,111])) (ac (fun ρ=>rdV ρ 7) (ac (aL 3 af (ac (fun ρ=>rdV ρ 0) (ac (g2 bE (fun _=>R.ok (D.int 602)) (g2 gf (fun _=>R.ok (D.int 10)) (fun ρ=>rdV ρ 4))) (ac (g2 bE (g2 ixD (fun ρ=>rdV ρ 1) (fun _=>R.ok (D.int 0))) (fun _=>R.ok (D.int 1))) (fun _=>R.ok []))))) (fun _=>R.ok [])))))) oNx)) (aE (oIf (xK (gB2 eqF (fun ρ=>rdV ρ 5) (fun _=>R.ok (D.int 1))) (gB2 ltD (g2 ixD (g2 ixD (fun ρ=>rdV ρ 2) (fun _=>R.ok (D.int 2))) (fun _=>R.ok (D.int 1))) (g2 ixD (fun ρ=>rdV ρ 1) (fun _=>R.ok (D.int 0))))) (aE (eB 8 (g2 bE (fun _=>R.ok (D.int 1)) (aL 3 af (ac (fun ρ=>rdV ρ 0) (ac (g2 bE (fun _=>R.ok (D.int 601)) (g2 gf (fun _=>R.ok (D.int 10)) (fun ρ=>rdV ρ 4))) (ac (g2 we (g2 ixD (fun ρ=>rdV ρ 1) (fun _=>R.ok (D.int 0))) (g2 ixD (g2 ixD (fun ρ=>rdV ρ 2) (fun _=>R.ok (D.int 2))) (fun _=>R.ok (D.int 1)))) (fun _=>R.ok []))))))) (aE (Bd 9 (eU (aH bD (ac (gOf Ez (ac (fun ρ=>rdV ρ 8) (ac (fun _=>R.ok (D.int 7)) (fun _=>R.ok [])))) (fun _=>R.ok []))) [0,4] (fun _=>R.ok true) (g2 ixD (fun _=>R.ok (D.str [97,98,35,32])) (aL 3 af (ac (fun ρ=>rdV ρ 1) (ac (g2 bE (g2 bE (fun _=>R.ok (D.int 602)) (g2 gf (fun _=>R.ok (D.int 10)) (fun ρ=>rdV ρ 2))) (fun ρ=>rdV ρ 0)) (ac (fun _=>R.ok (D.int 4)) (fun _=>R.ok [])))))))) (B4 9 (aE (eB 6 (aH mkT (ac (fun _=>R.ok (D.str [115,97,121])) (ac (fv "str" iz (fun _=>R.ok (D.str [])) (ac (fun ρ=>rdV ρ 9) (fun _=>R.ok []))) (fun _=>R.ok []))))) oNx)))) oNx) oNx)) (aE (eB 2 (aL 2 aD (ac (fun ρ=>rdV ρ 2) (ac (fun ρ=>rdV ρ 6) (fun _=>R.ok []))))) (aE (FA 3 (fun ρ=>rdV ρ 6)) oNx))))
noncomputable def Av (C_Pad:Addr) (M_Pad_do:MF) (M_Pad_sheet:MF) (M_Pad_spent:MF) (M_Pad_back:MF) (M_Pad_init:MF) (aC af:List D->R D) (aD av:List D->R D) (au bq:List D->R D) (aG ak aw:List D->R D):Ev->O:=(uR (fZ 4) (aH bD (ac (fun _=>R.ok (D.int 10)) (fun _=>R.ok []))) (kR C_Pad M_Pad_do M_Pad_sheet M_Pad_spent M_Pad_back M_Pad_init aC af aD av au bq aG ak aw))
noncomputable def sZ (C_Pad:Addr) (M_Pad_do:MF) (M_Pad_sheet:MF) (M_Pad_spent:MF) (M_Pad_back:MF) (M_Pad_init:MF) (aC af:List D->R D) (aD av:List D->R D) (au bq:List D->R D) (aG ak aw:List D->R D):Ev->O:=(aE (ux C_Pad 10 1 M_Pad_do (ac (fun ρ=>rdV ρ 6) (fun _=>R.ok []))) oNx)
noncomputable def Ai (C_Pad:Addr) (M_Pad_do:MF) (M_Pad_sheet:MF) (M_Pad_spent:MF) (M_Pad_back:MF) (M_Pad_init:MF) (aC af:List D->R D) (aD av:List D->R D) (au bq:List D->R D) (aG ak aw:List D->R D):Ev->O:=(uR (fZ 6) (aH bw (fun ρ=>rdV ρ 3)) (sZ C_Pad M_Pad_do M_Pad_sheet M_Pad_spent M_Pad_back M_Pad_init aC af aD av au bq aG ak aw))
noncomputable def sI (C_Pad:Addr) (M_Pad_do:MF) (M_Pad_sheet:MF) (M_Pad_spent:MF) (M_Pad_back:MF) (M_Pad_init:MF) (aC af:List D->R D) (aD av:List D->R D) (au bq:List D->R D) (aG ak aw:List D->R D):Ev->O:=(aE (ux C_Pad 11 1 M_Pad_do (ac (fun ρ=>rdV ρ 6) (fun _=>R.ok []))) oNx)
noncomputable def Ag (C_Pad:Addr) (M_Pad_do:MF) (M_Pad_sheet:MF) (M_Pad_spent:MF) (M_Pad_back:MF) (M_Pad_init:MF) (aC af:List D->R D) (aD av:List D->R D) (au bq:List D->R D) (aG ak aw:List D->R D):Ev->O:=(uR (fZ 6) (aH bw (aL 1 au (ac (aL 1 av (ac (fun ρ=>rdV ρ 3) (fun _=>R.ok []))) (fun _=>R.ok [])))) (sI C_Pad M_Pad_do M_Pad_sheet M_Pad_spent M_Pad_back M_Pad_init aC af aD av au bq aG ak aw))
noncomputable def Aw (C_Pad:Addr) (M_Pad_do:MF) (M_Pad_sheet:MF) (M_Pad_spent:MF) (M_Pad_back:MF) (M_Pad_init:MF) (aC af:List D->R D) (aD av:List D->R D) (au bq:List D->R D) (aG ak aw:List D->R D):Ev->O:=(oIf (mZ (gB2 neF (cT C_Pad 10 M_Pad_sheet) (fun ρ=>rdV ρ 2)) (mZ (gB2 neF (cT C_Pad 11 M_Pad_sheet) (fun ρ=>rdV ρ 2)) (gB2 neF (cT C_Pad 10 M_Pad_spent) (aL 1 bq (ac (fun ρ=>rdV ρ 3) (fun _=>R.ok [])))))) (aE (bO (fun _=>R.ok (D.bl false))) oNx) oNx)
noncomputable def vG (C_Pad:Addr) (M_Pad_do:MF) (M_Pad_sheet:MF) (M_Pad_spent:MF) (M_Pad_back:MF) (M_Pad_init:MF) (aC af:List D->R D) (aD av:List D->R D) (au bq:List D->R D) (aG ak aw:List D->R D):Ev->O:=(oIf (mZ (gB2 neF (aL 2 aG (ac (fun ρ=>rdV ρ 1) (ac (fun ρ=>rdV ρ 3) (fun _=>R.ok [])))) (fun ρ=>rdV ρ 2)) (gB2 neF (aL 1 aw (ac (aL 1 ak (ac (fun ρ=>rdV ρ 2) (fun _=>R.ok []))) (fun _=>R.ok []))) (fun ρ=>rdV ρ 2))) (aE (bO (fun _=>R.ok (D.bl false))) oNx) oNx)
noncomputable def oy (C_Pad:Addr) (M_Pad_do:MF) (M_Pad_sheet:MF) (M_Pad_spent:MF) (M_Pad_back:MF) (M_Pad_init:MF) (aC af:List D->R D) (aD av:List D->R D) (au bq:List D->R D) (aG ak aw:List D->R D):Ev->O:=(aE (sP C_Pad 10 M_Pad_back) oNx)
noncomputable def vQ (C_Pad:Addr) (M_Pad_do:MF) (M_Pad_sheet:MF) (M_Pad_spent:MF) (M_Pad_back:MF) (M_Pad_init:MF) (aC af:List D->R D) (aD av:List D->R D) (au bq:List D->R D) (aG ak aw:List D->R D):Ev->O:=(uR (fZ 4) (aH bD (ac (gOf fc (ac (fun ρ=>rdV ρ 3) (fun _=>R.ok []))) (fun _=>R.ok []))) (oy C_Pad M_Pad_do M_Pad_sheet M_Pad_spent M_Pad_back M_Pad_init aC af aD av au bq aG ak aw))
noncomputable def xn (C_Pad:Addr) (M_Pad_do:MF) (M_Pad_sheet:MF) (M_Pad_spent:MF) (M_Pad_back:MF) (M_Pad_init:MF) (aC af:List D->R D) (aD av:List D->R D) (au bq:List D->R D) (aG ak aw:List D->R D):Ev->O:=(bO (lJ (g2 eqF (cT C_Pad 10 M_Pad_sheet) (fun ρ=>rdV ρ 1)) (lJ (g2 eqF (cT C_Pad 10 M_Pad_spent) (fun _=>R.ok (D.int 0))) (g2 eqF (cT C_Pad 11 M_Pad_spent) (aL 1 bq (ac (fun ρ=>rdV ρ 3) (fun _=>R.ok [])))))))
noncomputable def xD (C_Pad:Addr) (M_Pad_do:MF) (M_Pad_sheet:MF) (M_Pad_spent:MF) (M_Pad_back:MF) (M_Pad_init:MF) (aC af:List D->R D) (aD av:List D->R D) (au bq:List D->R D) (aG ak aw:List D->R D):Ev->O:=(B4 3 (aE (Ai C_Pad M_Pad_do M_Pad_sheet M_Pad_spent M_Pad_back M_Pad_init aC af aD av au bq aG ak aw) (aE (Ag C_Pad M_Pad_do M_Pad_sheet M_Pad_spent M_Pad_back M_Pad_init aC af aD av au bq aG ak aw) (aE (Aw C_Pad M_Pad_do M_Pad_sheet M_Pad_spent M_Pad_back M_Pad_init aC af aD av au bq aG ak aw) (aE (vG C_Pad M_Pad_do M_Pad_sheet M_Pad_spent M_Pad_back M_Pad_init aC af aD av au bq aG ak aw) (aE (vQ C_Pad M_Pad_do M_Pad_sheet M_Pad_spent M_Pad_back M_Pad_init aC af aD av au bq aG ak aw) (aE (xn C_Pad M_Pad_do M_Pad_sheet M_Pad_spent M_Pad_back M_Pad_init aC af aD av au bq aG ak aw) oNx)))))))
noncomputable def nZ (C_Pad:Addr) (M_Pad_do:MF) (M_Pad_sheet:MF) (M_Pad_spent:MF) (M_Pad_back:MF) (M_Pad_init:MF) (aC af:List D->R D) (aD av:List D->R D) (au bq:List D->R D) (aG ak aw:List D->R D):Addr × Addr × Unit->Ev->O:=(uz (AD C_Pad M_Pad_do M_Pad_sheet M_Pad_spent M_Pad_back M_Pad_init aC af aD av au bq aG ak aw) (uz (Ad C_Pad M_Pad_do M_Pad_sheet M_Pad_spent M_Pad_back M_Pad_init aC af aD av au bq aG ak aw) (uz (Av C_Pad M_Pad_do M_Pad_sheet M_Pad_spent M_Pad_back M_Pad_init aC af aD av au bq aG ak aw) (tP C_Pad 10 11 M_Pad_init 1 (ac (fun ρ=>rdV ρ 1) (fun _=>R.ok [])) (ac (fun ρ=>rdV ρ 1) (fun _=>R.ok [])) (zw (xD C_Pad M_Pad_do M_Pad_sheet M_Pad_spent M_Pad_back M_Pad_init aC af aD av au bq aG ak aw))))))
theorem GW (x:List Nat):L2.dD (x.map fun c=>D.str [c])=some (x.map fun c=>[c]):=by
 induction x with
 | nil=>rfl
 | cons c x ih=>rw [List.map_cons,L2.dD,ih]; rfl
theorem D8:∀ x:List Nat,hV [] (x.map fun c=>[c])=x
 | []=>rfl
 | [c]=>rfl
 | c::d::x=>by
  have:=D8 (d::x)
  rw [List.map_cons] at this
  rw [List.map_cons,List.map_cons,hV,this]; rfl
theorem Ej {x:List Nat} (h:x.length<=1000) (f:Bool):iz (.str []) [.lst f (x.map fun c=>D.str [c])]=some (.str x):=by
 simp only [iz,GW,D8]
 rw [if_pos]
 have lb:=bo
 have:∀ y:List Nat,((y.map fun c=>[c]).map List.length).sum=y.length:=fun y=>by
  induction y with
  | nil=>rfl
  | cons c y ih=>simp at ih ⊢; omega
 rw [this]; simp; omega
section
variable {C_Pad Cs Co Cr Cb Ct:Addr} {M1 M2 M3 M4 M5:MF} {F4 F5 F6 F7 F8 F9:List D->R D}
def sg (ns:List Int) (k j:Nat):Nat:=([97,98,35,32]:List Nat).getD (dB ns (602+10 * k+j) 4).toNat 0
theorem DP (ns:List Int) (k j:Nat):ixD (.str [97,98,35,32]) (.int (dB ns (602+10 * k+j) 4))=some (.str [sg ns k j])/\32<=sg ns k j/\sg ns k j<=126:=by
 have h:=br ns (602+10 * k+j) (m:=4) (by decide)
 unfold sg
 generalize dB ns (602+10 * k+j) 4=z at h
 obtain ⟨n,rfl⟩:∃ n:Nat,z=(n:Int):=⟨z.toNat,by omega⟩
 have:n=0\/n=1\/n=2\/n=3:=by omega
 rcases this with rfl | rfl | rfl | rfl <;> exact ⟨rfl,by decide,by decide⟩
theorem DL {fz : Bool} {ns : List Int} {s0 s : Q.St} (h0 : GS s0) (h : GS s) (e1 : s.1 = s0.1) (e2 : s.2.1.length = s0.2.1.length) (k : Nat) (acc : List D) (ha : acc.length < 1000) (x5 x6 x7 x8 x9 : Option Sl) :
    ∃ o s' y5 y7 y8 y9, okO o = true /\ bN s o = some s' /\ s'.1 = s0.1 /\ s'.2.1.length = s0.2.1.length /\
      kR C_Pad M1 M2 M3 M4 M5 gz bS bG F4 F5 F6 F7 F8 F9 [some (.val (.lst fz (ns.map .int))), some (.val (sD s0)), some (.val (sD s)), some (.own acc), some (.val (.int (k : Int))), x5, x6, x7, x8, x9, none, none]
      = .nx [some (.val (.lst fz (ns.map .int))), some (.val (sD s0)), some (.val (sD s')), some (.own (acc ++ [oD o])), some (.val (.int (k : Int))), y5, some (.val (oD o)), y7, y8, y9, none, none] := by
  have lb := bo
  have v := br ns (600 + 10 * k) (m := 3) (by decide)
  have k0 : (600 : Int) + 10 * (k : Int) = ((600 + 10 * k : Nat) : Int) := by omega
  have k1 : (601 : Int) + 10 * (k : Int) = ((601 + 10 * k : Nat) : Int) := by omega
  have k2 : (602 : Int) + 10 * (k : Int) = ((602 + 10 * k : Nat) : Int) := by omega
  have m10 : gf (.int 10) (.int (k : Int)) = some (.int (10 * (k : Int))) := by simp only [gf]; rfl
  have p0 : bS [.lst fz (ns.map .int), .int ((600 + 10 * k : Nat) : Int), .int 3] = .ok (.int (dB ns (600 + 10 * k) 3)) := bM (by decide)
  have hr0 := h0.r
  have hw0 := h0.w2
  have hw1 := h0.w1
  have hm0 := h0.m
  have i1 : ixD (sD s0) (.int 1) = some (.tup (s0.2.1.map .str)) := rfl
  have i0 : ixD (sD s0) (.int 0) = some (.int (s0.1 : Int)) := rfl
  have j2 : ixD (sD s) (.int 2) = some (.tup [.int (s.2.2.1 : Int), .int (s.2.2.2 : Int)]) := rfl
  have j21 : ixD (.tup [.int (s.2.2.1 : Int), .int (s.2.2.2 : Int)]) (.int 1) = some (.int (s.2.2.2 : Int)) := rfl
  have ln : fc [.tup (s0.2.1.map .str)] = some (.int (s0.2.1.length : Int)) := by simp [fc]
  have mk1 : ∀ x, mkT [x] = .ok (.tup [x]) := fun _ => rfl
  have mk2 : ∀ x y, mkT [x, y] = .ok (.tup [x, y]) := fun _ _ => rfl
  have mk3 : ∀ x y z, mkT [x, y, z] = .ok (.tup [x, y, z]) := fun _ _ _ => rfl
  have hal : acc.length < sizeLine := by omega
  have hS : ∃ S, D.lst fz (ns.map .int) = S := ⟨_, rfl⟩
  have fin : ∀ o, okO o = true -> (∃ s', bN s o = some s' /\ s'.1 = s.1 /\ s'.2.1.length = s.2.1.length) -> ∃ s', bN s o = some s' /\ s'.1 = s0.1 /\ s'.2.1.length = s0.2.1.length /\ bG [sD s, oD o] = .ok (sD s') := fun o ho ⟨s', q1, q2, q3⟩ => ⟨s', q1, by omega, by omega, by rw [AU h ho, q1]; rfl⟩
  obtain ⟨s1, s2, s3, s4⟩ := s
  dsimp only at e1 e2 fin j2 j21
  have hc := h.c
  have hr := h.r
  dsimp only at hc hr
  have wipe : (∀ (y5 y7 : Option Sl), True) -> okO .wipe = true /\ ∃ s', bN (s1, s2, s3, s4) .wipe = some s' /\ s'.1 = s1 /\ s'.2.1.length = s2.length := fun _ => ⟨rfl, _, rfl, rfl, by simp⟩
  have hv : dB ns (600 + 10 * k) 3 = 0 \/ dB ns (600 + 10 * k) 3 = 1 \/ dB ns (600 + 10 * k) 3 = 2 := by omega
  rcases hv with hv | hv | hv
  · -- go
    rw [hv] at p0
    have q1 := br ns (601 + 10 * k) (m := (s0.2.1.length : Int)) (by omega)
    have q2 := br ns (602 + 10 * k) (m := (s0.1 : Int) + 1) (by omega)
    obtain ⟨r, er⟩ : ∃ r : Nat, dB ns (601 + 10 * k) (s0.2.1.length : Int) = (r : Int) := ⟨_, (Int.toNat_of_nonneg q1.1).symm⟩
    obtain ⟨c, ec⟩ : ∃ c : Nat, dB ns (602 + 10 * k) ((s0.1 : Int) + 1) = (c : Int) := ⟨_, (Int.toNat_of_nonneg q2.1).symm⟩
    have p1 : bS [.lst fz (ns.map .int), .int ((601 + 10 * k : Nat) : Int), .int (s0.2.1.length : Int)] = .ok (.int (r : Int)) := by rw [<- er]; exact bM (by omega)
    have p2 : bS [.lst fz (ns.map .int), .int ((602 + 10 * k : Nat) : Int), .int ((s0.1 : Int) + 1)] = .ok (.int (c : Int)) := by rw [<- ec]; exact bM (by omega)
    have ok : okO (.go r c) = true := by simp only [okO, Bool.and_eq_true, decide_eq_true_eq]; omega
    obtain ⟨s', t1, t2, t3, t4⟩ := fin (.go r c) ok ⟨(s1, s2, r, c), by simp only [bN]; rw [if_neg (by omega)], rfl, rfl⟩
    have t5 : bG [sD (s1, s2, s3, s4), .tup [.str [103, 111], .int (r : Int), .int (c : Int)]] = .ok (sD s') := t4
    refine ⟨.go r c, s', some (.val (.int 0)), some (.val (.int (r : Int))), x8, x9, ok, t1, t2, t3, ?_⟩
    have eo : oD (.go r c) = .tup [.str [103, 111], .int (r : Int), .int (c : Int)] := rfl
    rw [eo]
    generalize D.lst fz (ns.map .int) = S at *
    unfold kR
    clear v q1 q2 er ec t1 t2 t3 t4 wipe fin h h0 hr hc hr0 hw0 hw1 hm0 ok e1 e2 ha lb eo hS hv
    walk_at "run"
    show (if acc.length < sizeLine then _ else _ : O).seq oNx = _
    rw [if_pos hal]; rfl
  · -- say
    rw [hv] at p0
    by_cases hlt : s4 < s0.1
    · have lt : decide ((s4 : Int) < (s0.1 : Int)) = true := decide_eq_true (by omega)
      have q1 := br ns (601 + 10 * k) (m := (s0.1 : Int) - (s4 : Int)) (by omega)
      obtain ⟨r, er⟩ : ∃ r : Nat, dB ns (601 + 10 * k) ((s0.1 : Int) - (s4 : Int)) = (r : Int) := ⟨_, (Int.toNat_of_nonneg q1.1).symm⟩
      have p1 : bS [.lst fz (ns.map .int), .int ((601 + 10 * k : Nat) : Int), .int ((s0.1 : Int) - (s4 : Int))] = .ok (.int (r : Int)) := by rw [<- er]; exact bM (by omega)
      have mn : Ez [.int (1 + (r : Int)), .int 7] = some (.int ((min (1 + r) 7 : Nat) : Int)) := by
        have e9 : (if (7 : Int) < 1 + (r : Int) then (7 : Int) else 1 + (r : Int)) = ((min (1 + r) 7 : Nat) : Int) := by split <;> omega
        rw [<- e9]; rfl
      generalize hn : min (1 + r) 7 = n at *
      have rg : bD [.int (n : Int)] = .ok ((List.range n).map fun (i : Nat) => D.int (i : Int)) := jV (by omega)
      let x : List Nat := (List.range n).map fun j => sg ns k j
      have xl : x.length = n := by simp [x]
      have hx : plain x = true := by
        simp only [plain, List.all_eq_true, x]
        intro c hc
        obtain ⟨j, _, rfl⟩ := List.mem_map.1 hc
        have := (DP ns k j).2
        simp; omega
      have ok : okO (.say x) = true := by simp only [okO, Bool.and_eq_true, decide_eq_true_eq]; exact ⟨hx, by omega⟩
      obtain ⟨s', t1, t2, t3, t4⟩ := fin (.say x) ok ⟨_, by simp only [bN]; rw [if_neg (by omega)], rfl, by simp⟩
      have t5 : bG [sD (s1, s2, s3, s4), .tup [.str [115, 97, 121], .str x]] = .ok (sD s') := t4
      refine ⟨.say x, s', some (.val (.int 1)), x7, some (.val (.int (1 + (r : Int)))), some (.val (.lst false (x.map fun c => .str [c]))), ok, t1, t2, t3, ?_⟩
      have eo : oD (.say x) = .tup [.str [115, 97, 121], .str x] := rfl
      rw [eo]
      have cp : eV (fun _ => R.ok true) (g2 ixD (fun _ => R.ok (D.str [97, 98, 35, 32])) (aL 3 bS (ac (fun ρ => rdV ρ 1) (ac (g2 bE (g2 bE (fun _ => R.ok (D.int 602)) (g2 gf (fun _ => R.ok (D.int 10)) (fun ρ => rdV ρ 2))) (fun ρ => rdV ρ 0)) (ac (fun _ => R.ok (D.int 4)) (fun _ => R.ok [])))))) ((List.range n).map fun (i : Nat) => D.int (i : Int)) [none, some (.val (.lst fz (ns.map .int))), some (.val (.int (k : Int)))] = .ok (x.map fun c => .str [c]) := by
        rw [cb (fun d => match d with | .int j => .str [sg ns k j.toNat] | _ => .non) _ _ none]
        · simp only [x, List.map_map]; rfl
        · intro d hd
          obtain ⟨j, _, rfl⟩ := List.mem_map.1 hd
          refine ⟨rfl, ?_⟩
          have p4 : bS [.lst fz (ns.map .int), .int (602 + 10 * (k : Int) + (j : Int)), .int 4] = .ok (.int (dB ns (602 + 10 * k + j) 4)) := by
            rw [show (602 : Int) + 10 * (k : Int) + (j : Int) = ((602 + 10 * k + j : Nat) : Int) by omega]
            exact bM (by decide)
          have g5 := (DP ns k j).1
          show _ = R.ok (D.str [sg ns k j])
          generalize D.lst fz (ns.map .int) = S at *
          clear k2
          clear t1 t2 t3 t4 t5 wipe fin h h0 hr hc hr0 hw0 hw1 hm0 ok e1 e2 ha lb eo hS v q1 er hx hn mn rg hd p0 p1 k0 k1
          walk_at "run"
      have jn : iz (.str []) [.lst false (x.map fun c => D.str [c])] = some (.str x) := Ej (by omega) _
      have kd : gW "str" (.str []) = true := rfl
      have inr : ∀ a1 a2 a3 a5 a6 a7 a8 a9 a10 a11 : Option Sl, eT [0, 4] [some (.val (.lst fz (ns.map .int))), a1, a2, a3, some (.val (.int (k : Int))), a5, a6, a7, a8, a9, a10, a11] = [none, some (.val (.lst fz (ns.map .int))), some (.val (.int (k : Int)))] := fun _ _ _ _ _ _ _ _ _ _ => rfl
      have z : (x.map fun c => D.str [c]).length <= sizeLine := by simp; omega
      have fr : ∀ (a0 a1 a2 a3 a4 a5 a6 a7 a8 a10 a11 : Option Sl) (l : List D), frz 9 [a0, a1, a2, a3, a4, a5, a6, a7, a8, some (.own l), a10, a11] = [a0, a1, a2, a3, a4, a5, a6, a7, a8, some (.val (.lst false l)), a10, a11] := fun _ _ _ _ _ _ _ _ _ _ _ _ => rfl
      generalize x.map (fun c => D.str [c]) = u at *
      generalize D.lst fz (ns.map .int) = S at *
      unfold kR
      have a10 : ∀ z : Int, bE (.int z) (.int (10 * (k : Int))) = some (.int (z + 10 * (k : Int))) := fun _ => rfl
      clear v t1 t2 t3 t4 wipe fin h h0 hr hc hr0 hw0 hw1 hm0 e1 e2 ha lb eo hS hv ok hx k2 q1 er xl hn
      walk_at "run"
      show (if acc.length < sizeLine then _ else _ : O).seq oNx = _
      rw [if_pos hal]; rfl
    · have lt : decide ((s4 : Int) < (s0.1 : Int)) = false := decide_eq_false (by omega)
      obtain ⟨s', t1, t2, t3, t4⟩ := fin .wipe rfl ⟨_, rfl, rfl, by simp⟩
      have t5 : bG [sD (s1, s2, s3, s4), .tup [.str [119, 105, 112, 101]]] = .ok (sD s') := t4
      refine ⟨.wipe, s', some (.val (.int 1)), x7, x8, x9, rfl, t1, t2, t3, ?_⟩
      have eo : oD .wipe = .tup [.str [119, 105, 112, 101]] := rfl
      rw [eo]
      generalize D.lst fz (ns.map .int) = S at *
      unfold kR
      clear v t1 t2 t3 t4 wipe fin h h0 hr hc hr0 hw0 hw1 hm0 e1 e2 ha lb eo hS hv
      walk_at "run"
      show (if acc.length < sizeLine then _ else _ : O).seq oNx = _
      rw [if_pos hal]; rfl
  · rw [hv] at p0
    obtain ⟨s', t1, t2, t3, t4⟩ := fin .wipe rfl ⟨_, rfl, rfl, by simp⟩
    have t5 : bG [sD (s1, s2, s3, s4), .tup [.str [119, 105, 112, 101]]] = .ok (sD s') := t4
    refine ⟨.wipe, s', some (.val (.int 2)), x7, x8, x9, rfl, t1, t2, t3, ?_⟩
    have eo : oD .wipe = .tup [.str [119, 105, 112, 101]] := rfl
    rw [eo]
    generalize D.lst fz (ns.map .int) = S at *
    unfold kR
    clear v t1 t2 t3 t4 wipe fin h h0 hr hc hr0 hw0 hw1 hm0 e1 e2 ha lb eo hS hv
    walk_at "run"
    show (if acc.length < sizeLine then _ else _ : O).seq oNx = _
    rw [if_pos hal]; rfl

end
section
variable {C_Pad Cs Co Cr Cb Ct:Addr} {M1 M2 M3 M4 M5:MF} {F4 F5 F6 F7 F8 F9:List D->R D}
theorem sB {fz:Bool} {ns:List Int} {s0:Q.St} (h0:GS s0):∀ (m k:Nat) (s:Q.St) (os:List Od) (x4 x5 x6 x7 x8 x9:Option Sl),GS s->s.1=s0.1->s.2.1.length=s0.2.1.length->os.length+m<=10->(∀ o ∈ os,okO o=true)->rn (some s0) os=some s->
  ∃ (s':Q.St) (os':List Od) (y4 y5 y6 y7 y8 y9:Option Sl),GS s'/\os'.length<=10/\(∀ o ∈ os',okO o=true)/\rn (some s0) os'=some s'/\
   cF (fZ 4) (kR C_Pad M1 M2 M3 M4 M5 gz bS bG F4 F5 F6 F7 F8 F9) ((List.range' k m).map fun (i:Nat)=>D.int (i:Int)) [some (.val (.lst fz (ns.map .int))),some (.val (sD s0)),some (.val (sD s)),some (.own (os.map oD)),x4,x5,x6,x7,x8,x9,none,none]
   = .nx [some (.val (.lst fz (ns.map .int))),some (.val (sD s0)),some (.val (sD s')),some (.own (os'.map oD)),y4,y5,y6,y7,y8,y9,none,none]
 | 0,k,s,os,x4,x5,x6,x7,x8,x9,h,_,_,hl,ho,hr=>⟨s,os,x4,x5,x6,x7,x8,x9,h,by omega,ho,hr,rfl⟩
 | m+1,k,s,os,x4,x5,x6,x7,x8,x9,h,e1,e2,hl,ho,hr=>by
  obtain ⟨o,s1,y5,y7,y8,y9,ok,st,f1,f2,hB⟩:=DL (C_Pad:=C_Pad) (M1:=M1) (M2:=M2) (M3:=M3) (M4:=M4) (M5:=M5) (F4:=F4) (F5:=F5) (F6:=F6) (F7:=F7) (F8:=F8) (F9:=F9) (fz:=fz) (ns:=ns) h0 h e1 e2 k (os.map oD) (by simp; omega) x5 x6 x7 x8 x9
  have ho':∀ p ∈ os++[o],okO p=true:=fun p hp=>by
   rcases List.mem_append.1 hp with hp | hp
   ·exact ho p hp
   ·rw [List.mem_singleton] at hp; rw [hp]; exact ok
  obtain ⟨s',os',z4,z5,z6,z7,z8,z9,i1,i2,i3,i4,ih⟩:=sB (fz:=fz) (ns:=ns) h0 m (k+1) s1 (os++[o]) (some (.val (.int (k:Int)))) y5 (some (.val (oD o))) y7 y8 y9 (oj h ok st) f1 f2 (by simp; omega) ho' (by rw [EC,hr]; exact st)
  refine ⟨s',os',z4,z5,z6,z7,z8,z9,i1,i2,i3,i4,?_⟩
  have e:(os++[o]).map oD=os.map oD++[oD o]:=by rw [List.map_append]; rfl
  rw [e] at ih
  rw [List.range'_succ,List.map_cons,fO (ρ1:=[some (.val (.lst fz (ns.map .int))),some (.val (sD s0)),some (.val (sD s)),some (.own (os.map oD)),some (.val (.int (k:Int))),x5,x6,x7,x8,x9,none,none]) rfl hB]
  exact ih
theorem sJ {p:Addr} (x0 x1 x2 x3 x4 x5 x7 x8 x9 x11:Option Sl):∀ (os:List Od) (s s':Q.St) (a:D) (c:Int) (l:List D) (x6:Option Sl),GS s->(∀ o ∈ os,okO o=true)->rn (some s) os=some s'->l.length+os.length < 900->
  ∃ y6,cF (fZ 6) (sZ C_Pad (doM Cs Co Cr) M2 M3 M4 M5 gz bS bG F4 F5 F6 F7 F8 F9) (os.map oD) [x0,x1,x2,x3,x4,x5,x6,x7,x8,x9,some (.obj true C_Pad p (bC (l++[st3 a (sD s) c]) [])),x11]
   = .nx [x0,x1,x2,x3,x4,x5,y6,x7,x8,x9,some (.obj true C_Pad p (bC (l++[st3 a (sD s) c]++cO s c os) [])),x11]
 | [],s,s',a,c,l,x6,_,_,_,_=>⟨x6,by simp only [cO,List.append_nil]; rfl⟩
 | o::os,s,s',a,c,l,x6,h,ho,hr,hl=>by
  have ok:=ho o (List.mem_cons_self ..)
  rw [ld] at hr
  cases e:bN s o with
  | none=>rw [show (some s).bind (fun s=>bN s o)=none from e,ja] at hr; cases hr
  | some s1=>
   rw [show (some s).bind (fun s=>bN s o)=some s1 from e] at hr
   simp only [List.length_cons] at hl
   obtain ⟨y6,ih⟩:=sJ x0 x1 x2 x3 x4 x5 x7 x8 x9 x11 os s1 s' (.str wDo) (c+(bT o:Int)) (l++[st3 a (sD s) c]) (some (.val (oD o))) (oj h ok e) (fun p hp=>ho p (List.mem_cons_of_mem _ hp)) hr (by simp; omega)
   refine ⟨y6,?_⟩
   have d:=DC (Cs:=Cs) (Co:=Co) (Cr:=Cr) h ok e (l:=l) (tk:=[]) (a:=a) (c:=c) (by omega)
   have ec:l++[st3 a (sD s) c]++cO s c (o::os)=l++[st3 a (sD s) c]++[st3 (.str wDo) (sD s1) (c+(bT o:Int))]++cO s1 (c+(bT o:Int)) os:=by
    rw [cO,e]; simp
   rw [ec,<- ih,List.map_cons]
   have hB:sZ C_Pad (doM Cs Co Cr) M2 M3 M4 M5 gz bS bG F4 F5 F6 F7 F8 F9 [x0,x1,x2,x3,x4,x5,some (.val (oD o)),x7,x8,x9,some (.obj true C_Pad p (bC (l++[st3 a (sD s) c]) [])),x11]=.nx [x0,x1,x2,x3,x4,x5,some (.val (oD o)),x7,x8,x9,some (.obj true C_Pad p (bC (l++[st3 a (sD s) c]++[st3 (.str wDo) (sD s1) (c+(bT o:Int))]) [])),x11]:=by
    have o1:∀ a6,nq C_Pad [x0,x1,x2,x3,x4,x5,a6,x7,x8,x9,some (.obj true C_Pad p (bC (l++[st3 a (sD s) c]) [])),x11] 10=.ok (p,bC (l++[st3 a (sD s) c]) []):=fun _=>gZ rfl
    unfold sZ
    clear ih ec hr h ho ok e
    walk_at "run"
   exact fO (ρ1:=[x0,x1,x2,x3,x4,x5,some (.val (oD o)),x7,x8,x9,some (.obj true C_Pad p (bC (l++[st3 a (sD s) c]) [])),x11]) rfl hB
theorem tD {p:Addr} (x0 x1 x2 x3 x4 x5 x7 x8 x9 x10:Option Sl):∀ (os:List Od) (s s':Q.St) (a:D) (c:Int) (l:List D) (x6:Option Sl),GS s->(∀ o ∈ os,okO o=true)->rn (some s) os=some s'->l.length+os.length < 900->
  ∃ y6,cF (fZ 6) (sI C_Pad (doM Cs Co Cr) M2 M3 M4 M5 gz bS bG F4 F5 F6 F7 F8 F9) (os.map oD) [x0,x1,x2,x3,x4,x5,x6,x7,x8,x9,x10,some (.obj true C_Pad p (bC (l++[st3 a (sD s) c]) []))]
   = .nx [x0,x1,x2,x3,x4,x5,y6,x7,x8,x9,x10,some (.obj true C_Pad p (bC (l++[st3 a (sD s) c]++cO s c os) []))]
 | [],s,s',a,c,l,x6,_,_,_,_=>⟨x6,by simp only [cO,List.append_nil]; rfl⟩
 | o::os,s,s',a,c,l,x6,h,ho,hr,hl=>by
  have ok:=ho o (List.mem_cons_self ..)
  rw [ld] at hr
  cases e:bN s o with
  | none=>rw [show (some s).bind (fun s=>bN s o)=none from e,ja] at hr; cases hr
  | some s1=>
   rw [show (some s).bind (fun s=>bN s o)=some s1 from e] at hr
   simp only [List.length_cons] at hl
   obtain ⟨y6,ih⟩:=tD x0 x1 x2 x3 x4 x5 x7 x8 x9 x10 os s1 s' (.str wDo) (c+(bT o:Int)) (l++[st3 a (sD s) c]) (some (.val (oD o))) (oj h ok e) (fun p hp=>ho p (List.mem_cons_of_mem _ hp)) hr (by simp; omega)
   refine ⟨y6,?_⟩
   have d:=DC (Cs:=Cs) (Co:=Co) (Cr:=Cr) h ok e (l:=l) (tk:=[]) (a:=a) (c:=c) (by omega)
   have ec:l++[st3 a (sD s) c]++cO s c (o::os)=l++[st3 a (sD s) c]++[st3 (.str wDo) (sD s1) (c+(bT o:Int))]++cO s1 (c+(bT o:Int)) os:=by
    rw [cO,e]; simp
   rw [ec,<- ih,List.map_cons]
   have hB:sI C_Pad (doM Cs Co Cr) M2 M3 M4 M5 gz bS bG F4 F5 F6 F7 F8 F9 [x0,x1,x2,x3,x4,x5,some (.val (oD o)),x7,x8,x9,x10,some (.obj true C_Pad p (bC (l++[st3 a (sD s) c]) []))]=.nx [x0,x1,x2,x3,x4,x5,some (.val (oD o)),x7,x8,x9,x10,some (.obj true C_Pad p (bC (l++[st3 a (sD s) c]++[st3 (.str wDo) (sD s1) (c+(bT o:Int))]) []))]:=by
    have o1:∀ a6,nq C_Pad [x0,x1,x2,x3,x4,x5,a6,x7,x8,x9,x10,some (.obj true C_Pad p (bC (l++[st3 a (sD s) c]) []))] 11=.ok (p,bC (l++[st3 a (sD s) c]) []):=fun _=>gZ rfl
    unfold sI
    clear ih ec hr h ho ok e
    walk_at "run"
   exact fO (ρ1:=[x0,x1,x2,x3,x4,x5,some (.val (oD o)),x7,x8,x9,x10,some (.obj true C_Pad p (bC (l++[st3 a (sD s) c]) []))]) rfl hB
theorem pC:∀ (os:List Od) (s:Q.St) (c:Int),∀ d ∈ cO s c os,∃ a b z,d=st3 a b z
 | [],_,_,d,h=>by simp [cO] at h
 | o::os,s,c,d,h=>by
  rw [cO] at h
  cases e:bN s o with
  | none=>rw [e] at h; simp at h
  | some s1=>
   rw [e] at h
   simp only [List.mem_cons] at h
   rcases h with rfl | h
   ·exact ⟨_,_,_,rfl⟩
   ·exact pC os s1 _ d h
theorem pI {p:Addr} (x0 x1 x2 x3 x5 x6 x7 x8 x9 x11:Option Sl) (l:List D) (hl:0 < l.length):∀ (m k:Nat) (r tk:List D) (x4:Option Sl),r.length=m->(∀ d ∈ r,∃ a b z,d=st3 a b z)->tk.length+m<=100->
  ∃ y4 tk',cF (fZ 4) (oy C_Pad M1 M2 M3 (oB Cb) M5 gz bS bG F4 F5 F6 F7 F8 F9) ((List.range' k m).map fun (i:Nat)=>D.int (i:Int)) [x0,x1,x2,x3,x4,x5,x6,x7,x8,x9,some (.obj true C_Pad p (bC (l++r) tk)),x11]
   = .nx [x0,x1,x2,x3,y4,x5,x6,x7,x8,x9,some (.obj true C_Pad p (bC l tk')),x11]
 | 0,k,r,tk,x4,hr,_,_=>by
  have:r=[]:=List.length_eq_zero_iff.1 hr
  subst this
  exact ⟨x4,tk,by rw [List.append_nil]; rfl⟩
 | m+1,k,r,tk,x4,hr,hd,ht=>by
  obtain ⟨r',d,rfl⟩:∃ r' d,r=r'++[d]:=⟨r.dropLast,r.getLast (by intro z; rw [z] at hr; simp at hr),(List.dropLast_concat_getLast _).symm⟩
  obtain ⟨a,b,z,rfl⟩:=hd d (by simp)
  obtain ⟨y4,tk',ih⟩:=pI x0 x1 x2 x3 x5 x6 x7 x8 x9 x11 l hl m (k+1) r' (tk++[st3 a b z]) (some (.val (.int (k:Int)))) (by simp at hr; exact hr) (fun d h=>hd d (List.mem_append_left _ h)) (by simp; omega)
  refine ⟨y4,tk',?_⟩
  rw [<- ih,List.range'_succ,List.map_cons]
  have bk:=AQ (Cb:=Cb) (l:=l++r') (tk:=tk) (a:=a) (b:=b) (c:=z) (by simp; omega) (by omega)
  rw [List.append_assoc] at bk
  have hB:oy C_Pad M1 M2 M3 (oB Cb) M5 gz bS bG F4 F5 F6 F7 F8 F9 [x0,x1,x2,x3,some (.val (.int (k:Int))),x5,x6,x7,x8,x9,some (.obj true C_Pad p (bC (l++(r'++[st3 a b z])) tk)),x11]=.nx [x0,x1,x2,x3,some (.val (.int (k:Int))),x5,x6,x7,x8,x9,some (.obj true C_Pad p (bC (l++r') (tk++[st3 a b z]))),x11]:=by
   have o1:∀ a4,nq C_Pad [x0,x1,x2,x3,a4,x5,x6,x7,x8,x9,some (.obj true C_Pad p (bC (l++(r'++[st3 a b z])) tk)),x11] 10=.ok (p,bC (l++(r'++[st3 a b z])) tk):=fun _=>gZ rfl
   unfold oy
   clear ih hd hr ht hl
   walk_at "run"
  exact fO (ρ1:=[x0,x1,x2,x3,some (.val (.int (k:Int))),x5,x6,x7,x8,x9,some (.obj true C_Pad p (bC (l++(r'++[st3 a b z])) tk)),x11]) rfl hB
end
section
variable {C_Pad Cs Co Cr Cb Ct:Addr}
theorem Ga {f:Bool} {os:List Od} (ho:∀ o ∈ os,okO o=true) (hl:os.length<=1000):coF Co [.lst f (os.map oD)]=.ok (.int (jp os)):=by
 obtain ⟨t1,t2⟩:=CA (f:=f) ho hl
 show (if tgD (.lst f (os.map oD))=true then (if iA (.lst f (os.map oD))=true then (match Dp (os.map oD) with | some os=>R.ok (D.int ((os.map bT).sum:Nat)) | none=>.no) else .ex Co) else .no)=_
 rw [if_pos t1,if_pos t2,nH]; rfl
theorem FM {s:Q.St} {f:Bool} {os:List Od} (h:GS s) (ho:∀ o ∈ os,okO o=true) (hl:os.length<=1000):adF Cs Co Cr [sD s,.lst f (os.map oD)]=FV Cr (rn (some s) os):=by
 obtain ⟨t1,t2⟩:=CA (f:=f) ho hl
 show (if good 4 (sD s)=true/\tgD (.lst f (os.map oD))=true then (if screen (sD s)=true then (if iA (.lst f (os.map oD))=true then ql Cr (sD s) (os.map oD) else .ex Co) else .ex Cs) else .no)=_
 rw [if_pos ⟨h.good,t1⟩,if_pos h.screen,if_pos t2,Aj os h ho]
theorem FN (ns:List Int) (fz:Bool) (q:Addr × Addr × Unit):ay (nZ C_Pad (doM Cs Co Cr) fU eI (oB Cb) (mz Cs) gz bS bG (osF Co) (rsF Co Ct) (coF Co) (adF Cs Co Cr) (sxF Cs) (rdF Cs Ct) q [some (.val (.lst fz (ns.map .int))),none,none,none,none,none,none,none,none,none,none,none])=.ok (.bl true):=by
 have lb:=bo
 obtain ⟨s0,h0,e0,_,_⟩:=Ew ns 10
 obtain ⟨s,os,y4,y5,y6,y7,y8,y9,hs,ol,ok,hr,hL⟩:=sB (C_Pad:=C_Pad) (M1:=doM Cs Co Cr) (M2:=fU) (M3:=eI) (M4:=oB Cb) (M5:=mz Cs) (F4:=osF Co) (F5:=rsF Co Ct) (F6:=coF Co) (F7:=adF Cs Co Cr) (F8:=sxF Cs) (F9:=rdF Cs Ct) (fz:=fz) (ns:=ns) h0 10 0 s0 [] none none none none none none h0 rfl rfl (by decide) (by simp) rfl
 have rg:bD [.int 10]=.ok ((List.range' 0 10).map fun (i:Nat)=>D.int (i:Int)):=jV (n:=10) (by decide)
 have sm:gz [.lst fz (ns.map .int),.int 10]=.ok (sD s0):=by rw [<- e0]; exact pG (a:=10)
 have nw:=B7 (Cs:=Cs) h0
 obtain ⟨z6,d1⟩:=sJ (C_Pad:=C_Pad) (Cs:=Cs) (Co:=Co) (Cr:=Cr) (M2:=fU) (M3:=eI) (M4:=oB Cb) (M5:=mz Cs) (F4:=osF Co) (F5:=rsF Co Ct) (F6:=coF Co) (F7:=adF Cs Co Cr) (F8:=sxF Cs) (F9:=rdF Cs Ct) (p:=q.1) (some (.val (.lst fz (ns.map .int)))) (some (.val (sD s0))) (some (.val (sD s))) (some (.val (.lst false (os.map oD)))) y4 y5 y7 y8 y9 (some (.obj true C_Pad q.2.1 (bC [st3 (.str dZ) (sD s0) 0] []))) os s0 s (.str dZ) 0 [] y6 h0 ok hr (by simp; omega)
 obtain ⟨w6,d2⟩:=tD (C_Pad:=C_Pad) (Cs:=Cs) (Co:=Co) (Cr:=Cr) (M2:=fU) (M3:=eI) (M4:=oB Cb) (M5:=mz Cs) (F4:=osF Co) (F5:=rsF Co Ct) (F6:=coF Co) (F7:=adF Cs Co Cr) (F8:=sxF Cs) (F9:=rdF Cs Ct) (p:=q.2.1) (some (.val (.lst fz (ns.map .int)))) (some (.val (sD s0))) (some (.val (sD s))) (some (.val (.lst false (os.map oD)))) y4 y5 y7 y8 y9 (some (.obj true C_Pad q.1 (bC ([]++[st3 (.str dZ) (sD s0) 0]++cO s0 0 os) []))) os s0 s (.str dZ) 0 [] z6 h0 ok hr (by simp; omega)
 obtain ⟨u4,tk,bk⟩:=pI (C_Pad:=C_Pad) (Cb:=Cb) (M1:=doM Cs Co Cr) (M2:=fU) (M3:=eI) (M5:=mz Cs) (F4:=osF Co) (F5:=rsF Co Ct) (F6:=coF Co) (F7:=adF Cs Co Cr) (F8:=sxF Cs) (F9:=rdF Cs Ct) (p:=q.1) (some (.val (.lst fz (ns.map .int)))) (some (.val (sD s0))) (some (.val (sD s))) (some (.val (.lst false (os.map oD)))) y5 w6 y7 y8 y9 (some (.obj true C_Pad q.2.1 (bC ([]++[st3 (.str dZ) (sD s0) 0]++cO s0 0 os) []))) ([]++[st3 (.str dZ) (sD s0) 0]) (by simp) os.length 0 (cO s0 0 os) [] y4 (qk os s0 s 0 hr) (pC os s0 0) (by simp; omega)
 have rl:bD [.int (os.length:Int)]=.ok ((List.range' 0 os.length).map fun (i:Nat)=>D.int (i:Int)):=by rw [jV (by omega),List.range_eq_range']
 obtain ⟨l',a',ec⟩:=sH os s0 s (.str dZ) 0 [] hr
 have o1:=Gr (C:=Co) (f:=false) ok ol
 have o2:=Go (C6:=Co) (C7:=Ct) ok ol
 have c1:=Ga (Co:=Co) (f:=false) ok (by omega)
 have c2:=FM (Cs:=Cs) (Co:=Co) (Cr:=Cr) (f:=false) h0 ok (by omega)
 rw [hr] at c2; replace c2:adF Cs Co Cr [sD s0,.lst false (os.map oD)]=.ok (sD s):=c2
 have ck:cH Cs [sD s]=.ok .non:=pT hs.screen
 have sx:sxF Cs [sD s]=.ok (.str (scT s.2.1 s.2.2.1 s.2.2.2)):=Eo (wd:=s.1) hs.w2 hs.m (fun x hx=>(hs.l x hx).1) (by have:=hs.r; have:=hs.m; omega) (by have:=hs.c; have:=hs.w2; omega) ck
 have rd:rdF Cs Ct [.str (scT s.2.1 s.2.2.1 s.2.2.2)]=.ok (sD s):=GK (wd:=s.1) hs.m (by have:=hs.r; omega) hs.w2 (fun x hx=>(hs.l x hx).1) (fun x hx hm=>by
  have:=(hs.l x hx).2
  simp only [plain,List.all_eq_true] at this
  have:=this 10 hm
  simp at this) (by have:=hs.r; have:=hs.m; omega) (by have:=hs.c; have:=hs.w2; omega) ck (by show (if kh (sD s)=true then R.ok (D.bl (screen (sD s))) else .no)=_; rw [if_pos (lU hs.good),hs.screen])
 have n1:neF (sD s) (sD s)=some (.bl false):=wz (E8 s)
 have n2:eqF (sD s0) (sD s0)=some (.bl true):=sN (E8 s0)
 have n3:neF (.int (jp os)) (.int (jp os))=some (.bl false):=wz rfl
 have n4:eqF (.int (jp os)) (.int (jp os))=some (.bl true):=sN rfl
 have sh1:fU (bC ([]++[st3 (.str dZ) (sD s0) 0]++cO s0 0 os) []) []=.rd (sD s):=by rw [ec]; exact sC
 have sp1:eI (bC ([]++[st3 (.str dZ) (sD s0) 0]++cO s0 0 os) []) []=.rd (.int (jp os)):=by rw [ec,sY,Int.zero_add]
 have sh2:fU (bC ([]++[st3 (.str dZ) (sD s0) 0]) tk) []=.rd (sD s0):=sC
 have sp2:eI (bC ([]++[st3 (.str dZ) (sD s0) 0]) tk) []=.rd (.int 0):=sY
 have ln:fc [.lst false (os.map oD)]=some (.int (os.length:Int)):=by simp [fc]
 have fr:∀ (a0 a1 a2 a4 a5 a6 a7 a8 a9 a10 a11:Option Sl) (l:List D),frz 3 [a0,a1,a2,some (.own l),a4,a5,a6,a7,a8,a9,a10,a11]=[a0,a1,a2,some (.val (.lst false l)),a4,a5,a6,a7,a8,a9,a10,a11]:=fun _ _ _ _ _ _ _ _ _ _ _ _=>rfl
 have it:∀ (f:Bool) (l:List D),bw (.lst f l)=.ok l:=fun _ _=>rfl
 have z0:(0:Nat)<=sizeLine:=by omega
 have hp:([]:List D)++[st3 (.str dZ) (sD s0) 0]=[st3 (.str dZ) (sD s0) 0]:=rfl
 have om:([]:List Od).map oD=[]:=rfl
 rw [om] at hL
 rw [hp] at d1 d2 bk sh1 sh2 sp1 sp2
 generalize hA:[st3 (.str dZ) (sD s0) 0]=A at *
 generalize hB:A++cO s0 0 os=B at *
 have g1:∀ (a0 a1 a2 a3 a4 a5 a6 a7 a8 a9 a11:Option Sl) (fs:List (Nat × Fd)) (p:Addr),oO C_Pad [a0,a1,a2,a3,a4,a5,a6,a7,a8,a9,some (.obj true C_Pad p fs),a11] 10=.ok fs:=fun _ _ _ _ _ _ _ _ _ _ _ _ _=>fN rfl
 have g2:∀ (a0 a1 a2 a3 a4 a5 a6 a7 a8 a9 a10:Option Sl) (fs:List (Nat × Fd)) (p:Addr),oO C_Pad [a0,a1,a2,a3,a4,a5,a6,a7,a8,a9,a10,some (.obj true C_Pad p fs)] 11=.ok fs:=fun _ _ _ _ _ _ _ _ _ _ _ _ _=>fN rfl
 have gm:∀ (a0 a2 a3 a4 a5 a6 a7 a8 a9 a10 a11:Option Sl),(ac (fun ρ=>rdV ρ 1) (fun _=>R.ok []) [a0,some (.val (sD s0)),a2,a3,a4,a5,a6,a7,a8,a9,a10,a11]>>=vi (mz Cs) 1)=.ok (bC A []):=fun _ _ _ _ _ _ _ _ _ _ _=>nw
 unfold nZ uz tP zw AD Ad Av xD Ai Ag Aw vG vQ xn
 clear lb h0 e0 hs ol ok hr gm ec ck om hp hA hB
 generalize (List.range' 0 10).map (fun (i:Nat)=>D.int (i:Int))=r1 at *
 generalize (List.range' 0 os.length).map (fun (i:Nat)=>D.int (i:Int))=r2 at *
 generalize D.lst fz (ns.map .int)=S at *
 generalize scT s.2.1 s.2.2.1 s.2.2.2=T at *
 generalize os.map oD=u at *
 walk_at "run"
 done
end
end Q96
namespace Q
open PySem PySem.Spec PyProof.Rows L2
theorem jf {us:List Value} (h:us.length=1):∃ a,us=[a]:=by
 match us,h with
 | [a],_=>exact ⟨a,rfl⟩
theorem wo {us:List Value} (h:us.length=2):∃ a b,us=[a,b]:=by
 match us,h with
 | [a,b],_=>exact ⟨a,b,rfl⟩
theorem Dl {us:List Value} (h:us.length=3):∃ a b c,us=[a,b,c]:=by
 match us,h with
 | [a,b,c],_=>exact ⟨a,b,c,rfl⟩
theorem Hv {us:List Value} (h:us.length=4):∃ a b c d,us=[a,b,c,d]:=by
 match us,h with
 | [a,b,c,d],_=>exact ⟨a,b,c,d,rfl⟩
theorem E2 {K:PySem.W.Frag} {hp:Heap} {mg:Str->Option Value} {x:Str} {C:Addr} {bm:List Value} {nid:String} (kin:K.In hp) (gl:hp.Ns mainGlobals mg) (e1:PySem.W.nsIn K mainGlobals x=some (some (.ref C))) (e2:PySem.W.excIn K C bm nid=true):OwnCls x C bm nid mg hp:=by
 constructor
 ·exact PySem.W.mg_of kin gl e1
 ·unfold PySem.W.excIn at e2
  split at e2
  ·rename_i dct kl sls look
   split at e2
   ·rename_i C0 more s0 s1 s2 s3 nw s5 hmro hsls
    simp only [Bool.and_eq_true,beq_iff_eq,Bool.not_eq_true'] at e2
    obtain ⟨⟨⟨⟨⟨eC,en⟩,edel⟩,etail⟩,ens⟩,einit⟩:=e2
    obtain ⟨f1,f2,f3,f4,f5,f6,f7,f8,f9,f10,f11⟩:=kl
    dsimp only at hmro edel ens einit
    have es:sls = #[s0,s1,s2,s3,some (.builtin nw),s5]:=by
     obtain ⟨ls⟩:=sls
     simp only at hsls
     rw [hsls]
    subst hmro edel es eC en
    exact ⟨more,f4,f1,f5,f2,f6,f7,f8,f9,f10,dct,s0,s1,s2,s3,s5,_,kin _ _ look,.of_isNs (PySem.W.isNs_of_in kin ens),PySem.W.nsMap_none_of_in kin ens einit,PySem.W.tail_of_in kin etail⟩
   ·cases e2
  ·cases e2
theorem pX {K:PySem.W.Frag} {hp:Heap} {mg:Str->Option Value} {x:Str} {C:Addr} (kin:K.In hp) (gl:hp.Ns mainGlobals mg) (e1:PySem.W.nsIn K mainGlobals x=some (some (.ref C))) (e2:PySem.W.excIn K C [.type "ValueError",.type "Exception",.type "BaseException",.type "object"] "ValueError.__new__"=true):Ref x C mg hp:=
 ⟨_,_,_,_,E2 kin gl e1 e2,PySem.F.excBase_ValueError⟩
theorem qm {K:PySem.W.Frag} {G:Hp}:∀ ns:List Int,Reps K G (ns.map V.int) (ns.map D.int)
 | []=>.nil
 | i::ns=>.cons (.int i) (qm ns)
def xX:List D->R D
 | [.lst _ ds]=>match eP ds with
  | some _=>.ok (.bl true)
  | none=>.no
 | _=>.no
theorem IC {l:PySem.W.OpenLaw} {q:Program} {loose:List Str} {XP:(Str->Option Value)->Heap->Prop} {YP:World->Heap->Prop} {d:DefRec} {K:Params->PySem.W.Frag} {L:Nat} (hL:Room L callerA) (hn:l.most=some 63) (hdf:d.params.defaults=[])
  (hY:∀ (w:World) (h:Heap),YP w h->(K w.params).In h)
  (F:∀ (w:World) (mg:Str->Option Value) (fa:Addr) (h:Heap),(K w.params).In h->h.Ns mainGlobals mg->mg d.name=some (.ref fa)->
   ∃ fd:FuncData,(∀ (s:Shared) (u:Value),BindsTo s fd ⟨[u],[]⟩ [("_law_script",u)])/\∀ base:Heap,(K w.params).In base->base.Ns mainGlobals mg->FnF l.prog w (K w.params) mg base L fa fd ["_law_script"] xX) :
  PySem.W.WalkO q loose XP YP l.row.toRowW d [] (fun f vs=>PySem.call f vs):=
 L2.vN (n:=63) (k:=L) (x:="_law_script") (CX:=fun w=>CXo l.prog w) (sp:=fun w vs H Q E=>vs.length=1/\spF (K w.params) xX vs H Q E) hn (by decide) hdf hL hY F
  (fun w H a ns hl hO hS=>⟨rfl,H,[.lst true (ns.map .int)],.refl _,.cons (.fls hS (qm ns)) .nil,by
   have e:xX [.lst true (ns.map .int)]=.ok (.bl true):=by simp only [xX,dz]
   rw [e]
   exact fun v G' H' u r=>r.bl_inv⟩)
  fun w H s e s' z=>by obtain ⟨a,C,H',_,_,z⟩:=z; exact z
theorem bj {K:PySem.W.Frag} {h:Heap} {mg:Str->Option Value} {x:Str} {st:Stmt} {f:Addr} {oc:Value} {od an:Option Addr} {osl:Array (Option Value)} {kV doc pm cdv ct:Value} (X:K.In h) (G:h.Ns mainGlobals mg) (a:PySem.W.nsIn K mainGlobals x=some (some (.ref f)))
  (l:K.lookup f=some ⟨oc,od,.func (PySem.W.fnOf x x (ef st) (cr st) (ar st) .none kV doc pm an cdv ct),osl⟩) (c:PySem.W.codeIn K cdv x=true) (k:PySem.W.keepIn K (.ref f)=true):∃ f fd,Fun K x x st f fd/\mg x=some (.ref f):=
 ⟨f,_,vW l c k,PySem.W.mg_of X G a⟩
end Q
namespace Q
open PySem PySem.Spec PyProof.Rows L2
theorem kG {K:PySem.W.Frag} {C f:Addr} {x qual:Str} {st:Stmt} {oc:Value} {od an:Option Addr} {osl:Array (Option Value)} {kV doc pm cdv ct:Value} (a:PySem.W.findIn K (.ref C) x=some (some (.ref f))) (i:PySem.W.isFn K (.ref f)=true)
  (l:K.lookup f=some ⟨oc,od,.func (PySem.W.fnOf x qual (ef st) (cr st) (ar st) .none kV doc pm an cdv ct),osl⟩) (c:PySem.W.codeIn K cdv qual=true) (k:PySem.W.keepIn K (.ref f)=true):∃ f fd,Fun K x qual st f fd/\Meth K C x f:=
 ⟨f,_,vW l c k,⟨a,i,k⟩⟩
theorem AV {K:PySem.W.Frag} {C f:Addr} {qual:Str} {st:Stmt} {oc:Value} {od an:Option Addr} {osl:Array (Option Value)} {kV doc pm cdv ct:Value} (a:PySem.W.findIn K (.ref C) "__init__"=some (some (.ref f))) (i:PySem.W.isFn K (.ref f)=true)
  (l:K.lookup f=some ⟨oc,od,.func (PySem.W.fnOf "__init__" qual (ef st) (cr st) (ar st) .none kV doc pm an cdv ct),osl⟩) (c:PySem.W.codeIn K cdv qual=true) (k:PySem.W.keepIn K (.ref f)=true) (mk:PySem.W.makesIn K C=true) (kc:PySem.W.keepIn K (.ref C)=true) :
  ∃ f fd,Fun K "__init__" qual st f fd/\Mk K C f:=⟨f,_,vW l c k,⟨mk,a,i,kc⟩⟩
theorem Fu {K:PySem.W.Frag} {C:Addr} (pg:PySem.W.plainGet K C Str.empty=true) (hd:PySem.W.hasDictIn K C=true) (po:PySem.W.plainOver K C=true) (sa:PySem.W.findIn K (.ref C) "__setattr__"=some (some (.builtin "object.__setattr__"))):CF K C []:=
 ⟨⟨pg,hd,po,sa⟩,fun k hk=>by simp at hk⟩
theorem xL {K:PySem.W.Frag} {C:Addr} {ks:List Nat} {x:Str} (k:Nat) (h:CF K C ks) (hk:k < fnames.length) (e:bP k=x) (n:PySem.W.findIn K (.ref C) x=some none):CF K C (k::ks):=
 ⟨h.cl,fun j hj=>by
  rcases List.mem_cons.1 hj with rfl | hj
  ·exact ⟨hk,by unfold NoAttr; rw [e]; exact n⟩
  ·exact h.na j hj⟩
section
variable {P:Program} {w:World} {K:PySem.W.Frag} {mg:Str->Option Value} {base:Heap} {C:Addr} {x qual:Str} {st:Stmt} {f:Addr} {fd:FuncData} {ps:List Str} {k n:Nat} {G:MF}
theorem lM (F:Fun K x qual st f fd) (m:Meth K C x f) (ok:FnM P w K mg base k f fd ps C G)
  (h:∀ (kV doc pm:Value) (an:Option Addr) (cdv ct:Value) (us:List Value),us.length=ps.length->bindArgs (PySem.W.fnOf x qual (ef st) (cr st) (ar st) .none kV doc pm an cdv ct) ⟨us,[]⟩=pure (ps.zip us)) (e:ps.length=n+1):MCallee P w K mg base C x k n G:=
 ⟨⟨f,fd,ps,ok,m,F.binds h,e⟩⟩
theorem mkc {cn:Str} (F:Fun K x qual st f fd) (m:Mk K C f) (hc:mg cn=some (.ref C)) (ok:FnM P w K mg base k f fd ps C G)
  (h:∀ (kV doc pm:Value) (an:Option Addr) (cdv ct:Value) (us:List Value),us.length=ps.length->bindArgs (PySem.W.fnOf x qual (ef st) (cr st) (ar st) .none kV doc pm an cdv ct) ⟨us,[]⟩=pure (ps.zip us)) (e:ps.length=n+1):MkC P w K mg base C cn k n G:=
 ⟨⟨f,fd,ps,ok,m,hc,F.binds h,e⟩⟩
theorem yy {cn:Str} (c:MkC P w K mg base C cn k n G) (k':Nat) (h:k<=k':=by decide):MkC P w K mg base C cn k' n G:=by
 obtain ⟨f,fd,ps,M,hm,hg,hb,e⟩:=c.ex
 exact ⟨⟨f,fd,ps,{ M with run:=fun A outer s H args us vs Q E hr=>M.run A outer s H args us vs Q E (hr.mono h) },hm,hg,hb,e⟩⟩
end
theorem B9 {α:Type} {g:α->List D->R D} (h:∀ (ns:List Int) (fz:Bool) (q:α),g q [.lst fz (ns.map .int)]=.ok (.bl true)):∀ ds:List D,ds.length=1->xX ds=.no\/∀ q,g q ds=xX ds:=by
 intro ds hl
 match ds,hl with
 | [d],_=>
  cases d <;> first | exact Or.inl rfl | skip
  rename_i fz ds hl
  cases hi:eP ds with
  | none=>exact Or.inl (by simp only [xX,hi])
  | some ns=>
   have e:=eW hi
   subst e
   refine Or.inr fun q=>?_
   rw [h ns fz q]
   simp only [xX,hi]
end Q
namespace G96
open PySem PySem.Spec PyProof.Rows L2 Q Q70 Q96
abbrev top (i:Nat):Stmt:=PySem.Challenge.pw_screenlines_k96_whole_texts_of_orders_on.main.body.getD i (.Pass ⟨0,0,0,0⟩)
section
variable {P:Program} {w:World} {K:PySem.W.Frag} {mg:Str->Option Value} {base:Heap}
theorem rz:FnScope ["_law_script","_law_k"] ["_law_script","_law_k"] (ar (top 57)):=⟨rfl,rfl,rfl,by decide +kernel,rfl,by decide +kernel,by decide +kernel⟩
theorem rO {f:Addr} {fd:FuncData} (b_len:mg "len"=none) (Fn:Fun K "_law_cell" "_law_cell" (top 57) f fd):FnF P w K mg base 1 f fd ["_law_script","_law_k"] (fun ds=>ay (dP (ax 2 ds))):=by
 have hN:(["_law_script","_law_k"]:List Str).Nodup:=by decide
 refine Fn.okF rz (k:=0) (g:=dP) fun cdv A outer s H E hr=>?_
 have hu:=hr.units
 have hh:=hr.hd
 exact (ai (gh (AY (ag at1) (dY rfl b_len (aa (ag at0) ae))) (ai (bh (aP (ag at0) (ag at1))) aF) aF) (ai (gh (gw hu (ag at0) (DH (wD ae))) (ai (bh aj) aF) aF) (ai (bh (bg (fj (aP (ag at0) (sR (ag at1) (dY rfl b_len (aa (ag at0) ae)))) aj) (ag at1))) aF)))
theorem rB:FnScope ["_law_script","_law_k","_law_many","_law_drawn"] ["_law_script","_law_k","_law_many"] (ar (top 58)):=⟨rfl,rfl,rfl,by decide +kernel,rfl,by decide +kernel,by decide +kernel⟩
theorem rE {f:Addr} {fd:FuncData} {bK:List D->R D} (c__law_cell:Callee P w K mg base "_law_cell" 1 2 bK) (Fn:Fun K "_law_pick" "_law_pick" (top 58) f fd):FnF P w K mg base 2 f fd ["_law_script","_law_k","_law_many"] (fun ds=>ay (dS bK (ax 4 ds))):=by
 have hN:(["_law_script","_law_k","_law_many","_law_drawn"]:List Str).Nodup:=by decide
 refine Fn.okF rB (k:=1) (g:=dS bK) fun cdv A outer s H E hr=>?_
 have hu:=hr.units
 have hh:=hr.hd
 exact (ai (ca at3 hN (sR (fj (bg (aI c__law_cell hr (aa (ag at0) (aa (ag at1) ae))) (fj aj (bg (ag at1) aj))) aj) aj)) (ai (bh (sR (sR (bg (fj (ag at3) (ag at3)) (C3 (ag at3) aj)) aj) (ag at2))) aF))
theorem ub:FnScope ["_law_script","_law_at","_law_width","_law_made","_law_k","_law_long"] ["_law_script","_law_at","_law_width"] (ar (top 59)):=⟨rfl,rfl,rfl,by decide +kernel,rfl,by decide +kernel,by decide +kernel⟩
theorem uE {f:Addr} {fd:FuncData} {af:List D->R D} (b_range:mg "range"=none) (c__law_pick:Callee P w K mg base "_law_pick" 2 3 af) (Fn:Fun K "_law_row" "_law_row" (top 59) f fd):FnF P w K mg base 3 f fd ["_law_script","_law_at","_law_width"] (fun ds=>ay (eS af (ax 6 ds))):=by
 have hN:(["_law_script","_law_at","_law_width","_law_made","_law_k","_law_long"]:List Str).Nodup:=by decide
 refine Fn.okF ub (k:=2) (g:=eS af) fun cdv A outer s H E hr=>?_
 have hu:=hr.units
 have hh:=hr.hd
 exact (ai (ca at3 hN (aR (l:=[]) rfl (by decide))) (ai (su PassesOwn.leaving rfl (iQ rfl b_range (aa (ag at2) ae)) (cy 4 hN) (ai (ca at3 hN (bg (ag at3) (aP (aR (l:=[32,32,97,98,35]) rfl (by decide)) (aI c__law_pick hr (aa (ag at0) (aa (bg (bg (ag at1) aj) (ag at4)) (aa aj ae))))))) aF)) (ai (ca at5 hN (aI c__law_pick hr (aa (ag at0) (aa (ag at1) (aa (bg (ag at2) aj) ae))))) (ai (bh (wV (gw hu (aI c__law_pick hr (aa (ag at0) (aa (bg (ag at1) aj) (aa aj ae)))) aj) (ag at3) (bg (bZ (ag at3) ci (dX (ag at5))) (fj (aR (l:=[32]) rfl (by decide)) (pR (ag at2) (ag at5)))))) aF))))
theorem oK:FnScope ["_law_script","_law_at","_law_width","_law_many","_law_rows"] ["_law_script","_law_at","_law_width","_law_many"] (ar (top 60)):=⟨rfl,rfl,rfl,by decide +kernel,rfl,by decide +kernel,by decide +kernel⟩
theorem ou {f:Addr} {fd:FuncData} {bW af:List D->R D} (b_range:mg "range"=none) (b_tuple:mg "tuple"=none) (c__law_row:Callee P w K mg base "_law_row" 3 3 bW) (c__law_pick:Callee P w K mg base "_law_pick" 3 3 af) (Fn:Fun K "_law_screen" "_law_screen" (top 60) f fd):FnF P w K mg base 4 f fd ["_law_script","_law_at","_law_width","_law_many"] (fun ds=>ay (cL bW af (ax 5 ds))):=by
 have hN:(["_law_script","_law_at","_law_width","_law_many","_law_rows"]:List Str).Nodup:=by decide
 refine Fn.okF oK (k:=3) (g:=cL bW af) fun cdv A outer s H E hr=>?_
 have hu:=hr.units
 have hh:=hr.hd
 exact (ai (ca at4 hN (qz rfl b_tuple (aa (jJ (eR (N':=["_law_k","_law_script","_law_at","_law_width"]) (ix:=[0,1,2]) dm rfl (iQ rfl b_range (aa (ag at3) ae)) (fun C s₂ H₂ fp=>(aI c__law_row hr (aa (cQ at1) (aa (bg (cQ at2) (fj aj (cQ at0))) (aa (cQ at3) ae))))) (fun C s₂ H₂ fp=>dt))) ae))) (ai (bh (dn (aa (ag at2) (aa (ag at4) (aa (dn (aa (aI c__law_pick hr (aa (ag at0) (aa (bg (ag at1) aj) (aa (ag at3) ae)))) (aa (aI c__law_pick hr (aa (ag at0) (aa (bg (ag at1) aj) (aa (bg (ag at2) aj) ae)))) ae))) ae))))) aF))
theorem rF:FnScope ["_law_script","_law_at"] ["_law_script","_law_at"] (ar (top 61)):=⟨rfl,rfl,rfl,by decide +kernel,rfl,by decide +kernel,by decide +kernel⟩
theorem qR {f:Addr} {fd:FuncData} {af bI:List D->R D} (c__law_pick:Callee P w K mg base "_law_pick" 4 3 af) (c__law_screen:Callee P w K mg base "_law_screen" 4 4 bI) (Fn:Fun K "_law_some" "_law_some" (top 61) f fd):FnF P w K mg base 5 f fd ["_law_script","_law_at"] (fun ds=>ay (fC af bI (ax 2 ds))):=by
 have hN:(["_law_script","_law_at"]:List Str).Nodup:=by decide
 refine Fn.okF rF (k:=4) (g:=fC af bI) fun cdv A outer s H E hr=>?_
 have hu:=hr.units
 have hh:=hr.hd
 exact (ai (bh (aI c__law_screen hr (aa (ag at0) (aa (bg (ag at1) aj) (aa (bg aj (aI c__law_pick hr (aa (ag at0) (aa (ag at1) (aa aj ae))))) (aa (bg aj (aI c__law_pick hr (aa (ag at0) (aa (bg (ag at1) aj) (aa aj ae))))) ae)))))) aF)
theorem qS:FnScope ["_law_screen_here","_law_order","_law_width","_law_rows","_law_place","_law_good","_law_text","_law_end","_law_row_here","_law_new"] ["_law_screen_here","_law_order"] (ar (top 62)):=⟨rfl,rfl,rfl,by decide +kernel,rfl,by decide +kernel,by decide +kernel⟩
theorem rS {f:Addr} {fd:FuncData} (b_len:mg "len"=none) (Fn:Fun K "_law_step" "_law_step" (top 62) f fd):FnF P w K mg base 1 f fd ["_law_screen_here","_law_order"] (fun ds=>ay (dW (ax 10 ds))):=by
 have hN:(["_law_screen_here","_law_order","_law_width","_law_rows","_law_place","_law_good","_law_text","_law_end","_law_row_here","_law_new"]:List Str).Nodup:=by decide
 refine Fn.okF qS (k:=0) (g:=dW) fun cdv A outer s H E hr=>?_
 have hu:=hr.units
 have hh:=hr.hd
 exact (ai (E0 (ag at0) rfl (kY 2 hN (kY 3 hN (kY 4 hN yj)))) (ai (gh (gw hu (aP (ag at1) aj) (aR (l:=[103,111]) rfl (by decide))) (ai (ca at5 hN (dJ (FS (aP (ag at1) aj) (dY rfl b_len (aa (ag at3) ae))) (fk (Fp (aP (ag at1) aj) (ag at2))))) (ai (bh (wV (BO (ag at5)) (dn (aa (ag at2) (aa (ag at3) (aa (dn (aa (aP (ag at1) aj) (aa (aP (ag at1) aj) ae))) ae)))) (aR (l:=[110,111,32,114,111,111,109]) rfl (by decide)))) aF)) aF) (ai (ca at6 hN (wV (gw hu (aP (ag at1) aj) (aR (l:=[115,97,121]) rfl (by decide))) (aP (ag at1) aj) (fj (aR (l:=[32]) rfl (by decide)) (pR (ag at2) (aP (ag at4) aj))))) (ai (ca at7 hN (bg (aP (ag at4) aj) (dY rfl b_len (aa (ag at6) ae)))) (ai (gh (B3 (ag at7) (ag at2)) (ai (bh (aR (l:=[110,111,32,114,111,111,109]) rfl (by decide))) aF) aF) (ai (ca at8 hN (aP (ag at3) (aP (ag at4) aj))) (ai (ca at8 hN (bg (bg (bZ (ag at8) ci (dX (aP (ag at4) aj))) (ag at6)) (bZ (ag at8) (dX (ag at7)) ci))) (ai (ca at9 hN (bg (bg (bZ (ag at3) ci (dX (aP (ag at4) aj))) (dn (aa (ag at8) ae))) (bZ (ag at3) (dX (bg (aP (ag at4) aj) aj)) ci))) (ai (bh (dn (aa (ag at2) (aa (ag at9) (aa (dn (aa (aP (ag at4) aj) (aa (wV (gw hu (aP (ag at1) aj) (aR (l:=[115,97,121]) rfl (by decide))) (ag at7) (aP (ag at4) aj)) ae))) ae))))) aF)))))))))
theorem sw:FnScope ["thing"] ["thing"] (ar (top 12)):=⟨rfl,rfl,rfl,by decide +kernel,rfl,by decide +kernel,by decide +kernel⟩
theorem rf {f:Addr} {fd:FuncData} (b_all:mg "all"=none) (b_isinstance:mg "isinstance"=none) (b_str:mg "str"=none) (Fn:Fun K "is_plain" "is_plain" (top 12) f fd):FnF P w K mg base 1 f fd ["thing"] (fun ds=>ay (dQ (ax 1 ds))):=by
 have hN:(["thing"]:List Str).Nodup:=by decide
 refine Fn.okF sw (k:=0) (g:=dQ) fun cdv A outer s H E hr=>?_
 have hu:=hr.units
 have hh:=hr.hd
 exact (ai (bh (dJ (vM b_isinstance (ag at0) b_str) (fk (zD rfl rfl b_all (aa (jJ (eR (N':=["sign"]) (ix:=[]) dm rfl (eG (ag at0)) (fun C s₂ H₂ fp=>(rQ (aR (l:=[32]) rfl (by decide)) (cQ at0) (aR (l:=[126]) rfl (by decide)))) (fun C s₂ H₂ fp=>dt))) ae))))) aF)
theorem xN:FnScope ["thing"] ["thing"] (ar (top 25)):=⟨rfl,rfl,rfl,by decide +kernel,rfl,by decide +kernel,by decide +kernel⟩
theorem xv {f:Addr} {fd:FuncData} {bi:List D->R D} (b_len:mg "len"=none) {t_MOST_SAID:Tok} (g_MOST_SAID:mg "MOST_SAID"=some (.int 40 t_MOST_SAID)) (c_is_plain:Callee P w K mg base "is_plain" 1 1 bi) (Fn:Fun K "is_say" "is_say" (top 25) f fd):FnF P w K mg base 2 f fd ["thing"] (fun ds=>ay (fV bi (ax 1 ds))):=by
 have hN:(["thing"]:List Str).Nodup:=by decide
 refine Fn.okF xN (k:=1) (g:=fV bi) fun cdv A outer s H E hr=>?_
 have hu:=hr.units
 have hh:=hr.hd
 exact (ai (bh (dJ (ss hu (dY rfl b_len (aa (ag at0) ae)) aj) (dJ (ss hu (aP (ag at0) aj) (aR (l:=[115,97,121]) rfl (by decide))) (dJ (aI c_is_plain hr (aa (aP (ag at0) aj) ae)) (fk (rQ aj (dY rfl b_len (aa (aP (ag at0) aj) ae)) (dN rfl g_MOST_SAID))))))) aF)
theorem rP:FnScope ["thing"] ["thing"] (ar (top 10)):=⟨rfl,rfl,rfl,by decide +kernel,rfl,by decide +kernel,by decide +kernel⟩
theorem qI {f:Addr} {fd:FuncData} (b_bool:mg "bool"=none) (jh:mg "int"=none) (b_isinstance:mg "isinstance"=none) (Fn:Fun K "is_whole" "is_whole" (top 10) f fd):FnF P w K mg base 1 f fd ["thing"] (fun ds=>ay (dL (ax 1 ds))):=by
 have hN:(["thing"]:List Str).Nodup:=by decide
 refine Fn.okF rP (k:=0) (g:=dL) fun cdv A outer s H E hr=>?_
 have hu:=hr.units
 have hh:=hr.hd
 exact (ai (bh (dJ (B0 b_isinstance (ag at0) jh) (fk (DY (yP b_isinstance (ag at0) b_bool))))) aF)
theorem pO:FnScope ["thing","low","high"] ["thing","low","high"] (ar (top 11)):=⟨rfl,rfl,rfl,by decide +kernel,rfl,by decide +kernel,by decide +kernel⟩
theorem pJ {f:Addr} {fd:FuncData} {cJ:List D->R D} (c_is_whole:Callee P w K mg base "is_whole" 1 1 cJ) (Fn:Fun K "is_within" "is_within" (top 11) f fd):FnF P w K mg base 2 f fd ["thing","low","high"] (fun ds=>ay (cY cJ (ax 3 ds))):=by
 have hN:(["thing","low","high"]:List Str).Nodup:=by decide
 refine Fn.okF pO (k:=1) (g:=cY cJ) fun cdv A outer s H E hr=>?_
 have hu:=hr.units
 have hh:=hr.hd
 exact (ai (bh (dJ (aI c_is_whole hr (aa (ag at0) ae)) (fk (rQ (ag at1) (ag at0) (ag at2))))) aF)
theorem yp:FnScope ["thing"] ["thing"] (ar (top 26)):=⟨rfl,rfl,rfl,by decide +kernel,rfl,by decide +kernel,by decide +kernel⟩
theorem yk {f:Addr} {fd:FuncData} {aA:List D->R D} (b_len:mg "len"=none) {t_MOST_ROWS:Tok} (g_MOST_ROWS:mg "MOST_ROWS"=some (.int 12 t_MOST_ROWS)) {t_MOST_WIDTH:Tok} (g_MOST_WIDTH:mg "MOST_WIDTH"=some (.int 40 t_MOST_WIDTH)) (c_is_within:Callee P w K mg base "is_within" 2 3 aA) (Fn:Fun K "is_go" "is_go" (top 26) f fd):FnF P w K mg base 3 f fd ["thing"] (fun ds=>ay (iM aA (ax 1 ds))):=by
 have hN:(["thing"]:List Str).Nodup:=by decide
 refine Fn.okF yp (k:=2) (g:=iM aA) fun cdv A outer s H E hr=>?_
 have hu:=hr.units
 have hh:=hr.hd
 exact (ai (gh (iJ (eF (ji hu (dY rfl b_len (aa (ag at0) ae)) aj) (cS (ji hu (aP (ag at0) aj) (aR (l:=[103,111]) rfl (by decide)))))) (ai (bh pH) aF) aF) (ai (bh (dJ (aI c_is_within hr (aa (aP (ag at0) aj) (aa aj (aa (pR (dN rfl g_MOST_ROWS) aj) ae)))) (fk (aI c_is_within hr (aa (aP (ag at0) aj) (aa aj (aa (dN rfl g_MOST_WIDTH) ae))))))) aF))
theorem qU:FnScope ["thing"] ["thing"] (ar (top 27)):=⟨rfl,rfl,rfl,by decide +kernel,rfl,by decide +kernel,by decide +kernel⟩
theorem sj {f:Addr} {fd:FuncData} {dg eX:List D->R D} (b_isinstance:mg "isinstance"=none) (b_tuple:mg "tuple"=none) (c_is_say:Callee P w K mg base "is_say" 3 1 dg) (c_is_go:Callee P w K mg base "is_go" 3 1 eX) (Fn:Fun K "is_order" "is_order" (top 27) f fd):FnF P w K mg base 4 f fd ["thing"] (fun ds=>ay (dI dg eX (ax 1 ds))):=by
 have hN:(["thing"]:List Str).Nodup:=by decide
 refine Fn.okF qU (k:=3) (g:=dI dg eX) fun cdv A outer s H E hr=>?_
 have hu:=hr.units
 have hh:=hr.hd
 exact (ai (gh (dv (dF (ir b_isinstance (ag at0) b_tuple))) (ai (bh pH) aF) aF) (ai (bh (DX (aI c_is_say hr (aa (ag at0) ae)) (DX (aI c_is_go hr (aa (ag at0) ae)) (fk (ss hu (ag at0) (dn (aa (aR (l:=[119,105,112,101]) rfl (by decide)) ae))))))) aF))
theorem mE:FnScope ["thing"] ["thing"] (ar (top 28)):=⟨rfl,rfl,rfl,by decide +kernel,rfl,by decide +kernel,by decide +kernel⟩
theorem mH {f:Addr} {fd:FuncData} {bf:List D->R D} {ba:Addr} (r_NoOrder:Ref "NoOrder" ba mg base) (c_is_order:Callee P w K mg base "is_order" 4 1 bf) (Fn:Fun K "check_order" "check_order" (top 28) f fd):FnF P w K mg base 5 f fd ["thing"] (fun ds=>ay (cA bf ba (ax 1 ds))):=by
 have hN:(["thing"]:List Str).Nodup:=by decide
 refine Fn.okF mE (k:=4) (g:=cA bf ba) fun cdv A outer s H E hr=>?_
 have hu:=hr.units
 have hh:=hr.hd
 exact (ai (gh (dv (dF (aI c_is_order hr (aa (ag at0) ae)))) (ai (fb r_NoOrder hh (aR (l:=[116,104,105,115,32,105,115,32,110,111,32,111,114,100,101,114]) rfl (by decide))) aF) aF) aF)
theorem kF:FnScope ["thing","order"] ["thing"] (ar (top 29)):=⟨rfl,rfl,rfl,by decide +kernel,rfl,by decide +kernel,by decide +kernel⟩
theorem lq {f:Addr} {fd:FuncData} {aq:List D->R D} {ba:Addr} (b_isinstance:mg "isinstance"=none) (b_list:mg "list"=none) (r_NoOrder:Ref "NoOrder" ba mg base) (c_check_order:Callee P w K mg base "check_order" 5 1 aq) (Fn:Fun K "check_orders" "check_orders" (top 29) f fd):FnF P w K mg base 6 f fd ["thing"] (fun ds=>ay (cR aq ba (ax 2 ds))):=by
 have hN:(["thing","order"]:List Str).Nodup:=by decide
 refine Fn.okF kF (k:=5) (g:=cR aq ba) fun cdv A outer s H E hr=>?_
 have hu:=hr.units
 have hh:=hr.hd
 exact (ai (gh (dv (dF (zR b_isinstance (ag at0) b_list))) (ai (fb r_NoOrder hh (aR (l:=[116,104,105,115,32,105,115,32,110,111,32,108,105,115,116,32,111,102,32,111,114,100,101,114,115]) rfl (by decide))) aF) aF) (ai (su PassesOwn.leaving rfl (eG (ag at0)) (cy 1 hN) (ai (gE (aI c_check_order hr (aa (ag at1) ae))) aF)) aF))
theorem qy:FnScope ["row","column"] ["row","column"] (ar (top 41)):=⟨rfl,rfl,rfl,by decide +kernel,rfl,by decide +kernel,by decide +kernel⟩
theorem pQ {f:Addr} {fd:FuncData} (Fn:Fun K "spot_text" "spot_text" (top 41) f fd):FnF P w K mg base 1 f fd ["row","column"] (fun ds=>ay (db (ax 2 ds))):=by
 have hN:(["row","column"]:List Str).Nodup:=by decide
 refine Fn.okF qy (k:=0) (g:=db) fun cdv A outer s H E hr=>?_
 have hu:=hr.units
 have hh:=hr.hd
 exact (ai (bh (xo (BN (ag at0)) (aR (l:=[32]) rfl (by decide)) (BN (ag at1)))) aF)
theorem oU:FnScope ["order"] ["order"] (ar (top 45)):=⟨rfl,rfl,rfl,by decide +kernel,rfl,by decide +kernel,by decide +kernel⟩
theorem nL {f:Addr} {fd:FuncData} {aq aK:List D->R D} (c_check_order:Callee P w K mg base "check_order" 5 1 aq) (c_spot_text:Callee P w K mg base "spot_text" 5 2 aK) (Fn:Fun K "order_text" "order_text" (top 45) f fd):FnF P w K mg base 6 f fd ["order"] (fun ds=>ay (cN aq aK (ax 1 ds))):=by
 have hN:(["order"]:List Str).Nodup:=by decide
 refine Fn.okF oU (k:=5) (g:=cN aq aK) fun cdv A outer s H E hr=>?_
 have hu:=hr.units
 have hh:=hr.hd
 exact (ai (gE (aI c_check_order hr (aa (ag at0) ae))) (ai (gh (gw hu (aP (ag at0) aj) (aR (l:=[115,97,121]) rfl (by decide))) (ai (bh (bg (aR (l:=[115,97,121,32]) rfl (by decide)) (aP (ag at0) aj))) aF) aF) (ai (gh (gw hu (aP (ag at0) aj) (aR (l:=[103,111]) rfl (by decide))) (ai (bh (bg (aR (l:=[103,111,32]) rfl (by decide)) (aI c_spot_text hr (aa (aP (ag at0) aj) (aa (aP (ag at0) aj) ae))))) aF) aF) (ai (bh (aR (l:=[119,105,112,101]) rfl (by decide))) aF))))
theorem lZ:FnScope ["orders"] ["orders"] (ar (top 46)):=⟨rfl,rfl,rfl,by decide +kernel,rfl,by decide +kernel,by decide +kernel⟩
theorem mw {f:Addr} {fd:FuncData} {ao aN:List D->R D} (c_check_orders:Callee P w K mg base "check_orders" 6 1 ao) (c_order_text:Callee P w K mg base "order_text" 6 1 aN) (Fn:Fun K "orders_text" "orders_text" (top 46) f fd):FnF P w K mg base 7 f fd ["orders"] (fun ds=>ay (cB ao aN (ax 1 ds))):=by
 have hN:(["orders"]:List Str).Nodup:=by decide
 refine Fn.okF lZ (k:=6) (g:=cB ao aN) fun cdv A outer s H E hr=>?_
 have hu:=hr.units
 have hh:=hr.hd
 exact (ai (gE (aI c_check_orders hr (aa (ag at0) ae))) (ai (bh (xj (aR (l:=[]) rfl (by decide)) (aa (jJ (eR (N':=["order"]) (ix:=[]) dm rfl (eG (ag at0)) (fun C s₂ H₂ fp=>(bg (aI c_order_text hr (aa (cQ at0) ae)) (aR (l:=[10]) rfl (by decide)))) (fun C s₂ H₂ fp=>dt))) ae))) aF))
theorem rT:FnScope ["thing"] ["thing"] (ar (top 44)):=⟨rfl,rfl,rfl,by decide +kernel,rfl,by decide +kernel,by decide +kernel⟩
theorem qT {f:Addr} {fd:FuncData} {aO:Addr} (b_isinstance:mg "isinstance"=none) (b_str:mg "str"=none) (r_NoText:Ref "NoText" aO mg base) (Fn:Fun K "lines_of" "lines_of" (top 44) f fd):FnF P w K mg base 1 f fd ["thing"] (fun ds=>ay (dG aO (ax 1 ds))):=by
 have hN:(["thing"]:List Str).Nodup:=by decide
 refine Fn.okF rT (k:=0) (g:=dG aO) fun cdv A outer s H E hr=>?_
 have hu:=hr.units
 have hh:=hr.hd
 exact (ai (gh (iJ (eF (dv (dF (vM b_isinstance (ag at0) b_str))) (cS (iJ (xE (ji hu (ag at0) (aR (l:=[]) rfl (by decide))) (sL (dv (dF (D3 (ag at0) (aa (aR (l:=[10]) rfl (by decide)) ae)))))))))) (ai (fb r_NoText hh (aR (l:=[116,104,105,115,32,105,115,32,110,111,32,116,101,120,116,32,111,102,32,108,105,110,101,115,32,116,104,97,116,32,97,114,101,32,101,97,99,104,32,101,110,100,101,100,32,98,121,32,97,32,108,105,110,101,32,102,101,101,100]) rfl (by decide))) aF) aF) (ai (bh (bZ (xg (ag at0) (aa (aR (l:=[10]) rfl (by decide)) ae)) ci (dX (ug aj)))) aF))
theorem mj:FnScope ["text"] ["text"] (ar (top 13)):=⟨rfl,rfl,rfl,by decide +kernel,rfl,by decide +kernel,by decide +kernel⟩
theorem my {f:Addr} {fd:FuncData} (b_all:mg "all"=none) {t_FIGURES:Tok} (g_FIGURES:mg "FIGURES"=some (.str "0123456789" t_FIGURES)) (Fn:Fun K "are_figures" "are_figures" (top 13) f fd):FnF P w K mg base 1 f fd ["text"] (fun ds=>ay (cz (ax 1 ds))):=by
 have hN:(["text"]:List Str).Nodup:=by decide
 refine Fn.okF mj (k:=0) (g:=cz) fun cdv A outer s H E hr=>?_
 have hu:=hr.units
 have hh:=hr.hd
 exact (ai (bh (dJ (Gb hu (ag at0) (aR (l:=[]) rfl (by decide))) (fk (zD rfl rfl b_all (aa (jJ (eR (N':=["sign"]) (ix:=[]) dm rfl (eG (ag at0)) (fun C s₂ H₂ fp=>(E5 (cQ at0) (sW (l:=[48,49,50,51,52,53,54,55,56,57]) rfl g_FIGURES rfl (by decide)))) (fun C s₂ H₂ fp=>dt))) ae))))) aF)
theorem iu:FnScope ["text"] ["text"] (ar (top 42)):=⟨rfl,rfl,rfl,by decide +kernel,rfl,by decide +kernel,by decide +kernel⟩
theorem ik {f:Addr} {fd:FuncData} {bL:List D->R D} (b_len:mg "len"=none) {t_MOST_FIGURES:Tok} (g_MOST_FIGURES:mg "MOST_FIGURES"=some (.int 2 t_MOST_FIGURES)) (c_are_figures:Callee P w K mg base "are_figures" 1 1 bL) (Fn:Fun K "is_short_number" "is_short_number" (top 42) f fd):FnF P w K mg base 2 f fd ["text"] (fun ds=>ay (bJ bL (ax 1 ds))):=by
 have hN:(["text"]:List Str).Nodup:=by decide
 refine Fn.okF iu (k:=1) (g:=bJ bL) fun cdv A outer s H E hr=>?_
 have hu:=hr.units
 have hh:=hr.hd
 exact (ai (bh (dJ (aI c_are_figures hr (aa (ag at0) ae)) (fk (Fp (dY rfl b_len (aa (ag at0) ae)) (dN rfl g_MOST_FIGURES))))) aF)
theorem kN:FnScope ["text","parts"] ["text"] (ar (top 43)):=⟨rfl,rfl,rfl,by decide +kernel,rfl,by decide +kernel,by decide +kernel⟩
theorem lD {f:Addr} {fd:FuncData} {aV:List D->R D} (b_all:mg "all"=none) (jh:mg "int"=none) (b_len:mg "len"=none) (c_is_short_number:Callee P w K mg base "is_short_number" 2 1 aV) (Fn:Fun K "spot_or_none" "spot_or_none" (top 43) f fd):FnF P w K mg base 3 f fd ["text"] (fun ds=>ay (cg aV (ax 2 ds))):=by
 have hN:(["text","parts"]:List Str).Nodup:=by decide
 refine Fn.okF kN (k:=2) (g:=cg aV) fun cdv A outer s H E hr=>?_
 have hu:=hr.units
 have hh:=hr.hd
 exact (ai (ca at1 hN (xg (ag at0) (aa (aR (l:=[32]) rfl (by decide)) ae))) (ai (gh (iJ (eF (ji hu (dY rfl b_len (aa (ag at1) ae)) aj) (cS (dv (dF (zD rfl rfl b_all (aa (jJ (eR (N':=["part"]) (ix:=[]) dm rfl (eG (ag at1)) (fun C s₂ H₂ fp=>(aI c_is_short_number hr (aa (cQ at0) ae))) (fun C s₂ H₂ fp=>dt))) ae))))))) (ai (bh tT) aF) aF) (ai (bh (dn (aa (AF rfl jh (aa (aP (ag at1) aj) ae)) (aa (AF rfl jh (aa (aP (ag at1) aj) ae)) ae)))) aF)))
theorem jR:FnScope ["line","parts","spot"] ["line"] (ar (top 47)):=⟨rfl,rfl,rfl,by decide +kernel,rfl,by decide +kernel,by decide +kernel⟩
theorem jP {f:Addr} {fd:FuncData} {aB:List D->R D} (c_spot_or_none:Callee P w K mg base "spot_or_none" 3 1 aB) (Fn:Fun K "order_or_none" "order_or_none" (top 47) f fd):FnF P w K mg base 4 f fd ["line"] (fun ds=>ay (bX aB (ax 3 ds))):=by
 have hN:(["line","parts","spot"]:List Str).Nodup:=by decide
 refine Fn.okF jR (k:=3) (g:=bX aB) fun cdv A outer s H E hr=>?_
 have hu:=hr.units
 have hh:=hr.hd
 exact (ai (ca at1 hN (EJ (ag at0) (aa (aR (l:=[32]) rfl (by decide)) ae))) (ai (gh (gw hu (aP (ag at1) aj) (aR (l:=[115,97,121]) rfl (by decide))) (ai (bh (dn (aa (aR (l:=[115,97,121]) rfl (by decide)) (aa (aP (ag at1) aj) ae)))) aF) aF) (ai (gh (gw hu (aP (ag at1) aj) (aR (l:=[103,111]) rfl (by decide))) (ai (ca at2 hN (aI c_spot_or_none hr (aa (aP (ag at1) aj) ae))) (ai (bh (wV (GB (ag at2) tT) tT (dn (aa (aR (l:=[103,111]) rfl (by decide)) (aa (aP (ag at2) aj) (aa (aP (ag at2) aj) ae)))))) aF)) aF) (ai (bh (dn (aa (aR (l:=[119,105,112,101]) rfl (by decide)) ae))) aF))))
theorem nI:FnScope ["line","order"] ["line"] (ar (top 48)):=⟨rfl,rfl,rfl,by decide +kernel,rfl,by decide +kernel,by decide +kernel⟩
theorem nB {f:Addr} {fd:FuncData} {bb bf aN:List D->R D} {aO:Addr} (r_NoText:Ref "NoText" aO mg base) (c_order_or_none:Callee P w K mg base "order_or_none" 6 1 bb) (c_is_order:Callee P w K mg base "is_order" 6 1 bf) (c_order_text:Callee P w K mg base "order_text" 6 1 aN) (Fn:Fun K "read_order" "read_order" (top 48) f fd):FnF P w K mg base 7 f fd ["line"] (fun ds=>ay (cM bb bf aN aO (ax 2 ds))):=by
 have hN:(["line","order"]:List Str).Nodup:=by decide
 refine Fn.okF nI (k:=6) (g:=cM bb bf aN aO) fun cdv A outer s H E hr=>?_
 have hu:=hr.units
 have hh:=hr.hd
 exact (ai (ca at1 hN (aI c_order_or_none hr (aa (ag at0) ae))) (ai (gh (iJ (eF (dv (dF (aI c_is_order hr (aa (ag at1) ae)))) (cS (ji hu (aI c_order_text hr (aa (ag at1) ae)) (ag at0))))) (ai (fb r_NoText hh (aR (l:=[110,111,32,111,114,100,101,114,32,105,115,32,119,114,105,116,116,101,110,32,115,111]) rfl (by decide))) aF) aF) (ai (bh (ag at1)) aF)))
theorem mD:FnScope ["text"] ["text"] (ar (top 49)):=⟨rfl,rfl,rfl,by decide +kernel,rfl,by decide +kernel,by decide +kernel⟩
theorem mF {f:Addr} {fd:FuncData} {bd bU:List D->R D} (c_lines_of:Callee P w K mg base "lines_of" 7 1 bd) (c_read_order:Callee P w K mg base "read_order" 7 1 bU) (Fn:Fun K "read_orders" "read_orders" (top 49) f fd):FnF P w K mg base 8 f fd ["text"] (fun ds=>ay (cD bd bU (ax 1 ds))):=by
 have hN:(["text"]:List Str).Nodup:=by decide
 refine Fn.okF mD (k:=7) (g:=cD bd bU) fun cdv A outer s H E hr=>?_
 have hu:=hr.units
 have hh:=hr.hd
 exact (ai (bh (jJ (xm rfl rfl (N':=["line"]) (ix:=[]) dm rfl (eG (aI c_lines_of hr (aa (ag at0) ae))) (fun C s₂ H₂ fp pn xe=>(aI c_read_order hr (aa (Ca at0) ae))) (fun C s₂ H₂ fp=>dt)))) aF)
theorem oJ:FnScope ["order"] ["order"] (ar (top 37)):=⟨rfl,rfl,rfl,by decide +kernel,rfl,by decide +kernel,by decide +kernel⟩
theorem nW {f:Addr} {fd:FuncData} (b_len:mg "len"=none) {t_GO_COST:Tok} (g_GO_COST:mg "GO_COST"=some (.int 2 t_GO_COST)) {t_WIPE_COST:Tok} (g_WIPE_COST:mg "WIPE_COST"=some (.int 1 t_WIPE_COST)) (Fn:Fun K "order_cost" "order_cost" (top 37) f fd):FnF P w K mg base 1 f fd ["order"] (fun ds=>ay (eu (ax 1 ds))):=by
 have hN:(["order"]:List Str).Nodup:=by decide
 refine Fn.okF oJ (k:=0) (g:=eu) fun cdv A outer s H E hr=>?_
 have hu:=hr.units
 have hh:=hr.hd
 exact (ai (gh (gw hu (aP (ag at0) aj) (aR (l:=[115,97,121]) rfl (by decide))) (ai (bh (dY rfl b_len (aa (aP (ag at0) aj) ae))) aF) aF) (ai (gh (gw hu (aP (ag at0) aj) (aR (l:=[103,111]) rfl (by decide))) (ai (bh (dN rfl g_GO_COST)) aF) aF) (ai (bh (dN rfl g_WIPE_COST)) aF)))
theorem Ce:FnScope ["orders"] ["orders"] (ar (top 38)):=⟨rfl,rfl,rfl,by decide +kernel,rfl,by decide +kernel,by decide +kernel⟩
theorem CH {f:Addr} {fd:FuncData} {ao aQ:List D->R D} (b_sum:mg "sum"=none) (c_check_orders:Callee P w K mg base "check_orders" 6 1 ao) (c_order_cost:Callee P w K mg base "order_cost" 6 1 aQ) (Fn:Fun K "cost" "cost" (top 38) f fd):FnF P w K mg base 7 f fd ["orders"] (fun ds=>ay (oi ao aQ (ax 1 ds))):=by
 have hN:(["orders"]:List Str).Nodup:=by decide
 refine Fn.okF Ce (k:=6) (g:=oi ao aQ) fun cdv A outer s H E hr=>?_
 have hu:=hr.units
 have hh:=hr.hd
 exact (ai (gE (aI c_check_orders hr (aa (ag at0) ae))) (ai (bh (GQ rfl rfl b_sum (aa (jJ (eR (N':=["order"]) (ix:=[]) dm rfl (eG (ag at0)) (fun C s₂ H₂ fp=>(aI c_order_cost hr (aa (cQ at0) ae))) (fun C s₂ H₂ fp=>dt))) ae))) aF))
theorem jT:FnScope ["thing","width"] ["thing","width"] (ar (top 17)):=⟨rfl,rfl,rfl,by decide +kernel,rfl,by decide +kernel,by decide +kernel⟩
theorem jO {f:Addr} {fd:FuncData} {bi:List D->R D} (b_all:mg "all"=none) (b_isinstance:mg "isinstance"=none) (b_len:mg "len"=none) (b_tuple:mg "tuple"=none) {t_MOST_ROWS:Tok} (g_MOST_ROWS:mg "MOST_ROWS"=some (.int 12 t_MOST_ROWS)) (c_is_plain:Callee P w K mg base "is_plain" 1 1 bi) (Fn:Fun K "are_full_rows" "are_full_rows" (top 17) f fd):FnF P w K mg base 2 f fd ["thing","width"] (fun ds=>ay (bV bi (ax 2 ds))):=by
 have hN:(["thing","width"]:List Str).Nodup:=by decide
 refine Fn.okF jT (k:=1) (g:=bV bi) fun cdv A outer s H E hr=>?_
 have hu:=hr.units
 have hh:=hr.hd
 exact (ai (gh (iJ (eF (dv (dF (ir b_isinstance (ag at0) b_tuple))) (cS (dv (Bs aj (dY rfl b_len (aa (ag at0) ae)) (dN rfl g_MOST_ROWS)))))) (ai (bh pH) aF) aF) (ai (bh (zD rfl rfl b_all (aa (jJ (eR (N':=["row","width"]) (ix:=[1]) dm rfl (eG (ag at0)) (fun C s₂ H₂ fp=>(dJ (aI c_is_plain hr (aa (cQ at0) ae)) (fk (ss hu (dY rfl b_len (aa (cQ at0) ae)) (cQ at1))))) (fun C s₂ H₂ fp=>dt))) ae))) aF))
theorem rH:FnScope ["thing","width","many"] ["thing","width","many"] (ar (top 18)):=⟨rfl,rfl,rfl,by decide +kernel,rfl,by decide +kernel,by decide +kernel⟩
theorem qV {f:Addr} {fd:FuncData} {aA:List D->R D} (b_isinstance:mg "isinstance"=none) (b_len:mg "len"=none) (b_tuple:mg "tuple"=none) (c_is_within:Callee P w K mg base "is_within" 2 3 aA) (Fn:Fun K "is_place" "is_place" (top 18) f fd):FnF P w K mg base 3 f fd ["thing","width","many"] (fun ds=>ay (dM aA (ax 3 ds))):=by
 have hN:(["thing","width","many"]:List Str).Nodup:=by decide
 refine Fn.okF rH (k:=2) (g:=dM aA) fun cdv A outer s H E hr=>?_
 have hu:=hr.units
 have hh:=hr.hd
 exact (ai (gh (iJ (eF (dv (dF (ir b_isinstance (ag at0) b_tuple))) (cS (ji hu (dY rfl b_len (aa (ag at0) ae)) aj)))) (ai (bh pH) aF) aF) (ai (bh (dJ (aI c_is_within hr (aa (aP (ag at0) aj) (aa aj (aa (pR (ag at2) aj) ae)))) (fk (aI c_is_within hr (aa (aP (ag at0) aj) (aa aj (aa (ag at1) ae))))))) aF))
theorem qw:FnScope ["thing","width"] ["thing"] (ar (top 19)):=⟨rfl,rfl,rfl,by decide +kernel,rfl,by decide +kernel,by decide +kernel⟩
theorem pi {f:Addr} {fd:FuncData} {aA aS bt:List D->R D} (b_isinstance:mg "isinstance"=none) (b_len:mg "len"=none) (b_tuple:mg "tuple"=none) {t_MOST_WIDTH:Tok} (g_MOST_WIDTH:mg "MOST_WIDTH"=some (.int 40 t_MOST_WIDTH)) (c_is_within:Callee P w K mg base "is_within" 3 3 aA) (c_are_full_rows:Callee P w K mg base "are_full_rows" 3 2 aS) (c_is_place:Callee P w K mg base "is_place" 3 3 bt) (Fn:Fun K "is_screen" "is_screen" (top 19) f fd):FnF P w K mg base 4 f fd ["thing"] (fun ds=>ay (df aA aS bt (ax 2 ds))):=by
 have hN:(["thing","width"]:List Str).Nodup:=by decide
 refine Fn.okF qw (k:=3) (g:=df aA aS bt) fun cdv A outer s H E hr=>?_
 have hu:=hr.units
 have hh:=hr.hd
 exact (ai (gh (iJ (eF (dv (dF (ir b_isinstance (ag at0) b_tuple))) (cS (ji hu (dY rfl b_len (aa (ag at0) ae)) aj)))) (ai (bh pH) aF) aF) (ai (ca at1 hN (aP (ag at0) aj)) (ai (gh (iJ (eF (dv (dF (aI c_is_within hr (aa (ag at1) (aa aj (aa (dN rfl g_MOST_WIDTH) ae)))))) (cS (dv (dF (aI c_are_full_rows hr (aa (aP (ag at0) aj) (aa (ag at1) ae)))))))) (ai (bh pH) aF) aF) (ai (bh (aI c_is_place hr (aa (aP (ag at0) aj) (aa (ag at1) (aa (dY rfl b_len (aa (aP (ag at0) aj) ae)) ae))))) aF))))
theorem lw:FnScope ["thing"] ["thing"] (ar (top 20)):=⟨rfl,rfl,rfl,by decide +kernel,rfl,by decide +kernel,by decide +kernel⟩
theorem lH {f:Addr} {fd:FuncData} {aW:List D->R D} {bz:Addr} (r_NoScreen:Ref "NoScreen" bz mg base) (c_is_screen:Callee P w K mg base "is_screen" 4 1 aW) (Fn:Fun K "check_screen" "check_screen" (top 20) f fd):FnF P w K mg base 5 f fd ["thing"] (fun ds=>ay (ce aW bz (ax 1 ds))):=by
 have hN:(["thing"]:List Str).Nodup:=by decide
 refine Fn.okF lw (k:=4) (g:=ce aW bz) fun cdv A outer s H E hr=>?_
 have hu:=hr.units
 have hh:=hr.hd
 exact (ai (gh (dv (dF (aI c_is_screen hr (aa (ag at0) ae)))) (ai (fb r_NoScreen hh (aR (l:=[116,104,105,115,32,105,115,32,110,111,32,115,99,114,101,101,110]) rfl (by decide))) aF) aF) aF)
theorem gy:FnScope ["screen","row","column","number","rows"] ["screen","row","column"] (ar (top 30)):=⟨rfl,rfl,rfl,by decide +kernel,rfl,by decide +kernel,by decide +kernel⟩
theorem gq {f:Addr} {fd:FuncData} (Fn:Fun K "with_row_at_place" "with_row_at_place" (top 30) f fd):FnF P w K mg base 1 f fd ["screen","row","column"] (fun ds=>ay (bA (ax 5 ds))):=by
 have hN:(["screen","row","column","number","rows"]:List Str).Nodup:=by decide
 refine Fn.okF gy (k:=0) (g:=bA) fun cdv A outer s H E hr=>?_
 have hu:=hr.units
 have hh:=hr.hd
 exact (ai (ca at3 hN (aP (aP (ag at0) aj) aj)) (ai (ca at4 hN (bg (bg (bZ (aP (ag at0) aj) ci (dX (ag at3))) (dn (aa (ag at1) ae))) (bZ (aP (ag at0) aj) (dX (bg (ag at3) aj)) ci))) (ai (bh (dn (aa (aP (ag at0) aj) (aa (ag at4) (aa (dn (aa (ag at3) (aa (ag at2) ae))) ae))))) aF)))
theorem pZ:FnScope ["screen","text","row","begin","end"] ["screen","text"] (ar (top 31)):=⟨rfl,rfl,rfl,by decide +kernel,rfl,by decide +kernel,by decide +kernel⟩
theorem pY {f:Addr} {fd:FuncData} {am:List D->R D} {aZ:Addr} (b_len:mg "len"=none) (r_NoRoom:Ref "NoRoom" aZ mg base) (c_with_row_at_place:Callee P w K mg base "with_row_at_place" 1 3 am) (Fn:Fun K "after_say" "after_say" (top 31) f fd):FnF P w K mg base 2 f fd ["screen","text"] (fun ds=>ay (da am aZ (ax 5 ds))):=by
 have hN:(["screen","text","row","begin","end"]:List Str).Nodup:=by decide
 refine Fn.okF pZ (k:=1) (g:=da am aZ) fun cdv A outer s H E hr=>?_
 have hu:=hr.units
 have hh:=hr.hd
 exact (ai (ca at2 hN (aP (aP (ag at0) aj) (aP (aP (ag at0) aj) aj))) (ai (ca at3 hN (aP (aP (ag at0) aj) aj)) (ai (ca at4 hN (bg (ag at3) (dY rfl b_len (aa (ag at1) ae)))) (ai (gh (B3 (ag at4) (aP (ag at0) aj)) (ai (fb r_NoRoom hh (aR (l:=[116,104,101,32,116,101,120,116,32,105,115,32,119,105,100,101,114,32,116,104,97,110,32,119,104,97,116,32,105,115,32,108,101,102,116,32,111,102,32,116,104,101,32,114,111,119]) rfl (by decide))) aF) aF) (ai (bh (aI c_with_row_at_place hr (aa (ag at0) (aa (bg (bg (bZ (ag at2) ci (dX (ag at3))) (ag at1)) (bZ (ag at2) (dX (ag at4)) ci)) (aa (ag at4) ae))))) aF)))))
theorem qL:FnScope ["screen","number","column"] ["screen","number","column"] (ar (top 32)):=⟨rfl,rfl,rfl,by decide +kernel,rfl,by decide +kernel,by decide +kernel⟩
theorem qA {f:Addr} {fd:FuncData} {aZ:Addr} (b_len:mg "len"=none) (r_NoRoom:Ref "NoRoom" aZ mg base) (Fn:Fun K "after_go" "after_go" (top 32) f fd):FnF P w K mg base 1 f fd ["screen","number","column"] (fun ds=>ay (dU aZ (ax 3 ds))):=by
 have hN:(["screen","number","column"]:List Str).Nodup:=by decide
 refine Fn.okF qL (k:=0) (g:=dU aZ) fun cdv A outer s H E hr=>?_
 have hu:=hr.units
 have hh:=hr.hd
 exact (ai (gh (iJ (eF (FD (ag at1) (dY rfl b_len (aa (aP (ag at0) aj) ae))) (cS (B3 (ag at2) (aP (ag at0) aj))))) (ai (fb r_NoRoom hh (aR (l:=[116,104,101,32,115,99,114,101,101,110,32,100,111,101,115,32,110,111,116,32,104,97,118,101,32,116,104,105,115,32,112,108,97,99,101]) rfl (by decide))) aF) aF) (ai (bh (dn (aa (aP (ag at0) aj) (aa (aP (ag at0) aj) (aa (dn (aa (ag at1) (aa (ag at2) ae))) ae))))) aF))
theorem nM:FnScope ["screen","row","column"] ["screen"] (ar (top 33)):=⟨rfl,rfl,rfl,by decide +kernel,rfl,by decide +kernel,by decide +kernel⟩
theorem oM {f:Addr} {fd:FuncData} {am:List D->R D} (c_with_row_at_place:Callee P w K mg base "with_row_at_place" 1 3 am) (Fn:Fun K "after_wipe" "after_wipe" (top 33) f fd):FnF P w K mg base 2 f fd ["screen"] (fun ds=>ay (cK am (ax 3 ds))):=by
 have hN:(["screen","row","column"]:List Str).Nodup:=by decide
 refine Fn.okF nM (k:=1) (g:=cK am) fun cdv A outer s H E hr=>?_
 have hu:=hr.units
 have hh:=hr.hd
 exact (ai (ca at1 hN (aP (aP (ag at0) aj) (aP (aP (ag at0) aj) aj))) (ai (ca at2 hN (aP (aP (ag at0) aj) aj)) (ai (bh (aI c_with_row_at_place hr (aa (ag at0) (aa (A9 (bZ (ag at1) ci (dX (ag at2))) (aa (aP (ag at0) aj) ae)) (aa (ag at2) ae))))) aF)))
theorem mi:FnScope ["screen","order"] ["screen","order"] (ar (top 34)):=⟨rfl,rfl,rfl,by decide +kernel,rfl,by decide +kernel,by decide +kernel⟩
theorem mG {f:Addr} {fd:FuncData} {bv bF bp:List D->R D} (c_after_say:Callee P w K mg base "after_say" 2 2 bv) (c_after_go:Callee P w K mg base "after_go" 2 3 bF) (c_after_wipe:Callee P w K mg base "after_wipe" 2 1 bp) (Fn:Fun K "after_order" "after_order" (top 34) f fd):FnF P w K mg base 3 f fd ["screen","order"] (fun ds=>ay (cw bv bF bp (ax 2 ds))):=by
 have hN:(["screen","order"]:List Str).Nodup:=by decide
 refine Fn.okF mi (k:=2) (g:=cw bv bF bp) fun cdv A outer s H E hr=>?_
 have hu:=hr.units
 have hh:=hr.hd
 exact (ai (gh (gw hu (aP (ag at1) aj) (aR (l:=[115,97,121]) rfl (by decide))) (ai (bh (aI c_after_say hr (aa (ag at0) (aa (aP (ag at1) aj) ae)))) aF) aF) (ai (gh (gw hu (aP (ag at1) aj) (aR (l:=[103,111]) rfl (by decide))) (ai (bh (aI c_after_go hr (aa (ag at0) (aa (aP (ag at1) aj) (aa (aP (ag at1) aj) ae))))) aF) aF) (ai (bh (aI c_after_wipe hr (aa (ag at0) ae))) aF)))
theorem sh:FnScope ["screen","orders","current","order"] ["screen","orders"] (ar (top 36)):=⟨rfl,rfl,rfl,by decide +kernel,rfl,by decide +kernel,by decide +kernel⟩
theorem qM {f:Addr} {fd:FuncData} {ah ao az:List D->R D} (c_check_screen:Callee P w K mg base "check_screen" 6 1 ah) (c_check_orders:Callee P w K mg base "check_orders" 6 1 ao) (c_after_order:Callee P w K mg base "after_order" 6 2 az) (Fn:Fun K "all_done" "all_done" (top 36) f fd):FnF P w K mg base 7 f fd ["screen","orders"] (fun ds=>ay (fJ ah ao az (ax 4 ds))):=by
 have hN:(["screen","orders","current","order"]:List Str).Nodup:=by decide
 refine Fn.okF sh (k:=6) (g:=fJ ah ao az) fun cdv A outer s H E hr=>?_
 have hu:=hr.units
 have hh:=hr.hd
 exact (ai (gE (aI c_check_screen hr (aa (ag at0) ae))) (ai (gE (aI c_check_orders hr (aa (ag at1) ae))) (ai (ca at2 hN (ag at0)) (ai (su PassesOwn.leaving rfl (eG (ag at1)) (cy 3 hN) (ai (ca at2 hN (aI c_after_order hr (aa (ag at2) (aa (ag at3) ae)))) aF)) (ai (bh (ag at2)) aF)))))
theorem mI:FnScope ["screen","rows"] ["screen"] (ar (top 53)):=⟨rfl,rfl,rfl,by decide +kernel,rfl,by decide +kernel,by decide +kernel⟩
theorem mq {f:Addr} {fd:FuncData} {ah aK:List D->R D} (c_check_screen:Callee P w K mg base "check_screen" 5 1 ah) (c_spot_text:Callee P w K mg base "spot_text" 5 2 aK) (Fn:Fun K "screen_text" "screen_text" (top 53) f fd):FnF P w K mg base 6 f fd ["screen"] (fun ds=>ay (cC ah aK (ax 2 ds))):=by
 have hN:(["screen","rows"]:List Str).Nodup:=by decide
 refine Fn.okF mI (k:=5) (g:=cC ah aK) fun cdv A outer s H E hr=>?_
 have hu:=hr.units
 have hh:=hr.hd
 exact (ai (gE (aI c_check_screen hr (aa (ag at0) ae))) (ai (ri 1 hN (N':=["row"]) (ix:=[]) dm rfl (eG (aP (ag at0) aj)) (fun C s₂ H₂ fp=>(xo (aR (l:=[124]) rfl (by decide)) (BN (cQ at0)) (aR (l:=[124,10]) rfl (by decide)))) (fun C s₂ H₂ fp=>dt)) (yh 1 (ai (bh (bg (bg (xj (aR (l:=[]) rfl (by decide)) (aa (ag at1) ae)) (aI c_spot_text hr (aa (aP (aP (ag at0) aj) aj) (aa (aP (aP (ag at0) aj) aj) ae)))) (aR (l:=[10]) rfl (by decide)))) aF))))
theorem iZ:FnScope ["lines","rows"] ["lines"] (ar (top 54)):=⟨rfl,rfl,rfl,by decide +kernel,rfl,by decide +kernel,by decide +kernel⟩
theorem jm {f:Addr} {fd:FuncData} {aB:List D->R D} (b_len:mg "len"=none) (b_tuple:mg "tuple"=none) (c_spot_or_none:Callee P w K mg base "spot_or_none" 3 1 aB) (Fn:Fun K "screen_or_none" "screen_or_none" (top 54) f fd):FnF P w K mg base 4 f fd ["lines"] (fun ds=>ay (bQ aB (ax 2 ds))):=by
 have hN:(["lines","rows"]:List Str).Nodup:=by decide
 refine Fn.okF iZ (k:=3) (g:=bQ aB) fun cdv A outer s H E hr=>?_
 have hu:=hr.units
 have hh:=hr.hd
 exact (ai (gh (AY (dY rfl b_len (aa (ag at0) ae)) aj) (ai (bh tT) aF) aF) (ai (ri 1 hN (N':=["line"]) (ix:=[]) dm rfl (eG (bZ (ag at0) ci (dX (ug aj)))) (fun C s₂ H₂ fp=>(bZ (cQ at0) (dX aj) (dX (ug aj)))) (fun C s₂ H₂ fp=>dt)) (yh 1 (ai (bh (dn (aa (dY rfl b_len (aa (aP (ag at1) aj) ae)) (aa (qz rfl b_tuple (aa (ag at1) ae)) (aa (aI c_spot_or_none hr (aa (aP (ag at0) (ug aj)) ae)) ae))))) aF))))
theorem mr:FnScope ["text","screen"] ["text"] (ar (top 55)):=⟨rfl,rfl,rfl,by decide +kernel,rfl,by decide +kernel,by decide +kernel⟩
theorem mh {f:Addr} {fd:FuncData} {bd aY:List D->R D} {aW ak:List D->R D} {aO:Addr} (r_NoText:Ref "NoText" aO mg base) (c_lines_of:Callee P w K mg base "lines_of" 6 1 bd) (c_screen_or_none:Callee P w K mg base "screen_or_none" 6 1 aY) (c_is_screen:Callee P w K mg base "is_screen" 6 1 aW) (c_screen_text:Callee P w K mg base "screen_text" 6 1 ak) (Fn:Fun K "read_screen" "read_screen" (top 55) f fd):FnF P w K mg base 7 f fd ["text"] (fun ds=>ay (cE bd aY aW ak aO (ax 2 ds))):=by
 have hN:(["text","screen"]:List Str).Nodup:=by decide
 refine Fn.okF mr (k:=6) (g:=cE bd aY aW ak aO) fun cdv A outer s H E hr=>?_
 have hu:=hr.units
 have hh:=hr.hd
 exact (ai (ca at1 hN (aI c_screen_or_none hr (aa (aI c_lines_of hr (aa (ag at0) ae)) ae))) (ai (gh (iJ (eF (dv (dF (aI c_is_screen hr (aa (ag at1) ae)))) (cS (ji hu (aI c_screen_text hr (aa (ag at1) ae)) (ag at0))))) (ai (fb r_NoText hh (aR (l:=[110,111,32,115,99,114,101,101,110,32,105,115,32,119,114,105,116,116,101,110,32,115,111]) rfl (by decide))) aF) aF) (ai (bh (ag at1)) aF)))
theorem AX:FnScope ["screen","order"] ["screen","order"] (ar (top 35)):=⟨rfl,rfl,rfl,by decide +kernel,rfl,by decide +kernel,by decide +kernel⟩
theorem A0 {f:Addr} {fd:FuncData} {ah aq az:List D->R D} (c_check_screen:Callee P w K mg base "check_screen" 5 1 ah) (c_check_order:Callee P w K mg base "check_order" 5 1 aq) (c_after_order:Callee P w K mg base "after_order" 5 2 az) (Fn:Fun K "done" "done" (top 35) f fd):FnF P w K mg base 6 f fd ["screen","order"] (fun ds=>ay (jW ah aq az (ax 2 ds))):=by
 have hN:(["screen","order"]:List Str).Nodup:=by decide
 refine Fn.okF AX (k:=5) (g:=jW ah aq az) fun cdv A outer s H E hr=>?_
 have hu:=hr.units
 have hh:=hr.hd
 exact (ai (gE (aI c_check_screen hr (aa (ag at0) ae))) (ai (gE (aI c_check_order hr (aa (ag at1) ae))) (ai (bh (aI c_after_order hr (aa (ag at0) (aa (ag at1) ae)))) aF)))
theorem pN:FnScope ["self"] ["self"] (ar (bn (top 52) 1)):=⟨rfl,rfl,rfl,by decide +kernel,rfl,by decide +kernel,by decide +kernel⟩
theorem qv {f:Addr} {fd:FuncData} {C_Pad:Addr} (cf_Pad:CF K C_Pad [0,1]) {F:MF} (ok:dA C_Pad (iw C_Pad) 1 F) (Fn:Fun K "sheet" "Pad.sheet" (bn (top 52) 1) f fd):FnM P w K mg base 1 f fd ["self"] C_Pad F:=by
 have hN:(["self"]:List Str).Nodup:=by decide
 refine Fn.okM pN ok (k:=0) fun cdv A outer s H E hr=>?_
 have hu:=hr.units
 have hh:=hr.hd
 exact (ai (bh (aP (wx 0 0 cf_Pad (by decide) (ug aj)) aj)) aF)
theorem qx:FnScope ["self"] ["self"] (ar (bn (top 52) 2)):=⟨rfl,rfl,rfl,by decide +kernel,rfl,by decide +kernel,by decide +kernel⟩
theorem qt {f:Addr} {fd:FuncData} {C_Pad:Addr} (cf_Pad:CF K C_Pad [0,1]) {F:MF} (ok:dA C_Pad (iP C_Pad) 1 F) (Fn:Fun K "spent" "Pad.spent" (bn (top 52) 2) f fd):FnM P w K mg base 1 f fd ["self"] C_Pad F:=by
 have hN:(["self"]:List Str).Nodup:=by decide
 refine Fn.okM qx ok (k:=0) fun cdv A outer s H E hr=>?_
 have hu:=hr.units
 have hh:=hr.hd
 exact (ai (bh (aP (wx 0 0 cf_Pad (by decide) (ug aj)) aj)) aF)
theorem mf:FnScope ["self","step","screen","price"] ["self","step","screen","price"] (ar (bn (top 52) 3)):=⟨rfl,rfl,rfl,by decide +kernel,rfl,by decide +kernel,by decide +kernel⟩
theorem lY {f:Addr} {fd:FuncData} {C_Pad:Addr} {M_Pad_spent:MF} (cf_Pad:CF K C_Pad [0,1]) (m_Pad_spent:MCallee P w K mg base C_Pad "spent" 1 0 M_Pad_spent) {F:MF} (ok:dA C_Pad (fD C_Pad M_Pad_spent) 4 F) (Fn:Fun K "step_to" "Pad.step_to" (bn (top 52) 3) f fd):FnM P w K mg base 2 f fd ["self","step","screen","price"] C_Pad F:=by
 have hN:(["self","step","screen","price"]:List Str).Nodup:=by decide
 refine Fn.okM mf ok (k:=1) fun cdv A outer s H E hr=>?_
 have hu:=hr.units
 have hh:=hr.hd
 exact (ai (Al 0 0 cf_Pad (by decide) (dn (aa (ag at1) (aa (ag at2) (aa (bg (de 0 cf_Pad m_Pad_spent hr) (ag at3)) ae))))) (ai (vD 0 1 cf_Pad (by decide) (wD ae)) aF))
theorem xC:FnScope ["self","order","screen"] ["self","order"] (ar (bn (top 52) 4)):=⟨rfl,rfl,rfl,by decide +kernel,rfl,by decide +kernel,by decide +kernel⟩
theorem vK {f:Addr} {fd:FuncData} {C_Pad:Addr} {M_Pad_sheet:MF} {M_Pad_step_to:MF} {M_Pad_spent:MF} {gL aQ:List D->R D} (c_done:Callee P w K mg base "done" 6 2 gL) (c_order_cost:Callee P w K mg base "order_cost" 6 1 aQ) (cf_Pad:CF K C_Pad [0,1]) (m_Pad_sheet:MCallee P w K mg base C_Pad "sheet" 6 0 M_Pad_sheet) (m_Pad_step_to:MCallee P w K mg base C_Pad "step_to" 6 3 M_Pad_step_to) (m_Pad_spent:MCallee P w K mg base C_Pad "spent" 6 0 M_Pad_spent) {F:MF} (ok:dA C_Pad (mT C_Pad M_Pad_sheet M_Pad_step_to M_Pad_spent gL aQ) 3 F) (Fn:Fun K "do" "Pad.do" (bn (top 52) 4) f fd):FnM P w K mg base 7 f fd ["self","order"] C_Pad F:=by
 have hN:(["self","order","screen"]:List Str).Nodup:=by decide
 refine Fn.okM xC ok (k:=6) fun cdv A outer s H E hr=>?_
 have hu:=hr.units
 have hh:=hr.hd
 exact (ai (ca at2 hN (aI c_done hr (aa (de 0 cf_Pad m_Pad_sheet hr) (aa (ag at1) ae)))) (ai (qX 0 cf_Pad m_Pad_step_to hr (aa (aR (l:=[100,111]) rfl (by decide)) (aa (ag at2) (aa (aI c_order_cost hr (aa (ag at1) ae)) ae)))) (ai (AB (de 0 cf_Pad m_Pad_spent hr)) aF)))
theorem qQ:FnScope ["self","state"] ["self"] (ar (bn (top 52) 7)):=⟨rfl,rfl,rfl,by decide +kernel,rfl,by decide +kernel,by decide +kernel⟩
theorem rD {f:Addr} {fd:FuncData} {C_Pad bB:Addr} (b_len:mg "len"=none) (r_NoBack:Ref "NoBack" bB mg base) (cf_Pad:CF K C_Pad [0,1]) {F:MF} (ok:dA C_Pad (jr C_Pad bB) 2 F) (Fn:Fun K "back" "Pad.back" (bn (top 52) 7) f fd):FnM P w K mg base 1 f fd ["self"] C_Pad F:=by
 have hN:(["self","state"]:List Str).Nodup:=by decide
 refine Fn.okM qQ ok (k:=0) fun cdv A outer s H E hr=>?_
 have hu:=hr.units
 have hh:=hr.hd
 exact (ai (gh (gw hu (zq 0 0 cf_Pad (by decide) rfl b_len) aj) (ai (fb r_NoBack hh (aR (l:=[116,104,101,114,101,32,105,115,32,110,111,32,115,116,101,112,32,116,104,97,116,32,99,97,110,32,98,101,32,116,97,107,101,110,32,98,97,99,107]) rfl (by decide))) aF) aF) (ai (Ed 0 0 1 cf_Pad (by decide) hN) (ai (Al 0 1 cf_Pad (by decide) (ag at1)) (ai (AB (aP (ag at1) aj)) aF))))
theorem rJ:FnScope ["self","screen"] ["self","screen"] (ar (bn (top 52) 0)):=⟨rfl,rfl,rfl,by decide +kernel,rfl,by decide +kernel,by decide +kernel⟩
theorem qF {f:Addr} {fd:FuncData} {C_Pad:Addr} {ah:List D->R D} {t_MADE:Tok} (g_MADE:mg "MADE"=some (.str "made" t_MADE)) (c_check_screen:Callee P w K mg base "check_screen" 5 1 ah) (cf_Pad:CF K C_Pad [0,1]) {F:MF} (ok:dA C_Pad (jD C_Pad ah) 2 F) (Fn:Fun K "__init__" "Pad.__init__" (bn (top 52) 0) f fd):FnM P w K mg base 6 f fd ["self","screen"] C_Pad F:=by
 have hN:(["self","screen"]:List Str).Nodup:=by decide
 refine Fn.okM rJ ok (k:=5) fun cdv A outer s H E hr=>?_
 have hu:=hr.units
 have hh:=hr.hd
 exact (ai (gE (aI c_check_screen hr (aa (ag at1) ae))) (ai (vD 0 0 cf_Pad (by decide) (wD (aa (dn (aa (sW (l:=[109,97,100,101]) rfl g_MADE rfl (by decide)) (aa (ag at1) (aa aj ae)))) ae))) (ai (vD 0 1 cf_Pad (by decide) (wD ae)) aF)))
theorem Fh:FnScope ["_law_script","_law_screen_here","_law_here","_law_orders","_law_k","_law_way","_law_order","_law_row_here","_law_long","_law_signs","_law_pad","_law_other"] ["_law_script"] (ar (top 63)):=⟨rfl,rfl,rfl,by decide +kernel,rfl,by decide +kernel,by decide +kernel⟩
theorem Fj {f:Addr} {fd:FuncData} {C_Pad:Addr} {M_Pad_do:MF} {M_Pad_sheet:MF} {M_Pad_spent:MF} {M_Pad_back:MF} {M_Pad_init:MF} {aC af:List D->R D} {aD av:List D->R D} {au bq:List D->R D} {aG ak aw:List D->R D} (b_len:mg "len"=none) (b_min:mg "min"=none) (b_range:mg "range"=none) (c__law_some:Callee P w K mg base "_law_some" 8 2 aC) (c__law_pick:Callee P w K mg base "_law_pick" 8 3 af) (c__law_step:Callee P w K mg base "_law_step" 8 2 aD) (c_orders_text:Callee P w K mg base "orders_text" 8 1 av) (c_read_orders:Callee P w K mg base "read_orders" 8 1 au) (c_cost:Callee P w K mg base "cost" 8 1 bq) (c_all_done:Callee P w K mg base "all_done" 8 2 aG) (c_screen_text:Callee P w K mg base "screen_text" 8 1 ak) (c_read_screen:Callee P w K mg base "read_screen" 8 1 aw) (cf_Pad:CF K C_Pad [0,1]) (m_Pad_do:MCallee P w K mg base C_Pad "do" 8 1 M_Pad_do) (m_Pad_sheet:MCallee P w K mg base C_Pad "sheet" 8 0 M_Pad_sheet) (m_Pad_spent:MCallee P w K mg base C_Pad "spent" 8 0 M_Pad_spent) (m_Pad_back:MCallee P w K mg base C_Pad "back" 8 0 M_Pad_back) (mk_Pad:MkC P w K mg base C_Pad "Pad" 7 1 M_Pad_init) {gr:List D->R D} (hg:∀ ds:List D,ds.length=1->gr ds=.no\/∀ q,ay (nZ C_Pad M_Pad_do M_Pad_sheet M_Pad_spent M_Pad_back M_Pad_init aC af aD av au bq aG ak aw q (ax 12 ds))=gr ds) (Fn:Fun K "law" "law" (top 63) f fd):FnF P w K mg base 9 f fd ["_law_script"] gr:=by
 have hN:(["_law_script","_law_screen_here","_law_here","_law_orders","_law_k","_law_way","_law_order","_law_row_here","_law_long","_law_signs","_law_pad","_law_other"]:List Str).Nodup:=by decide
 refine Fn.okA Fh (k:=8) (g:=nZ C_Pad M_Pad_do M_Pad_sheet M_Pad_spent M_Pad_back M_Pad_init aC af aD av au bq aG ak aw) hg fun cdv A outer s H E hr=>?_
 have hu:=hr.units
 have hh:=hr.hd
 exact (rL (ca at1 hN (aI c__law_some hr (aa (ag at0) (aa aj ae)))) (rL (Fv 2 3 rfl hN (ag at1) (wD ae)) (rL (su PassesOwn.leaving rfl (iQ rfl b_range (aa aj ae)) (cy 4 hN) (ai (G0 5 6 rfl hN (aa (aI c__law_pick hr (aa (ag at0) (aa (bg aj (fj aj (ag at4))) (aa aj ae)))) (aa (dn (aa (aR (l:=[119,105,112,101]) rfl (by decide)) ae)) ae))) (ai (gh (gw hu (ag at5) aj) (ai (ca at7 hN (aI c__law_pick hr (aa (ag at0) (aa (bg aj (fj aj (ag at4))) (aa (dY rfl b_len (aa (aP (ag at1) aj) ae)) ae))))) (ai (ca at6 hN (dn (aa (aR (l:=[103,111]) rfl (by decide)) (aa (ag at7) (aa (aI c__law_pick hr (aa (ag at0) (aa (bg aj (fj aj (ag at4))) (aa (bg (aP (ag at1) aj) aj) ae)))) ae))))) aF)) (ai (gh (iJ (xE (gw hu (ag at5) aj) (sL (AY (aP (aP (ag at2) aj) aj) (aP (ag at1) aj))))) (ai (ca at8 hN (bg aj (aI c__law_pick hr (aa (ag at0) (aa (bg aj (fj aj (ag at4))) (aa (pR (aP (ag at1) aj) (aP (aP (ag at2) aj) aj)) ae)))))) (ai (ri 9 hN (N':=["_law_j","_law_script","_law_k"]) (ix:=[0,4]) dm rfl (iQ rfl b_range (aa (GG rfl rfl b_min (aa (ag at8) (aa aj ae))) ae)) (fun C s₂ H₂ fp=>(aP (aR (l:=[97,98,35,32]) rfl (by decide)) (aI c__law_pick hr (aa (cQ at1) (aa (bg (bg aj (fj aj (cQ at2))) (cQ at0)) (aa aj ae)))))) (fun C s₂ H₂ fp=>dt)) (yh 9 (ai (ca at6 hN (dn (aa (aR (l:=[115,97,121]) rfl (by decide)) (aa (xj (aR (l:=[]) rfl (by decide)) (aa (ag at9) ae)) ae)))) aF)))) aF) aF)) (ai (ca at2 hN (aI c__law_step hr (aa (ag at2) (aa (ag at6) ae)))) (ai (ya 3 (ag at6)) aF))))) (BK 10 11 mk_Pad hr rfl hN (aa (ag at1) ae) (aa (ag at1) ae) (BG (yh 3 (ai (su PassesOwn.leaving rfl (eG (ag at3)) (cy 6 hN) (ai (qX 10 cf_Pad m_Pad_do hr (aa (ag at6) ae)) aF)) (ai (su PassesOwn.leaving rfl (eG (aI c_read_orders hr (aa (aI c_orders_text hr (aa (ag at3) ae)) ae))) (cy 6 hN) (ai (qX 11 cf_Pad m_Pad_do hr (aa (ag at6) ae)) aF)) (ai (gh (iJ (eF (ji hu (de 10 cf_Pad m_Pad_sheet hr) (ag at2)) (eF (ji hu (de 11 cf_Pad m_Pad_sheet hr) (ag at2)) (cS (ji hu (de 10 cf_Pad m_Pad_spent hr) (aI c_cost hr (aa (ag at3) ae))))))) (ai (bh pH) aF) aF) (ai (gh (iJ (eF (ji hu (aI c_all_done hr (aa (ag at1) (aa (ag at3) ae))) (ag at2)) (cS (ji hu (aI c_read_screen hr (aa (aI c_screen_text hr (aa (ag at2) ae)) ae)) (ag at2))))) (ai (bh pH) aF) aF) (ai (su PassesOwn.leaving rfl (iQ rfl b_range (aa (dY rfl b_len (aa (ag at3) ae)) ae)) (cy 4 hN) (ai (yZ 10 cf_Pad m_Pad_back hr) aF)) (ai (bh (dJ (ss hu (de 10 cf_Pad m_Pad_sheet hr) (ag at1)) (dJ (ss hu (de 10 cf_Pad m_Pad_spent hr) aj) (fk (ss hu (de 11 cf_Pad m_Pad_spent hr) (aI c_cost hr (aa (ag at3) ae))))))) aF))))))))))))
theorem law_fn {f57 f58 f59 f60 f61 f62 f12 f25 f10 f11 f26 f27 f28 f29 f41 f45 f46 f44 f13 f42 f43 f47 f48 f49 f37 f38 f17 f18 f19 f20 f30 f31 f32 f33 f34 f36 f53 f54 f55 f35 f52_1 f52_2 f52_3 f52_4 f52_7 f52_0 f63:Addr} {d57 d58 d59 d60 d61 d62 d12 d25 d10 d11 d26 d27 d28 d29 d41 d45 d46 d44 d13 d42 d43 d47 d48 d49 d37 d38 d17 d18 d19 d20 d30 d31 d32 d33 d34 d36 d53 d54 d55 d35 d52_1 d52_2 d52_3 d52_4 d52_7 d52_0 d63:FuncData} (b_all:mg "all"=none) (b_bool:mg "bool"=none) (jh:mg "int"=none) (b_isinstance:mg "isinstance"=none) (b_len:mg "len"=none) (b_list:mg "list"=none) (b_min:mg "min"=none) (b_range:mg "range"=none) (b_str:mg "str"=none) (b_sum:mg "sum"=none) (b_tuple:mg "tuple"=none) {t_FIGURES:Tok} (g_FIGURES:mg "FIGURES"=some (.str "0123456789" t_FIGURES)) {t_GO_COST:Tok} (g_GO_COST:mg "GO_COST"=some (.int 2 t_GO_COST)) {t_MADE:Tok} (g_MADE:mg "MADE"=some (.str "made" t_MADE)) {t_MOST_FIGURES:Tok} (g_MOST_FIGURES:mg "MOST_FIGURES"=some (.int 2 t_MOST_FIGURES)) {t_MOST_ROWS:Tok} (g_MOST_ROWS:mg "MOST_ROWS"=some (.int 12 t_MOST_ROWS)) {t_MOST_SAID:Tok} (g_MOST_SAID:mg "MOST_SAID"=some (.int 40 t_MOST_SAID)) {t_MOST_WIDTH:Tok} (g_MOST_WIDTH:mg "MOST_WIDTH"=some (.int 40 t_MOST_WIDTH)) {t_WIPE_COST:Tok} (g_WIPE_COST:mg "WIPE_COST"=some (.int 1 t_WIPE_COST)) {bB:Addr} (r_NoBack:Ref "NoBack" bB mg base) {ba:Addr} (r_NoOrder:Ref "NoOrder" ba mg base) {aZ:Addr} (r_NoRoom:Ref "NoRoom" aZ mg base) {bz:Addr} (r_NoScreen:Ref "NoScreen" bz mg base) {aO:Addr} (r_NoText:Ref "NoText" aO mg base) {C_Pad:Addr} (cf_Pad:CF K C_Pad [0,1]) (mg_Pad:mg "Pad"=some (.ref C_Pad))
  (F57:Fun K "_law_cell" "_law_cell" (top 57) f57 d57/\mg "_law_cell"=some (.ref f57))
  (F58:Fun K "_law_pick" "_law_pick" (top 58) f58 d58/\mg "_law_pick"=some (.ref f58))
  (F59:Fun K "_law_row" "_law_row" (top 59) f59 d59/\mg "_law_row"=some (.ref f59))
  (F60:Fun K "_law_screen" "_law_screen" (top 60) f60 d60/\mg "_law_screen"=some (.ref f60))
  (F61:Fun K "_law_some" "_law_some" (top 61) f61 d61/\mg "_law_some"=some (.ref f61))
  (F62:Fun K "_law_step" "_law_step" (top 62) f62 d62/\mg "_law_step"=some (.ref f62))
  (F12:Fun K "is_plain" "is_plain" (top 12) f12 d12/\mg "is_plain"=some (.ref f12))
  (F25:Fun K "is_say" "is_say" (top 25) f25 d25/\mg "is_say"=some (.ref f25))
  (F10:Fun K "is_whole" "is_whole" (top 10) f10 d10/\mg "is_whole"=some (.ref f10))
  (F11:Fun K "is_within" "is_within" (top 11) f11 d11/\mg "is_within"=some (.ref f11))
  (F26:Fun K "is_go" "is_go" (top 26) f26 d26/\mg "is_go"=some (.ref f26))
  (F27:Fun K "is_order" "is_order" (top 27) f27 d27/\mg "is_order"=some (.ref f27))
  (F28:Fun K "check_order" "check_order" (top 28) f28 d28/\mg "check_order"=some (.ref f28))
  (F29:Fun K "check_orders" "check_orders" (top 29) f29 d29/\mg "check_orders"=some (.ref f29))
  (F41:Fun K "spot_text" "spot_text" (top 41) f41 d41/\mg "spot_text"=some (.ref f41))
  (F45:Fun K "order_text" "order_text" (top 45) f45 d45/\mg "order_text"=some (.ref f45))
  (F46:Fun K "orders_text" "orders_text" (top 46) f46 d46/\mg "orders_text"=some (.ref f46))
  (F44:Fun K "lines_of" "lines_of" (top 44) f44 d44/\mg "lines_of"=some (.ref f44))
  (F13:Fun K "are_figures" "are_figures" (top 13) f13 d13/\mg "are_figures"=some (.ref f13))
  (F42:Fun K "is_short_number" "is_short_number" (top 42) f42 d42/\mg "is_short_number"=some (.ref f42))
  (F43:Fun K "spot_or_none" "spot_or_none" (top 43) f43 d43/\mg "spot_or_none"=some (.ref f43))
  (F47:Fun K "order_or_none" "order_or_none" (top 47) f47 d47/\mg "order_or_none"=some (.ref f47))
  (F48:Fun K "read_order" "read_order" (top 48) f48 d48/\mg "read_order"=some (.ref f48))
  (F49:Fun K "read_orders" "read_orders" (top 49) f49 d49/\mg "read_orders"=some (.ref f49))
  (F37:Fun K "order_cost" "order_cost" (top 37) f37 d37/\mg "order_cost"=some (.ref f37))
  (F38:Fun K "cost" "cost" (top 38) f38 d38/\mg "cost"=some (.ref f38))
  (F17:Fun K "are_full_rows" "are_full_rows" (top 17) f17 d17/\mg "are_full_rows"=some (.ref f17))
  (F18:Fun K "is_place" "is_place" (top 18) f18 d18/\mg "is_place"=some (.ref f18))
  (F19:Fun K "is_screen" "is_screen" (top 19) f19 d19/\mg "is_screen"=some (.ref f19))
  (F20:Fun K "check_screen" "check_screen" (top 20) f20 d20/\mg "check_screen"=some (.ref f20))
  (F30:Fun K "with_row_at_place" "with_row_at_place" (top 30) f30 d30/\mg "with_row_at_place"=some (.ref f30))
  (F31:Fun K "after_say" "after_say" (top 31) f31 d31/\mg "after_say"=some (.ref f31))
  (F32:Fun K "after_go" "after_go" (top 32) f32 d32/\mg "after_go"=some (.ref f32))
  (F33:Fun K "after_wipe" "after_wipe" (top 33) f33 d33/\mg "after_wipe"=some (.ref f33))
  (F34:Fun K "after_order" "after_order" (top 34) f34 d34/\mg "after_order"=some (.ref f34))
  (F36:Fun K "all_done" "all_done" (top 36) f36 d36/\mg "all_done"=some (.ref f36))
  (F53:Fun K "screen_text" "screen_text" (top 53) f53 d53/\mg "screen_text"=some (.ref f53))
  (F54:Fun K "screen_or_none" "screen_or_none" (top 54) f54 d54/\mg "screen_or_none"=some (.ref f54))
  (F55:Fun K "read_screen" "read_screen" (top 55) f55 d55/\mg "read_screen"=some (.ref f55))
  (F35:Fun K "done" "done" (top 35) f35 d35/\mg "done"=some (.ref f35))
  (F52_1:Fun K "sheet" "Pad.sheet" (bn (top 52) 1) f52_1 d52_1/\Meth K C_Pad "sheet" f52_1)
  (F52_2:Fun K "spent" "Pad.spent" (bn (top 52) 2) f52_2 d52_2/\Meth K C_Pad "spent" f52_2)
  (F52_3:Fun K "step_to" "Pad.step_to" (bn (top 52) 3) f52_3 d52_3/\Meth K C_Pad "step_to" f52_3)
  (F52_4:Fun K "do" "Pad.do" (bn (top 52) 4) f52_4 d52_4/\Meth K C_Pad "do" f52_4)
  (F52_7:Fun K "back" "Pad.back" (bn (top 52) 7) f52_7 d52_7/\Meth K C_Pad "back" f52_7)
  (F52_0:Fun K "__init__" "Pad.__init__" (bn (top 52) 0) f52_0 d52_0/\Mk K C_Pad f52_0)
  (F63:Fun K "law" "law" (top 63) f63 d63/\mg "law"=some (.ref f63)) :
  FnF P w K mg base 9 f63 d63 ["_law_script"] xX:=by
 have k57:=F57.1.callee F57.2 ((rO (P:=P) (w:=w) (base:=base) b_len F57.1).to rq) fun _ _ _ _ _ _ us hl=>by obtain ⟨a,b,rfl⟩:=wo hl; rfl
 have k58:=F58.1.callee F58.2 ((rE k57 F58.1).to rC) fun _ _ _ _ _ _ us hl=>by obtain ⟨a,b,c,rfl⟩:=Dl hl; rfl
 have k59:=F59.1.callee F59.2 ((uE b_range k58 F59.1).to uy) fun _ _ _ _ _ _ us hl=>by obtain ⟨a,b,c,rfl⟩:=Dl hl; rfl
 have k60:=F60.1.callee F60.2 ((ou b_range b_tuple k59 (k58.mono 3) F60.1).to nV) fun _ _ _ _ _ _ us hl=>by obtain ⟨a,b,c,d,rfl⟩:=Hv hl; rfl
 have k61:=F61.1.callee F61.2 ((qR (k58.mono 4) k60 F61.1).to sf) fun _ _ _ _ _ _ us hl=>by obtain ⟨a,b,rfl⟩:=wo hl; rfl
 have k62:=F62.1.callee F62.2 ((rS (P:=P) (w:=w) (base:=base) b_len F62.1).to rG) fun _ _ _ _ _ _ us hl=>by obtain ⟨a,b,rfl⟩:=wo hl; rfl
 have k12:=F12.1.callee F12.2 ((rf (P:=P) (w:=w) (base:=base) b_all b_isinstance b_str F12.1).to qH) fun _ _ _ _ _ _ us hl=>by obtain ⟨a,rfl⟩:=jf hl; rfl
 have k25:=F25.1.callee F25.2 ((xv b_len g_MOST_SAID k12 F25.1).to xc) fun _ _ _ _ _ _ us hl=>by obtain ⟨a,rfl⟩:=jf hl; rfl
 have k10:=F10.1.callee F10.2 ((qI (P:=P) (w:=w) (base:=base) b_bool jh b_isinstance F10.1).to si) fun _ _ _ _ _ _ us hl=>by obtain ⟨a,rfl⟩:=jf hl; rfl
 have k11:=F11.1.callee F11.2 ((pJ k10 F11.1).to pV) fun _ _ _ _ _ _ us hl=>by obtain ⟨a,b,c,rfl⟩:=Dl hl; rfl
 have k26:=F26.1.callee F26.2 ((yk b_len g_MOST_ROWS g_MOST_WIDTH k11 F26.1).to yX) fun _ _ _ _ _ _ us hl=>by obtain ⟨a,rfl⟩:=jf hl; rfl
 have k27:=F27.1.callee F27.2 ((sj b_isinstance b_tuple (k25.mono 3) k26 F27.1).to qP) fun _ _ _ _ _ _ us hl=>by obtain ⟨a,rfl⟩:=jf hl; rfl
 have k28:=F28.1.callee F28.2 ((mH r_NoOrder k27 F28.1).to mJ) fun _ _ _ _ _ _ us hl=>by obtain ⟨a,rfl⟩:=jf hl; rfl
 have k29:=F29.1.callee F29.2 ((lq b_isinstance b_list r_NoOrder k28 F29.1).to lf) fun _ _ _ _ _ _ us hl=>by obtain ⟨a,rfl⟩:=jf hl; rfl
 have k41:=F41.1.callee F41.2 ((pQ (P:=P) (w:=w) (base:=base) F41.1).to pE) fun _ _ _ _ _ _ us hl=>by obtain ⟨a,b,rfl⟩:=wo hl; rfl
 have k45:=F45.1.callee F45.2 ((nL k28 (k41.mono 5) F45.1).to nG) fun _ _ _ _ _ _ us hl=>by obtain ⟨a,rfl⟩:=jf hl; rfl
 have k46:=F46.1.callee F46.2 ((mw k29 k45 F46.1).to mx) fun _ _ _ _ _ _ us hl=>by obtain ⟨a,rfl⟩:=jf hl; rfl
 have k44:=F44.1.callee F44.2 ((qT (P:=P) (w:=w) (base:=base) b_isinstance b_str r_NoText F44.1).to qZ) fun _ _ _ _ _ _ us hl=>by obtain ⟨a,rfl⟩:=jf hl; rfl
 have k13:=F13.1.callee F13.2 ((my (P:=P) (w:=w) (base:=base) b_all g_FIGURES F13.1).to lX) fun _ _ _ _ _ _ us hl=>by obtain ⟨a,rfl⟩:=jf hl; rfl
 have k42:=F42.1.callee F42.2 ((ik b_len g_MOST_FIGURES k13 F42.1).to iO) fun _ _ _ _ _ _ us hl=>by obtain ⟨a,rfl⟩:=jf hl; rfl
 have k43:=F43.1.callee F43.2 ((lD b_all jh b_len k42 F43.1).to kP) fun _ _ _ _ _ _ us hl=>by obtain ⟨a,rfl⟩:=jf hl; rfl
 have k47:=F47.1.callee F47.2 ((jP k43 F47.1).to jM) fun _ _ _ _ _ _ us hl=>by obtain ⟨a,rfl⟩:=jf hl; rfl
 have k48:=F48.1.callee F48.2 ((nB r_NoText (k47.mono 6) (k27.mono 6) k45 F48.1).to ot) fun _ _ _ _ _ _ us hl=>by obtain ⟨a,rfl⟩:=jf hl; rfl
 have k49:=F49.1.callee F49.2 ((mF (k44.mono 7) k48 F49.1).to ma) fun _ _ _ _ _ _ us hl=>by obtain ⟨a,rfl⟩:=jf hl; rfl
 have k37:=F37.1.callee F37.2 ((nW (P:=P) (w:=w) (base:=base) b_len g_GO_COST g_WIPE_COST F37.1).to oI) fun _ _ _ _ _ _ us hl=>by obtain ⟨a,rfl⟩:=jf hl; rfl
 have k38:=F38.1.callee F38.2 ((CH b_sum k29 (k37.mono 6) F38.1).to Cl) fun _ _ _ _ _ _ us hl=>by obtain ⟨a,rfl⟩:=jf hl; rfl
 have k17:=F17.1.callee F17.2 ((jO b_all b_isinstance b_len b_tuple g_MOST_ROWS k12 F17.1).to jU) fun _ _ _ _ _ _ us hl=>by obtain ⟨a,b,rfl⟩:=wo hl; rfl
 have k18:=F18.1.callee F18.2 ((qV b_isinstance b_len b_tuple k11 F18.1).to sv) fun _ _ _ _ _ _ us hl=>by obtain ⟨a,b,c,rfl⟩:=Dl hl; rfl
 have k19:=F19.1.callee F19.2 ((pi b_isinstance b_len b_tuple g_MOST_WIDTH (k11.mono 3) (k17.mono 3) k18 F19.1).to qe) fun _ _ _ _ _ _ us hl=>by obtain ⟨a,rfl⟩:=jf hl; rfl
 have k20:=F20.1.callee F20.2 ((lH r_NoScreen k19 F20.1).to kn) fun _ _ _ _ _ _ us hl=>by obtain ⟨a,rfl⟩:=jf hl; rfl
 have k30:=F30.1.callee F30.2 ((gq (P:=P) (w:=w) (base:=base) F30.1).to gj) fun _ _ _ _ _ _ us hl=>by obtain ⟨a,b,c,rfl⟩:=Dl hl; rfl
 have k31:=F31.1.callee F31.2 ((pY b_len r_NoRoom k30 F31.1).to pU) fun _ _ _ _ _ _ us hl=>by obtain ⟨a,b,rfl⟩:=wo hl; rfl
 have k32:=F32.1.callee F32.2 ((qA (P:=P) (w:=w) (base:=base) b_len r_NoRoom F32.1).to sk) fun _ _ _ _ _ _ us hl=>by obtain ⟨a,b,c,rfl⟩:=Dl hl; rfl
 have k33:=F33.1.callee F33.2 ((oM k30 F33.1).to oH) fun _ _ _ _ _ _ us hl=>by obtain ⟨a,rfl⟩:=jf hl; rfl
 have k34:=F34.1.callee F34.2 ((mG k31 (k32.mono 2) k33 F34.1).to mB) fun _ _ _ _ _ _ us hl=>by obtain ⟨a,b,rfl⟩:=wo hl; rfl
 have k36:=F36.1.callee F36.2 ((qM (k20.mono 6) k29 (k34.mono 6) F36.1).to rm) fun _ _ _ _ _ _ us hl=>by obtain ⟨a,b,rfl⟩:=wo hl; rfl
 have k53:=F53.1.callee F53.2 ((mq k20 (k41.mono 5) F53.1).to zQz9) fun _ _ _ _ _ _ us hl=>by obtain ⟨a,rfl⟩:=jf hl; rfl
 have k54:=F54.1.callee F54.2 ((jm b_len b_tuple k43 F54.1).to jk) fun _ _ _ _ _ _ us hl=>by obtain ⟨a,rfl⟩:=jf hl; rfl
 have k55:=F55.1.callee F55.2 ((mh r_NoText (k44.mono 6) (k54.mono 6) (k19.mono 6) k53 F55.1).to mC) fun _ _ _ _ _ _ us hl=>by obtain ⟨a,rfl⟩:=jf hl; rfl
 have k35:=F35.1.callee F35.2 ((A0 k20 k28 (k34.mono 5) F35.1).to CC) fun _ _ _ _ _ _ us hl=>by obtain ⟨a,b,rfl⟩:=wo hl; rfl
 have k52_1:=lM F52_1.1 F52_1.2 (qv (P:=P) (w:=w) (mg:=mg) (base:=base) cf_Pad CD F52_1.1) (fun _ _ _ _ _ _ us hl=>by obtain ⟨a,rfl⟩:=jf hl; rfl) (n:=0) rfl
 have k52_2:=lM F52_2.1 F52_2.2 (qt (P:=P) (w:=w) (mg:=mg) (base:=base) cf_Pad Dj F52_2.1) (fun _ _ _ _ _ _ us hl=>by obtain ⟨a,rfl⟩:=jf hl; rfl) (n:=0) rfl
 have k52_3:=lM F52_3.1 F52_3.2 (lY (P:=P) (w:=w) (mg:=mg) (base:=base) cf_Pad k52_2 DM F52_3.1) (fun _ _ _ _ _ _ us hl=>by obtain ⟨a,b,c,d,rfl⟩:=Hv hl; rfl) (n:=3) rfl
 have k52_4:=lM F52_4.1 F52_4.2 (vK (P:=P) (w:=w) (mg:=mg) (base:=base) k35 (k37.mono 6) cf_Pad (k52_1.mono 6) (k52_3.mono 6) (k52_2.mono 6) Ig F52_4.1) (fun _ _ _ _ _ _ us hl=>by obtain ⟨a,b,rfl⟩:=wo hl; rfl) (n:=1) rfl
 have k52_7:=lM F52_7.1 F52_7.2 (rD (P:=P) (w:=w) (mg:=mg) (base:=base) b_len r_NoBack cf_Pad Fw F52_7.1) (fun _ _ _ _ _ _ us hl=>by obtain ⟨a,rfl⟩:=jf hl; rfl) (n:=0) rfl
 have k52_0:=mkc F52_0.1 F52_0.2 mg_Pad (qF (P:=P) (w:=w) (mg:=mg) (base:=base) g_MADE k20 cf_Pad Ey F52_0.1) (fun _ _ _ _ _ _ us hl=>by obtain ⟨a,b,rfl⟩:=wo hl; rfl) (n:=1) rfl
 exact Fj b_len b_min b_range (k61.mono 8) (k58.mono 8) (k62.mono 8) (k46.mono 8) k49 (k38.mono 8) (k36.mono 8) (k53.mono 8) (k55.mono 8) cf_Pad (k52_4.mono 8) (k52_1.mono 8) (k52_2.mono 8) (k52_7.mono 8) (yy k52_0 7) (B9 FN) F63.1
end
theorem DI {P:Program} {w:World} {K:PySem.W.Frag} {mg:Str->Option Value} {fa:Addr} (hfa:mg "law"=some (.ref fa)) (b_all:mg "all"=none) (b_bool:mg "bool"=none) (jh:mg "int"=none) (b_isinstance:mg "isinstance"=none) (b_len:mg "len"=none) (b_list:mg "list"=none) (b_min:mg "min"=none) (b_range:mg "range"=none) (b_str:mg "str"=none) (b_sum:mg "sum"=none) (b_tuple:mg "tuple"=none) (g_FIGURES:∃ t,mg "FIGURES"=some (.str "0123456789" t)) (g_GO_COST:∃ t,mg "GO_COST"=some (.int 2 t)) (g_MADE:∃ t,mg "MADE"=some (.str "made" t)) (g_MOST_FIGURES:∃ t,mg "MOST_FIGURES"=some (.int 2 t)) (g_MOST_ROWS:∃ t,mg "MOST_ROWS"=some (.int 12 t)) (g_MOST_SAID:∃ t,mg "MOST_SAID"=some (.int 40 t)) (g_MOST_WIDTH:∃ t,mg "MOST_WIDTH"=some (.int 40 t)) (g_WIPE_COST:∃ t,mg "WIPE_COST"=some (.int 1 t)) {bB ba:Addr} {aZ bz aO:Addr} (n_NoBack:PySem.W.nsIn K mainGlobals "NoBack"=some (some (.ref bB))) (x_NoBack:PySem.W.excIn K bB [.type "ValueError",.type "Exception",.type "BaseException",.type "object"] "ValueError.__new__"=true) (n_NoOrder:PySem.W.nsIn K mainGlobals "NoOrder"=some (some (.ref ba))) (x_NoOrder:PySem.W.excIn K ba [.type "ValueError",.type "Exception",.type "BaseException",.type "object"] "ValueError.__new__"=true) (n_NoRoom:PySem.W.nsIn K mainGlobals "NoRoom"=some (some (.ref aZ))) (x_NoRoom:PySem.W.excIn K aZ [.type "ValueError",.type "Exception",.type "BaseException",.type "object"] "ValueError.__new__"=true) (n_NoScreen:PySem.W.nsIn K mainGlobals "NoScreen"=some (some (.ref bz))) (x_NoScreen:PySem.W.excIn K bz [.type "ValueError",.type "Exception",.type "BaseException",.type "object"] "ValueError.__new__"=true) (n_NoText:PySem.W.nsIn K mainGlobals "NoText"=some (some (.ref aO))) (x_NoText:PySem.W.excIn K aO [.type "ValueError",.type "Exception",.type "BaseException",.type "object"] "ValueError.__new__"=true) {C_Pad:Addr} (n_Pad:PySem.W.nsIn K mainGlobals "Pad"=some (some (.ref C_Pad))) (cf_Pad:CF K C_Pad [0,1])
  (h57:∃ f fd,Fun K "_law_cell" "_law_cell" (top 57) f fd/\mg "_law_cell"=some (.ref f))
  (h58:∃ f fd,Fun K "_law_pick" "_law_pick" (top 58) f fd/\mg "_law_pick"=some (.ref f))
  (h59:∃ f fd,Fun K "_law_row" "_law_row" (top 59) f fd/\mg "_law_row"=some (.ref f))
  (h60:∃ f fd,Fun K "_law_screen" "_law_screen" (top 60) f fd/\mg "_law_screen"=some (.ref f))
  (h61:∃ f fd,Fun K "_law_some" "_law_some" (top 61) f fd/\mg "_law_some"=some (.ref f))
  (h62:∃ f fd,Fun K "_law_step" "_law_step" (top 62) f fd/\mg "_law_step"=some (.ref f))
  (h12:∃ f fd,Fun K "is_plain" "is_plain" (top 12) f fd/\mg "is_plain"=some (.ref f))
  (h25:∃ f fd,Fun K "is_say" "is_say" (top 25) f fd/\mg "is_say"=some (.ref f))
  (h10:∃ f fd,Fun K "is_whole" "is_whole" (top 10) f fd/\mg "is_whole"=some (.ref f))
  (h11:∃ f fd,Fun K "is_within" "is_within" (top 11) f fd/\mg "is_within"=some (.ref f))
  (h26:∃ f fd,Fun K "is_go" "is_go" (top 26) f fd/\mg "is_go"=some (.ref f))
  (h27:∃ f fd,Fun K "is_order" "is_order" (top 27) f fd/\mg "is_order"=some (.ref f))
  (h28:∃ f fd,Fun K "check_order" "check_order" (top 28) f fd/\mg "check_order"=some (.ref f))
  (h29:∃ f fd,Fun K "check_orders" "check_orders" (top 29) f fd/\mg "check_orders"=some (.ref f))
  (h41:∃ f fd,Fun K "spot_text" "spot_text" (top 41) f fd/\mg "spot_text"=some (.ref f))
  (h45:∃ f fd,Fun K "order_text" "order_text" (top 45) f fd/\mg "order_text"=some (.ref f))
  (h46:∃ f fd,Fun K "orders_text" "orders_text" (top 46) f fd/\mg "orders_text"=some (.ref f))
  (h44:∃ f fd,Fun K "lines_of" "lines_of" (top 44) f fd/\mg "lines_of"=some (.ref f))
  (h13:∃ f fd,Fun K "are_figures" "are_figures" (top 13) f fd/\mg "are_figures"=some (.ref f))
  (h42:∃ f fd,Fun K "is_short_number" "is_short_number" (top 42) f fd/\mg "is_short_number"=some (.ref f))
  (h43:∃ f fd,Fun K "spot_or_none" "spot_or_none" (top 43) f fd/\mg "spot_or_none"=some (.ref f))
  (h47:∃ f fd,Fun K "order_or_none" "order_or_none" (top 47) f fd/\mg "order_or_none"=some (.ref f))
  (h48:∃ f fd,Fun K "read_order" "read_order" (top 48) f fd/\mg "read_order"=some (.ref f))
  (h49:∃ f fd,Fun K "read_orders" "read_orders" (top 49) f fd/\mg "read_orders"=some (.ref f))
  (h37:∃ f fd,Fun K "order_cost" "order_cost" (top 37) f fd/\mg "order_cost"=some (.ref f))
  (h38:∃ f fd,Fun K "cost" "cost" (top 38) f fd/\mg "cost"=some (.ref f))
  (h17:∃ f fd,Fun K "are_full_rows" "are_full_rows" (top 17) f fd/\mg "are_full_rows"=some (.ref f))
  (h18:∃ f fd,Fun K "is_place" "is_place" (top 18) f fd/\mg "is_place"=some (.ref f))
  (h19:∃ f fd,Fun K "is_screen" "is_screen" (top 19) f fd/\mg "is_screen"=some (.ref f))
  (h20:∃ f fd,Fun K "check_screen" "check_screen" (top 20) f fd/\mg "check_screen"=some (.ref f))
  (h30:∃ f fd,Fun K "with_row_at_place" "with_row_at_place" (top 30) f fd/\mg "with_row_at_place"=some (.ref f))
  (h31:∃ f fd,Fun K "after_say" "after_say" (top 31) f fd/\mg "after_say"=some (.ref f))
  (h32:∃ f fd,Fun K "after_go" "after_go" (top 32) f fd/\mg "after_go"=some (.ref f))
  (h33:∃ f fd,Fun K "after_wipe" "after_wipe" (top 33) f fd/\mg "after_wipe"=some (.ref f))
  (h34:∃ f fd,Fun K "after_order" "after_order" (top 34) f fd/\mg "after_order"=some (.ref f))
  (h36:∃ f fd,Fun K "all_done" "all_done" (top 36) f fd/\mg "all_done"=some (.ref f))
  (h53:∃ f fd,Fun K "screen_text" "screen_text" (top 53) f fd/\mg "screen_text"=some (.ref f))
  (h54:∃ f fd,Fun K "screen_or_none" "screen_or_none" (top 54) f fd/\mg "screen_or_none"=some (.ref f))
  (h55:∃ f fd,Fun K "read_screen" "read_screen" (top 55) f fd/\mg "read_screen"=some (.ref f))
  (h35:∃ f fd,Fun K "done" "done" (top 35) f fd/\mg "done"=some (.ref f))
  (h52_1:∃ f fd,Fun K "sheet" "Pad.sheet" (bn (top 52) 1) f fd/\Meth K C_Pad "sheet" f)
  (h52_2:∃ f fd,Fun K "spent" "Pad.spent" (bn (top 52) 2) f fd/\Meth K C_Pad "spent" f)
  (h52_3:∃ f fd,Fun K "step_to" "Pad.step_to" (bn (top 52) 3) f fd/\Meth K C_Pad "step_to" f)
  (h52_4:∃ f fd,Fun K "do" "Pad.do" (bn (top 52) 4) f fd/\Meth K C_Pad "do" f)
  (h52_7:∃ f fd,Fun K "back" "Pad.back" (bn (top 52) 7) f fd/\Meth K C_Pad "back" f)
  (h52_0:∃ f fd,Fun K "__init__" "Pad.__init__" (bn (top 52) 0) f fd/\Mk K C_Pad f)
  (h63:∃ f fd,Fun K "law" "law" (top 63) f fd/\mg "law"=some (.ref f)) :
  ∃ fd:FuncData,(∀ (s:Shared) (u:Value),BindsTo s fd ⟨[u],[]⟩ [("_law_script",u)])/\∀ base:Heap,K.In base->base.Ns mainGlobals mg->FnF P w K mg base 9 fa fd ["_law_script"] xX:=by
 obtain ⟨t_FIGURES,g_FIGURES⟩:=g_FIGURES
 obtain ⟨t_GO_COST,g_GO_COST⟩:=g_GO_COST
 obtain ⟨t_MADE,g_MADE⟩:=g_MADE
 obtain ⟨t_MOST_FIGURES,g_MOST_FIGURES⟩:=g_MOST_FIGURES
 obtain ⟨t_MOST_ROWS,g_MOST_ROWS⟩:=g_MOST_ROWS
 obtain ⟨t_MOST_SAID,g_MOST_SAID⟩:=g_MOST_SAID
 obtain ⟨t_MOST_WIDTH,g_MOST_WIDTH⟩:=g_MOST_WIDTH
 obtain ⟨t_WIPE_COST,g_WIPE_COST⟩:=g_WIPE_COST
 obtain ⟨f57,d57,F57⟩:=h57
 obtain ⟨f58,d58,F58⟩:=h58
 obtain ⟨f59,d59,F59⟩:=h59
 obtain ⟨f60,d60,F60⟩:=h60
 obtain ⟨f61,d61,F61⟩:=h61
 obtain ⟨f62,d62,F62⟩:=h62
 obtain ⟨f12,d12,F12⟩:=h12
 obtain ⟨f25,d25,F25⟩:=h25
 obtain ⟨f10,d10,F10⟩:=h10
 obtain ⟨f11,d11,F11⟩:=h11
 obtain ⟨f26,d26,F26⟩:=h26
 obtain ⟨f27,d27,F27⟩:=h27
 obtain ⟨f28,d28,F28⟩:=h28
 obtain ⟨f29,d29,F29⟩:=h29
 obtain ⟨f41,d41,F41⟩:=h41
 obtain ⟨f45,d45,F45⟩:=h45
 obtain ⟨f46,d46,F46⟩:=h46
 obtain ⟨f44,d44,F44⟩:=h44
 obtain ⟨f13,d13,F13⟩:=h13
 obtain ⟨f42,d42,F42⟩:=h42
 obtain ⟨f43,d43,F43⟩:=h43
 obtain ⟨f47,d47,F47⟩:=h47
 obtain ⟨f48,d48,F48⟩:=h48
 obtain ⟨f49,d49,F49⟩:=h49
 obtain ⟨f37,d37,F37⟩:=h37
 obtain ⟨f38,d38,F38⟩:=h38
 obtain ⟨f17,d17,F17⟩:=h17
 obtain ⟨f18,d18,F18⟩:=h18
 obtain ⟨f19,d19,F19⟩:=h19
 obtain ⟨f20,d20,F20⟩:=h20
 obtain ⟨f30,d30,F30⟩:=h30
 obtain ⟨f31,d31,F31⟩:=h31
 obtain ⟨f32,d32,F32⟩:=h32
 obtain ⟨f33,d33,F33⟩:=h33
 obtain ⟨f34,d34,F34⟩:=h34
 obtain ⟨f36,d36,F36⟩:=h36
 obtain ⟨f53,d53,F53⟩:=h53
 obtain ⟨f54,d54,F54⟩:=h54
 obtain ⟨f55,d55,F55⟩:=h55
 obtain ⟨f35,d35,F35⟩:=h35
 obtain ⟨f52_1,d52_1,F52_1⟩:=h52_1
 obtain ⟨f52_2,d52_2,F52_2⟩:=h52_2
 obtain ⟨f52_3,d52_3,F52_3⟩:=h52_3
 obtain ⟨f52_4,d52_4,F52_4⟩:=h52_4
 obtain ⟨f52_7,d52_7,F52_7⟩:=h52_7
 obtain ⟨f52_0,d52_0,F52_0⟩:=h52_0
 obtain ⟨f63,d63,F63⟩:=h63
 have e:fa=f63:=by
  have:=hfa.symm.trans F63.2
  injection this with this
  injection this
 subst e
 refine ⟨d63,fun s u=>?_,fun base kb nb=>?_⟩
 ·obtain ⟨oc,od,kV,doc,pm,an,cdv,ct,osl,rfl,lk,hcd⟩:=F63.1.ex
  exact .of_eq rfl
 ·exact law_fn b_all b_bool jh b_isinstance b_len b_list b_min b_range b_str b_sum b_tuple g_FIGURES g_GO_COST g_MADE g_MOST_FIGURES g_MOST_ROWS g_MOST_SAID g_MOST_WIDTH g_WIPE_COST (pX kb nb n_NoBack x_NoBack) (pX kb nb n_NoOrder x_NoOrder) (pX kb nb n_NoRoom x_NoRoom) (pX kb nb n_NoScreen x_NoScreen) (pX kb nb n_NoText x_NoText) cf_Pad (PySem.W.mg_of kb nb n_Pad) F57 F58 F59 F60 F61 F62 F12 F25 F10 F11 F26 F27 F28 F29 F41 F45 F46 F44 F13 F42 F43 F47 F48 F49 F37 F38 F17 F18 F19 F20 F30 F31 F32 F33 F34 F36 F53 F54 F55 F35 F52_1 F52_2 F52_3 F52_4 F52_7 F52_0 F63
end G96
theorem PySem.W.Fast.tw13037466084665996768:True:=trivial
theorem PySem.W.Fast.tw14814425645531264769:True:=trivial
theorem PySem.W.Fast.tw11203432456322352772:True:=trivial
theorem PySem.W.Fast.tw9101731462688378569:True:=trivial
theorem PySem.W.Fast.tw6207823330063658889:True:=trivial
theorem PySem.W.Fast.tw13905645595290032042:True:=trivial
theorem PySem.W.Fast.tw3035931624631429931:True:=trivial
theorem PySem.W.Fast.tw17287540051764685614:True:=trivial
theorem PySem.W.Fast.tw13784098271679460592:True:=trivial
theorem PySem.W.Fast.tw8332991098533536404:True:=trivial
theorem PySem.W.Fast.tw5757497507420903060:True:=trivial
theorem PySem.W.Fast.tw9625671372278538392:True:=trivial
theorem PySem.W.Fast.tw3707387186359600568:True:=trivial
theorem PySem.W.Fast.tw10171955849405456154:True:=trivial
theorem PySem.W.Fast.tw12853542939907998463:True:=trivial
open PySem PySem.W PyProof.Rows
set_option maxRecDepth 100000 in
set_option maxHeartbeats 0 in
theorem PySem.Challenge.cw_screenlines_k96_whole_texts_of_orders_on_holds : PySem.Challenge.rw_screenlines_k96_whole_texts_of_orders_on.Holds := by
 w_on; o_law; k_head; (case hw=>w_witness2)
 k_fill
 refine Q.IC (l:=PySem.Challenge.rw_screenlines_k96_whole_texts_of_orders_on) (L:=9) ⟨rfl,by decide,by decide⟩ rfl rfl (fun w h Y=>PySem.W.kIn_of Y) ?F
 case F=>
  intro w mg fa h KX G hmg
  have b_all:mg "all"=none:=PySem.W.mg_none_of KX G (by k_is)
  have b_bool:mg "bool"=none:=PySem.W.mg_none_of KX G (by k_is)
  have jh:mg "int"=none:=PySem.W.mg_none_of KX G (by k_is)
  have b_isinstance:mg "isinstance"=none:=PySem.W.mg_none_of KX G (by k_is)
  have b_len:mg "len"=none:=PySem.W.mg_none_of KX G (by k_is)
  have b_list:mg "list"=none:=PySem.W.mg_none_of KX G (by k_is)
  have b_min:mg "min"=none:=PySem.W.mg_none_of KX G (by k_is)
  have b_range:mg "range"=none:=PySem.W.mg_none_of KX G (by k_is)
  have b_str:mg "str"=none:=PySem.W.mg_none_of KX G (by k_is)
  have b_sum:mg "sum"=none:=PySem.W.mg_none_of KX G (by k_is)
  have b_tuple:mg "tuple"=none:=PySem.W.mg_none_of KX G (by k_is)
  have g_FIGURES:∃ t,mg "FIGURES"=some (.str "0123456789" t):=⟨_,PySem.W.mg_of KX G (by k_is)⟩
  have g_GO_COST:∃ t,mg "GO_COST"=some (.int 2 t):=⟨_,PySem.W.mg_of KX G (by k_is)⟩
  have g_MADE:∃ t,mg "MADE"=some (.str "made" t):=⟨_,PySem.W.mg_of KX G (by k_is)⟩
  have g_MOST_FIGURES:∃ t,mg "MOST_FIGURES"=some (.int 2 t):=⟨_,PySem.W.mg_of KX G (by k_is)⟩
  have g_MOST_ROWS:∃ t,mg "MOST_ROWS"=some (.int 12 t):=⟨_,PySem.W.mg_of KX G (by k_is)⟩
  have g_MOST_SAID:∃ t,mg "MOST_SAID"=some (.int 40 t):=⟨_,PySem.W.mg_of KX G (by k_is)⟩
  have g_MOST_WIDTH:∃ t,mg "MOST_WIDTH"=some (.int 40 t):=⟨_,PySem.W.mg_of KX G (by k_is)⟩
  have g_WIPE_COST:∃ t,mg "WIPE_COST"=some (.int 1 t):=⟨_,PySem.W.mg_of KX G (by k_is)⟩
  have h57:=Q.bj (x:="_law_cell") (st:=G96.top 57) KX G (by k_is) (by k_is) (by k_is) (by k_is)
  have h58:=Q.bj (x:="_law_pick") (st:=G96.top 58) KX G (by k_is) (by k_is) (by k_is) (by k_is)
  have h59:=Q.bj (x:="_law_row") (st:=G96.top 59) KX G (by k_is) (by k_is) (by k_is) (by k_is)
  have h60:=Q.bj (x:="_law_screen") (st:=G96.top 60) KX G (by k_is) (by k_is) (by k_is) (by k_is)
  have h61:=Q.bj (x:="_law_some") (st:=G96.top 61) KX G (by k_is) (by k_is) (by k_is) (by k_is)
  have h62:=Q.bj (x:="_law_step") (st:=G96.top 62) KX G (by k_is) (by k_is) (by k_is) (by k_is)
  have h12:=Q.bj (x:="is_plain") (st:=G96.top 12) KX G (by k_is) (by k_is) (by k_is) (by k_is)
  have h25:=Q.bj (x:="is_say") (st:=G96.top 25) KX G (by k_is) (by k_is) (by k_is) (by k_is)
  have h10:=Q.bj (x:="is_whole") (st:=G96.top 10) KX G (by k_is) (by k_is) (by k_is) (by k_is)
  have h11:=Q.bj (x:="is_within") (st:=G96.top 11) KX G (by k_is) (by k_is) (by k_is) (by k_is)
  have h26:=Q.bj (x:="is_go") (st:=G96.top 26) KX G (by k_is) (by k_is) (by k_is) (by k_is)
  have h27:=Q.bj (x:="is_order") (st:=G96.top 27) KX G (by k_is) (by k_is) (by k_is) (by k_is)
  have h28:=Q.bj (x:="check_order") (st:=G96.top 28) KX G (by k_is) (by k_is) (by k_is) (by k_is)
  have h29:=Q.bj (x:="check_orders") (st:=G96.top 29) KX G (by k_is) (by k_is) (by k_is) (by k_is)
  have h41:=Q.bj (x:="spot_text") (st:=G96.top 41) KX G (by k_is) (by k_is) (by k_is) (by k_is)
  have h45:=Q.bj (x:="order_text") (st:=G96.top 45) KX G (by k_is) (by k_is) (by k_is) (by k_is)
  have h46:=Q.bj (x:="orders_text") (st:=G96.top 46) KX G (by k_is) (by k_is) (by k_is) (by k_is)
  have h44:=Q.bj (x:="lines_of") (st:=G96.top 44) KX G (by k_is) (by k_is) (by k_is) (by k_is)
  have h13:=Q.bj (x:="are_figures") (st:=G96.top 13) KX G (by k_is) (by k_is) (by k_is) (by k_is)
  have h42:=Q.bj (x:="is_short_number") (st:=G96.top 42) KX G (by k_is) (by k_is) (by k_is) (by k_is)
  have h43:=Q.bj (x:="spot_or_none") (st:=G96.top 43) KX G (by k_is) (by k_is) (by k_is) (by k_is)
  have h47:=Q.bj (x:="order_or_none") (st:=G96.top 47) KX G (by k_is) (by k_is) (by k_is) (by k_is)
  have h48:=Q.bj (x:="read_order") (st:=G96.top 48) KX G (by k_is) (by k_is) (by k_is) (by k_is)
  have h49:=Q.bj (x:="read_orders") (st:=G96.top 49) KX G (by k_is) (by k_is) (by k_is) (by k_is)
  have h37:=Q.bj (x:="order_cost") (st:=G96.top 37) KX G (by k_is) (by k_is) (by k_is) (by k_is)
  have h38:=Q.bj (x:="cost") (st:=G96.top 38) KX G (by k_is) (by k_is) (by k_is) (by k_is)
  have h17:=Q.bj (x:="are_full_rows") (st:=G96.top 17) KX G (by k_is) (by k_is) (by k_is) (by k_is)
  have h18:=Q.bj (x:="is_place") (st:=G96.top 18) KX G (by k_is) (by k_is) (by k_is) (by k_is)
  have h19:=Q.bj (x:="is_screen") (st:=G96.top 19) KX G (by k_is) (by k_is) (by k_is) (by k_is)
  have h20:=Q.bj (x:="check_screen") (st:=G96.top 20) KX G (by k_is) (by k_is) (by k_is) (by k_is)
  have h30:=Q.bj (x:="with_row_at_place") (st:=G96.top 30) KX G (by k_is) (by k_is) (by k_is) (by k_is)
  have h31:=Q.bj (x:="after_say") (st:=G96.top 31) KX G (by k_is) (by k_is) (by k_is) (by k_is)
  have h32:=Q.bj (x:="after_go") (st:=G96.top 32) KX G (by k_is) (by k_is) (by k_is) (by k_is)
  have h33:=Q.bj (x:="after_wipe") (st:=G96.top 33) KX G (by k_is) (by k_is) (by k_is) (by k_is)
  have h34:=Q.bj (x:="after_order") (st:=G96.top 34) KX G (by k_is) (by k_is) (by k_is) (by k_is)
  have h36:=Q.bj (x:="all_done") (st:=G96.top 36) KX G (by k_is) (by k_is) (by k_is) (by k_is)
  have h53:=Q.bj (x:="screen_text") (st:=G96.top 53) KX G (by k_is) (by k_is) (by k_is) (by k_is)
  have h54:=Q.bj (x:="screen_or_none") (st:=G96.top 54) KX G (by k_is) (by k_is) (by k_is) (by k_is)
  have h55:=Q.bj (x:="read_screen") (st:=G96.top 55) KX G (by k_is) (by k_is) (by k_is) (by k_is)
  have h35:=Q.bj (x:="done") (st:=G96.top 35) KX G (by k_is) (by k_is) (by k_is) (by k_is)
  have h63:=Q.bj (x:="law") (st:=G96.top 63) KX G (by k_is) (by k_is) (by k_is) (by k_is)
  refine' G96.DI (P:=_) (w:=w) (K:=L2.KOf KX) hmg b_all b_bool jh b_isinstance b_len b_list b_min b_range b_str b_sum b_tuple g_FIGURES g_GO_COST g_MADE g_MOST_FIGURES g_MOST_ROWS g_MOST_SAID g_MOST_WIDTH g_WIPE_COST ?n_NoBack ?x_NoBack ?n_NoOrder ?x_NoOrder ?n_NoRoom ?x_NoRoom ?n_NoScreen ?x_NoScreen ?n_NoText ?x_NoText ?n_Pad ?cf_Pad h57 h58 h59 h60 h61 h62 h12 h25 h10 h11 h26 h27 h28 h29 h41 h45 h46 h44 h13 h42 h43 h47 h48 h49 h37 h38 h17 h18 h19 h20 h30 h31 h32 h33 h34 h36 h53 h54 h55 h35 ?h52_1 ?h52_2 ?h52_3 ?h52_4 ?h52_7 ?h52_0 h63
  all_goals (try dsimp only [L2.KOf])
  (case n_NoBack=>k_is)
  (case n_NoOrder=>k_is)
  (case n_NoRoom=>k_is)
  (case n_NoScreen=>k_is)
  (case n_NoText=>k_is)
  (case x_NoBack=>k_exc)
  (case x_NoOrder=>k_exc)
  (case x_NoRoom=>k_exc)
  (case x_NoScreen=>k_exc)
  (case x_NoText=>k_exc)
  (case n_Pad=>k_is)
  (case cf_Pad=>exact Q.xL 0 (x:="states") (Q.xL 1 (x:="taken_back") (Q.Fu (by k_is) (by k_is) (by k_is) (by k_is)) (by decide) rfl (by k_is)) (by decide) rfl (by k_is))
  (case h52_1=>exact Q.kG (st:=(L2.bn (G96.top 52) 1)) (by k_is) (by k_is) (by k_is) (by k_is) (by k_is))
  (case h52_2=>exact Q.kG (st:=(L2.bn (G96.top 52) 2)) (by k_is) (by k_is) (by k_is) (by k_is) (by k_is))
  (case h52_3=>exact Q.kG (st:=(L2.bn (G96.top 52) 3)) (by k_is) (by k_is) (by k_is) (by k_is) (by k_is))
  (case h52_4=>exact Q.kG (st:=(L2.bn (G96.top 52) 4)) (by k_is) (by k_is) (by k_is) (by k_is) (by k_is))
  (case h52_7=>exact Q.kG (st:=(L2.bn (G96.top 52) 7)) (by k_is) (by k_is) (by k_is) (by k_is) (by k_is))
  (case h52_0=>exact Q.AV (st:=(L2.bn (G96.top 52) 0)) (by k_is) (by k_is) (by k_is) (by k_is) (by k_is) (by k_is) (by k_is))
end
