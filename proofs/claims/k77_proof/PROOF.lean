import PyProof.Rows.All
import Wide.All
import OpenK.AllK
import Wide.FinOn
import Lean
import PyProof.EqAt
import PyProof.EqKinds
import PyProof.TupleCall
import PyProof.NeKinds
import PyProof.Draws
import KE.KTupSum
import KE.KIntText
import PyProof.Rows.Range3
import PyProof.Rows.FStr
import PyProof.StrCalls2
import PyProof.StrLawsTight
import PyProof.StrLawsIn
import PyProof.StrCalls
import KE.KLam
import PySem.Challenge.RW_screenlines_k77_pads_refused
set_option Elab.async false
set_option linter.all false
set_option maxRecDepth 100000
section
variable {us its:List Value} {a b p it C f Pt ad ag am ah aJ aN aO ao C1 al:Addr} {P:Program} {h h':Heap} {u cd doc pm cdv oc:Value} {t' i j k n wd:Nat} {ch fp rs:List Addr} {x y qual name y0 y1 y2:Str} {E:Value->Shared->Prop} {s' s:Shared} {pos py:Pos} {pins:List (Addr × Obj)} {tg iter tgt:Expr} {body sts:List Stmt} {mA:Str->Option Value} {fd:FuncData} {ps loose:List Str} {scope:Scope} {params:Arguments} {an od:Option Addr} {osl:Array (Option Value)} {st:Stmt} {ix:List Nat} {ts:List (Str × Addr)}
namespace L2
open PySem PySem.Spec PyProof.Rows
noncomputable abbrev Key:=Sum Int Str
noncomputable def C8:Key->Value->Bool
 | .inl k,v=>Value.isInt k v
 | .inr x,v=>Value.isStrOf x v
noncomputable def GO (w:World):Key->Int
 | .inl k=>hashInt k
 | .inr x=>hashStr w x
theorem bO:∀ {k:Key} {v:Value},C8 k v=true->(∃ i t,k=Sum.inl i/\v=Value.int i t)\/(∃ x t,k=Sum.inr x/\v=Value.str x t)
 | .inl i,v,h=>by
  obtain ⟨t,e⟩:=Value.isInt_shape (k:=i) (v:=v) h
  exact .inl ⟨i,t,rfl,e⟩
 | .inr x,v,h=>by
  obtain ⟨t,e⟩:=Value.isStrOf_shape (x:=x) (v:=v) h
  exact .inr ⟨x,t,rfl,e⟩
theorem Di (a b:Int):decide ((Sum.inl a:Key)=Sum.inl b)=(a==b):=by
 by_cases e:a=b
 ·subst e; simp
 ·have h : ¬ (Sum.inl a:Key)=Sum.inl b:=fun q=>e (Sum.inl.inj q)
  rw [decide_eq_false h]
  exact (beq_eq_false_iff_ne.mpr e).symm
theorem CJ (a b:Str):decide ((Sum.inr a:Key)=Sum.inr b)=decide (a=b):=by
 by_cases e:a=b
 ·subst e; simp
 ·have h : ¬ (Sum.inr a:Key)=Sum.inr b:=fun q=>e (Sum.inr.inj q)
  rw [decide_eq_false h,decide_eq_false e]
theorem B5 (a:Int) (b:Str):decide ((Sum.inl a:Key)=Sum.inr b)=false:=decide_eq_false (fun q=>nomatch q)
theorem BV (a:Str) (b:Int):decide ((Sum.inr a:Key)=Sum.inl b)=false:=decide_eq_false (fun q=>nomatch q)
noncomputable def ri (prog:Program) (w:World):PySem.KeyKind prog w Key where
 is:=C8
 hash:=GO w
 inj:=fun v a b ha hb=>by
  rcases bO ha with ⟨i,t,rfl,rfl⟩ | ⟨x,t,rfl,rfl⟩
  ·rcases bO hb with ⟨j,u,rfl,e⟩ | ⟨y,u,rfl,e⟩
   ·injection e with e1 _; rw [e1]
   ·exact nomatch e
  ·rcases bO hb with ⟨j,u,rfl,e⟩ | ⟨y,u,rfl,e⟩
   ·exact nomatch e
   ·injection e with e1 _; rw [e1]
 byValue:=fun k v h=>by
  rcases bO h with ⟨i,t,rfl,rfl⟩ | ⟨x,t,rfl,rfl⟩ <;> rfl
 pyHash:=fun hv h=>by
  rcases bO hv with ⟨i,t,rfl,rfl⟩ | ⟨x,t,rfl,rfl⟩
  ·exact wpAny_pyHash_int h
  ·exact wpAny_pyHash_str h
 eqBool:=fun hu hv h=>by
  rcases bO hu with ⟨i,t,rfl,rfl⟩ | ⟨x,t,rfl,rfl⟩
  ·rcases bO hv with ⟨j,u,rfl,rfl⟩ | ⟨y,u,rfl,rfl⟩
   ·rw [Di] at h; exact wpAny_eqBool_int h
   ·rw [B5] at h; exact SeqAt.EqAt.int_str i t y u _ _ _ _ h
  ·rcases bO hv with ⟨j,u,rfl,rfl⟩ | ⟨y,u,rfl,rfl⟩
   ·rw [BV] at h; exact SeqAt.EqAt.str_int x t j u _ _ _ _ h
   ·rw [CJ] at h; exact wpAny_eqBool_str h
 «strs»:=fun k x t v h=>by
  rcases bO h with ⟨i,u,rfl,e⟩ | ⟨y,u,rfl,e⟩
  ·exact nomatch e
  ·injection e with e1 _
   subst e1
   cases v <;> rfl
end L2
namespace L2
open PySem PySem.Spec PyProof.Rows
inductive V where
 | non | bl (b:Bool) | int (i:Int) | str (x:Str) | byt (b:Array UInt8) | flt (b:UInt64) | ref (a:Addr) | ty (n:String)
 deriving DecidableEq
noncomputable def RelV:V->Value->Prop
 | .non,u=>u=Value.none
 | .bl b,u=>u=Value.bool b
 | .int i,u=>∃ t,u=Value.int i t
 | .str x,u=>∃ t,u=Value.str x t
 | .byt b,u=>∃ t,u=Value.bytes b t
 | .flt b,u=>∃ t,u=Value.float b t
 | .ref a,u=>u=Value.ref a
 | .ty n,u=>u=Value.type n
noncomputable abbrev Vals:List V->List Value->Prop:=Paired RelV
theorem Vals.length {xs:List V} (r:Vals xs us):xs.length=us.length:=Paired.length r
theorem Vals.get:∀ {xs:List V} {us:List Value} {i:Nat} {x:V},Vals xs us->xs[i]?=some x->∃ u,us[i]?=some u/\RelV x u
 | _,_,_,_,.nil,e=>by simp at e
 | _,_,0,_,.cons r _,e=>by simp at e; subst e; exact ⟨_,rfl,r⟩
 | _,_,i+1,x,.cons _ t,e=>by
  obtain ⟨u,h1,h2⟩:=Vals.get (i:=i) (x:=x) t (by simpa using e)
  exact ⟨u,by simpa using h1,h2⟩
theorem Vals.append:∀ {xs ys:List V} {us ws:List Value},Vals xs us->Vals ys ws->Vals (xs++ys) (us++ws)
 | _,_,_,_,.nil,s=>s
 | _,_,_,_,.cons r t,s=>.cons r (Vals.append t s)
theorem Vals.take:∀ {xs:List V} {us:List Value} (n:Nat),Vals xs us->Vals (xs.take n) (us.take n)
 | _,_,0,_=>.nil
 | _,_,_+1,.nil=>.nil
 | _,_,n+1,.cons r t=>.cons r (Vals.take n t)
theorem Vals.drop:∀ {xs:List V} {us:List Value} (n:Nat),Vals xs us->Vals (xs.drop n) (us.drop n)
 | _,_,0,r=>r
 | _,_,_+1,.nil=>.nil
 | _,_,n+1,.cons _ t=>Vals.drop n t
noncomputable def RelO:Option V->Option Value->Prop
 | some v,some u=>RelV v u
 | none,none=>True
 | _,_=>False
noncomputable def KV {κ:Type}:List (κ × V)->List (κ × Value)->Prop:=Paired fun (p:κ × V) (q:κ × Value)=>p.1=q.1/\RelV p.2 q.2
noncomputable def kV:Key->V
 | .inl i=>.int i
 | .inr x=>.str x
inductive HO where
  /-- a list -/
  | lst (xs : List V)
  /-- a tuple (never changes) -/
  | tup (xs : List V)
  /-- a dict whose keys are ints and texts; one whose keys are tuples of ints and texts (the empty one is both) -/
  | dK (kvs : List (Key × V)) | dT (kvs : List (List Key × V))
  /-- a set of ints: its members, its size -/
  | set (S : Int -> Bool) (n : Nat)
  /-- an instance of the class at C, its dict at dx, its attributes -/
  | ins (C dx : Addr) (fs : List (Str × V))
  /-- the dict of the instance at x -/
  | own (x : Addr)
  /-- the dict of an exception -/
  | xd (fs : List (Str × V))
  /-- a bound method, f of x -/
  | met (f x : Addr)
  /-- a range object lo, lo + 1, .. below hi -/
  | rng (lo hi : Int)
  /-- a thing that is known to the object (the script; a dict while a loop walks it): read, never written while it is so -/
  | frz (o : Obj) (u : HO)
  /-- a code object's table -/
  | tbl (ps : Array Value)
  /-- any other thing, by what is true of its one object (a def of one's own: SetO a S n := HO.ext fun h => ..) -/
  | ext (φ : Heap -> Prop)

noncomputable abbrev Hp:=Addr->Option HO
noncomputable def upd (H:Hp) (a:Addr) (o:HO):Hp:=fun b=>if b=a then some o else H b
theorem bf {H:Hp} {o:HO}:upd H a o a=some o:=by unfold upd; rw [if_pos rfl]
theorem aR {H:Hp} {o:HO} (h:b ≠ a):upd H a o b=H b:=by unfold upd; rw [if_neg h]
theorem aU {H:Hp} {o:HO} (h:H a=some o) (h':H b=none):a ≠ b:=by
 intro e; subst e; rw [h] at h'; cases h'
noncomputable def sW (ps:Array Value):Str:=match ps.toList with
 | .str q _::_=>q
 | _=>Str.empty
section
variable (P:Program) (w:World)
noncomputable def ObjOk (H:Hp) (h:Heap) (a:Addr):HO->Prop
 | .lst xs=>xs.length<=sizeLine/\∃ (its:List Value) (n:Nat),Vals xs its/\h.get? a=some { cls:=.type "list",data:=.seq its.toArray n }
 | .tup xs=>xs.length<=sizeLine/\∃ its:List Value,Vals xs its/\IsTup h a its.toArray
 | .dK kvs=>kvs.length<=sizeLine/\(a==sysModules)=false/\∃ vs,KV kvs vs/\h.DictOf (ri P w) a vs
 | .dT kvs=>kvs.length<=sizeLine/\(a==sysModules)=false/\∃ xs:List (List Key × Addr × Value),
   Paired (fun (p:List Key × V) (q:List Key × Addr × Value)=>p.1=q.1/\H q.2.1=some (.tup (p.1.map kV))/\RelV p.2 q.2.2) kvs xs/\
   ∃ o es ep,h.get? a=some o/\o.ExactDict/\o.data=.dict es ep/\es.toList=xs.map (entryOfKey (tupleKind (ri P w)))/\(xs.map (·.1)).Nodup
 | .set S n=>h.SetOf (intKind P w) a S n
 | .ins C dx fs=>H dx=some (.own a)/\fs.length<=1000/\dx ≠ a/\h.get? a=some (PySem.W.instObj C dx)/\
   ∃ mA,h.Ns1 dx mA/\(∀ f,RelO (fs.lookup f) (mA f))/\PySem.Within mA (fs.map (·.1))
 | .own _=>∃ o,h.get? a=some o
 | .xd fs=>∃ mA,h.Ns1 a mA/\∀ f,RelO (fs.lookup f) (mA f)
 | .rng lo hi=>∃ t u v,h.get? a=some { cls:=.type "range",data:=.fields #[.int lo t,.int hi u,.int 1 v] }
 | .frz o u=>h.get? a=some o/\ObjOk H h a u
 | .tbl ps=>∃ qs:Array Value,h.get? a=some { cls:=.none,data:=.fields qs }/\TriplesOk qs.toList/\∀ (pos:Pos) (cv:Value),codeAmong pos qs.toList=some cv->∃ c o vs t,cv=.ref c/\H c=some (.frz o (.own a))/\o.data=.fields vs/\vs[1]?=some (.str (sW ps) t)
 | .met f x=>h.get? a=some (PySem.W.methodObj (.ref f) (.ref x))
 | .ext φ=>φ h/\(∃ o,h.get? a=some o)/\∀ h1 h2:Heap,φ h1->(∀ o,h1.get? a=some o->h2.get? a=some o)->φ h2
noncomputable def HOk (H:Hp) (h:Heap):Prop:=∀ a o,H a=some o->ObjOk P w H h a o
end
section
variable {P:Program} {w:World} {H H':Hp} {h h':Heap} {a:Addr} {o:HO}
theorem ObjOk.lt (x:ObjOk P w H h a o):a < h.objs.size:=by
 cases o with
 | lst xs=>obtain ⟨_,_,_,_,e⟩:=x; exact Heap.lt_size e
 | tup xs=>obtain ⟨_,_,_,p⟩:=x; exact p.lt
 | dK kvs=>obtain ⟨_,_,_,_,o,_,_,e,_⟩:=x; exact Heap.lt_size e
 | dT kvs=>obtain ⟨_,_,_,_,o,_,_,e,_⟩:=x; exact Heap.lt_size e
 | set S n=>obtain ⟨o,_,_,_,e,_⟩:=x; exact Heap.lt_size e
 | ins C dx fs=>obtain ⟨_,_,_,e,_⟩:=x; exact Heap.lt_size e
 | own y=>obtain ⟨_,e⟩:=x; exact Heap.lt_size e
 | xd fs=>obtain ⟨_,⟨_,_,_,e,_⟩,_⟩:=x; exact Heap.lt_size e
 | rng lo hi=>obtain ⟨_,_,_,e⟩:=x; exact Heap.lt_size e
 | frz ob u=>obtain ⟨e,_⟩:=x; exact Heap.lt_size e
 | tbl ps=>obtain ⟨_,e,_⟩:=x; exact Heap.lt_size e
 | met f y=>exact Heap.lt_size (show h.get? a=some _ from x)
 | ext φ=>obtain ⟨_,⟨_,e⟩,_⟩:=x; exact Heap.lt_size e
theorem Paired.mapP {α β:Type} {F G:α->β->Prop}:∀ {l₁:List α} {l₂:List β},Paired F l₁ l₂->(∀ a b,F a b->G a b)->Paired G l₁ l₂
 | _,_,.nil,_=>.nil
 | _,_,.cons r t,f=>.cons (f _ _ r) (Paired.mapP t f)
theorem ObjOk.stay (x:ObjOk P w H h a o) (k:∀ b u,(b=a\/H b=some (.own a))->h.get? b=some u->h'.get? b=some u)
 (ho:∀ b,H b=some (.own a)->H' b=some (.own a)) (ht:∀ b xs,H b=some (.tup xs)->H' b=some (.tup xs)) (hz:∀ b o u,H b=some (.frz o u)->H' b=some (.frz o u):=by exact fun _ _ _ q=>q):ObjOk P w H' h' a o:=by
 induction o with
 | lst xs=>obtain ⟨z,its,n,r,e⟩:=x; exact ⟨z,its,n,r,k _ _ (.inl rfl) e⟩
 | tup xs=>obtain ⟨z,its,r,ob,e,c⟩:=x; exact ⟨z,its,r,ob,k _ _ (.inl rfl) e,c⟩
 | dK kvs=>obtain ⟨z,y,vs,r,ob,es,ep,e,c⟩:=x; exact ⟨z,y,vs,r,ob,es,ep,k _ _ (.inl rfl) e,c⟩
 | dT kvs=>
  obtain ⟨z,y,xs,r,ob,es,ep,e,c⟩:=x
  exact ⟨z,y,xs,Paired.mapP r fun p q z=>⟨z.1,ht _ _ z.2.1,z.2.2⟩,ob,es,ep,k _ _ (.inl rfl) e,c⟩
 | set S n=>obtain ⟨ob,es,ep,t,e,c⟩:=x; exact ⟨ob,es,ep,t,k _ _ (.inl rfl) e,c⟩
 | ins C dx fs=>
  obtain ⟨d,z,ne,e,mA,⟨od,es,ep,e2,c⟩,r⟩:=x
  exact ⟨ho _ d,z,ne,k _ _ (.inl rfl) e,mA,⟨od,es,ep,k _ _ (.inr d) e2,c⟩,r⟩
 | own y=>obtain ⟨ob,e⟩:=x; exact ⟨ob,k _ _ (.inl rfl) e⟩
 | xd fs=>obtain ⟨mA,⟨od,es,ep,e,c⟩,r⟩:=x; exact ⟨mA,⟨od,es,ep,k _ _ (.inl rfl) e,c⟩,r⟩
 | rng lo hi=>obtain ⟨t,u,v,e⟩:=x; exact ⟨t,u,v,k _ _ (.inl rfl) e⟩
 | frz ob u ih=>obtain ⟨e,q⟩:=x; exact ⟨k _ _ (.inl rfl) e,ih q⟩
 | tbl ps=>
  obtain ⟨qs,e,tr,c⟩:=x
  refine ⟨qs,k _ _ (.inl rfl) e,tr,fun pos cv q=>?_⟩
  obtain ⟨c',o',vs,tk,e1,e2,e3⟩:=c pos cv q
  exact ⟨c',o',vs,tk,e1,hz _ _ _ e2,e3⟩
 | met f y=>
  have e:h.get? a=some (PySem.W.methodObj (.ref f) (.ref y)):=x
  show h'.get? a=some (PySem.W.methodObj (.ref f) (.ref y))
  exact k a _ (.inl rfl) e
 | ext φ=>obtain ⟨p,⟨o,e⟩,st⟩:=x; exact ⟨st _ _ p fun o q=>k _ _ (.inl rfl) q,⟨o,k _ _ (.inl rfl) e⟩,st⟩
theorem HOk.lt (x:HOk P w H h) (e:H a=some o):a < h.objs.size:=(x a o e).lt
theorem HOk.fresh (x:HOk P w H h) (e:h.objs.size<=a):H a=none:=by
 cases q:H a with
 | none=>rfl
 | some u=>exact absurd (Nat.lt_of_lt_of_le (x.lt q) e) (Nat.lt_irrefl _)
theorem HOk.kept (x:HOk P w H h) (k:∀ b u,h.get? b=some u->h'.get? b=some u):HOk P w H h':=fun a o e=>
 (x a o e).stay (fun b u _ q=>k b u q) (fun _ q=>q) fun _ _ q=>q
theorem HOk.laid (x:HOk P w H h) (k:∀ b u,h.get? b=some u->h'.get? b=some u) (hp:h.objs.size<=a) (new:ObjOk P w (upd H a o) h' a o):HOk P w (upd H a o) h':=fun b u e=>by
 have hn:=x.fresh hp
 by_cases hb:b=a
 ·subst hb; rw [bf] at e; cases e; exact new
 ·rw [aR hb] at e
  exact (x b u e).stay (fun c v _ q=>k c v q) (fun c q=>by rw [aR (aU q hn)]; exact q) (fun c xs q=>by rw [aR (aU q hn)]; exact q) fun c ob u q=>by rw [aR (aU q hn)]; exact q
end
noncomputable def Rd (H:Hp) (a:Addr) (u:HO):Prop:=H a=some u\/∃ o,H a=some (.frz o u)
theorem Rd.ok {w:World} {H:Hp} {u:HO} (r:Rd H a u) (x:HOk P w H h):ObjOk P w H h a u:=by
 rcases r with r | ⟨o,r⟩
 ·exact x a u r
 ·obtain ⟨_,q⟩:=x a _ r
  exact q
noncomputable def Mut:Option HO->Prop
 | some (.lst _)=>True
 | some (.dK _)=>True
 | some (.dT _)=>True
 | some (.set _ _)=>True
 | some (.ins _ _ _)=>True
 | some (.ext _)=>True
 | _=>False
section
variable {P:Program} {w:World} {H:Hp} {h h':Heap} {x e:Addr} {o':HO}
theorem HOk.write (ok:HOk P w H h) (mu:Mut (H x)) (he:e=x\/H e=some (.own x)) (k:∀ b u,b ≠ e->h.get? b=some u->h'.get? b=some u) (heo:∃ u,h'.get? e=some u)
 (new:ObjOk P w (upd H x o') h' x o'):HOk P w (upd H x o') h':=fun b u q=>by
 have nown:∀ c y,H c=some (.own y)->c ≠ x:=fun c y r z=>by subst z; rw [r] at mu; exact mu
 have ntup:∀ c xs,H c=some (.tup xs)->c ≠ x:=fun c xs r z=>by subst z; rw [r] at mu; exact mu
 have nfrz:∀ c ob u,H c=some (.frz ob u)->c ≠ x:=fun c ob u r z=>by subst z; rw [r] at mu; exact mu
 by_cases hb:b=x
 ·subst hb; rw [bf] at q; cases q; exact new
 ·rw [aR hb] at q
  by_cases hbe:b=e
  ·have q':H b=some (.own x):=by
    rcases he with z | z
    ·exact absurd (hbe.trans z) hb
    ·rw [hbe]; exact z
   rw [q] at q'; cases q'
   obtain ⟨v,hv⟩:=heo
   exact ⟨v,by rw [hbe]; exact hv⟩
  ·refine (ok b u q).stay (fun c v hc r=>k c v ?_ r) (fun c r=>by rw [aR (nown c b r)]; exact r) (fun c xs r=>by rw [aR (ntup c xs r)]; exact r) fun c ob u r=>by rw [aR (nfrz c ob u r)]; exact r
   rcases hc with rfl | hc
   ·exact hbe
   ·rintro rfl
    rcases he with z | z
    ·exact nown c b hc z
    ·rw [hc] at z; cases z; exact hb rfl
end
structure Un (fs ex:List Addr) (H H':Hp) (h h':Heap):Prop where
 keep:∀ b o,h.get? b=some o->H b=none->b ∉ fs->b ∉ ex->h'.get? b=some o
 slot:∀ b o,h.get? b=some o->H b=none->b ∈ fs->b ∉ ex->∃ sl,h'.get? b=some { o with slots:=sl }
 free:∀ b o,h.get? b=some o->H b=none->b ∉ ex->H' b=none
 there:∀ b o,h.get? b=some o->b ∉ ex->∃ o',h'.get? b=some o'
 tups:∀ b xs,H b=some (.tup xs)->H' b=some (.tup xs)
 frzs:∀ b o u,H b=some (.frz o u)->H' b=some (.frz o u)
 tbls:∀ b ps,H b=some (.tbl ps)->∃ more,H' b=some (.tbl (ps++more))
section
variable {fs fs' ex ex':List Addr} {H H1 H2:Hp} {h h1 h2 h':Heap} {a x e:Addr} {o:HO}
theorem Un.any (u:Un fs ex H H1 h h1) {ob:Obj} (q:h.get? b=some ob) (n:H b=none) (hx:b ∉ ex):∃ sl,h1.get? b=some { ob with slots:=sl }:=by
 by_cases hb:b ∈ fs
 ·exact u.slot b ob q n hb hx
 ·exact ⟨ob.slots,u.keep b ob q n hb hx⟩
theorem Un.kept (k:∀ b u,h.get? b=some u->h'.get? b=some u):Un fs ex H H h h':=
 ⟨fun b ob q _ _ _=>k b ob q,fun b ob q _ _ _=>⟨ob.slots,k b ob q⟩,fun _ _ _ n _=>n,fun b ob q _=>⟨ob,k b ob q⟩,fun _ _ q=>q,fun _ _ _ q=>q,fun _ ps q=>⟨#[],by rw [q]; simp⟩⟩
theorem Un.refl:Un fs ex H H h h:=Un.kept fun _ _ q=>q
theorem Un.laid (k:∀ b u,h.get? b=some u->h'.get? b=some u) (hp:h.objs.size<=a) (hn:H a=none):Un fs ex H (upd H a o) h h' where
 keep:=fun b u q _ _ _=>k b u q
 slot:=fun b u q _ _ _=>⟨u.slots,k b u q⟩
 free:=fun b u q n _=>by rw [aR (Nat.ne_of_lt (Nat.lt_of_lt_of_le (Heap.lt_size q) hp))]; exact n
 there:=fun b u q _=>⟨u,k b u q⟩
 tups:=fun b xs q=>by rw [aR (aU q hn)]; exact q
 frzs:=fun b u xs q=>by rw [aR (aU q hn)]; exact q
 tbls:=fun b ps q=>⟨#[],by rw [aR (aU q hn),q]; simp⟩
theorem Un.write (mu:Mut (H x)) (he:e=x\/H e=some (.own x)) (k:∀ b u,b ≠ e->h.get? b=some u->h'.get? b=some u) (heo:∃ u,h'.get? e=some u):Un fs ex H (upd H x o) h h':=by
 have hx:∀ b,H b=none->b ≠ x:=fun b n z=>by subst z; rw [n] at mu; exact mu
 have hb:∀ b,H b=none->b ≠ e:=fun b n z=>by
  subst z
  rcases he with r | r
  ·exact hx b n r
  ·rw [n] at r; cases r
 have hm:∀ b u,H b=some u->¬ Mut (some u)->b ≠ x:=fun b u q nm z=>by subst z; rw [q] at mu; exact nm mu
 refine ⟨fun b u q n _ _=>k b u (hb b n) q,fun b u q n _ _=>⟨u.slots,k b u (hb b n) q⟩,fun b u q n _=>by rw [aR (hx b n)]; exact n,fun b u q _=>?_,
  fun b xs q=>by rw [aR (hm b _ q fun z=>z)]; exact q,fun b u xs q=>by rw [aR (hm b _ q fun z=>z)]; exact q,fun b ps q=>⟨#[],by rw [aR (hm b _ q fun z=>z),q]; simp⟩⟩
 by_cases hbe:b=e
 ·subst hbe; exact heo
 ·exact ⟨u,k b u hbe q⟩
end
noncomputable def zB:HO->Value
 | .tbl ps=>if ps.size=1 then ps.getD 0 .none else .none
 | _=>.none
noncomputable def Av (H:Hp) (b:Addr) (o:Obj):Obj:=match H b with
 | none=>(match o.data with | .freed=>⟨.none,none,.freed,#[]⟩ | _=>o)
 | some u=>⟨zB u,none,.freed,#[]⟩
noncomputable def tx (h:Heap) (H:Hp):Heap:=⟨h.objs.mapIdx fun b o=>Av H b o,h.life⟩
theorem wl (h:Heap) (H:Hp):(tx h H).objs.size=h.objs.size:=Array.size_mapIdx
theorem get_objs {o:Obj}:h.get? b=some o ↔ h.objs[b]?=some o/\o.data ≠ .freed:=by
 unfold Heap.get?
 constructor
 ·intro e
  split at e
  ·cases e
  ·rename_i z
   refine ⟨e,fun q=>?_⟩
   obtain ⟨a,b,c,d⟩:=o
   cases q
   exact z _ _ _ e
 ·rintro ⟨e,n⟩
  rw [e]
  obtain ⟨a,b,c,d⟩:=o
  split
  ·rename_i q
   cases q
   exact absurd rfl n
  ·rfl
theorem iz (h:Heap) (H:Hp) (b:Addr):(tx h H).objs[b]?=(h.objs[b]?).map (Av H b):=Array.getElem?_mapIdx
theorem yS {H:Hp} {o:Obj} (e:h.get? b=some o) (n:H b=none):(tx h H).get? b=some o:=by
 obtain ⟨e1,e2⟩:=get_objs.1 e
 have z:Av H b o=o:=by
  unfold Av
  rw [n]
  cases q:o.data <;> first | rfl | exact absurd q e2
 exact get_objs.2 ⟨by rw [iz,e1,Option.map_some,z],e2⟩
theorem Aa {H:Hp} {o:Obj} (e:(tx h H).get? b=some o):h.get? b=some o/\H b=none:=by
 obtain ⟨e1,e2⟩:=get_objs.1 e
 rw [iz] at e1
 cases q:h.objs[b]? with
 | none=>rw [q] at e1; cases e1
 | some o'=>
  rw [q,Option.map_some] at e1
  have e1:=Option.some.inj e1
  unfold Av at e1
  cases hq:H b with
  | none=>
   rw [hq] at e1
   dsimp only at e1
   split at e1
   ·rw [<- e1] at e2; exact absurd rfl e2
   ·exact ⟨get_objs.2 ⟨by rw [q,e1],e2⟩,rfl⟩
  | some u=>rw [hq] at e1; dsimp only at e1; rw [<- e1] at e2; exact absurd rfl e2
noncomputable def vo (base:Heap) (p:Addr) (q:Str):Prop:=base.objs[p]?=some ⟨.str q 0,none,.freed,#[]⟩
noncomputable def TabsIn (base:Heap) (H:Hp):Prop:=∀ p q,vo base p q->∃ more,H p=some (.tbl (#[.str q 0]++more))
theorem yH {H:Hp} {q:Str} {o:Obj} (e:h.objs[p]?=some o) (t:H p=some (.tbl #[.str q 0])):vo (tx h H) p q:=by
 unfold vo
 rw [iz,e,Option.map_some]
 unfold Av
 rw [t]
 rfl
theorem wQ (h : Heap) (H : Hp) : TabsIn (tx h H) H := fun p q e => by
  unfold vo at e
  rw [iz] at e
  cases z : h.objs[p]? with
  | none => rw [z] at e; cases e
  | some o =>
    rw [z, Option.map_some] at e
    have e := Option.some.inj e
    unfold Av at e
    cases hq : H p with
    | none =>
      rw [hq] at e
      dsimp only at e
      split at e
      · cases e
      · rename_i n; rw [e] at n; exact absurd rfl n
    | some u =>
      rw [hq] at e
      have e := congrArg Obj.cls e
      cases u with
      | tbl ps =>
        dsimp only [zB] at e
        split at e
        · rename_i n
          refine ⟨#[], ?_⟩
          obtain ⟨l⟩ := ps
          match l, n with
          | [v], _ => have : v = .str q 0 := e
                      rw [this]; rfl
        · cases e
      | _ => cases e
theorem TabsIn.un {base:Heap} {fs ex:List Addr} {H H':Hp} (t:TabsIn base H) (u:Un fs ex H H' h h'):TabsIn base H':=fun p q e=>by
 obtain ⟨m1,z⟩:=t p q e
 obtain ⟨m2,z⟩:=u.tbls p _ z
 exact ⟨m1++m2,by rw [z,Array.append_assoc]⟩
noncomputable def zU (g h:Heap) (L:Addr):List (Addr × Obj):=(List.range h.objs.size).filterMap fun a=>if a=L\/(g.get? a).isSome=true then none else (h.get? a).map fun o=>(a,o)
noncomputable def cZ (g h:Heap) (L d:Addr):List (Addr × Obj):=(zU g h L).filter fun p=>decide (p.1 ≠ d)
end L2
variable {xs vs:List L2.V} {H H' H1 G G₀:L2.Hp} {o:L2.HO} {v:L2.V}
namespace L2
open PySem PySem.Spec PyProof.Rows
structure Mod (K:PySem.W.Frag) (mg:Str->Option Value) (base:Heap):Prop where
 kin:K.In base
 glob:base.Ns mainGlobals mg
 blt:∃ mb,base.Ns builtinsNs mb/\∀ x:Str,x ≠ "__name__"->mb x=bootBuiltins x
 nolimit:base.NoLimit
structure Cx where
 prog:Program
 w:World
 K:PySem.W.Frag
 mg:Str->Option Value
 base:Heap
 A:Around
 N:List Str
 s₀:Shared
 H₀:Hp
 env:Env
 outer:List Env
 stack:List Env
 ex:List Addr
 fn:Str->Bool
 calm:Bool
 pn:List (Addr × Obj)
 xe:Value->Shared->Prop
noncomputable def frs (l:List Env):List Addr:=l.filterMap (·.frame)
noncomputable abbrev Cx.fs (X:Cx):List Addr:=frs X.outer
noncomputable def Vis (sc:Scope) (x:Str):Prop:=sc.names.lookup x=some .local\/sc.names.lookup x=some .cell\/sc.names.lookup x=some .free
noncomputable def Loc (sc:Scope) (x:Str):Prop:=sc.names.lookup x=some .local\/sc.names.lookup x=some .cell
noncomputable def F1 (env:Env) (h:Heap) (m:Str->Option Value) (x:Str) (u:Value):Prop:=
 (env.kindOf x=some .local/\m x=some u)\/((env.kindOf x=some .cell\/env.kindOf x=some .free)/\∃ c,env.cells.lookup x=some c/\h.IsCell c (some u))
structure Cx.Ok (X:Cx):Prop where
 mod:Mod X.K X.mg X.base
 kind:X.env.scope.kind=.function
 glob:X.env.globals=mainGlobals
 blt:X.env.builtins=builtinsNs
 above:X.s₀.heap.objs.size<=X.env.locals
 inj:∀ x y c,X.env.cells.lookup x=some c->X.env.cells.lookup y=some c->x=y
 has:∀ x,(X.env.kindOf x=some .cell\/X.env.kindOf x=some .free)->∃ c,X.env.cells.lookup x=some c
 cab:∀ x c,X.fn x=true->X.env.cells.lookup x=some c->X.s₀.heap.objs.size<=c
 hd:X.calm=true->X.A.handled=none
 frames:X.A.frames=some X.stack
 stk:X.stack=X.outer\/(X.stack=X.env::X.outer/\X.env.frame=some X.env.locals)
 exf:∀ b ∈ X.ex,b ≠ X.env.locals/\∀ x c,X.env.cells.lookup x=some c->c ≠ b
 bs:∀ b o,X.base.get? b=some o->X.s₀.heap.get? b=some o/\X.H₀ b=none
 bsz:X.base.objs.size<=X.s₀.heap.objs.size
 noex:∀ b o,X.base.get? b=some o->b ∉ X.ex
 exfs:∀ b ∈ X.ex,b ∉ X.fs
 funs:X.s₀.heap.FunFrames X.base X.outer
 frf:∀ b ∈ X.fs,X.H₀ b=none
 tabs:TabsIn X.base X.H₀
structure Inv (X:Cx) (pins:List (Addr × Obj)) (σ:List (Option V)) (H:Hp) (s:Shared):Prop where
 ok:X.Ok
 os:s.os=X.s₀.os
 bare:AllBare s.gens
 base:Un X.fs X.ex X.H₀ H X.s₀.heap s.heap
 loc:∃ m,s.heap.Ns X.env.locals m/\∀ (i:Nat) (x:Str) (v:V),X.N[i]?=some x->σ[i]?=some (some v)->Vis X.env.scope x->∃ u,RelV v u/\F1 X.env s.heap m x u
 cell:∀ x c,X.env.cells.lookup x=some c->∃ v,s.heap.IsCell c v
 free:H X.env.locals=none
 freeC:∀ x c,X.env.cells.lookup x=some c->H c=none
 pin:∀ p ∈ X.pn++pins,s.heap.get? p.1=some p.2/\H p.1=none/\p.1 ≠ X.env.locals/\p.1 ∉ X.fs/\∀ v,p.2.data ≠ .cell v
 hok:HOk X.prog X.w H s.heap
 len:σ.length=X.N.length
section
variable {X:Cx} {pins:List (Addr × Obj)} {σ:List (Option V)} {H H':Hp} {s:Shared} {h':Heap}
theorem Cx.Ok.nofr (ok:X.Ok) {o:Obj} (e:X.base.get? b=some o):b ∉ X.fs:=fun hb=>by
 have:=(ok.funs.mem hb).1
 rw [e] at this; cases this
theorem Inv.bs (I:Inv X pins σ H s):∀ b o,X.base.get? b=some o->s.heap.get? b=some o/\H b=none:=fun b o e=>
 ⟨I.base.keep b o (I.ok.bs b o e).1 (I.ok.bs b o e).2 (I.ok.nofr e) (I.ok.noex b o e),I.base.free b o (I.ok.bs b o e).1 (I.ok.bs b o e).2 (I.ok.noex b o e)⟩
theorem Inv.bk (I:Inv X pins σ H s):∀ b o,X.base.get? b=some o->s.heap.get? b=some o:=fun b o e=>(I.bs b o e).1
theorem Inv.mod (I:Inv X pins σ H s):Mod X.K X.mg X.base:=I.ok.mod
theorem Inv.kIn (I:Inv X pins σ H s):X.K.In s.heap:=I.ok.mod.kin.keeps I.bk
theorem Inv.nolimit (I:Inv X pins σ H s):s.heap.NoLimit:=I.ok.mod.nolimit.keeps I.bk
theorem Inv.lt (I:Inv X pins σ H s):X.env.locals < s.heap.objs.size:=let ⟨_,hn,_⟩:=I.loc; hn.lt
theorem Inv.sz (I:Inv X pins σ H s):X.s₀.heap.objs.size<=s.heap.objs.size:=Nat.le_trans I.ok.above (Nat.le_of_lt I.lt)
theorem Inv.nofs (I:Inv X pins σ H s) (h:s.heap.objs.size<=a):a ∉ X.fs:=fun hb=>by
 obtain ⟨_,o,ho,_⟩:=I.ok.funs.mem hb
 exact absurd (Nat.lt_of_lt_of_le (Heap.lt_size ho) (Nat.le_trans I.sz h)) (Nat.lt_irrefl _)
theorem Inv.cne (I:Inv X pins σ H s):∀ x c,X.env.cells.lookup x=some c->c ≠ X.env.locals:=fun x c e z=>by
 obtain ⟨v,o,ho,hd⟩:=I.cell x c e
 obtain ⟨m,⟨o',es,ep,ho',hd',_⟩,_⟩:=I.loc
 rw [z,ho'] at ho; cases ho; rw [hd'] at hd; cases hd
theorem Inv.funs (I:Inv X pins σ H s):s.heap.FunFrames X.base X.outer:=by
 have all:∀ (l:List Env),(∀ b ∈ frs l,b ∈ X.fs)->X.s₀.heap.FunFrames X.base l->s.heap.FunFrames X.base l:=by
  intro l
  induction l with
  | nil=>intro _ _; trivial
  | cons env r ih=>
   intro hs hl
   obtain ⟨hk,⟨L,o,hf,hn,ho,hd⟩,hr⟩:=hl
   have hL:L ∈ X.fs:=hs L (by unfold frs; rw [List.filterMap_cons,hf]; exact List.mem_cons_self)
   obtain ⟨sl,e⟩:=I.base.slot L o ho (I.ok.frf L hL) hL fun z=>I.ok.exfs L z hL
   exact ⟨hk,⟨L,_,hf,hn,e,hd⟩,ih (fun b hb=>hs b (by unfold frs; rw [List.filterMap_cons,hf]; exact List.mem_cons_of_mem _ hb)) hr⟩
 exact all X.outer (fun _ hb=>hb) I.ok.funs
theorem Inv.stack (I:Inv X pins σ H s):s.heap.FunFrames X.base X.stack:=by
 rcases I.ok.stk with e | ⟨e,hf⟩
 ·rw [e]; exact I.funs
 ·rw [e]
  obtain ⟨m,hn,_⟩:=I.loc
  refine .cons (by rw [I.ok.kind]; decide) hf hn ?_ I.funs
  exact Heap.get?_none_of_le (Nat.le_trans I.ok.bsz I.ok.above)
theorem Inv.stkSub (I:Inv X pins σ H s):∀ b ∈ frs X.stack,b ∈ X.env.locals::X.fs:=fun b hb=>by
 rcases I.ok.stk with e | ⟨e,hf⟩
 ·rw [e] at hb; exact List.mem_cons_of_mem _ hb
 ·rw [e] at hb
  unfold frs at hb
  rw [List.filterMap_cons,hf] at hb
  exact hb
theorem Inv.stkFree (I:Inv X pins σ H s):∀ b ∈ frs X.stack,H b=none:=fun b hb=>by
 rcases List.mem_cons.mp (I.stkSub b hb) with e | hb
 ·rw [e]; exact I.free
 ·obtain ⟨_,o,ho,_⟩:=I.ok.funs.mem hb
  exact I.base.free b o ho (I.ok.frf b hb) fun z=>I.ok.exfs b z hb
theorem Inv.step {g':Array GenState} {t':Nat} {d':Drawn} (I:Inv X pins σ H s)
 (hch:∀ b ∈ ch,(b ∈ X.ex\/X.s₀.heap.objs.size<=b)/\b ≠ X.env.locals/\(∀ x c,X.env.cells.lookup x=some c->c ≠ b)/\∀ p ∈ X.pn++pins,p.1 ≠ b)
 (keep:∀ b o,b ≠ X.env.locals->b ∉ X.fs->b ∉ ch->s.heap.get? b=some o->H b=none->h'.get? b=some o)
 (slot:∀ b o,b ≠ X.env.locals->b ∈ X.fs->b ∉ ch->s.heap.get? b=some o->H b=none->∃ sl,h'.get? b=some { o with slots:=sl }) (free:∀ b o,b ∉ ch->s.heap.get? b=some o->H b=none->H' b=none)
 (there:∀ b o,b ∉ ch->s.heap.get? b=some o->∃ o',h'.get? b=some o')
 (tups:∀ b xs,H b=some (.tup xs)->H' b=some (.tup xs)) (frzs:∀ b o u,H b=some (.frz o u)->H' b=some (.frz o u)) (tbls:∀ b ps,H b=some (.tbl ps)->∃ more,H' b=some (.tbl (ps++more)))
 (ns:∀ m,s.heap.Ns X.env.locals m->h'.Ns X.env.locals m) (hok:HOk X.prog X.w H' h') (hg:AllBare g') :
  Inv X pins σ H' { s with heap:=h',gens:=g',drawn:=d',toks:=t' }:=by
 have neL:∀ b o,X.s₀.heap.get? b=some o->b ≠ X.env.locals:=fun b o e=>Nat.ne_of_lt (Nat.lt_of_lt_of_le (Heap.lt_size e) I.ok.above)
 have neC:∀ b o,X.s₀.heap.get? b=some o->b ∉ X.ex->b ∉ ch:=fun b o e hx hb=>by
  rcases (hch b hb).1 with z | z
  ·exact hx z
  ·exact absurd (Nat.lt_of_lt_of_le (Heap.lt_size e) z) (Nat.lt_irrefl _)
 have cellK:∀ x c,X.env.cells.lookup x=some c->∀ v,s.heap.IsCell c v->h'.IsCell c v:=fun x c e v ⟨o,ho,hd⟩=>by
  have nch:c ∉ ch:=fun z=>(hch c z).2.2.1 x c e rfl
  by_cases hc:c ∈ X.fs
  ·obtain ⟨sl,q⟩:=slot c o (I.cne x c e) hc nch ho (I.freeC x c e)
   exact ⟨_,q,hd⟩
  ·exact ⟨o,keep c o (I.cne x c e) hc nch ho (I.freeC x c e),hd⟩
 refine ⟨I.ok,I.os,hg,⟨fun b o e n hb hx=>?_,fun b o e n hb hx=>?_,fun b o e n hx=>?_,fun b o e hx=>?_,fun b xs e=>tups b xs (I.base.tups b xs e),fun b o xs e=>frzs b o xs (I.base.frzs b o xs e),fun b ps e=>?_⟩,?_,fun x c e=>?_,?_,fun x c e=>?_,fun p hp=>?_,hok,I.len⟩
 ·exact keep b o (neL b o e) hb (neC b o e hx) (I.base.keep b o e n hb hx) (I.base.free b o e n hx)
 ·obtain ⟨sl,e1⟩:=I.base.slot b o e n hb hx
  obtain ⟨sl',e2⟩:=slot b _ (neL b o e) hb (neC b o e hx) e1 (I.base.free b o e n hx)
  exact ⟨sl',e2⟩
 ·obtain ⟨o',e1⟩:=I.base.there b o e hx
  exact free b o' (neC b o e hx) e1 (I.base.free b o e n hx)
 ·obtain ⟨o',e1⟩:=I.base.there b o e hx
  exact there b o' (neC b o e hx) e1
 ·obtain ⟨m1,e1⟩:=I.base.tbls b ps e
  obtain ⟨m2,e2⟩:=tbls b _ e1
  exact ⟨m1++m2,by rw [e2,Array.append_assoc]⟩
 ·obtain ⟨m,hn,hl⟩:=I.loc
  refine ⟨m,ns m hn,fun i x v e1 e2 e3=>?_⟩
  obtain ⟨u,r,l⟩:=hl i x v e1 e2 e3
  refine ⟨u,r,?_⟩
  rcases l with l | ⟨k,c,e,z⟩
  ·exact .inl l
  ·exact .inr ⟨k,c,e,cellK x c e _ z⟩
 ·obtain ⟨v,z⟩:=I.cell x c e
  exact ⟨v,cellK x c e v z⟩
 ·obtain ⟨m,⟨o,_,_,ho,_⟩,_⟩:=I.loc
  exact free _ o (fun z=>(hch _ z).2.1 rfl) ho I.free
 ·obtain ⟨v,o,ho,hd⟩:=I.cell x c e
  exact free c o (fun z=>(hch c z).2.2.1 x c e rfl) ho (I.freeC x c e)
 ·obtain ⟨e,n,ne,nf,d⟩:=I.pin p hp
  have nch:p.1 ∉ ch:=fun z=>(hch p.1 z).2.2.2 p hp rfl
  exact ⟨keep p.1 p.2 ne nf nch e n,free p.1 p.2 nch e n,ne,nf,d⟩
theorem Inv.un {t':Nat} (I:Inv X pins σ H s) (u:Un X.fs [] H H' s.heap h') (hok:HOk X.prog X.w H' h'):Inv X pins σ H' { s with heap:=h',toks:=t' }:=by
 obtain ⟨m,⟨o,es,ep,ho,r⟩,_⟩:=id I.loc
 obtain ⟨sl,hL⟩:=u.any ho I.free (by simp)
 exact I.step (g':=s.gens) (d':=s.drawn) (ch:=[]) (fun _ z=>nomatch z) (fun b o _ hb _ e n=>u.keep b o e n hb (by simp)) (fun b o _ hb _ e n=>u.slot b o e n hb (by simp)) (fun b o _ e n=>u.free b o e n (by simp)) (fun b o _ e=>u.there b o e (by simp)) u.tups u.frzs u.tbls (fun m' hm=>by
  obtain ⟨o',es',ep',ho',r'⟩:=hm
  rw [ho] at ho'; cases ho'
  exact ⟨_,es',ep',hL,r'⟩) hok I.bare
theorem Inv.call {g':Array GenState} {t':Nat} {d':Drawn} (I:Inv X pins σ H s) (u:Un (frs X.stack) ch H H' s.heap h') (hok:HOk X.prog X.w H' h') (hg:AllBare g')
 (hch:∀ b ∈ ch,(b ∈ X.ex\/X.s₀.heap.objs.size<=b)/\b ≠ X.env.locals/\(∀ x c,X.env.cells.lookup x=some c->c ≠ b)/\∀ p ∈ X.pn++pins,p.1 ≠ b) :
  Inv X pins σ H' { s with heap:=h',gens:=g',drawn:=d',toks:=t' }:=by
 obtain ⟨m,⟨o,es,ep,ho,r⟩,_⟩:=id I.loc
 obtain ⟨sl,hL⟩:=u.any ho I.free fun z=>(hch _ z).2.1 rfl
 exact I.step (ch:=ch) hch (fun b o hL hb hc e n=>u.keep b o e n (fun z=>(List.mem_cons.mp (I.stkSub b z)).elim hL hb) hc) (fun b o _ _ hc e n=>u.any e n hc) (fun b o hc e n=>u.free b o e n hc) (fun b o hc e=>u.there b o e hc) u.tups u.frzs u.tbls (fun m' hm=>by
  obtain ⟨o',es',ep',ho',r'⟩:=hm
  rw [ho] at ho'; cases ho'
  exact ⟨_,es',ep',hL,r'⟩) hok hg
theorem Inv.turned {t':Nat} (I:Inv X pins σ H s) (k:∀ b o,b ≠ it->s.heap.get? b=some o->h'.get? b=some o) (hn:H it=none) (hL:it ≠ X.env.locals)
 (h1:it ∈ X.ex\/X.s₀.heap.objs.size<=it) (h2:∀ x c,X.env.cells.lookup x=some c->c ≠ it) (h3:∀ p ∈ X.pn++pins,p.1 ≠ it):Inv X pins σ H { s with heap:=h',toks:=t' }:=by
 have nit:∀ b u,H b=some u->b ≠ it:=fun b u e z=>by rw [z,hn] at e; cases e
 refine I.step (g':=s.gens) (d':=s.drawn) (ch:=[it]) (fun b hb=>?_) (fun b o _ _ hc e _=>k b o (fun z=>hc (by simp [z])) e) (fun b o _ _ hc e _=>⟨o.slots,k b o (fun z=>hc (by simp [z])) e⟩) (fun _ _ _ _ n=>n)
  (fun b o hc e=>⟨o,k b o (fun z=>hc (by simp [z])) e⟩) (fun _ _ e=>e) (fun _ _ _ e=>e) (fun b ps e=>⟨#[],by rw [e]; simp⟩) (fun m hm=>?_) (fun b u e=>?_) I.bare
 ·have e:b=it:=by simpa using hb
  subst e
  exact ⟨h1,hL,h2,h3⟩
 ·obtain ⟨o,es,ep,ho,r⟩:=hm
  exact ⟨o,es,ep,k _ o (Ne.symm hL) ho,r⟩
 ·refine (I.hok b u e).stay (fun c v hc q=>k c v ?_ q) (fun _ q=>q) fun _ _ q=>q
  rcases hc with z | z
  ·rw [z]; exact nit b u e
  ·exact nit c _ z
theorem Inv.tok (I:Inv X pins σ H s) (t:Nat):Inv X pins σ H { s with toks:=t }:=I.un (h':=s.heap) (t':=t) Un.refl I.hok
theorem Inv.kept {t':Nat} (I:Inv X pins σ H s) (k:∀ b u,s.heap.get? b=some u->h'.get? b=some u):Inv X pins σ H { s with heap:=h',toks:=t' }:=I.un (Un.kept k) (I.hok.kept k)
theorem Inv.laid {t':Nat} (I:Inv X pins σ H s) (k:∀ b u,s.heap.get? b=some u->h'.get? b=some u) (hp:s.heap.objs.size<=a) (new:ObjOk X.prog X.w (upd H a o) h' a o) :
  Inv X pins σ (upd H a o) { s with heap:=h',toks:=t' }:=I.un (Un.laid k hp (I.hok.fresh hp)) (I.hok.laid k hp new)
theorem Inv.write {x e:Addr} {t':Nat} (I:Inv X pins σ H s) (mu:Mut (H x)) (he:e=x\/H e=some (.own x)) (k:∀ b u,b ≠ e->s.heap.get? b=some u->h'.get? b=some u) (heo:∃ u,h'.get? e=some u)
 (new:ObjOk X.prog X.w (upd H x o) h' x o):Inv X pins σ (upd H x o) { s with heap:=h',toks:=t' }:=I.un (Un.write mu he k heo) (I.hok.write mu he k heo new)
theorem Inv.pins_of {pins':List (Addr × Obj)} (I:Inv X pins σ H s) (h:∀ p ∈ pins',s.heap.get? p.1=some p.2/\H p.1=none/\p.1 ≠ X.env.locals/\p.1 ∉ X.fs/\∀ v,p.2.data ≠ .cell v):Inv X pins' σ H s:=
 ⟨I.ok,I.os,I.bare,I.base,I.loc,I.cell,I.free,I.freeC,fun p hp=>(List.mem_append.mp hp).elim (fun z=>I.pin p (List.mem_append_left _ z)) (h p),I.hok,I.len⟩
theorem nU {N:List Str} (hN:N.Nodup) (a:N[i]?=some x) (b:N[j]?=some x):i=j:=by
 obtain ⟨h1,e1⟩:=List.getElem?_eq_some_iff.mp a
 obtain ⟨h2,e2⟩:=List.getElem?_eq_some_iff.mp b
 exact (List.getElem_inj hN).mp (e1.trans e2.symm)
theorem gX {M:Model} {A:Around} {Q:Unit->Shared->Prop} (I:Inv X pins σ H s) (hN:X.N.Nodup) (hi:X.N[i]?=some x) (hx:Loc X.env.scope x) (r:RelV v u)
 (h:∀ s',Inv X pins (σ.set i (some v)) H s'->(∃ a,Heap.SameBut a s.heap s'.heap/\(a=X.env.locals\/X.env.cells.lookup x=some a))->Q () s') (hf:X.fn x=true\/X.env.scope.names.lookup x=some .local:=by first | exact .inl rfl | exact .inr rfl | assumption):wpAny M A (storeName X.env x u) Q E s:=by
 obtain ⟨m,hn,hl⟩:=id I.loc
 have hcls:(X.env.scope.kind==.class || (X.env.scope.kind==.module && X.env.locals != X.env.globals))=false:=by rw [I.ok.kind]; rfl
 have hiσ:i < σ.length:=by rw [I.len]; exact (List.getElem?_eq_some_iff.mp hi).1
 have cne:=I.cne
 have tracked:∀ {a:Addr} {h':Heap},(∃ o,s.heap.get? a=some o/\H a=none)->Heap.SameBut a s.heap h'->HOk X.prog X.w H h':=fun {a h'} ha hs b ob e=>by
  obtain ⟨_,_,hfree⟩:=ha
  refine (I.hok b ob e).stay (fun c w' hc q=>(hs.2 c ?_).trans q) (fun _ q=>q) fun _ _ q=>q
  rintro rfl
  rcases hc with rfl | hc
  ·rw [hfree] at e; cases e
  ·rw [hfree] at hc; cases hc
 rcases hx with hk | hk
 ·refine wpAny_storeName_local hk hn (fun h' hn' hs=>?_) hcls
  obtain ⟨oL,_,_,hoL,_⟩:=id hn
  refine h _ ⟨I.ok,I.os,I.bare,⟨fun b o e n hb hx=>?_,fun b o e n hb hx=>?_,I.base.free,fun b o e hx=>?_,I.base.tups,I.base.frzs,I.base.tbls⟩,⟨_,hn',fun j y v' e1 e2 e3=>?_⟩,fun y c e=>?_,I.free,I.freeC,fun p hp=>?_,tracked ⟨oL,hoL,I.free⟩ hs,by simpa using I.len⟩ ⟨_,hs,.inl rfl⟩
  ·exact (hs.2 b (Nat.ne_of_lt (Nat.lt_of_lt_of_le (Heap.lt_size e) I.ok.above))).trans (I.base.keep b o e n hb hx)
  ·obtain ⟨sl,e1⟩:=I.base.slot b o e n hb hx
   exact ⟨sl,(hs.2 b (Nat.ne_of_lt (Nat.lt_of_lt_of_le (Heap.lt_size e) I.ok.above))).trans e1⟩
  ·obtain ⟨o',e1⟩:=I.base.there b o e hx
   exact ⟨o',(hs.2 b (Nat.ne_of_lt (Nat.lt_of_lt_of_le (Heap.lt_size e) I.ok.above))).trans e1⟩
  ·by_cases hj:j=i
   ·subst hj
    rw [hi] at e1; cases e1
    rw [List.getElem?_set_self hiσ] at e2
    cases e2
    exact ⟨u,r,.inl ⟨hk,by simp⟩⟩
   ·rw [List.getElem?_set_ne (Ne.symm hj)] at e2
    obtain ⟨u',r',q⟩:=hl j y v' e1 e2 e3
    refine ⟨u',r',?_⟩
    rcases q with ⟨k,e⟩ | ⟨k,c,e,z⟩
    ·refine .inl ⟨k,?_⟩
     have:y ≠ x:=fun e=>hj (nU hN e1 (e ▸ hi))
     simp [this,e]
    ·exact .inr ⟨k,c,e,z.sameBut hs (cne y c e)⟩
  ·obtain ⟨w',z⟩:=I.cell y c e
   exact ⟨w',z.sameBut hs (cne y c e)⟩
  ·obtain ⟨e,n,ne,nf,d⟩:=I.pin p hp
   exact ⟨(hs.2 p.1 ne).trans e,n,ne,nf,d⟩
 ·have hfn:X.fn x=true:=by
   rcases hf with z | z
   ·exact z
   ·rw [z] at hk; cases hk
  obtain ⟨c,hc⟩:=I.ok.has x (.inl hk)
  obtain ⟨w',z⟩:=I.cell x c hc
  refine wpAny_storeName_cell I.ok.kind hk hc z (fun h' hc' hs=>?_)
  obtain ⟨oc,hoc,hocd⟩:=id z
  refine h { s with heap:=h' } ⟨I.ok,I.os,I.bare,⟨fun b o e n hb hx=>?_,fun b o e n hb hx=>?_,I.base.free,fun b o e hx=>?_,I.base.tups,I.base.frzs,I.base.tbls⟩,⟨m,hn.sameBut hs (Ne.symm (cne x c hc)),fun j y v' e1 e2 e3=>?_⟩,fun y c' e=>?_,I.free,I.freeC,fun p hp=>?_,tracked ⟨oc,hoc,I.freeC x c hc⟩ hs,by simpa using I.len⟩ ⟨c,hs,.inr hc⟩
  ·exact (hs.2 b (Nat.ne_of_lt (Nat.lt_of_lt_of_le (Heap.lt_size e) (I.ok.cab x c hfn hc)))).trans (I.base.keep b o e n hb hx)
  ·obtain ⟨sl,e1⟩:=I.base.slot b o e n hb hx
   exact ⟨sl,(hs.2 b (Nat.ne_of_lt (Nat.lt_of_lt_of_le (Heap.lt_size e) (I.ok.cab x c hfn hc)))).trans e1⟩
  ·obtain ⟨o',e1⟩:=I.base.there b o e hx
   exact ⟨o',(hs.2 b (Nat.ne_of_lt (Nat.lt_of_lt_of_le (Heap.lt_size e) (I.ok.cab x c hfn hc)))).trans e1⟩
  ·by_cases hj:j=i
   ·subst hj
    rw [hi] at e1; cases e1
    rw [List.getElem?_set_self hiσ] at e2
    cases e2
    exact ⟨u,r,.inr ⟨.inl hk,c,hc,hc'⟩⟩
   ·rw [List.getElem?_set_ne (Ne.symm hj)] at e2
    obtain ⟨u',r',q⟩:=hl j y v' e1 e2 e3
    refine ⟨u',r',?_⟩
    rcases q with q | ⟨k,c',e,z'⟩
    ·exact .inl q
    ·refine .inr ⟨k,c',e,z'.sameBut hs ?_⟩
     rintro rfl
     exact hj (nU hN e1 (I.ok.inj _ _ _ e hc ▸ hi))
  ·by_cases hcc:c'=c
   ·subst hcc; exact ⟨_,hc'⟩
   ·obtain ⟨w2,z2⟩:=I.cell y c' e
    exact ⟨w2,z2.sameBut hs hcc⟩
  ·obtain ⟨e,n,ne,nf,d⟩:=I.pin p hp
   refine ⟨(hs.2 p.1 ?_).trans e,n,ne,nf,d⟩
   intro q
   rw [q,hoc] at e
   have q':oc=p.2:=Option.some.inj e
   exact d w' (by rw [<- q']; exact hocd)
theorem jH {M:Model} {A:Around} {Q:Unit->Shared->Prop} (I:Inv X pins σ H s) (hN:X.N.Nodup) (hi:X.N[i]?=some x) (hx:Loc X.env.scope x) (r:RelV v u)
 (h:∀ s',Inv X pins (σ.set i (some v)) H s'->Q () s') (hf:X.fn x=true\/X.env.scope.names.lookup x=some .local:=by first | exact .inl rfl | exact .inr rfl | assumption):wpAny M A (storeName X.env x u) Q E s:=
 gX I hN hi hx r (fun s' I' _=>h s' I') hf
theorem Inv.call' (I:Inv X pins σ H s) (ho:s'.os=s.os) (u:Un (frs X.stack) ch H H' s.heap s'.heap) (hok:HOk X.prog X.w H' s'.heap) (hg:AllBare s'.gens)
 (hch:∀ b ∈ ch,(b ∈ X.ex\/X.s₀.heap.objs.size<=b)/\b ≠ X.env.locals/\(∀ x c,X.env.cells.lookup x=some c->c ≠ b)/\∀ p ∈ X.pn++pins,p.1 ≠ b):Inv X pins σ H' s':=by
 obtain ⟨h',g',d',t',o'⟩:=s'
 have e:o'=s.os:=ho
 subst e
 exact I.call (g':=g') (t':=t') (d':=d') u hok hg hch
end
noncomputable abbrev XK:=Value->Option Addr->Hp->Prop
noncomputable abbrev St:=List (Option V)
noncomputable abbrev VK:=V->Hp->Prop
noncomputable abbrev TE:=St->Hp->VK->Prop
noncomputable abbrev TT:=St->Hp->(Bool->Hp->Prop)->Prop
noncomputable abbrev TA:=St->Hp->(List V->Hp->Prop)->Prop
structure Ends where
 nx:St->Hp->Prop
 rt:VK
 bk:St->Hp->Prop:=fun _ _=>False
 ct:St->Hp->Prop:=fun _ _=>False
noncomputable abbrev TS:=Ends->St->Hp->Prop
noncomputable def EP (X:Cx) (pins:List (Addr × Obj)) (σ:St) (Q:VK) (u:Value) (s':Shared):Prop:=∃ v H',Inv X pins σ H' s'/\RelV v u/\Q v H'
noncomputable def TP (X:Cx) (pins:List (Addr × Obj)) (σ:St) (Q:Bool->Hp->Prop) (b:Bool) (s':Shared):Prop:=∃ H',Inv X pins σ H' s'/\Q b H'
noncomputable def AP (X:Cx) (pins:List (Addr × Obj)) (σ:St) (Q:List V->Hp->Prop) (us:List Value) (s':Shared):Prop:=∃ vs H',Inv X pins σ H' s'/\Vals vs us/\Q vs H'
noncomputable def SP (X:Cx) (pins:List (Addr × Obj)) (D:Ends) (f:Flow) (s':Shared):Prop:=
 match f with
 | .next=>∃ σ' H',Inv X pins σ' H' s'/\D.nx σ' H'
 | .brk=>∃ σ' H',Inv X pins σ' H' s'/\D.bk σ' H'
 | .cont=>∃ σ' H',Inv X pins σ' H' s'/\D.ct σ' H'
 | .ret u=>∃ v σ' H',Inv X pins σ' H' s'/\RelV v u/\D.rt v H'
noncomputable def PE (X:Cx) (e:Expr) (t:TE):Prop:=
 ∀ (pins:List (Addr × Obj)) (s:Shared) (σ:St) (H:Hp) (Q:VK),Inv X pins σ H s->t σ H Q->wpAny (model X.prog X.w) X.A (eval e X.env) (EP X pins σ Q) X.xe s
noncomputable def PT (X:Cx) (e:Expr) (t:TT):Prop:=
 ∀ (pins:List (Addr × Obj)) (s:Shared) (σ:St) (H:Hp) (Q:Bool->Hp->Prop),Inv X pins σ H s->t σ H Q->wpAny (model X.prog X.w) X.A (isTrue e X.env (eval e X.env)) (TP X pins σ Q) X.xe s
noncomputable def PW (X:Cx) (e:Expr) (t:TT):Prop:=
 ∀ (whole:Sem Value) (pins:List (Addr × Obj)) (s:Shared) (σ:St) (H:Hp) (Q:Bool->Hp->Prop),Inv X pins σ H s->t σ H Q->wpAny (model X.prog X.w) X.A (isTrue e X.env whole) (TP X pins σ Q) X.xe s
noncomputable def PA (X:Cx) (es:List Expr) (t:TA):Prop:=
 ∀ (pos:Pos) (pins:List (Addr × Obj)) (s:Shared) (σ:St) (H:Hp) (Q:List V->Hp->Prop),Inv X pins σ H s->t σ H Q->wpAny (model X.prog X.w) X.A (spliced (backTo pos (starEach es X.env))) (AP X pins σ Q) X.xe s
noncomputable def PS (X:Cx) (st:Stmt) (t:TS):Prop:=
 ∀ (pins:List (Addr × Obj)) (s:Shared) (σ:St) (H:Hp) (D:Ends),Inv X pins σ H s->t D σ H->wpAny (model X.prog X.w) X.A (exec st X.env) (SP X pins D) X.xe s
noncomputable def PSs (X:Cx) (st:List Stmt) (t:TS):Prop:=
 ∀ (pins:List (Addr × Obj)) (s:Shared) (σ:St) (H:Hp) (D:Ends),Inv X pins σ H s->t D σ H->wpAny (model X.prog X.w) X.A (execs st X.env) (SP X pins D) X.xe s
theorem thn {α:Type} {t:Sem α} {Q Q':α->Shared->Prop} {M:Model} {A:Around} (h:wpAny M A t Q E s) (hQ:∀ a s,Q a s->Q' a s):wpAny M A t Q' E s:=wpAny_mono h hQ fun _ _ x=>x
end L2
variable {σ:L2.St} {X:L2.Cx}
namespace L2
open PySem PySem.Spec PyProof.Rows
section
variable {X:Cx}
noncomputable def AJ (i:Nat):TE:=fun σ H Q=>∃ v,σ[i]?=some (some v)/\Q v H
noncomputable def tC (v:V):TE:=fun _ H Q=>Q v H
theorem eu (hN:X.N[i]?=some x) (hv:Vis X.env.scope x) (hd:(x==("__debug__":Str))=false:=by decide) (hcd:(x==("__classdict__":Str))=false:=by decide):PE X (.Name x pos) (AJ i):=by
 intro pins s σ H Q I h
 obtain ⟨v,e,h⟩:=h
 obtain ⟨m,hn,hl⟩:=I.loc
 obtain ⟨u,r,l⟩:=hl i x v hN e hv
 have fin:EP X pins σ Q u s:=⟨v,H,I,r,h⟩
 rcases l with ⟨hk,hm⟩ | ⟨hk,c,hc,hcell⟩
 ·exact wpAny_Name (wpAny_loadName_local I.ok.kind hk hn hm fin) hd
 ·rcases hk with hk | hk
  ·exact wpAny_Name (wpAny_loadName_cell I.ok.kind hk hc hcell fin) hd
  ·exact wpAny_Name (wpAny_loadName_free I.ok.kind hk hc hcell fin hcd) hd
theorem Dp {i j pos}:PE X (.Constant (.int i) j pos) (tC (.int i)):=fun _ _ _ H _ I h=>wpAny_Constant_int ⟨.int i,H,I.tok _,⟨_,rfl⟩,h⟩
theorem Es {b j pos}:PE X (.Constant (.bool b) j pos) (tC (.bl b)):=fun _ _ _ H _ I h=>Constant_bool ⟨.bl b,H,I,rfl,h⟩
theorem Dk {j pos}:PE X (.Constant .none j pos) (tC .non):=fun _ _ _ H _ I h=>Constant_none ⟨.non,H,I,rfl,h⟩
theorem Dy {x j pos}:PE X (.Constant (.str x) j pos) (tC (.str x)):=fun _ _ _ H _ I h=>Calls.Constant_str ⟨.str x,H,I.tok _,⟨_,rfl⟩,h⟩
noncomputable def Gl (X:Cx) (x:Str):Prop:=X.env.kindOf x=some .globalImplicit
theorem fO {Q:Value->Shared->Prop} (I:Inv X pins σ H s) (hg:Gl X x) (hm:X.mg x=some u) (h:Q u s)
 (hd:(x==("__debug__":Str))=false:=by decide):wpAny (model X.prog X.w) X.A (eval (.Name x pos) X.env) Q E s:=
 Calls.Name_function_global I.ok.kind hg (Calls.loadGlobal_global (by rw [I.ok.glob]; exact I.mod.glob.keeps I.bk) hm h) hd
theorem um {Q:Value->Shared->Prop} (I:Inv X pins σ H s) (hg:Gl X x) (hm:X.mg x=none) (hv:bootBuiltins x=some u) (h:Q u s)
 (hn:x ≠ "__name__":=by decide) (hd:(x==("__debug__":Str))=false:=by decide):wpAny (model X.prog X.w) X.A (eval (.Name x pos) X.env) Q E s:=by
 obtain ⟨mb,h1,h2⟩:=I.mod.blt
 exact Calls.Name_function_global I.ok.kind hg (Calls.loadGlobal_builtin (by rw [I.ok.glob]; exact I.mod.glob.keeps I.bk) hm (by rw [I.ok.blt]; exact h1.keeps I.bk) ((h2 x hn).trans hv) h) hd
theorem rH (hg:Gl X x) (hm:X.mg x=some u) (r:RelV v u) (hd:(x==("__debug__":Str))=false:=by decide):PE X (.Name x pos) (tC v):=
 fun _ _ _ H _ I h=>fO I hg hm ⟨v,H,I,r,h⟩ hd
theorem wc (hg:Gl X x) (hm:X.mg x=none) (hv:bootBuiltins x=some u) (r:RelV v u) (hn:x ≠ "__name__":=by decide) (hd:(x==("__debug__":Str))=false:=by decide):PE X (.Name x pos) (tC v):=
 fun _ _ _ H _ I h=>um I hg hm hv ⟨v,H,I,r,h⟩ hn hd
variable {a b:Expr} {ta tb:TE} {pos:Pos}
variable {tA tB':TT} {cZ:List Expr}
noncomputable def tOr (t u:TT):TT:=fun σ H Q=>t σ H fun c H1=>if c=true then Q true H1 else u σ H1 Q
noncomputable def Ht (t:TT):TT:=fun σ H Q=>t σ H fun c H1=>Q (!c) H1
theorem CW (ha:PT X a tA):PW X (.BoolOp .Or [a] pos) tA:=by
 intro wh pins s σ H Q I h
 refine isTrue_or (thn (ha pins s σ H Q I h) fun c s1 e=>?_)
 cases c with
 | false=>exact isTrue_or_nil e
 | true=>exact e
theorem EN (ha:PT X a tA) (hb:PW X (.BoolOp .Or (b::cZ) pos) tB'):PW X (.BoolOp .Or (a::b::cZ) pos) (tOr tA tB'):=by
 intro wh pins s σ H Q I h
 refine isTrue_or (thn (ha pins s σ H _ I h) fun c s1 ⟨H1,I1,q1⟩=>?_)
 cases c with
 | true=>exact ⟨H1,I1,q1⟩
 | false=>exact hb wh pins s1 σ H1 Q I1 q1
theorem CU (ha:PT X a tA):PT X (.UnaryOp .Not a pos) (Ht tA):=by
 intro pins s σ H Q I h
 exact isTrue_not (ha pins s σ H (fun c H1=>Q (!c) H1) I h)
noncomputable def FO (ta tb:TE):TE:=fun σ H Q=>ta σ H fun x H1=>∃ c,x=.bl c/\if c=true then tb σ H1 Q else Q (.bl false) H1
noncomputable def Go (ta tb:TE):TE:=fun σ H Q=>ta σ H fun x H1=>∃ c,x=.bl c/\if c=true then Q (.bl true) H1 else tb σ H1 Q
noncomputable def EI (ta:TE):TE:=fun σ H Q=>ta σ H fun x H1=>∃ c,x=.bl c/\Q (.bl (!c)) H1
theorem zv {op} {t:TE} (h:PE X a t):PE X (.BoolOp op [a] pos) t:=fun pins s σ H Q I hw=>BoolOp_one (h pins s σ H Q I hw)
theorem zh (ha:PE X a ta) (hb:PE X (.BoolOp .And (b::cZ) pos) tb):PE X (.BoolOp .And (a::b::cZ) pos) (FO ta tb):=by
 intro pins s σ H Q I h
 refine BoolOp_and (thn (ha pins s σ H _ I h) fun v s1 ⟨x,H1,I1,r1,q1⟩=>?_)
 obtain ⟨c,rfl,q1⟩:=q1
 cases r1
 refine wpAny_truthy_bool ?_
 cases c with
 | true=>exact hb pins s1 σ H1 Q I1 q1
 | false=>exact ⟨.bl false,H1,I1,rfl,q1⟩
theorem E5 (ha:PE X a ta) (hb:PE X (.BoolOp .Or (b::cZ) pos) tb):PE X (.BoolOp .Or (a::b::cZ) pos) (Go ta tb):=by
 intro pins s σ H Q I h
 refine BoolOp_or (thn (ha pins s σ H _ I h) fun v s1 ⟨x,H1,I1,r1,q1⟩=>?_)
 obtain ⟨c,rfl,q1⟩:=q1
 cases r1
 refine wpAny_truthy_bool ?_
 cases c with
 | false=>exact hb pins s1 σ H1 Q I1 q1
 | true=>exact ⟨.bl true,H1,I1,rfl,q1⟩
theorem CK (ha:PE X a ta):PE X (.UnaryOp .Not a pos) (EI ta):=by
 intro pins s σ H Q I h
 refine UnaryOp_ (thn (ha pins s σ H _ I h) fun v s1 ⟨x,H1,I1,r1,q1⟩=>?_)
 obtain ⟨c,rfl,q1⟩:=q1
 cases r1
 exact not_of (wpAny_truthy_bool ⟨.bl (!c),H1,I1,rfl,q1⟩)
end
end L2
namespace L2
open PySem PySem.Spec PyProof.Rows
noncomputable def SqL (K:PySem.W.Frag) (H:Hp) (a:Addr) (xs:List V):Prop:=
 Rd H a (.lst xs)\/
  ∃ (o:Obj) (its:Array Value) (n:Nat),K.lookup a=some o/\o.cls=.type "list"/\o.dict=none/\o.data=.seq its n/\its.size<=sizeLine/\Vals xs its.toList
noncomputable def SqT (K:PySem.W.Frag) (H:Hp) (a:Addr) (xs:List V):Prop:=
 Rd H a (.tup xs)\/
  ∃ (o:Obj) (its:Array Value) (n:Nat),K.lookup a=some o/\o.cls=.type "tuple"/\o.data=.seq its n/\its.size<=sizeLine/\Vals xs its.toList
noncomputable def Gu:Value->Option V
 | .none=>some .non
 | .bool b=>some (.bl b)
 | .int i _=>some (.int i)
 | .str x _=>some (.str x)
 | .bytes b _=>some (.byt b)
 | .float b _=>some (.flt b)
 | .ref a=>some (.ref a)
 | .type n=>some (.ty n)
 | _=>none
theorem RelV.abs {x:V} (r:RelV x u):Gu u=some x:=by
 cases x with
 | non=>cases r; rfl
 | bl _=>cases r; rfl
 | int _=>obtain ⟨t,rfl⟩:=r; rfl
 | str _=>obtain ⟨t,rfl⟩:=r; rfl
 | byt _=>obtain ⟨t,rfl⟩:=r; rfl
 | flt _=>obtain ⟨t,rfl⟩:=r; rfl
 | ref _=>cases r; rfl
 | ty _=>cases r; rfl
theorem RelV.inj {x y:V} (r:RelV x u) (q:RelV y u):x=y:=Option.some.inj (r.abs.symm.trans q.abs)
theorem Vals.inj:∀ {xs ys:List V} {us:List Value},Vals xs us->Vals ys us->xs=ys
 | _,_,_,.nil,.nil=>rfl
 | _,_,_,.cons r t,.cons r' t'=>by rw [r.inj r',Vals.inj t t']
section
variable {X:Cx} {pins:List (Addr × Obj)} {σ:St} {H:Hp} {s:Shared} {a:Addr} {xs ys:List V}
theorem SqL.of {K:PySem.W.Frag} (h:H a=some (.lst xs)):SqL K H a xs:=.inl (.inl h)
theorem SqT.of {K:PySem.W.Frag} (h:H a=some (.tup xs)):SqT K H a xs:=.inl (.inl h)
theorem Inv.list (I:Inv X pins σ H s) (h:SqL X.K H a xs):∃ its:List Value,Vals xs its/\PlainL s.heap a its.toArray/\xs.length<=sizeLine:=by
 rcases h with h | ⟨o,its,n,hk,hc,hd,hs,hz,r⟩
 ·obtain ⟨z,its,n,r,e⟩:=h.ok I.hok
  exact ⟨its,r,⟨_,n,e,rfl,rfl,rfl⟩,z⟩
 ·refine ⟨its.toList,r,⟨o,n,I.kIn a o hk,hc,hd,by simpa using hs⟩,?_⟩
  have e:=r.length
  simp only [Array.length_toList] at e
  omega
theorem Inv.tuple (I:Inv X pins σ H s) (h:SqT X.K H a xs):∃ its:List Value,Vals xs its/\IsTup s.heap a its.toArray/\xs.length<=sizeLine:=by
 rcases h with h | ⟨o,its,n,hk,hc,hs,hz,r⟩
 ·obtain ⟨z,its,r,p⟩:=h.ok I.hok
  exact ⟨its,r,p,z⟩
 ·refine ⟨its.toList,r,⟨o,I.kIn a o hk,hc,n,by simpa using hs⟩,?_⟩
  have e:=r.length
  simp only [Array.length_toList] at e
  omega
theorem Inv.list_inj (I:Inv X pins σ H s) (h:SqL X.K H a xs) (h':SqL X.K H a ys):xs=ys:=by
 obtain ⟨its,r,⟨o,n,e,_,_,d⟩,_⟩:=I.list h
 obtain ⟨its',r',⟨o',n',e',_,_,d'⟩,_⟩:=I.list h'
 rw [e] at e'; cases e'
 rw [d] at d'
 injection d' with d1 _
 have:its=its':=by simpa using congrArg Array.toList d1
 subst this
 exact r.inj r'
theorem Inv.tuple_inj (I:Inv X pins σ H s) (h:SqT X.K H a xs) (h':SqT X.K H a ys):xs=ys:=by
 obtain ⟨its,r,⟨o,e,_,n,d⟩,_⟩:=I.tuple h
 obtain ⟨its',r',⟨o',e',_,n',d'⟩,_⟩:=I.tuple h'
 rw [e] at e'; cases e'
 rw [d] at d'
 injection d' with d1 _
 have:its=its':=by simpa using congrArg Array.toList d1
 subst this
 exact r.inj r'
end
noncomputable abbrev Cx.wish (X:Cx) (E:Value->Shared->Prop):Cx:={ X with xe:=E }
section
variable {X:Cx} {pins:List (Addr × Obj)} {σ:St} {H:Hp} {s:Shared} {E:Value->Shared->Prop}
end
section
variable {X:Cx} {st:Stmt} {cZ:List Stmt} {t u:TS} {e:Expr} {te:TE} {pos:Pos}
noncomputable def Fu:TS:=fun D σ H=>D.nx σ H
noncomputable def Gj (t u:TS):TS:=fun D σ H=>t { D with nx:=u D } σ H
theorem Aj:PSs X [] Fu:=fun _ _ σ H _ I h=>wpAny_execs_nil ⟨σ,H,I,h⟩
theorem mW (h1:PS X st t) (h2:PSs X cZ u):PSs X (st::cZ) (Gj t u):=by
 intro pins s σ H D I h
 refine wpAny_execs_cons (thn (h1 pins s σ H { D with nx:=u D } I h) fun f s1 q=>?_)
 cases f with
 | next=>
  obtain ⟨σ',H',I',q⟩:=q
  exact h2 pins s1 σ' H' D I' q
 | ret v=>exact q
 | brk=>exact q
 | cont=>exact q
theorem wo (h1:PS X st t):PSs X [st] t:=by
 intro pins s σ H D I h
 refine wpAny_execs_cons (thn (h1 pins s σ H D I h) fun f s1 q=>?_)
 cases f with
 | next=>exact wpAny_execs_nil q
 | ret v=>exact q
 | brk=>exact q
 | cont=>exact q
theorem Inv.quiet (I:Inv X pins σ H s):interactive X.env=false:=by simp [interactive,I.ok.kind]
noncomputable def Eo (te:TE):TS:=fun D σ H=>te σ H fun _ H1=>D.nx σ H1
theorem gR (he:PE X e te) (hs:swapsWith e none pos.line X.env=pure false:=by rfl):PS X (.Expr e pos) (Eo te):=by
 intro pins s σ H D I h
 exact wpAny_Expr_any (thn (he pins s σ H _ I h) fun v s1 ⟨x,H1,I1,r1,q1⟩=>⟨σ,H1,I1,q1⟩) I.quiet hs
noncomputable def G0 (te:TE):TS:=fun D σ H=>te σ H D.rt
theorem uf (he:PE X e te):PS X (.Return (some e) pos) (G0 te):=by
 intro pins s σ H D I h
 exact wpAny_Return_some (thn (he pins s σ H _ I h) fun v s1 ⟨x,H1,I1,r1,q1⟩=>⟨x,σ,H1,I1,r1,q1⟩)
noncomputable def Gh (c:TT) (t u:TS):TS:=fun D σ H=>c σ H fun b H1=>if b=true then t D σ H1 else u D σ H1
theorem Dt {c:Expr} {a b:List Stmt} {tc:TT} (hc:PT X c tc) (ha:PSs X a t) (hb:PSs X b u):PS X (.If c a b pos) (Gh tc t u):=by
 intro pins s σ H D I h
 refine wpAny_If (thn (hc pins s σ H _ I h) fun d s1 ⟨H1,I1,q1⟩=>?_)
 cases d with
 | true=>exact ha pins s1 σ H1 D I1 q1
 | false=>exact hb pins s1 σ H1 D I1 q1
end
noncomputable abbrev TG:=V->St->Hp->(St->Hp->Prop)->Prop
noncomputable def PG (X:Cx) (target:Expr) (t:TG):Prop:=
 ∀ (pins:List (Addr × Obj)) (s:Shared) (σ:St) (H:Hp) (v:V) (u:Value) (Q:St->Hp->Prop),Inv X pins σ H s->RelV v u->t v σ H Q->
  wpAny (model X.prog X.w) X.A (assign target X.env u) (fun _ s'=>∃ σ' H',Inv X pins σ' H' s'/\Q σ' H') X.xe s
section
variable {X:Cx} {pos:Pos}
noncomputable def Fp (i:Nat):TG:=fun v σ H Q=>Q (σ.set i (some v)) H
theorem nV (hN:X.N.Nodup) (hi:X.N[i]?=some x) (hx:Loc X.env.scope x) (hf:X.fn x=true\/X.env.scope.names.lookup x=some .local:=by first | exact .inl rfl | exact .inr rfl | assumption):PG X (.Name x pos) (Fp i):=by
 intro pins s σ H v u Q I r h
 exact wpAny_assign_Name (jH I hN hi hx r (fun s' I'=>⟨_,H,I',h⟩) hf)
noncomputable def GK (te:TE) (g:TG):TS:=fun D σ H=>te σ H fun x H1=>g x σ H1 D.nx
theorem tZ {e:Expr} {te:TE} {g:TG} (he:PE X e te) (hg:PG X tg g) (hs:swapsWithSole [tg] e pos.line X.env=pure false:=by rfl) (hw:swappedStores [tg] e X.env=pure none:=by rfl)
 (h1:(assignEach [tg] X.env).map (·.2)=[assign tg X.env]:=by rfl):PS X (.Assign [tg] e pos) (GK te g):=by
 intro pins s σ H D I h
 refine wpAny_Assign_stores (thn (he pins s σ H _ I h) fun v s1 ⟨x,H1,I1,r1,q1⟩=>?_) hs hw
 rw [h1]
 exact thn (hg pins s1 σ H1 x v _ I1 r1 q1) fun _ s2 q=>q
noncomputable def Ho (i j:Nat) (ta:TA):TS:=fun D σ H=>ta σ H fun vs H1=>∃ v w,vs=[v,w]/\D.nx ((σ.set i (some v)).set j (some w)) H1
theorem DA {a b:Expr} {ta:TA} {px pt:Pos} {kt k2 pt2} (hc:X.calm=true) (hN:X.N.Nodup) (hi:X.N[i]?=some x) (hj:X.N[j]?=some y) (hij:i ≠ j)
 (hx:X.env.scope.names.lookup x=some .local) (hy:X.env.scope.names.lookup y=some .local) (ha:PA X [a,b] ta)
 (hw:swappedStores [.Tuple [.Name x px,.Name y py] kt pt] (.Tuple [a,b] k2 pt2) X.env=pure (some [x,y]))
 (hs:swapsWithSole [.Tuple [.Name x px,.Name y py] kt pt] (.Tuple [a,b] k2 pt2) pos.line X.env=pure false:=by rfl) :
  PS X (.Assign [.Tuple [.Name x px,.Name y py] kt pt] (.Tuple [a,b] k2 pt2) pos) (Ho i j ta):=by
 intro pins s σ H D I h
 rw [exec_Assign_arm]
 refine wpAny_bind (wpAny_standAt ?_)
 rw [hs]
 refine wpAny_bind (wpAny_pure ?_)
 rw [if_neg (by decide)]
 refine wpAny_bind (Tuple_ (thn (ha _ pins s σ H _ I h) fun us s1 ⟨vs,H1,I1,r1,q1⟩=>?_))
 obtain ⟨v,w,e1,q1⟩:=q1
 subst e1
 obtain ⟨u1,u2,rfl,rv,rw'⟩:∃ u1 u2,us=[u1,u2]/\RelV v u1/\RelV w u2:=by
  cases r1 with
  | cons p q=>
   cases q with
   | cons p' q'=>
    cases q'
    exact ⟨_,_,rfl,p,p'⟩
 refine wpAny_newObj_type ?_ (by show 2<=sizeLine; decide)
 have I2:Inv X pins σ H1 { s1 with heap:=s1.heap.push { cls:=.type "tuple",data:=.seq [u1,u2].toArray } }:=I1.kept (t':=s1.toks) fun b o e=>Heap.get?_push_of_some _ e
 rw [hw]
 refine wpAny_bind (wpAny_pure ?_)
 show wpAny (model X.prog X.w) X.A (do rule "assign.swapped-stores"; let items <- unpackItems (.ref s1.heap.objs.size) 2 none; assignInOrder [fun v=>bindName X.env y v,fun v=>bindName X.env x v] items.reverse; pure Flow.next) _ _ _
 refine wpAny_bind (wpAny_rule (wpAny_bind (unpackItems_tuple (items:=#[u1,u2]) (I.ok.hd hc) (IsTup.new s1.heap _) fun h' hx'=>?_)))
 have I3:=I2.kept (h':=h') (t':=s1.toks) fun b o e=>hx' b o (Nat.ne_of_lt (Heap.lt_size e)) e
 show wpAny _ _ (assignInOrder [fun v=>bindName X.env y v,fun v=>bindName X.env x v] [u2,u1]>>=fun _=>pure Flow.next) _ _ _
 refine wpAny_bind (assignInOrder_cons (wpAny_bindName (jH I3 hN hj (.inl hy) rw' (fun s2 I4=>?_) (.inr hy))))
 refine assignInOrder_cons (wpAny_bindName (jH I4 hN hi (.inl hx) rv (fun s3 I5=>assignInOrder_nil (wpAny_pure ?_)) (.inr hx)))
 rw [List.set_comm _ _ (Ne.symm hij)] at I5
 exact ⟨_,H1,I5,q1⟩
end
section
variable {X:Cx} {pos:Pos}
end
structure It where
 go:Nat->Hp->Prop
 yld:Nat->Hp->V->Hp->Prop
 stop:Nat->Hp->Prop
noncomputable def vT (X:Cx) (pins:List (Addr × Obj)) (H:Hp) (b:Addr):Prop:=
 H b=none/\b ≠ X.env.locals/\b ∉ X.fs/\(b ∈ X.ex\/X.s₀.heap.objs.size<=b)/\(∀ x c,X.env.cells.lookup x=some c->c ≠ b)/\∀ p ∈ X.pn++pins,p.1 ≠ b
theorem Inv.fpOk (I:Inv X pins σ H s) (hb:s.heap.objs.size<=b) (hn:H' b=none):vT X pins H' b:=by
 refine ⟨hn,Nat.ne_of_gt (Nat.lt_of_lt_of_le I.lt hb),I.nofs hb,.inr (Nat.le_trans I.sz hb),fun x c e z=>?_,fun p hp z=>?_⟩
 ·obtain ⟨v,q⟩:=I.cell x c e
  exact absurd (Nat.lt_of_lt_of_le q.lt (by rw [z]; exact hb)) (Nat.lt_irrefl _)
 ·exact absurd (Nat.lt_of_lt_of_le (Heap.lt_size (I.pin p hp).1) (by rw [z]; exact hb)) (Nat.lt_irrefl _)
structure Turn (P:Program) (w:World) (K:PySem.W.Frag) (tg:Expr) (J:It) (fp:List Addr) (it:Addr) (tn:Nat->Heap->Prop):Prop where
 mem:it ∈ fp
 obj:∀ i h,tn i h->∀ b ∈ fp,∃ o,h.get? b=some o/\∀ v,o.data ≠ .cell v
 keep:∀ i h h',tn i h->(∀ b ∈ fp,∀ o,h.get? b=some o->h'.get? b=some o)->tn i h'
 item:∀ (X:Cx),X.prog=P->X.w=w->X.K=K->X.calm=true->∀ (i:Nat) (pins:List (Addr × Obj)) (s:Shared) (σ:St) (H:Hp) (E:Value->Shared->Prop),Inv X pins σ H s->(∀ b ∈ fp,vT X pins H b)->tn i s.heap->J.go i H->
  wpAny (model P w) X.A (pyNext (.ref it)) (fun r s1=>∃ u,r=some u/\
   wpAny (model P w) X.A (letOwnedTupleGo tg (.ref it) u) (fun _ s2=>∃ x H',Inv X pins σ H' s2/\RelV x u/\J.yld i H x H'/\tn (i+1) s2.heap/\∀ b ∈ fp,H' b=none) E s1) E s
 done:∀ (X:Cx),X.prog=P->X.w=w->X.K=K->X.calm=true->∀ (i:Nat) (pins:List (Addr × Obj)) (s:Shared) (σ:St) (H:Hp) (E:Value->Shared->Prop),Inv X pins σ H s->(∀ b ∈ fp,vT X pins H b)->tn i s.heap->J.stop i H->
  wpAny (model P w) X.A (pyNext (.ref it)) (fun r s1=>r=none/\Inv X pins σ H s1) E s
 self:∀ (A:Around) (i:Nat) (s:Shared) (Q:Value->Shared->Prop) (E:Value->Shared->Prop),tn i s.heap->Q (.ref it) s->wpAny (model P w) A (pyIter (.ref it)) Q E s
noncomputable abbrev TI:=St->Hp->(It->Hp->Prop)->Prop
noncomputable def PIE (X:Cx) (pins:List (Addr × Obj)) (σ:St) (tg:Expr) (R:It->Hp->Prop) (itv:Value) (s2:Shared):Prop:=
 ∃ (it:Addr) (fp:List Addr) (tn:Nat->Heap->Prop) (J:It) (H':Hp),itv=.ref it/\Inv X pins σ H' s2/\Turn X.prog X.w X.K tg J fp it tn/\tn 0 s2.heap/\(∀ b ∈ fp,vT X pins H' b)/\R J H'
noncomputable def PI (X:Cx) (tg iter:Expr) (wi:TI):Prop:=
 ∀ (pins:List (Addr × Obj)) (s:Shared) (σ:St) (H:Hp) (R:It->Hp->Prop),Inv X pins σ H s->wi σ H R->
  wpAny (model X.prog X.w) X.A (eval iter X.env) (fun v s1=>wpAny (model X.prog X.w) X.A (pyIter v) (PIE X pins σ tg R) X.xe s1) X.xe s
theorem we {M : Model} {A : Around} {o : Obj} {n : String} {vs : Array Value} {Q : Unit -> Shared -> Prop} (ho : s.heap.get? it = some o) (hc : o.cls = .type n) (hd : o.data = .fields vs)
 (hn : ["enumerate", "zip", "dict_itemiterator", "dict_reverseitemiterator", "odict_iterator", "itertools.zip_longest", "itertools.pairwise"].contains n = false) (hQ : Q () s) : wpAny M A (letOwnedTupleGo tg (.ref it) u) Q E s := by
  unfold letOwnedTupleGo
  cases tg <;> first
    | exact wpAny_pure hQ
    | (cases u <;> first
        | exact wpAny_pure hQ
        | (refine wpAny_bind (wpAny_load ho ?_)
           rw [hc, hd]
           show wpAny M A (if (["enumerate", "zip", "dict_itemiterator", "dict_reverseitemiterator", "odict_iterator", "itertools.zip_longest", "itertools.pairwise"].contains n && vs[0]? == some (rawInt _)) = true then _ else _) Q E s
           rw [if_neg (by intro h; rw [hn, Bool.false_and] at h; cases h)]
           exact wpAny_pure hQ))

noncomputable def Itl (K:PySem.W.Frag) (a:Addr):It:=
 ⟨fun i H=>∃ xs x,SqL K H a xs/\xs[i]?=some x,fun i H x H'=>H'=H/\∀ xs,SqL K H a xs->xs[i]?=some x,fun i H=>∃ xs,SqL K H a xs/\xs.length<=i⟩
noncomputable def Itt (K:PySem.W.Frag) (a:Addr):It:=
 ⟨fun i H=>∃ xs x,SqT K H a xs/\xs[i]?=some x,fun i H x H'=>H'=H/\∀ xs,SqT K H a xs->xs[i]?=some x,fun i H=>∃ xs,SqT K H a xs/\xs.length<=i⟩
noncomputable def Itr (lo:Int) (n:Nat):It:=⟨fun i _=>i < n,fun i H x H'=>H'=H/\x=.int (lo+i),fun i _=>n<=i⟩
theorem wV {w:World} {K:PySem.W.Frag} (a it:Addr):Turn P w K tg (Itl K a) [it] it (fun i h=>h.IsListIter it a i) where
 mem:=by simp
 obj:=fun i h st b hb=>by
  have e:b=it:=by simpa using hb
  subst e
  obtain ⟨o,e,c,d⟩:=st
  exact ⟨o,e,fun v z=>by rw [d] at z; cases z⟩
 keep:=fun i h h' st k=>st.at fun o e=>k it (by simp) o e
 item:=by
  intro X hP hw hK hc i pins s σ H E I hf st hg
  subst hP hw hK
  obtain ⟨xs,x,hq,hx⟩:=hg
  obtain ⟨its,rv,p,hz⟩:=I.list hq
  obtain ⟨u,hu,ru⟩:=rv.get hx
  obtain ⟨f0,f1,f2,f3,f4,f5⟩:=hf it (by simp)
  refine wpAny_pyNext_list_item st p.isList (x:=u) (by simpa using hu) fun h' st' sb=>?_
  have I1:Inv X pins σ H { s with heap:=h' }:=I.turned (t':=s.toks) (fun b o hb e=>(sb.2 b hb).trans e) f0 f1 f3 f4 f5
  obtain ⟨o,e,c,d⟩:=id st'
  exact ⟨u,rfl,we (s:={ s with heap:=h' }) e c d (by decide) ⟨x,H,I1,ru,⟨rfl,fun ys hy=>by rw [I.list_inj hy hq]; exact hx⟩,st',fun b hb=>(hf b hb).1⟩⟩
 done:=by
  intro X hP hw hK hc i pins s σ H E I hf st hg
  subst hP hw hK
  obtain ⟨xs,hq,hx⟩:=hg
  obtain ⟨its,rv,p,hz⟩:=I.list hq
  obtain ⟨f0,f1,f2,f3,f4,f5⟩:=hf it (by simp)
  have hl:=rv.length
  exact wpAny_pyNext_list_end (I.ok.hd hc) st p.isList (by simp; omega) fun h' eb=>⟨rfl,I.turned (t':=s.toks) (fun b o hb e=>eb b o hb e) f0 f1 f3 f4 f5⟩
 self:=fun _ _ _ _ _ st h=>wpAny_pyIter_listiter st h
theorem ux {w:World} {K:PySem.W.Frag} (a it:Addr):Turn P w K tg (Itt K a) [it] it (fun i h=>h.IsTupleIter it a i) where
 mem:=by simp
 obj:=fun i h st b hb=>by
  have e:b=it:=by simpa using hb
  subst e
  obtain ⟨o,e,c,d⟩:=st
  exact ⟨o,e,fun v z=>by rw [d] at z; cases z⟩
 keep:=fun i h h' st k=>st.at fun o e=>k it (by simp) o e
 item:=by
  intro X hP hw hK hc i pins s σ H E I hf st hg
  subst hP hw hK
  obtain ⟨xs,x,hq,hx⟩:=hg
  obtain ⟨its,rv,p,hz⟩:=I.tuple hq
  obtain ⟨u,hu,ru⟩:=rv.get hx
  obtain ⟨f0,f1,f2,f3,f4,f5⟩:=hf it (by simp)
  refine wpAny_pyNext_tuple_item st (show s.heap.IsTuple a its.toArray from p) (x:=u) (by simpa using hu) fun h' st' sb=>?_
  have I1:Inv X pins σ H { s with heap:=h' }:=I.turned (t':=s.toks) (fun b o hb e=>(sb.2 b hb).trans e) f0 f1 f3 f4 f5
  obtain ⟨o,e,c,d⟩:=id st'
  exact ⟨u,rfl,we (s:={ s with heap:=h' }) e c d (by decide) ⟨x,H,I1,ru,⟨rfl,fun ys hy=>by rw [I.tuple_inj hy hq]; exact hx⟩,st',fun b hb=>(hf b hb).1⟩⟩
 done:=by
  intro X hP hw hK hc i pins s σ H E I hf st hg
  subst hP hw hK
  obtain ⟨xs,hq,hx⟩:=hg
  obtain ⟨its,rv,p,hz⟩:=I.tuple hq
  obtain ⟨f0,f1,f2,f3,f4,f5⟩:=hf it (by simp)
  have hl:=rv.length
  exact wpAny_pyNext_tuple_end (I.ok.hd hc) st (show s.heap.IsTuple a its.toArray from p) (by simp; omega) fun h' eb=>⟨rfl,I.turned (t':=s.toks) (fun b o hb e=>eb b o hb e) f0 f1 f3 f4 f5⟩
 self:=fun _ _ _ _ _ st h=>wpAny_pyIter_tupleiter st h
theorem uJ {w:World} {K:PySem.W.Frag} (it:Addr) (lo:Int) (n:Nat):Turn P w K tg (Itr lo n) [it] it (fun i h=>IsRangeIter h it (lo+(i:Nat) * 1) ((n:Int) - (i:Nat)) 1) where
 mem:=by simp
 obj:=fun i h st b hb=>by
  have e:b=it:=by simpa using hb
  subst e
  exact ⟨_,st,fun v z=>by
   have z':Data.fields _=Data.cell v:=z
   cases z'⟩
 keep:=fun i h h' st k=>k it (by simp) _ st
 item:=by
  intro X hP hw hK hc i pins s σ H E I hf st hg
  subst hP hw hK
  obtain ⟨f0,f1,f2,f3,f4,f5⟩:=hf it (by simp)
  have W:=Walks.range (prog:=X.prog) (w:=X.w) (I.ok.hd hc) it lo 1 n
  refine W.item i s _ _ hg st fun v h' tk hv st' kk=>?_
  obtain ⟨t,rfl⟩:=hv
  have I1:Inv X pins σ H { s with heap:=h',toks:=tk }:=I.turned (fun b o hb e=>kk b o (by simpa using hb) e) f0 f1 f3 f4 f5
  refine ⟨_,rfl,we (s:={ s with heap:=h',toks:=tk }) (n:="range_iterator") st' rfl rfl (by decide) ⟨.int (lo+i),H,I1,⟨t,?_⟩,⟨rfl,rfl⟩,st',fun b hb=>(hf b hb).1⟩⟩
  rw [Int.mul_one]
 done:=by
  intro X hP hw hK hc i pins s σ H E I hf st hg
  subst hP hw hK
  obtain ⟨f0,f1,f2,f3,f4,f5⟩:=hf it (by simp)
  exact wpAny_pyNext_range_end (I.ok.hd hc) st (by have:n<=i:=hg; omega) fun h' eb=>⟨rfl,I.turned (t':=s.toks) (fun b o hb e=>eb b o hb e) f0 f1 f3 f4 f5⟩
 self:=fun _ _ _ _ _ st h=>wpAny_pyIter_rangeiter st h
end L2
namespace L2
open PySem PySem.Spec PyProof.Rows
section
variable {X:Cx} {tg:Expr}
theorem yn {R:It->Hp->Prop} {lo hi:Int} {t u v:Tok} {tk:Nat} (I:Inv X pins σ H s) (h1 : -(2 ^ 62)<=lo) (h2:lo < 2 ^ 62) (h3 : -(2 ^ 62)<=hi) (h4:hi < 2 ^ 62)
 (q:R (Itr lo (hi - lo).toNat) H):wpAny (model X.prog X.w) X.A (pyIter (.ref s.heap.objs.size)) (PIE X pins σ tg R) E { s with heap:=s.heap.push { cls:=.type "range",data:=.fields #[.int lo t,.int hi u,.int 1 v] },toks:=tk }:=by
 refine wpAny_pyIter_range (IsRange.new ..) (small_one h1 h2 h3 h4) ?_
 have I1:Inv X pins σ H { s with heap:=s.heap.push { cls:=.type "range",data:=.fields #[.int lo t,.int hi u,.int 1 v] },toks:=tk }:=I.kept fun b o e=>Heap.get?_push_of_some _ e
 refine ⟨(s.heap.push { cls:=.type "range",data:=.fields #[.int lo t,.int hi u,.int 1 v] }).objs.size,[(s.heap.push { cls:=.type "range",data:=.fields #[.int lo t,.int hi u,.int 1 v] }).objs.size],_,_,H,rfl,
  I1.kept (t':=tk) fun b o e=>Heap.get?_push_of_some _ e,uJ _ lo (hi - lo).toNat,?_,fun b hb=>?_,q⟩
 ·have e1:lo+((0:Nat):Int) * 1=lo:=by simp
  have e2:(((hi - lo).toNat:Nat):Int) - ((0:Nat):Int)=Builtin.Range.rangeSize lo hi 1:=by rw [rangeSize_one]; split <;> omega
  show IsRangeIter _ _ (lo+((0:Nat):Int) * 1) ((((hi - lo).toNat:Nat):Int) - ((0:Nat):Int)) 1
  rw [e1,e2]
  exact Heap.get?_push_size _ rfl
 ·have e:b=(s.heap.push { cls:=.type "range",data:=.fields #[.int lo t,.int hi u,.int 1 v] }).objs.size:=by simpa using hb
  subst e
  exact I1.fpOk (Nat.le_refl _) (I1.hok.fresh (Nat.le_refl _))
noncomputable def EA (ta:TA):TI:=fun σ H R=>ta σ H fun vs H1=>∃ j:Int,vs=[.int j]/\-(2 ^ 62)<=j/\j < 2 ^ 62/\R (Itr 0 j.toNat) H1
theorem wL {a:Expr} {ta:TA} {p:Pos} (hg:Gl X "range") (hm:X.mg "range"=none) (ha:PA X [a] ta) (hs:starEach [a] X.env=[(false,eval a X.env)]:=by rfl):PI X tg (.Call (.Name "range" p) [a] [] pos) (EA ta):=by
 intro pins s σ H R I h
 refine Call_ (um I hg hm boot_range (PyProof.Rows.callWith_type1 (thn (ha pos pins s σ H _ I h) fun us s1 ⟨vs,H1,I1,r1,q1⟩=>?_) hs rfl))
 obtain ⟨j,e,q1,q2,q⟩:=q1
 subst e
 cases r1 with
 | cons r rr=>
  cases rr
  obtain ⟨t,rfl⟩:=r
  exact call_range_1 (yn I1 (by omega) (by omega) q1 q2 (by simpa using q))
noncomputable def G8 (wi:TI) (g:TG) (tb:TS):TS:=fun D σ H=>wi σ H fun J H1=>∃ W:Nat->Nat->St->Hp->Prop,(∃ m,W 0 m σ H1)/\∀ i m σ H,W i m σ H->
 (J.stop i H/\D.nx σ H)\/(J.go i H/\∃ N:St->Hp->Prop,(∀ σ' H',N σ' H'->∃ m',m' < m/\W (i+1) m' σ' H')/\∀ x H',J.yld i H x H'->g x σ H' fun σ2 H2=>tb { D with nx:=N,ct:=N,bk:=D.nx } σ2 H2)
noncomputable def pP (fp:List Addr) (h:Heap):List (Addr × Obj):=fp.filterMap fun b=>(h.get? b).map fun o=>(b,o)
theorem iZ {o:Obj} (hb:b ∈ fp) (e:h.get? b=some o):(b,o) ∈ pP fp h:=List.mem_filterMap.mpr ⟨b,hb,by rw [e]; rfl⟩
theorem vY {p:Addr × Obj} (hp:p ∈ pP fp h):p.1 ∈ fp/\h.get? p.1=some p.2:=by
 obtain ⟨b,hb,e⟩:=List.mem_filterMap.mp hp
 cases q:h.get? b with
 | none=>rw [q] at e; cases e
 | some o=>
  rw [q] at e
  have e':(b,o)=p:=Option.some.inj e
  subst e'
  exact ⟨hb,q⟩
theorem Inv.pinned (I:Inv X pins σ H s) (hf:∀ b ∈ fp,vT X pins H b) (ho:∀ b ∈ fp,∃ o,s.heap.get? b=some o/\∀ v,o.data ≠ .cell v):Inv X (pins++pP fp s.heap) σ H s:=
 I.pins_of fun p hp=>(List.mem_append.mp hp).elim (fun z=>I.pin p (List.mem_append_right _ z)) fun z=>by
  obtain ⟨hb,e⟩:=vY z
  obtain ⟨f0,f1,f2,_⟩:=hf p.1 hb
  obtain ⟨o,e',d⟩:=ho p.1 hb
  rw [e] at e'; cases e'
  exact ⟨e,f0,f1,f2,d⟩
theorem Inv.unpinned {pl:List (Addr × Obj)} (I:Inv X (pins++pl) σ H s):Inv X pins σ H s:=I.pins_of fun p hp=>I.pin p (List.mem_append_right _ (List.mem_append_left _ hp))
theorem ze {wi:TI} {g:TG} {tb:TS} (hp:PassesOwn (model X.prog X.w) X.A X.env X.xe) (hc:X.calm=true) (hi:PI X tg iter wi) (hg:PG X tg g) (hb:PSs X body tb)
 (hs:∀ x,foldedSetIterable iter X.env x=pure x:=by intro _; rfl):PS X (.For tg iter body [] pos) (G8 wi g tb):=by
 intro pins s σ H D I h
 refine wpAny_For (thn (hi pins s σ H _ I h) fun v s1 h1=>thn h1 fun itv s2 h2=>?_) hs
 obtain ⟨it,fp,tn,J,H2,e,I2,T,st2,f2,W,⟨m0,w0⟩,turn⟩:=h2
 subst e
 have stat:∀ {H':Hp},(∀ b ∈ fp,H' b=none)->∀ b ∈ fp,vT X pins H' b:=fun hn b hb=>⟨hn b hb,(f2 b hb).2⟩
 refine codeAny_forLoop_any (fun n s'=>∃ i σ' H',Inv X pins σ' H' s'/\tn i s'.heap/\(∀ b ∈ fp,H' b=none)/\W i n σ' H') ?_ m0 ⟨0,σ,H2,I2,st2,fun b hb=>(f2 b hb).1,w0⟩
 rintro n s3 ⟨i,σ3,H3,I3,st3,fr3,w3⟩
 rcases turn i n σ3 H3 w3 with ⟨stop,qn⟩ | ⟨go,N,hN,step⟩
 ·refine wpAny_passesOwn hp (thn (T.done X rfl rfl rfl hc i pins s3 σ3 H3 X.xe I3 (stat fr3) st3 stop) fun r s4 ⟨hr,I4⟩=>?_)
  subst hr
  exact wpAny_execs_nil ⟨σ3,H3,I4,qn⟩
 ·refine wpAny_passesOwn hp (thn (T.item X rfl rfl rfl hc i pins s3 σ3 H3 X.xe I3 (stat fr3) st3 go) fun r s4 ⟨u,hr,h4⟩=>?_)
  subst hr
  refine wpAny_passesOwn hp (thn h4 fun _ s5 ⟨x,H5,I5,r5,y5,st5,fr5⟩=>?_)
  have I5':=I5.pinned (stat fr5) (T.obj _ _ st5)
  refine wpAny_passesOwn hp (thn (hg _ s5 σ3 H5 x u _ I5' r5 (step x H5 y5)) fun _ s6 ⟨σ6,H6,I6,q6⟩=>?_)
  refine wpAny_passesOwn hp (thn (hb _ s6 σ6 H6 _ I6 q6) fun f s7 q7=>?_)
  have again:∀ {σ7:St} {H7:Hp},Inv X (pins++pP fp s5.heap) σ7 H7 s7->N σ7 H7->∃ m,m < n/\∃ i σ' H',Inv X pins σ' H' s7/\tn i s7.heap/\(∀ b ∈ fp,H' b=none)/\W i m σ' H':=fun {σ7 H7} I7 n7=>by
   obtain ⟨m',hm,w7⟩:=hN σ7 H7 n7
   refine ⟨m',hm,i+1,σ7,H7,I7.unpinned,T.keep _ _ _ st5 fun b hb o e=>(I7.pin (b,o) (List.mem_append_right _ (List.mem_append_right _ (iZ hb e)))).1,fun b hb=>?_,w7⟩
   obtain ⟨o,e,d⟩:=T.obj _ _ st5 b hb
   exact (I7.pin (b,o) (List.mem_append_right _ (List.mem_append_right _ (iZ hb e)))).2.1
  cases f with
  | next=>obtain ⟨σ7,H7,I7,n7⟩:=q7; exact again I7 n7
  | cont=>obtain ⟨σ7,H7,I7,n7⟩:=q7; exact again I7 n7
  | brk=>obtain ⟨σ7,H7,I7,q7⟩:=q7; exact ⟨σ7,H7,I7.unpinned,q7⟩
  | ret v=>obtain ⟨x7,σ7,H7,I7,r7,q7⟩:=q7; exact ⟨x7,σ7,H7,I7.unpinned,r7,q7⟩
end
end L2
namespace L2
open PySem PySem.Spec PyProof.Rows
noncomputable abbrev R2:=V->V->Hp->VK->Prop
noncomputable def OpR (X:Cx) (f:Value->Value->Sem Value) (r:R2):Prop:=
 ∀ (pins:List (Addr × Obj)) (s:Shared) (σ:St) (H:Hp) (x y:V) (v u:Value) (Q:VK),Inv X pins σ H s->RelV x v->RelV y u->r x y H Q->
  wpAny (model X.prog X.w) X.A (f v u) (EP X pins σ Q) X.xe s
noncomputable def UnR (X:Cx) (f:Value->Sem Value) (r:V->Hp->VK->Prop):Prop:=
 ∀ (pins:List (Addr × Obj)) (s:Shared) (σ:St) (H:Hp) (x:V) (v:Value) (Q:VK),Inv X pins σ H s->RelV x v->r x H Q->
  wpAny (model X.prog X.w) X.A (f v) (EP X pins σ Q) X.xe s
noncomputable def kK (X:Cx) (f:Value) (r:List V->Hp->VK->Prop):Prop:=
 ∀ (pins:List (Addr × Obj)) (s:Shared) (σ:St) (H:Hp) (xs:List V) (us:List Value) (Q:VK),Inv X pins σ H s->Vals xs us->r xs H Q->
  wpAny (model X.prog X.w) X.A (call f us) (EP X pins σ Q) X.xe s
noncomputable def GH (X:Cx) (r:V->Hp->(Bool->Hp->Prop)->Prop):Prop:=
 ∀ (pins:List (Addr × Obj)) (s:Shared) (σ:St) (H:Hp) (x:V) (v:Value) (Q:Bool->Hp->Prop),Inv X pins σ H s->RelV x v->r x H Q->
  wpAny (model X.prog X.w) X.A (truthy v) (TP X pins σ Q) X.xe s
noncomputable def tOp (r:R2) (ta tb:TE):TE:=fun σ H Q=>ta σ H fun x H1=>tb σ H1 fun y H2=>r x y H2 Q
noncomputable def tUn (r:V->Hp->VK->Prop) (ta:TE):TE:=fun σ H Q=>ta σ H fun x H1=>r x H1 Q
noncomputable def rI (C:Int->Int->Prop) (g:Int->Int->V):R2:=fun x y H Q=>∃ i j,x=.int i/\y=.int j/\C i j/\Q (g i j) H
noncomputable def rI0 (g:Int->Int->V):R2:=fun x y H Q=>∃ i j,x=.int i/\y=.int j/\Q (g i j) H
noncomputable def rU (g:Int->V):V->Hp->VK->Prop:=fun x H Q=>∃ i,x=.int i/\Q (g i) H
section
variable {X:Cx} {a b c:Expr} {ta tb tc:TE} {pos:Pos}
theorem Ei (ha:PE X a ta) (hb:PE X b tb) {R:V->V->Hp->Prop} (I:Inv X pins σ H s)
 (h:ta σ H fun x H1=>tb σ H1 fun y H2=>R x y H2) {Q:Value->Shared->Prop} {f:Value->Value->Sem Value}
 (hf:∀ v u s2 x y H2,Inv X pins σ H2 s2->RelV x v->RelV y u->R x y H2->wpAny (model X.prog X.w) X.A (f v u) Q X.xe s2) :
  wpAny (model X.prog X.w) X.A (eval a X.env) (fun v s₁=>wpAny (model X.prog X.w) X.A (eval b X.env) (fun u s₂=>wpAny (model X.prog X.w) X.A (f v u) Q X.xe s₂) X.xe s₁) X.xe s:=by
 refine thn (ha pins s σ H _ I h) fun v s1 ⟨x,H1,I1,r1,q1⟩=>?_
 refine thn (hb pins s1 σ H1 _ I1 q1) fun u s2 ⟨y,H2,I2,r2,q2⟩=>?_
 exact hf v u s2 x y H2 I2 r1 r2 q2
theorem E1 {op:Operator} {r:R2} (ho:OpR X (binaryOp op) r) (ha:PE X a ta) (hb:PE X b tb):PE X (.BinOp a op b pos) (tOp r ta tb):=by
 intro pins s σ H Q I h
 exact wpAny_BinOp (Ei ha hb I h fun v u s2 x y H2 I2 rx ry q=>ho pins s2 σ H2 x y v u Q I2 rx ry q)
theorem Ew {op:UnaryOp} {r:V->Hp->VK->Prop} (ho:UnR X (unaryOp op) r) (ha:PE X a ta):PE X (.UnaryOp op a pos) (tUn r ta):=by
 intro pins s σ H Q I h
 exact UnaryOp_ (thn (ha pins s σ H _ I h) fun v s1 ⟨x,H1,I1,r1,q1⟩=>ho pins s1 σ H1 x v Q I1 r1 q1)
theorem opI {f:Value->Value->Sem Value} {C:Int->Int->Prop} {g:Int->Int->Int}
 (rule:∀ (i j:Int) (t u:Tok) (s:Shared) (Q:Value->Shared->Prop) (E:Value->Shared->Prop),C i j->Q (.int (g i j) s.toks) { s with toks:=s.toks+1 }->wpAny (model X.prog X.w) X.A (f (.int i t) (.int j u)) Q E s) :
  OpR X f (rI C fun i j=>.int (g i j)):=by
 intro pins s σ H x y v u Q I rx ry h
 obtain ⟨i,j,rfl,rfl,hc,q⟩:=h
 obtain ⟨t,rfl⟩:=rx
 obtain ⟨t',rfl⟩:=ry
 exact rule i j t t' s _ _ hc ⟨.int (g i j),H,I.tok _,⟨_,rfl⟩,q⟩
theorem F4 {f:Value->Value->Sem Value} {g:Int->Int->Int}
 (rule:∀ (i j:Int) (t u:Tok) (s:Shared) (Q:Value->Shared->Prop) (E:Value->Shared->Prop),Q (.int (g i j) s.toks) { s with toks:=s.toks+1 }->wpAny (model X.prog X.w) X.A (f (.int i t) (.int j u)) Q E s) :
  OpR X f (rI0 fun i j=>.int (g i j)):=by
 intro pins s σ H x y v u Q I rx ry h
 obtain ⟨i,j,rfl,rfl,q⟩:=h
 obtain ⟨t,rfl⟩:=rx
 obtain ⟨t',rfl⟩:=ry
 exact rule i j t t' s _ _ ⟨.int (g i j),H,I.tok _,⟨_,rfl⟩,q⟩
theorem Eh {f:Value->Value->Sem Value} {g:Int->Int->Bool}
 (rule:∀ (i j:Int) (t u:Tok) (s:Shared) (Q:Value->Shared->Prop) (E:Value->Shared->Prop),Q (.bool (g i j)) s->wpAny (model X.prog X.w) X.A (f (.int i t) (.int j u)) Q E s) :
  OpR X f (rI0 fun i j=>.bl (g i j)):=by
 intro pins s σ H x y v u Q I rx ry h
 obtain ⟨i,j,rfl,rfl,q⟩:=h
 obtain ⟨t,rfl⟩:=rx
 obtain ⟨t',rfl⟩:=ry
 exact rule i j t t' s _ _ ⟨.bl (g i j),H,I,rfl,q⟩
noncomputable def G6 (i j:Int):Prop:=0 < j/\j < 1073741824
noncomputable def CMul (i j:Int):Prop:=(-(2 ^ 64) < i/\i < 2 ^ 64)\/(-(2 ^ 64) < j/\j < 2 ^ 64)
theorem CMul.ok {i j:Int} (h:CMul i j):IntMulOk i j:=by
 rcases h with ⟨h1,h2⟩ | ⟨h1,h2⟩
 ·exact .of_left (intBits_le_64 h1 h2)
 ·exact .of_right (intBits_le_64 h1 h2)
theorem op_add:OpR X (binaryOp .Add) (rI0 fun i j=>.int (i+j)):=F4 fun _ _ _ _ _ _ _ q=>add_int q
theorem DC:OpR X (binaryOp .Sub) (rI0 fun i j=>.int (i - j)):=F4 fun _ _ _ _ _ _ _ q=>sub_int q
theorem op_mul:OpR X (binaryOp .Mult) (rI CMul fun i j=>.int (i * j)):=opI fun _ _ _ _ _ _ _ hc q=>mul_int q hc.ok
theorem zJ:OpR X (binaryOp .FloorDiv) (rI G6 fun i j=>.int (i / j)):=opI fun i j _ _ _ _ _ hc q=>by
 have h1:(0:Int) < j:=hc.1
 have h2:j < 1073741824:=hc.2
 exact floordiv_int (by omega) (by rw [Int.fdiv_eq_ediv_of_nonneg i (by omega)]; exact q) (.inl (PyProof.noPylong_small (by omega)))
theorem Cm:OpR X (binaryOp .Mod) (rI (fun _ j=>0 < j) fun i j=>.int (i % j)):=opI fun i j _ _ _ _ _ hc q=>by
 have h1:(0:Int) < j:=hc
 exact mod_int' (by omega) (by rw [Int.fmod_eq_emod_of_nonneg i (by omega)]; exact q)
theorem unI {f:Value->Sem Value} {g:Int->Int}
 (rule:∀ (i:Int) (t:Tok) (s:Shared) (Q:Value->Shared->Prop) (E:Value->Shared->Prop),Q (.int (g i) s.toks) { s with toks:=s.toks+1 }->wpAny (model X.prog X.w) X.A (f (.int i t)) Q E s) :
  UnR X f (rU fun i=>.int (g i)):=by
 intro pins s σ H x v Q I rx h
 obtain ⟨i,rfl,q⟩:=h
 obtain ⟨t,rfl⟩:=rx
 exact rule i t s _ _ ⟨.int (g i),H,I.tok _,⟨_,rfl⟩,q⟩
theorem Ci:UnR X (unaryOp .USub) (rU fun i=>.int (-i)):=unI fun _ _ _ _ _ q=>neg_int q
end
section
variable {X:Cx} {a b c:Expr} {ta tb tc:TE} {pos:Pos}
theorem zw {Q:VK} {k k':Bool} (I:Inv X pins σ H s) (q:Q (.bl k) H) (e:k=k'):EP X pins σ Q (.bool k') s:=by
 subst e
 exact ⟨.bl k,H,I,rfl,q⟩
theorem op_lt:OpR X (compareOp .Lt) (rI0 fun i j=>.bl (decide (i < j))):=Eh fun _ _ _ _ _ _ _ q=>lt_int q
theorem op_le:OpR X (compareOp .LtE) (rI0 fun i j=>.bl (decide (i<=j))):=Eh fun _ _ _ _ _ _ _ q=>le_int q
theorem E8:OpR X (compareOp .Gt) (rI0 fun i j=>.bl (decide (j < i))):=Eh fun _ _ _ _ _ _ _ q=>gt_int q
theorem Fb:OpR X (compareOp .GtE) (rI0 fun i j=>.bl (decide (j<=i))):=Eh fun _ _ _ _ _ _ _ q=>ge_int q
theorem vN:OpR X (compareOp .Lt) (fun x y H Q=>∃ i j,x=.str i/\y=.str j/\Q (.bl (decide (i.cps.toList < j.cps.toList))) H):=by
 intro pins s σ H x y v u Q I rx ry h
 obtain ⟨i,j,rfl,rfl,q⟩:=h
 obtain ⟨t,rfl⟩:=rx
 obtain ⟨t',rfl⟩:=ry
 exact lt_str (zw I q rfl)
theorem OpR.or {f:Value->Value->Sem Value} {r r':R2} (h:OpR X f r) (h':OpR X f r'):OpR X f (fun x y H Q=>r x y H Q\/r' x y H Q):=by
 intro pins s σ H x y v u Q I rx ry q
 rcases q with q | q
 ·exact h pins s σ H x y v u Q I rx ry q
 ·exact h' pins s σ H x y v u Q I rx ry q
theorem jb (b:Expr) {op:CmpOp} (h:op ≠ .In:=by decide) (h2:op ≠ .NotIn:=by decide):behindInMarks op b=false:=by
 have e1:(op==CmpOp.In)=false:=by cases op <;> first | rfl | exact absurd rfl h
 have e2:(op==CmpOp.NotIn)=false:=by cases op <;> first | rfl | exact absurd rfl h2
 cases b <;> simp [behindInMarks,e1,e2]
theorem vS {op:CmpOp} {r:R2} (ho:OpR X (compareOp op) r) (ha:PE X a ta) (hb:PE X b tb) (hm:behindInMarks op b=false):PE X (.Compare a [op] [b] pos) (tOp r ta tb):=by
 intro pins s σ H Q I h
 exact wpAny_Compare1 (Ei ha hb I h fun v u s2 x y H2 I2 rx ry q=>ho pins s2 σ H2 x y v u Q I2 rx ry q) hm
noncomputable def Ck (t:TE):TT:=fun σ H Q=>t σ H fun x H'=>∃ k,x=.bl k/\Q k H'
theorem Bb {op:CmpOp} {r:R2} (ho:OpR X (compareOp op) r) (ha:PE X a ta) (hb:PE X b tb) (hm:behindInMarks op b=false):PT X (.Compare a [op] [b] pos) (Ck (tOp r ta tb)):=by
 intro pins s σ H Q I h
 refine wpAny_isTrue_Compare1 (thn (ha pins s σ H _ I h) fun v s1 ⟨x,H1,I1,r1,q1⟩=>thn (hb pins s1 σ H1 _ I1 q1) fun u s2 ⟨y,H2,I2,r2,q2⟩=>
  thn (ho pins s2 σ H2 x y v u _ I2 r1 r2 q2) fun c s3 ⟨z,H3,I3,r3,k,e,q3⟩=>?_) hm
 subst e
 cases r3
 exact wpAny_truthy_bool ⟨H3,I3,q3⟩
noncomputable def zx (r r':R2) (ta tb tc:TE):TE:=fun σ H Q=>ta σ H fun x H1=>tb σ H1 fun y H2=>r x y H2 fun z H3=>∃ k,z=.bl k/\
 (if k=true then tc σ H3 fun w' H4=>r' y w' H4 Q else Q (.bl false) H3)
theorem yu {op op':CmpOp} {r r':R2} (ho:OpR X (compareOp op) r) (ho':OpR X (compareOp op') r') (ha:PE X a ta) (hb:PE X b tb) (hc:PE X c tc)
 (hm:lastMarks [op,op'] [b,c]=false:=by with_unfolding_all rfl):PE X (.Compare a [op,op'] [b,c] pos) (zx r r' ta tb tc):=by
 intro pins s σ H Q I h
 refine Compare_chain (thn (ha pins s σ H _ I h) fun v s1 ⟨x,H1,I1,r1,q1⟩=>chain_link (thn (hb pins s1 σ H1 _ I1 q1) fun u s2 ⟨y,H2,I2,r2,q2⟩=>
  thn (ho pins s2 σ H2 x y v u _ I2 r1 r2 q2) fun d s3 ⟨z,H3,I3,r3,k,e,q3⟩=>?_)) hm
 subst e
 cases r3
 refine wpAny_truthy_bool ?_
 cases k with
 | false=>exact ite_ff ⟨.bl false,H3,I3,rfl,q3⟩
 | true=>exact ite_tt (chain_last (thn (hc pins s3 σ H3 _ I3 q3) fun w' s4 ⟨z',H4,I4,r4,q4⟩=>ho' pins s4 σ H4 y z' u w' Q I4 r2 r4 q4))
theorem zc {op op':CmpOp} {r r':R2} (ho:OpR X (compareOp op) r) (ho':OpR X (compareOp op') r') (ha:PE X a ta) (hb:PE X b tb) (hc:PE X c tc)
 (hm:lastMarks [op,op'] [b,c]=false:=by with_unfolding_all rfl):PT X (.Compare a [op,op'] [b,c] pos) (Ck (zx r r' ta tb tc)):=by
 intro pins s σ H Q I h
 refine isTrue_chain (thn (ha pins s σ H _ I h) fun v s1 ⟨x,H1,I1,r1,q1⟩=>test_link (thn (hb pins s1 σ H1 _ I1 q1) fun u s2 ⟨y,H2,I2,r2,q2⟩=>
  thn (ho pins s2 σ H2 x y v u _ I2 r1 r2 q2) fun d s3 ⟨z,H3,I3,r3,k,e,q3⟩=>?_)) hm
 subst e
 cases r3
 refine wpAny_truthy_bool ?_
 cases k with
 | false=>
  obtain ⟨k',e',q'⟩:=q3
  cases e'
  exact ite_ff ⟨H3,I3,q'⟩
 | true=>
  refine ite_tt (test_last (thn (hc pins s3 σ H3 _ I3 q3) fun w' s4 ⟨z',H4,I4,r4,q4⟩=>thn (ho' pins s4 σ H4 y z' u w' _ I4 r2 r4 q4) fun d' s5 ⟨z2,H5,I5,r5,k2,e2,q5⟩=>?_))
  subst e2
  cases r5
  exact wpAny_truthy_bool ⟨H5,I5,q5⟩
noncomputable def FS (K:PySem.W.Frag) (x:V) (H:Hp) (k:Bool):Prop:=
 match x with
 | .non=>k=false
 | .bl b=>k=b
 | .int i=>k=(i != 0)
 | .str y=>y.length<=sizeLine/\k=((y.length:Int) != 0)
 | .byt y=>y.size<=sizeLine/\k=((y.size:Int) != 0)
 | .ref p=>(∃ xs,SqL K H p xs/\k = !xs.isEmpty)\/(∃ xs,SqT K H p xs/\k = !xs.isEmpty)\/∃ kvs,H p=some (.dK kvs)/\k = !kvs.isEmpty
 | _=>False
theorem vf {κ:Type} {kvs:List (κ × V)} {vs:List (κ × Value)} (r:KV kvs vs):(!vs.isEmpty) = !kvs.isEmpty:=by
 cases r <;> rfl
theorem zQz9 (r:Vals xs its):(!its.toArray.isEmpty) = !xs.isEmpty:=by
 cases r <;> simp
theorem kM:(sizeLine:Nat) < 2 ^ 63:=by rw [sizeLine_eq]; decide
theorem DE:GH X (fun x H Q=>∃ k,FS X.K x H k/\Q k H):=by
 intro pins s σ H x v Q I rx h
 obtain ⟨k,e,q⟩:=h
 have hl:=kM
 have hs:sizeLine=16777216:=sizeLine_eq
 cases x with
 | non=>
  cases rx
  have e':k=false:=e
  subst e'
  exact truthy_none ⟨H,I,q⟩
 | bl b=>
  cases rx
  have e':k=b:=e
  subst e'
  exact wpAny_truthy_bool ⟨H,I,q⟩
 | int i=>
  obtain ⟨t,rfl⟩:=rx
  have e':k=(i != 0):=e
  subst e'
  exact PySem.P.truthy_int ⟨H,I,q⟩
 | str y=>
  obtain ⟨t,rfl⟩:=rx
  obtain ⟨hy,e'⟩:y.length<=sizeLine/\k=((y.length:Int) != 0):=e
  subst e'
  exact PySem.P.truthy_str (by omega) ⟨H,I.tok _,q⟩
 | byt y=>
  obtain ⟨t,rfl⟩:=rx
  obtain ⟨hy,e'⟩:y.size<=sizeLine/\k=((y.size:Int) != 0):=e
  subst e'
  exact PySem.W.truthy_bytes (by omega) ⟨H,I.tok _,q⟩
 | ref p=>
  cases rx
  have e':(∃ xs,SqL X.K H p xs/\k = !xs.isEmpty)\/(∃ xs,SqT X.K H p xs/\k = !xs.isEmpty)\/∃ kvs,H p=some (.dK kvs)/\k = !kvs.isEmpty:=e
  rcases e' with ⟨xs,hx,e'⟩ | ⟨xs,hx,e'⟩ | ⟨kvs,hx,e'⟩
  ·subst e'
   obtain ⟨its,r,pl,hz⟩:=I.list hx
   have hlen:=r.length
   exact wpAny_truthy_list pl.isList (by simp only [List.size_toArray]; omega) ⟨H,I.tok _,by rw [zQz9 r]; exact q⟩
  ·subst e'
   obtain ⟨its,r,pl,hz⟩:=I.tuple hx
   have hlen:=r.length
   exact truthy_tuple pl (by simp only [List.size_toArray]; omega) ⟨H,I.tok _,by rw [zQz9 r]; exact q⟩
  ·subst e'
   obtain ⟨hz,hS,vs,r,m⟩:kvs.length<=sizeLine/\(p==sysModules)=false/\∃ vs,KV kvs vs/\s.heap.DictOf (ri X.prog X.w) p vs:=I.hok p _ hx
   have hlen:kvs.length=vs.length:=Paired.length r
   exact wpAny_truthy_dict hS m (by omega) ⟨H,I.tok _,by rw [vf r]; exact q⟩
 | _=>exact (show False from e).elim
theorem ye (ha:PE X a ta) (he:∀ whole,isTrue a X.env whole=(do let v <- whole; standAt a.pos; holding [v] (truthy v))) :
  PT X a (fun σ H Q=>ta σ H fun x H'=>∃ k,FS X.K x H' k/\Q k H'):=by
 intro pins s σ H Q I h
 exact isTrue_plain (thn (ha pins s σ H _ I h) fun v s1 ⟨x,H1,I1,r1,q1⟩=>DE pins s1 σ H1 x v Q I1 r1 q1) (he _)
theorem op_add_str:OpR X (binaryOp .Add) (fun x y H Q=>∃ i j,x=.str i/\y=.str j/\i.length+j.length<=sizeLine/\Q (.str (i++j)) H):=by
 intro pins s σ H x y v u Q I rx ry h
 obtain ⟨i,j,rfl,rfl,hz,q⟩:=h
 obtain ⟨t,rfl⟩:=rx
 obtain ⟨t',rfl⟩:=ry
 exact add_str (fun t' tk=>⟨.str (i++j),H,I.tok _,⟨_,rfl⟩,q⟩) hz
theorem zW {x:V} (r:Vals [x] us):∃ u,us=[u]/\RelV x u:=by
 cases r with
 | cons r1 r2=>cases r2; exact ⟨_,rfl,r1⟩
noncomputable def Gc (K:PySem.W.Frag) (x:V) (H:Hp) (n:Nat):Prop:=
 match x with
 | .str y=>y.length<=sizeLine/\n=y.length
 | .byt y=>y.size<=sizeLine/\n=y.size
 | .ref p=>(∃ xs,SqL K H p xs/\n=xs.length)\/∃ xs,SqT K H p xs/\n=xs.length
 | _=>False
theorem yj:kK X (.builtin "len") (fun xs H Q=>∃ x n,xs=[x]/\Gc X.K x H n/\Q (.int n) H):=by
 intro pins s σ H xs us Q I r h
 obtain ⟨x,n,rfl,e,q⟩:=h
 obtain ⟨u,rfl,rx⟩:=zW r
 have hl:=kM
 have hs:sizeLine=16777216:=sizeLine_eq
 cases x with
 | str y=>
  obtain ⟨t,rfl⟩:=rx
  obtain ⟨hy,e'⟩:y.length<=sizeLine/\n=y.length:=e
  subst e'
  exact len_str (by omega) ⟨.int _,H,I.tok _,⟨_,rfl⟩,q⟩
 | byt y=>
  obtain ⟨t,rfl⟩:=rx
  obtain ⟨hy,e'⟩:y.size<=sizeLine/\n=y.size:=e
  subst e'
  exact PySem.W.len_bytes (by omega) ⟨.int _,H,I.tok _,⟨_,rfl⟩,q⟩
 | ref p=>
  cases rx
  have e':(∃ xs,SqL X.K H p xs/\n=xs.length)\/∃ xs,SqT X.K H p xs/\n=xs.length:=e
  rcases e' with ⟨xs,hx,e'⟩ | ⟨xs,hx,e'⟩
  ·subst e'
   obtain ⟨its,r',pl,hz⟩:=I.list hx
   have hlen:=r'.length
   exact Calls.call_len_list pl.isList (by simp only [List.size_toArray]; omega) ⟨.int xs.length,H,I.tok _,⟨_,by simp only [List.size_toArray]; rw [hlen]⟩,q⟩
  ·subst e'
   obtain ⟨its,r',pl,hz⟩:=I.tuple hx
   have hlen:=r'.length
   exact len_tuple pl (by simp only [List.size_toArray]; omega) ⟨.int xs.length,H,I.tok _,⟨_,by simp only [List.size_toArray]; rw [hlen]⟩,q⟩
 | _=>exact (show False from e).elim
end
end L2
namespace L2
open PySem PySem.Spec PyProof.Rows
structure ObjM (h:Heap) (x dx C:Addr) (mA:Str->Option Value):Prop where
 obj:h.get? x=some (PySem.W.instObj C dx)
 ns:h.Ns1 dx mA
 ne:dx ≠ x
theorem wk {dx:Addr} (n:h.Ns1 dx mA):∃ od,h.get? dx=some od/\∀ name,PySem.W.lookIn name od=some (mA name):=by
 obtain ⟨o,es,ep,ho,hd,hk,_,hm⟩:=n
 refine ⟨o,ho,fun name=>?_⟩
 have e:=hm name
 unfold nsFind findBy at e
 rw [<- Array.find?_toList] at e
 unfold PySem.W.lookIn
 rw [hd]
 dsimp only
 split
 ·rename_i y q
  rw [q] at e
  exact congrArg some e
 ·rename_i q
  rw [q] at e
  have a:es.toList.any (·.refKey)=false:=by
   rw [List.any_eq_false]
   intro y hy
   obtain ⟨z,t,hkey⟩:=hk y (Array.mem_toList_iff.mp hy)
   simp [DictEntry.refKey,hkey]
  have a' : ¬ es.toList.any (·.refKey)=true:=by rw [a]; exact Bool.false_ne_true
  rw [if_neg a']
  exact congrArg some e
theorem ObjM.look {x dx:Addr} (I:ObjM h x dx C mA):∃ od,PySem.W.InstAt h x (PySem.W.instObj C dx) C (some od)/\∀ name,PySem.W.lookIn name od=some (mA name):=
 let ⟨od,ho,hl⟩:=wk I.ns
 ⟨od,⟨I.obj,rfl,rfl,ho⟩,hl⟩
section
variable {prog:Program} {w:World} {A:Around} {E:Value->Shared->Prop} {s:Shared} {K:PySem.W.Frag} {x dx C f:Addr} {mA:Str->Option Value} {name:Str} {v:Value}
theorem Bt {expr:Bool} {Q:Value->Shared->Prop} (X:K.In s.heap) (I:ObjM s.heap x dx C mA) (hg:PySem.W.plainGet K C name=true) (hh:PySem.W.hasDictIn K C=true)
 (ha:PySem.W.findIn K (.ref C) name=some none) (hv:mA name=some v) (hv':PySem.W.handedIn v=true) (h:Q v { s with toks:=s.toks+1 }) :
  wpAny (model prog w) A (getAttr (.ref x) name expr) Q E s:=by
 obtain ⟨od,J,hl⟩:=I.look
 exact PySem.W.get_value X J (PySem.W.plainGet_of hg).1 (PySem.W.findObj_own hh ha rfl (by rw [hl,hv])) hv' h
theorem xT {pl:Sem Bool} {Q:Value × List Value->Shared->Prop} (X:K.In s.heap) (I:ObjM s.heap x dx C mA) (hg:PySem.W.plainGet K C name=true)
 (hf:PySem.W.findIn K (.ref C) name=some (some (.ref f))) (ht:PySem.W.isFn K (.ref f)=true) (hv:mA name=none) (h:Q (.ref f,[.ref x]) s) :
  wpAny (model prog w) A (getMethod (.ref x) name pl) Q E s:=by
 obtain ⟨od,J,hl⟩:=I.look
 exact PySem.W.method_fn X J (PySem.W.plainGet_of hg).1 (PySem.W.plainGet_of hg).2 hf (beq_iff_eq.mp ht) (by show (PySem.W.lookIn name od).map (·.isSome)=some false; rw [hl,hv]; rfl) h
theorem Br {ns:List Str} {Q:Unit->Shared->Prop} (X:K.In s.heap) (I:ObjM s.heap x dx C mA)
 (hs:PySem.W.findIn K (.ref C) "__setattr__"=some (some (.builtin "object.__setattr__"))) (hp:PySem.W.plainOver K C=true) (ht:PySem.W.takerIn K C name=some none) (hh:PySem.W.hasDictIn K C=true)
 (hw:PySem.Within mA ns) (hsz:ns.length<=sizeLine)
 (h:∀ h',ObjM h' x dx C (fun y=>if y=name then some v else mA y)->Heap.SameBut dx s.heap h'->Q () { s with heap:=h',toks:=s.toks+2 }) :
  wpAny (model prog w) A (setAttr (.ref x) name v) Q E s:=by
 obtain ⟨od,J,hl⟩:=I.look
 refine PySem.W.set_plain X J hs (PySem.W.osa_open (s:={ s with toks:=s.toks+1 }) (r:=none) X J hp ht fun b=>?_)
 obtain ⟨cd,hc,hd'⟩:=PySem.W.any_some hh
 have hx:s.heap.get? x=some ⟨.ref C,some dx,.plain,#[]⟩:=I.obj
 refine wpAny_bind (wpAny_pure (wpAny_bind (wpAny_bind (wpAny_loadPart hx (wpAny_bind (PySem.W.Looks.here (s:={ s with toks:=s.toks+1 }) (PySem.W.looks_clsIn X hc) ?_))))))
 rw [hd']
 refine wpAny_pure (a:=some dx) (wpAny_bind (wpAny_pure (wpAny_bind ?_)))
 refine wpAny_nsSet1 (s:={ s with toks:=s.toks+1 }) I.ns fun h' hn2 hs2=>?_
 obtain ⟨oD,esD,epD,hoD,hdD,hcD⟩:=hn2.count (PySem.Within.cons name v hw)
 refine wpAny_bind (wpAny_lookBehind hoD (by rw [hdD]; exact pastItsLine_dict (Nat.le_trans hcD (by rw [List.length_cons]; omega))) ?_)
 exact wpAny_pure (h _ ⟨(hs2.2 _ (Ne.symm I.ne)).trans I.obj,hn2,I.ne⟩ hs2)
theorem xF {R:Result->Shared->Prop} {vs:List Value} {kw:List (Str × Value)} (X:K.In s.heap) (hm:PySem.W.makesIn K C=true)
 (hi:PySem.W.findIn K (.ref C) "__init__"=some (some (.ref f))) (hf:PySem.W.typeIn K (.ref f)=some (.type "function"))
 (h:codeAny (model prog w) (A.under (.builtin "type.__call__" ⟨.ref C::vs,kw⟩)) (.call (.ref f) ⟨.ref (s.heap.objs.size+1)::vs,kw⟩) (PySem.W.InitBack (s.heap.objs.size+1) R)
 { s with heap:=(s.heap.push PySem.W.emptyDict).push (PySem.W.instObj C s.heap.objs.size) }) :
  codeAny (model prog w) A (.call (.ref C) ⟨vs,kw⟩) R s:=by
 obtain ⟨hh,g,d,t,os⟩:=s
 exact PySem.W.make_core (PySem.W.makes_of X hm) (PySem.W.looks_findIn X hi) (fun self=>PySem.W.bind_fn X self hf) (.inl rfl) h
end
noncomputable def mB (f:Str) (v:V):List (Str × V)->List (Str × V)
 | []=>[(f,v)]
 | (g,x)::r=>if g=f then (g,v)::r else (g,x)::mB f v r
theorem lx (f g:Str) (v:V):∀ fs:List (Str × V),(mB f v fs).lookup g=if g=f then some v else fs.lookup g
 | []=>by
  show List.lookup g [(f,v)]=_
  by_cases h:g=f
  ·have hb:(g==f)=true:=beq_iff_eq.mpr h
   simp only [List.lookup,hb,if_pos h]
  ·have hb:(g==f)=false:=beq_eq_false_iff_ne.mpr h
   simp only [List.lookup,hb,if_neg h]
 | (k,x)::r=>by
  have ih:=lx f g v r
  rw [show mB f v ((k,x)::r)=(if k=f then (k,v)::r else (k,x)::mB f v r) from rfl]
  by_cases hk:k=f
  ·rw [if_pos hk]
   by_cases h:g=k
   ·have hb:(g==k)=true:=beq_iff_eq.mpr h
    simp only [List.lookup,hb,if_pos (h.trans hk)]
   ·have hb:(g==k)=false:=beq_eq_false_iff_ne.mpr h
    simp only [List.lookup,hb,if_neg (fun e:g=f=>h (e.trans hk.symm))]
  ·rw [if_neg hk]
   by_cases h:g=k
   ·have hb:(g==k)=true:=beq_iff_eq.mpr h
    simp only [List.lookup,hb,if_neg (fun e:g=f=>hk (h.symm.trans e))]
   ·have hb:(g==k)=false:=beq_eq_false_iff_ne.mpr h
    simp only [List.lookup,hb]
    exact ih
theorem lw (f:Str) (v:V):∀ fs:List (Str × V),f ∈ (mB f v fs).map (·.1)/\∀ g,g ∈ fs.map (·.1)->g ∈ (mB f v fs).map (·.1)
 | []=>⟨by simp [mB],fun g h=>by simp at h⟩
 | (k,x)::r=>by
  obtain ⟨i1,i2⟩:=lw f v r
  rw [show mB f v ((k,x)::r)=(if k=f then (k,v)::r else (k,x)::mB f v r) from rfl]
  by_cases hk:k=f
  ·rw [if_pos hk]
   subst hk
   exact ⟨by simp,fun g h=>by simpa using h⟩
  ·rw [if_neg hk]
   refine ⟨?_,fun g h=>?_⟩
   ·rw [List.map_cons]
    exact List.mem_cons_of_mem _ i1
   ·rw [List.map_cons] at h ⊢
    rcases List.mem_cons.mp h with e | e
    ·exact List.mem_cons.mpr (.inl e)
    ·exact List.mem_cons_of_mem _ (i2 g e)
theorem kN (f:Str) (v:V):∀ fs:List (Str × V),(mB f v fs).length<=fs.length+1
 | []=>by simp [mB]
 | (k,x)::r=>by
  have ih:=kN f v r
  rw [show mB f v ((k,x)::r)=(if k=f then (k,v)::r else (k,x)::mB f v r) from rfl]
  by_cases hk:k=f
  ·rw [if_pos hk,List.length_cons,List.length_cons]; omega
  ·rw [if_neg hk,List.length_cons,List.length_cons]; omega
theorem RelO.some_of {o:Option Value} (r:RelO (some v) o):∃ u,o=some u/\RelV v u:=by
 cases o with
 | none=>exact (show False from r).elim
 | some u=>exact ⟨u,rfl,r⟩
theorem RelO.none_of {o:Option Value} (r:RelO none o):o=none:=by
 cases o with
 | none=>rfl
 | some u=>exact (show False from r).elim
theorem wE (r:RelV v u):PySem.W.handedIn u=true:=by
 cases v with
 | non=>cases (show u=Value.none from r); rfl
 | bl b=>cases (show u=Value.bool b from r); rfl
 | int i=>obtain ⟨t,e⟩:=(show ∃ t,u=Value.int i t from r); cases e; rfl
 | str x=>obtain ⟨t,e⟩:=(show ∃ t,u=Value.str x t from r); cases e; rfl
 | byt b=>obtain ⟨t,e⟩:=(show ∃ t,u=Value.bytes b t from r); cases e; rfl
 | flt b=>obtain ⟨t,e⟩:=(show ∃ t,u=Value.float b t from r); cases e; rfl
 | ref a=>cases (show u=Value.ref a from r); rfl
 | ty n=>cases (show u=Value.type n from r); rfl
section
variable {P:Program} {w:World} {H H':Hp} {h h':Heap} {a C dx:Addr} {fs fs':List (Str × V)}
theorem sH (hok:HOk P w H h) (e:H a=some (.ins C dx fs)):∃ mA,ObjM h a dx C mA/\(∀ f,RelO (fs.lookup f) (mA f))/\PySem.Within mA (fs.map (·.1))/\fs.length<=1000/\H dx=some (.own a):=by
 obtain ⟨d,z,ne,ob,mA,n,r,q⟩:=(show ObjOk P w H h a (.ins C dx fs) from hok a _ e)
 exact ⟨mA,⟨ob,n,ne⟩,r,q,z,d⟩
end
structure Cls (K:PySem.W.Frag) (C:Addr):Prop where
 pg:PySem.W.plainGet K C Str.empty=true
 hd:PySem.W.hasDictIn K C=true
 po:PySem.W.plainOver K C=true
 sa:PySem.W.findIn K (.ref C) "__setattr__"=some (some (.builtin "object.__setattr__"))
theorem Cls.get {K:PySem.W.Frag} (c:Cls K C) (f:Str):PySem.W.plainGet K C f=true:=c.pg
noncomputable def NoAttr (K:PySem.W.Frag) (C:Addr) (f:Str):Prop:=PySem.W.findIn K (.ref C) f=some none
theorem NoAttr.taker {K:PySem.W.Frag} {f:Str} (n:NoAttr K C f):PySem.W.takerIn K C f=some none:=by
 unfold PySem.W.takerIn
 rw [show PySem.W.findIn K (.ref C) f=some none from n]
 rfl
structure Con (K:PySem.W.Frag) (C:Addr) (f:Str) (v:V) (u:Value):Prop where
 at_:PySem.W.findIn K (.ref C) f=some (some u)
 rel:RelV v u
 get:PySem.W.specialIn K u "__get__"=some none
 cp:PySem.W.copiedNames.contains f=false
structure Meth (K:PySem.W.Frag) (C:Addr) (m:Str) (f:Addr):Prop where
 at_:PySem.W.findIn K (.ref C) m=some (some (.ref f))
 fn:PySem.W.isFn K (.ref f)=true
 kp:PySem.W.keepIn K (.ref f)=true
section
variable {X:Cx} {pins:List (Addr × Obj)} {σ:St} {H:Hp} {s:Shared} {a C dx:Addr} {fs:List (Str × V)} {f:Str} {v:V} {A:Around} {E:Value->Shared->Prop}
theorem vd {b:Bool} {Q:Value->Shared->Prop} (I:Inv X pins σ H s) (e:H a=some (.ins C dx fs)) (c:Cls X.K C) (n:NoAttr X.K C f) (l:fs.lookup f=some v)
 (h:∀ u s',Inv X pins σ H s'->RelV v u->Q u s'):wpAny (model X.prog X.w) A (getAttr (.ref a) f b) Q E s:=by
 obtain ⟨mA,O,r,_,_,_⟩:=sH I.hok e
 obtain ⟨u,hu,ru⟩:=RelO.some_of (v:=v) (o:=mA f) (by rw [<- l]; exact r f)
 exact Bt I.kIn O (c.get f) c.hd n hu (wE ru) (h u _ (I.tok _) ru)
theorem eO {m:Str} {g:Addr} {pl:Sem Bool} {Q:Value × List Value->Shared->Prop} (I:Inv X pins σ H s) (e:H a=some (.ins C dx fs)) (c:Cls X.K C) (k:Meth X.K C m g) (l:fs.lookup m=none)
 (h:Q (.ref g,[.ref a]) s):wpAny (model X.prog X.w) A (getMethod (.ref a) m pl) Q E s:=by
 obtain ⟨mA,O,r,_,_,_⟩:=sH I.hok e
 have hn:mA m=none:=RelO.none_of (by rw [<- l]; exact r m)
 exact xT I.kIn O (c.get m) k.at_ k.fn hn h
theorem uP {y:V} {Q:Unit->Shared->Prop} (I:Inv X pins σ H s) (e:H a=some (.ins C dx fs)) (c:Cls X.K C) (n:NoAttr X.K C f) (hl:fs.length < 1000) (ry:RelV y u)
 (h:∀ s',Inv X pins σ (upd H a (.ins C dx (mB f y fs))) s'->Q () s'):wpAny (model X.prog X.w) A (setAttr (.ref a) f u) Q E s:=by
 obtain ⟨mA,O,r,wi,_,ho⟩:=sH I.hok e
 have hz:(fs.map (·.1)).length<=sizeLine:=by rw [List.length_map,sizeLine_eq]; omega
 refine Br I.kIn O c.sa c.po n.taker c.hd wi hz fun h' O' sb=>h _ ?_
 have hd:∃ o,h'.get? dx=some o:=let ⟨o,_,_,e',_⟩:=O'.ns; ⟨o,e'⟩
 refine I.write (x:=a) (e:=dx) (by rw [e]; exact True.intro) (.inr ho) (fun b q hb z=>(sb.2 b hb).trans z) hd ?_
 refine ⟨by rw [aR O.ne]; exact ho,?_,O.ne,O'.obj,_,O'.ns,fun g=>?_,fun g hg=>?_⟩
 ·have:=kN f y fs; omega
 ·show RelO ((mB f y fs).lookup g) (if g=f then some u else mA g)
  rw [lx]
  by_cases q:g=f
  ·rw [if_pos q,if_pos q]; exact ry
  ·rw [if_neg q,if_neg q]; exact r g
 ·by_cases q:g=f
  ·rw [q]; exact (lw f y fs).1
  ·refine (lw f y fs).2 g (wi g fun z=>hg ?_)
   show (if g=f then some u else mA g)=none
   rw [if_neg q]; exact z
theorem Inv.made (I:Inv X pins σ H s):Inv X pins σ (upd (upd H s.heap.objs.size (.own (s.heap.objs.size+1))) (s.heap.objs.size+1) (.ins C s.heap.objs.size []))
  { s with heap:=(s.heap.push PySem.W.emptyDict).push (PySem.W.instObj C s.heap.objs.size) }:=by
 have e1:(s.heap.push PySem.W.emptyDict).get? s.heap.objs.size=some PySem.W.emptyDict:=Heap.get?_push_size s.heap rfl
 have e2:((s.heap.push PySem.W.emptyDict).push (PySem.W.instObj C s.heap.objs.size)).get? (s.heap.objs.size+1)=some (PySem.W.instObj C s.heap.objs.size):=by
  have:=Heap.get?_push_size (s.heap.push PySem.W.emptyDict) (o:=PySem.W.instObj C s.heap.objs.size) rfl
  rwa [Heap.size_push] at this
 have e3:(s.heap.push PySem.W.emptyDict).Ns s.heap.objs.size (fun _=>none):=⟨PySem.W.emptyDict,#[],_,e1,rfl,(fun e he=>absurd he (by simp)),fun _=>rfl⟩
 have I1:=I.laid (a:=s.heap.objs.size) (o:=.own (s.heap.objs.size+1)) (h':=s.heap.push PySem.W.emptyDict) (t':=s.toks) (fun b u q=>Heap.get?_push_of_some _ q) (Nat.le_refl _) ⟨_,e1⟩
 refine I1.laid (a:=s.heap.objs.size+1) (o:=.ins C s.heap.objs.size []) (t':=s.toks) (fun b u q=>Heap.get?_push_of_some _ q) (Nat.le_of_eq (Heap.size_push _ _)) ?_
 have ne:s.heap.objs.size ≠ s.heap.objs.size+1:=Nat.ne_of_lt (Nat.lt_succ_self _)
 refine ⟨by rw [aR ne,bf],Nat.zero_le _,ne,e2,fun _=>none,(Heap.Ns1.of_empty e3).at fun o q=>Heap.get?_push_of_some _ q,fun _=>True.intro,fun y hy=>absurd rfl hy⟩
theorem Bj {prog:Program} {w:World} {env:Env} {e:Expr} {f:Str} {Q:Value->Shared->Prop} (hb:attributeBase e f env (eval e env)=eval e env)
 (h:wpAny (model prog w) A (eval e env) (fun o s₁=>wpAny (model prog w) A (getAttr o f true) Q E s₁) E s):wpAny (model prog w) A (eval (.Attribute e f pos) env) Q E s:=
 Attribute_any_ h (by rw [arm_eval_Attribute,hb])
end
noncomputable def GZ (K:PySem.W.Frag) (ta:TE) (f:Str):TE:=fun σ H Q=>ta σ H fun x H1=>∃ a C dx fs v,x=.ref a/\H1 a=some (.ins C dx fs)/\Cls K C/\NoAttr K C f/\fs.lookup f=some v/\Q v H1
noncomputable def Gs (K:PySem.W.Frag) (ta tv:TE) (f:Str):TS:=fun D σ H=>tv σ H fun y H1=>ta σ H1 fun x H2=>∃ a C dx fs,x=.ref a/\H2 a=some (.ins C dx fs)/\Cls K C/\NoAttr K C f/\fs.length < 1000/\
 D.nx σ (upd H2 a (.ins C dx (mB f y fs)))
section
variable {X:Cx} {o e value:Expr} {f:Str} {pos pos' tpos:Pos} {ta tv:TE}
theorem sX (he:PE X e ta) (hb:attributeBase e f X.env (eval e X.env)=eval e X.env):PE X (.Attribute e f pos) (GZ X.K ta f):=by
 intro pins s σ H Q I h
 refine Bj hb (thn (he pins s σ H _ I h) fun u s1 ⟨x,H1,I1,rx,a,C,dx,fs,v,ex,ea,c,n,l,q⟩=>?_)
 subst ex
 obtain rfl:u=Value.ref a:=rx
 exact vd I1 ea c n l fun u' s2 I2 ru=>⟨v,H1,I2,ru,q⟩
theorem C5 (ha:PE X o ta) (hv:PE X value tv) (hs:swapsWith value (some (.Attribute o f pos')) pos.line X.env=pure false):PS X (.Assign [.Attribute o f pos'] value pos) (Gs X.K ta tv f):=by
 intro pins s σ H D I h
 refine plainObj_wpAny_Assign_Attribute (thn (hv pins s σ H _ I h) fun u s1 ⟨y,H1,I1,ry,q⟩=>thn (ha pins s1 σ H1 _ I1 q) fun ov s2 ⟨x,H2,I2,rx,a,C,dx,fs,ex,ea,c,n,l,q2⟩=>?_) hs
 subst ex
 obtain rfl:ov=Value.ref a:=rx
 exact uP I2 ea c n l ry fun s3 I3=>⟨σ,_,I3,q2⟩
end
section
variable {X:Cx} {pins:List (Addr × Obj)} {σ:St} {H:Hp} {s:Shared} {A:Around} {E:Value->Shared->Prop} {Q:Value->Shared->Prop} {c:Value} {b:Bool}
inductive TyOf (K:PySem.W.Frag) (H:Hp):V->Value->Prop where
 | non:TyOf K H .non (.type "NoneType")
 | bl (x:Bool):TyOf K H (.bl x) (.type "bool")
 | int (i:Int):TyOf K H (.int i) (.type "int")
 | str (x:Str):TyOf K H (.str x) (.type "str")
 | flt (x:UInt64):TyOf K H (.flt x) (.type "float")
 | lst {a:Addr} {xs:List V} (e:H a=some (.lst xs)):TyOf K H (.ref a) (.type "list")
 | frz {a:Addr} {o:Obj} {xs:List V} (e:H a=some (.frz o (.lst xs))):TyOf K H (.ref a) (.type "list")
 | tup {a:Addr} {xs:List V} (e:H a=some (.tup xs)):TyOf K H (.ref a) (.type "tuple")
 | dK {a:Addr} {kvs:List (Key × V)} (e:H a=some (.dK kvs)):TyOf K H (.ref a) (.type "dict")
 | dT {a:Addr} {kvs:List (List Key × V)} (e:H a=some (.dT kvs)):TyOf K H (.ref a) (.type "dict")
 | ins {a C dx:Addr} {fs:List (Str × V)} (e:H a=some (.ins C dx fs)) (cl:Cls K C) (ha:PySem.W.findIn K (.ref C) "__class__"=some (some (.builtin "object.__class__")))
   (hn:PySem.W.specialIn K (.builtin "object.__class__") "__get__"=some (some (.builtin "getset_descriptor.__get__"))) (htk:PySem.W.takesIn K (.builtin "object.__class__")=some true)
   (hm:PySem.W.mroIn K C (.type "object")=some true):TyOf K H (.ref a) (.ref C)
end
end L2
namespace L2
open PySem PySem.Spec PyProof.Rows
structure Room (k:Nat) (A:Around):Prop where
 hd:A.handled=none
 dp:A.depth+3 * k+5 < recursionLimit
 un:A.units+16 * k+200 < cLine
theorem Room.mono {A:Around} (r:Room k A) (h:j<=k):Room j A:=⟨r.hd,by have:=r.dp; omega,by have:=r.un; omega⟩
theorem Room.deeper {A:Around} (r:Room (k+1) A) (env:Env):Room k (A.deeper env):=
 ⟨r.hd,by have:=r.dp; show A.depth+1+3 * k+5 < _; omega,by have:=r.un; show A.units+3+16 * k+200 < _; omega⟩
theorem uZ {A:Around} {kw:List (Str × Value)}:(A.under (.builtin "type.__call__" ⟨.ref C::us,kw⟩)).depth=A.depth+1:=by
 first | rfl | simp [Around.under,Code.weight,Code.isCreation,Code.isGuard,Code.isCaller,Code.frames,Code.isFrame,guardIds]
theorem vj {A:Around} {kw:List (Str × Value)}:(A.under (.builtin "type.__call__" ⟨.ref C::us,kw⟩)).units=A.units+1:=by
 first | rfl | simp [Around.under,Code.cUnits,Code.frames,Code.isFrame]
theorem Room.make {A:Around} (r:Room (k+1) A) (C:Addr) (us:List Value) (kw:List (Str × Value)):Room k (A.under (.builtin "type.__call__" ⟨.ref C::us,kw⟩)):=
 ⟨r.hd,by have:=r.dp; rw [uZ]; omega,by have:=r.un; rw [vj]; omega⟩
theorem Room.depth {A:Around} (r:Room k A):A.depth < recursionLimit:=by have:=r.dp; omega
theorem Room.units {A:Around} (r:Room k A):A.units+64 < cLine:=by have:=r.un; omega
noncomputable def GX:TA:=fun _ H Q=>Q [] H
noncomputable def FP (ta:TE) (tr:TA):TA:=fun σ H Q=>ta σ H fun x H1=>tr σ H1 fun xs H2=>Q (x::xs) H2
section
variable {X:Cx} {e:Expr} {es:List Expr} {te:TE} {t:TA} {pos:Pos}
theorem ll:PA X [] GX:=fun _ _ _ _ H Q I h=>Calls.spliced_nil ⟨[],H,I,.nil,h⟩
theorem eX (ha:PE X e te) (hr:PA X es t) (hs:starEach (e::es) X.env=(false,eval e X.env)::starEach es X.env:=by rfl):PA X (e::es) (FP te t):=by
 intro pos pins s σ H Q I h
 rw [hs]
 show wpAny _ _ (spliced ((false,eval e X.env)::backTo pos (starEach es X.env))) _ _ s
 refine Calls.spliced_cons (thn (ha pins s σ H _ I h) fun u s1 ⟨x,H1,I1,r1,q1⟩=>?_)
 exact thn (hr pos pins s1 σ H1 _ I1 q1) fun us s2 ⟨xs,H2,I2,r2,q2⟩=>⟨x::xs,H2,I2,.cons r1 r2,q2⟩
noncomputable def Gy (t:TA):TE:=fun σ H Q=>t σ H fun xs H1=>xs.length<=sizeLine/\∀ p,H1 p=none->Q (.ref p) (upd H1 p (.tup xs))
noncomputable def GR (t:TA):TE:=fun σ H Q=>t σ H fun xs H1=>xs.length<=sizeLine/\∀ p,H1 p=none->Q (.ref p) (upd H1 p (.lst xs))
theorem B0 {x1} (h:PA X es t):PE X (.Tuple es x1 pos) (Gy t):=by
 intro pins s σ H Q I hq
 refine wpAny_Tuple_spliced (thn (h pos pins s σ H _ I hq) fun us s1 ⟨xs,H1,I1,r,z,q⟩=>⟨by rw [<- r.length]; exact z,?_⟩)
 have hf:H1 s1.heap.objs.size=none:=I1.hok.fresh (Nat.le_refl _)
 refine ⟨.ref s1.heap.objs.size,upd H1 s1.heap.objs.size (.tup xs),I1.laid (t':=s1.toks) (fun b u e=>Heap.get?_push_of_some _ e) (Nat.le_refl _) ?_,rfl,q _ hf⟩
 exact ⟨z,us,r,⟨_,Heap.get?_push_size _ rfl,rfl,_,rfl⟩⟩
theorem D1 (h:PA X es t):PE X (.List es pos) (GR t):=by
 intro pins s σ H Q I hq
 refine wpAny_List_spliced (thn (h pos pins s σ H _ I hq) fun us s1 ⟨xs,H1,I1,r,z,q⟩=>⟨by rw [<- r.length]; exact z,?_⟩)
 have hf:H1 s1.heap.objs.size=none:=I1.hok.fresh (Nat.le_refl _)
 refine ⟨.ref s1.heap.objs.size,upd H1 s1.heap.objs.size (.lst xs),I1.laid (t':=s1.toks) (fun b u e=>Heap.get?_push_of_some _ e) (Nat.le_refl _) ?_,rfl,q _ hf⟩
 exact ⟨z,us,0,r,Heap.get?_push_size _ rfl⟩
end
noncomputable abbrev Sp:=List V->Hp->VK->XK->Prop
noncomputable abbrev CXT:=List Env->Hp->Shared->XK->Value->Shared->Prop
structure Env0 (P:Program) (w:World) (K:PySem.W.Frag) (mg:Str->Option Value) (base:Heap) (A:Around) (outer:List Env) (s:Shared) (H:Hp):Prop where
 frames:A.frames=some outer
 mod:Mod K mg base
 bs:∀ b o,base.get? b=some o->s.heap.get? b=some o/\H b=none
 bsz:base.objs.size<=s.heap.objs.size
 funs:s.heap.FunFrames base outer
 frf:∀ b ∈ frs outer,H b=none
 hok:HOk P w H s.heap
 bare:AllBare s.gens
 tabs:TabsIn base H
noncomputable def CE (outer:List Env) (P:Program) (w:World) (H:Hp) (s:Shared) (Q:VK) (u:Value) (s':Shared):Prop:=
 ∃ v H',s'.os=s.os/\AllBare s'.gens/\Un (frs outer) [] H H' s.heap s'.heap/\HOk P w H' s'.heap/\RelV v u/\Q v H'
noncomputable def CR (CX:CXT) (outer:List Env) (P:Program) (w:World) (H:Hp) (s:Shared) (Q:VK) (E:XK) (r:Result) (s':Shared):Prop:=
 match r with
 | .ok (.ret u)=>CE outer P w H s Q u s'
 | .ok _=>False
 | .error e=>CX outer H s E e s'
structure FnOk (P:Program) (w:World) (K:PySem.W.Frag) (mg:Str->Option Value) (base:Heap) (CX:CXT) (k:Nat) (f:Addr) (fd:FuncData) (ps:List Str) (sp:Sp):Prop where
 len:∀ vs H Q E,sp vs H Q E->vs.length=ps.length
 run:∀ (A:Around) (outer:List Env) (s:Shared) (H:Hp) (args:Args) (us:List Value) (vs:List V) (Q:VK) (E:XK),Room k A->Env0 P w K mg base A outer s H->BindsTo s fd args (ps.zip us)->Vals vs us->sp vs H Q E->
  codeAny (model P w) A (.call (.ref f) args) (CR CX outer P w H s Q E) s
theorem FnOk.imp {w:World} {K:PySem.W.Frag} {mg:Str->Option Value} {base:Heap} {CX:CXT} {sp sp':Sp} (F:FnOk P w K mg base CX k f fd ps sp)
 (h:∀ vs H Q E,sp' vs H Q E->sp vs H Q E):FnOk P w K mg base CX k f fd ps sp':=
 ⟨fun vs H Q E q=>F.len vs H Q E (h _ _ _ _ q),fun A outer s H args us vs Q E hr he hb hv hs=>F.run A outer s H args us vs Q E hr he hb hv (h _ _ _ _ hs)⟩
theorem Env0.make {w:World} {K:PySem.W.Frag} {mg:Str->Option Value} {base:Heap} {A:Around} {outer:List Env} (e:Env0 P w K mg base A outer s H) (C:Addr) (us:List Value) (kw:List (Str × Value)) :
  Env0 P w K mg base (A.under (.builtin "type.__call__" ⟨.ref C::us,kw⟩)) outer s H:=⟨by first | exact e.frames | (simpa [Around.under,Code.envs,Code.isFrame,pushEnvs] using e.frames),e.mod,e.bs,e.bsz,e.funs,e.frf,e.hok,e.bare,e.tabs⟩
section
variable {X:Cx} {pins:List (Addr × Obj)} {σ:St} {H:Hp} {s s':Shared}
theorem Inv.env0 (I:Inv X pins σ H s):Env0 X.prog X.w X.K X.mg X.base X.A X.stack s H:=
 ⟨I.ok.frames,I.ok.mod,I.bs,Nat.le_trans I.ok.bsz I.sz,I.stack,I.stkFree,I.hok,I.bare,I.ok.tabs.un I.base⟩
theorem Inv.after {Q:VK} (I:Inv X pins σ H s) (h:CE X.stack X.prog X.w H s Q u s'):EP X pins σ Q u s':=by
 obtain ⟨v,H',os,bare,un,hok,r,q⟩:=h
 obtain ⟨hh,g,d,t,os'⟩:=s'
 obtain rfl:os'=s.os:=os
 exact ⟨v,H',I.call (h':=hh) (g':=g) (d':=d) (t':=t) (ch:=[]) un hok bare (fun b z=>absurd z (by simp)),r,q⟩
end
noncomputable def Binds (K:PySem.W.Frag) (fd:FuncData) (ps:List Str) (ds:List Value):Prop:=
 ∀ (s:Shared) (us:List Value),K.In s.heap->(us++ds).length=ps.length->BindsTo s fd ⟨us,[]⟩ (ps.zip (us++ds))
theorem Binds.all {K:PySem.W.Frag} (h:∀ us:List Value,us.length=ps.length->bindArgs fd ⟨us,[]⟩=pure (ps.zip us)):Binds K fd ps []:=fun s us _ hl=>by
 rw [List.append_nil] at hl ⊢
 exact .of_eq (h us hl)
section
variable {X:Cx} {CX:CXT} {k:Nat} {f C:Addr} {fd:FuncData} {ps:List Str} {sp:Sp} {dvs:List V} {ds:List Value} {E:XK} {x m:Str} {p pos apos:Pos} {e o:Expr} {es:List Expr} {ta:TE} {t:TA}
structure Mk (K:PySem.W.Frag) (C f:Addr):Prop where
 makes:PySem.W.makesIn K C=true
 init:PySem.W.findIn K (.ref C) "__init__"=some (some (.ref f))
 fn:PySem.W.isFn K (.ref f)=true
 kp:PySem.W.keepIn K (.ref C)=true
end
section
variable {X:Cx} {CX:CXT} {k:Nat} {f C:Addr} {fd:FuncData} {ps ks:List Str} {sp:Sp} {E:XK} {x m:Str} {p pos apos kpos:Pos} {e o:Expr} {es:List Expr} {kws:List Keyword} {te ta:TE} {t tk:TA} {nm:Option Str}
structure KBinds (K:PySem.W.Frag) (fd:FuncData) (ps ks:List Str) (g:List Value->List Value->List Value) (gV:List V->List V->List V):Prop where
 to:∀ (s:Shared) (us ws:List Value),K.In s.heap->(g us ws).length=ps.length->BindsTo s fd ⟨us,ks.zip ws⟩ (ps.zip (g us ws))
 rel:∀ {vs:List V} {us:List Value} {zs:List V} {ws:List Value},Vals vs us->Vals zs ws->Vals (gV vs zs) (g us ws)
variable {g:List Value->List Value->List Value} {gV:List V->List V->List V}
end
structure FnScope (N P:List Str) (sc:Scope):Prop where
 kind:sc.kind=.function
 co:sc.isCoroutine=false
 gen:sc.isGenerator=false
 nd:N.Nodup
 pre:N.take P.length=P
 par:∀ x ∈ P,sc.names.lookup x=some .local\/sc.names.lookup x=some .cell
 nofree:∀ y ∈ sc.names,y.2 ≠ .free
theorem pL {kindOf:Str->Option NameKind} {x:Str}:∀ {binds:List (Str × Value)} {m:Str->Option Value},(∀ v,(x,v) ∉ binds)->bindL kindOf binds m x=m x
 | [],_,_=>rfl
 | (n,v)::r,m,h=>by
  unfold bindL
  rw [pL fun w hw=>h w (List.mem_cons_of_mem _ hw)]
  split
  ·have:x ≠ n:=by rintro rfl; exact h v List.mem_cons_self
   simp [this]
  ·rfl
theorem oG {kindOf:Str->Option NameKind} {x:Str}:∀ {binds:List (Str × Value)} {m:Str->Option Value},(∀ v,(x,v) ∉ binds)->bindC kindOf binds m x=m x
 | [],_,_=>rfl
 | (n,v)::r,m,h=>by
  unfold bindC
  rw [oG fun w hw=>h w (List.mem_cons_of_mem _ hw)]
  split
  ·rfl
  ·have:x ≠ n:=by rintro rfl; exact h v List.mem_cons_self
   simp [this]
theorem pJ {kindOf:Str->Option NameKind} {x:Str} {v:Value}:∀ {P:List Str} {vs:List Value} {i:Nat} {m:Str->Option Value},P.Nodup->P[i]?=some x->vs[i]?=some v->kindOf x=some .local->
  bindL kindOf (P.zip vs) m x=some v
 | [],_,_,_,_,h,_,_=>by simp at h
 | _::_,[],_,_,_,_,h,_=>by simp at h
 | p::P,w::vs,0,m,nd,h1,h2,hk=>by
  simp at h1 h2; subst h1; subst h2
  show bindL kindOf ((p,w)::P.zip vs) m p=_
  unfold bindL
  rw [pL fun v hv=>(List.nodup_cons.mp nd).1 (List.of_mem_zip hv).1,if_pos hk]
  simp
 | p::P,w::vs,i+1,m,nd,h1,h2,hk=>by
  show bindL kindOf ((p,w)::P.zip vs) m x=_
  unfold bindL
  exact pJ (i:=i) (List.nodup_cons.mp nd).2 (by simpa using h1) (by simpa using h2) hk
theorem ph {kindOf:Str->Option NameKind} {x:Str} {v:Value}:∀ {P:List Str} {vs:List Value} {i:Nat} {m:Str->Option Value},P.Nodup->P[i]?=some x->vs[i]?=some v->kindOf x ≠ some .local->
  bindC kindOf (P.zip vs) m x=some v
 | [],_,_,_,_,h,_,_=>by simp at h
 | _::_,[],_,_,_,_,h,_=>by simp at h
 | p::P,w::vs,0,m,nd,h1,h2,hk=>by
  simp at h1 h2; subst h1; subst h2
  show bindC kindOf ((p,w)::P.zip vs) m p=_
  unfold bindC
  rw [oG fun v hv=>(List.nodup_cons.mp nd).1 (List.of_mem_zip hv).1,if_neg hk]
  simp
 | p::P,w::vs,i+1,m,nd,h1,h2,hk=>by
  show bindC kindOf ((p,w)::P.zip vs) m x=_
  unfold bindC
  exact ph (i:=i) (List.nodup_cons.mp nd).2 (by simpa using h1) (by simpa using h2) hk
noncomputable def eF (N:List Str) (vs:List V):St:=vs.map some++List.replicate (N.length - vs.length) none
noncomputable def cD (CX:CXT) (P:Program) (w:World) (K:PySem.W.Frag) (mg:Str->Option Value) (base:Heap) (N:List Str) (qual:Str) (scope:Scope) (f:Addr) (cd:Value) (A:Around) (outer:List Env) (s:Shared) (H:Hp) (E:XK):Cx where
 prog:=P
 w:=w
 K:=K
 mg:=mg
 base:=base
 A:=A.deeper (envOfC qual scope s.heap.objs.size f cd)
 N:=N
 s₀:=s
 H₀:=H
 env:=envOfC qual scope s.heap.objs.size f cd
 outer:=outer
 stack:=envOfC qual scope s.heap.objs.size f cd::outer
 ex:=[]
 calm:=true
 fn:=fun _=>true
 pn:=[]
 xe:=fun e s'=>wpAny (model P w) (A.deeper (envOfC qual scope s.heap.objs.size f cd)) (leaving (envOfC qual scope s.heap.objs.size f cd) e) (fun _ s''=>CX outer H s E e s'') (fun e' s''=>CX outer H s E e' s'') s'
theorem ul {sc:Scope} (h:sc.names.lookup x=some .cell):∃ c,(cellsFrom n sc.names []).lookup x=some c:=by
 have q:=PySem.W.cellsFrom_some sc.names n [] (.inl h)
 exact Option.isSome_iff_exists.mp q
theorem lm {CX:CXT} {w:World} {K:PySem.W.Frag} {mg:Str->Option Value} {base:Heap} {N:List Str} {A:Around} {outer:List Env} {s1:Shared} {E:XK}
 (S:FnScope N ps scope) (hd:A.handled=none) (e0:Env0 P w K mg base A outer s H) (hl:vs.length=ps.length) (r:Vals vs us)
 (x:InCallC s s.heap.objs.size (bindL (envOfC qual scope s.heap.objs.size f cd).kindOf (ps.zip us) fun _=>none) (cellsFrom (s.heap.objs.size+1) scope.names []) (bindC (envOfC qual scope s.heap.objs.size f cd).kindOf (ps.zip us) fun _=>none) s1) :
  Inv (cD CX P w K mg base N qual scope f cd A outer s H E) [] (eF N vs) H s1:=by
 have hpl:ps.length<=N.length:=by have:=congrArg List.length S.pre; rw [List.length_take] at this; omega
 obtain ⟨h1,tk,rfl,hk⟩:=x.done
 have noA:∀ b:Addr,b ∉ (cD CX P w K mg base N qual scope f cd A outer s H E).ex:=fun b z=>absurd (show b ∈ ([]:List Addr) from z) (by simp)
 refine ⟨⟨e0.mod,S.kind,rfl,rfl,Nat.le_refl _,fun y z c h1 h2=>?_,fun y hy=>?_,fun y c _ h=>?_,fun _=>hd,Around.frames_deeper e0.frames,.inr ⟨rfl,rfl⟩,fun b z=>absurd z (noA b),e0.bs,e0.bsz,fun b _ _=>noA b,fun b z=>absurd z (noA b),e0.funs,e0.frf,e0.tabs⟩,
  rfl,e0.bare,Un.kept hk,⟨_,x.toInCall.ns,fun i y v h1 h2 h3=>?_⟩,fun y c h=>⟨_,x.cell y c h⟩,e0.hok.fresh (Nat.le_refl _),fun y c h=>?_,fun p hp=>absurd (show p ∈ ([]:List (Addr × Obj)) from hp) (by simp),e0.hok.kept hk,?_⟩
 ·exact name_of_addr x.apart (PySem.mem_of_lookup h1) (PySem.mem_of_lookup h2)
 ·have hy:scope.names.lookup y=some .cell\/scope.names.lookup y=some .free:=hy
  rcases hy with hy | hy
  ·exact ul hy
  ·exact absurd rfl (S.nofree _ (PySem.mem_of_lookup hy))
 ·exact Nat.le_of_lt (x.above y c (PySem.mem_of_lookup h))
 ·have hi:i < vs.length:=by
   unfold eF at h2
   by_cases hi:i < vs.length
   ·exact hi
   ·rw [List.getElem?_append_right (by simpa using hi)] at h2
    rw [List.getElem?_replicate] at h2
    split at h2 <;> cases h2
  have ha:vs[i]?=some v:=by
   unfold eF at h2
   rw [List.getElem?_append_left (by simpa using hi),List.getElem?_map] at h2
   cases e:vs[i]? with
   | none=>rw [e] at h2; cases h2
   | some a=>rw [e] at h2; cases h2; rfl
  obtain ⟨u,hu,rv⟩:=r.get ha
  have hp:ps[i]?=some y:=by
   rw [<- S.pre,List.getElem?_take_of_lt (by omega)]; exact h1
  have ndP:ps.Nodup:=by rw [<- S.pre]; exact S.nd.sublist (List.take_sublist _ _)
  refine ⟨u,rv,?_⟩
  rcases S.par y (List.mem_of_getElem? hp) with k | k
  ·exact .inl ⟨k,pJ ndP hp hu k⟩
  ·obtain ⟨c,e⟩:=ul (n:=s.heap.objs.size+1) k
   refine .inr ⟨.inl k,c,e,?_⟩
   have q:=x.cell y c e
   rw [ph ndP hp hu (by show scope.names.lookup y ≠ _; rw [k]; decide)] at q
   exact q
 ·exact e0.hok.fresh (Nat.le_of_lt (x.above y c (PySem.mem_of_lookup h)))
 ·unfold eF
  show _=N.length
  rw [List.length_append,List.length_map,List.length_replicate]
  omega
theorem Ae {CX:CXT} {w:World} {K:PySem.W.Frag} {mg:Str->Option Value} {base:Heap} {dV kV ct:Value}
 {N:List Str} {sp:Sp} (lk:K.lookup f=some ⟨oc,od,.func (PySem.W.fnOf name qual params body scope dV kV doc pm an cdv ct),osl⟩) (hcd:PySem.W.codeIn K cdv qual=true) (S:FnScope N ps scope)
 (len:∀ vs H Q E,sp vs H Q E->vs.length=ps.length)
 (hbody:∀ (A:Around) (outer:List Env) (s:Shared) (H:Hp) (vs:List V) (Q:VK) (E:XK),Room k (A.deeper (envOfC qual scope s.heap.objs.size f cdv))->sp vs H Q E->
 ∃ t,PSs (cD CX P w K mg base N qual scope f cdv A outer s H E) body t/\t { nx:=fun _ H'=>Q .non H',rt:=Q } (eF N vs) H) :
  FnOk P w K mg base CX (k+1) f (PySem.W.fnOf name qual params body scope dV kV doc pm an cdv ct) ps sp:=by
 refine ⟨len,fun A outer s H args us vs Q E hr e0 hb r hsp=>?_⟩
 have hl:=len _ _ _ _ hsp
 have KX:K.In s.heap:=e0.mod.kin.keeps fun b o e=>(e0.bs b o e).1
 have lim:s.heap.NoLimit:=e0.mod.nolimit.keeps fun b o e=>(e0.bs b o e).1
 have hkind:∀ y ∈ ps.zip us,scope.names.lookup y.1=some .local\/(scope.names.lookup y.1=some .cell/\((cellsFrom (s.heap.objs.size+1) scope.names []).lookup y.1).isSome=true):=fun ⟨n,v⟩ hy=>by
  rcases S.par n (List.of_mem_zip hy).1 with q | q
  ·exact .inl q
  ·exact .inr ⟨q,PySem.W.cellsFrom_some _ _ _ (.inl q)⟩
 refine codeAny_call_function hr.depth (KX _ _ lk) rfl S.co S.gen rfl (PySem.W.codeRec_of KX hcd) (hb _ _ _ _ ?_)
 refine wpAny_newFunctionEnv_cells S.kind hkind fun env he s1 x=>?_
 subst he
 refine ⟨lim.keeps x.toInCall.keep,codeAny_func ?_⟩
 obtain ⟨t,ht,hq⟩:=hbody A outer s H vs Q E (hr.deeper _) hsp
 have I:Inv (cD CX P w K mg base N qual scope f cdv A outer s H E) [] (eF N vs) H s1:=lm S hr.hd e0 hl r x
 refine wpAny_mono (ht [] s1 (eF N vs) H _ I hq) (fun fl s' hs=>?_) fun e s' hs=>hs
 have fin:∀ {σ':St} {H':Hp} {v:V} {u:Value},Inv (cD CX P w K mg base N qual scope f cdv A outer s H E) [] σ' H' s'->RelV v u->Q v H'->CE outer P w H s Q u s':=
  fun {σ' H' v u} J rv q=>⟨v,H',J.os,J.bare,J.base,J.hok,rv,q⟩
 cases fl with
 | ret u=>
  obtain ⟨v,σ',H',J,rv,q⟩:=hs
  exact fin J rv q
 | next=>
  obtain ⟨σ',H',J,q⟩:=hs
  exact fin (v:=V.non) (u:=Value.none) J rfl q
 | brk=>
  obtain ⟨_,_,_,q⟩:=hs
  exact False.elim q
 | cont=>
  obtain ⟨_,_,_,q⟩:=hs
  exact False.elim q
end L2
variable {CX:L2.CXT}
namespace L2
open PySem PySem.Spec PyProof.Rows
section
variable {X:Cx} {x:Str} {p pos:Pos} {e:Expr} {es:List Expr} {t:TA} {id T:String} {r:List V->Hp->VK->Prop}
noncomputable def tCB (r:List V->Hp->VK->Prop) (t:TA):TE:=fun σ H Q=>t σ H fun vs H1=>r vs H1 Q
theorem jK (hc:kK X (.builtin id) r) (hg:Gl X x) (hm:X.mg x=none) (hv:bootBuiltins x=some (.builtin id)) (ha:PA X (e::es) t) (hn:x ≠ "__name__":=by decide) (hdb:(x==("__debug__":Str))=false:=by decide)
 (he:starEach (e::es) X.env=(false,eval e X.env)::starEach es X.env:=by rfl) (hpl:(backTo pos (starEach es X.env)).any (·.1)=false:=by rfl):PE X (.Call (.Name x p) (e::es) [] pos) (tCB r t):=by
 intro pins s σ H Q I h
 refine wpAny_Call_Name_kw (um I hg hm hv ?_ hn hdb)
 exact PyProof.Rows.callWith_builtin1 (thn (ha pos pins s σ H _ I h) fun us s1 ⟨vs,H1,I1,r1,q1⟩=>hc pins s1 σ H1 vs us Q I1 r1 q1) he hpl
theorem wK (hc:kK X (.type T) r) (hg:Gl X x) (hm:X.mg x=none) (hv:bootBuiltins x=some (.type T)) (ha:PA X (e::es) t) (hn:x ≠ "__name__":=by decide) (hdb:(x==("__debug__":Str))=false:=by decide)
 (he:starEach (e::es) X.env=(false,eval e X.env)::starEach es X.env:=by rfl) (hpl:(backTo pos (starEach es X.env)).any (·.1)=false:=by rfl):PE X (.Call (.Name x p) (e::es) [] pos) (tCB r t):=by
 intro pins s σ H Q I h
 refine wpAny_Call_Name_kw (um I hg hm hv ?_ hn hdb)
 exact PyProof.Rows.callWith_type1 (thn (ha pos pins s σ H _ I h) fun us s1 ⟨vs,H1,I1,r1,q1⟩=>hc pins s1 σ H1 vs us Q I1 r1 q1) he hpl
end
end L2
namespace HT
open PySem PyProof.Rows
section
open PySem.SeqAt
open PySem.AutoSeq1 (wpAny_loadPart')
open PySem.MeetsSeq PySem.MeetsSeq2 PySem.MeetsSeq3
end
section
variable {prog:Program} {w:World} {A:Around} {E:Value->Shared->Prop} {s:Shared}
theorem cat_tup {t:Addr} {vs ws:List Value} {Q:Value->Shared->Prop} (ht:IsTup s.heap t vs.toArray) (hb:IsTup s.heap b ws.toArray) (hv:vs ≠ [])
 (h1:ws=[]->Q (.ref t) s) (h2:ws ≠ []->Q (.ref s.heap.objs.size) { s with heap:=s.heap.push { cls:=.type "tuple",data:=.seq (vs++ws).toArray } })
 (hsz:vs.length+ws.length<=sizeLine):wpAny (model prog w) A (binaryOp .Add (.ref t) (.ref b)) Q E s:=by
 obtain ⟨⟨cls,dd,data,sl⟩,ho,hc,n,hd⟩:=id ht
 obtain ⟨⟨cls2,dd2,data2,sl2⟩,ho2,hc2,n2,hd2⟩:=id hb
 simp only at hc hd hc2 hd2
 subst hc hd hc2 hd2
 have e:vs.toArray++ws.toArray=(vs++ws).toArray:=by simp
 by_cases hw:ws=[]
 ·exact concat_meets ⟨_,ho,rfl⟩ ⟨_,ho2,rfl⟩ noFill_tuple_add seq_tuple_add PySem.F.slot_tuple_add PySem.F.entry_tuple_add (PySem.F.args_tuple_add_2 _ _)
   (tuple_addW1 t b vs.toArray ws.toArray n n2 dd dd2 sl sl2 (by simpa using hv) (by simp [hw])) ⟨ho,ho2,h1 hw⟩
 ·refine concat_meets ⟨_,ho,rfl⟩ ⟨_,ho2,rfl⟩ noFill_tuple_add seq_tuple_add PySem.F.slot_tuple_add PySem.F.entry_tuple_add (PySem.F.args_tuple_add_2 _ _)
   (tuple_addW2 t b vs.toArray ws.toArray n n2 dd dd2 sl sl2 (by simpa using hv) (by simpa using hw) (by rw [List.size_toArray,List.size_toArray]; exact hsz)) ⟨ho,ho2,?_⟩
  rw [e]
  exact h2 hw
noncomputable def sIx (n d:Nat):Option Int->Nat
 | none=>d
 | some v=>if v < 0 then (v+(n:Int)).toNat else min v.toNat n
theorem sIx_none (n d:Nat):sIx n d none=d:=rfl
theorem sIx_nat (n d k:Nat):sIx n d (some (k:Int))=min k n:=by
 show (if (k:Int) < 0 then ((k:Int)+(n:Int)).toNat else min (k:Int).toNat n)=min k n
 rw [if_neg (by omega),Int.toNat_natCast]
theorem sIx_le (n d:Nat) (hd:d<=n) (o:Option Int):sIx n d o<=n:=by
 cases o with
 | none=>exact hd
 | some v=>
  show (if v < 0 then (v+(n:Int)).toNat else min v.toNat n)<=n
  by_cases hv:v < 0
  ·rw [if_pos hv]; omega
  ·rw [if_neg hv]; exact Nat.min_le_right _ _
theorem wj (v:Int) (n d:Nat):(if v < 0 then max (v+(n:Int)) 0 else min v (n:Int))=((sIx n d (some v):Nat):Int):=by
 show (if v < 0 then max (v+(n:Int)) 0 else min v (n:Int))=(((if v < 0 then (v+(n:Int)).toNat else min v.toNat n):Nat):Int)
 by_cases hv:v < 0
 ·simp only [if_pos hv]; omega
 ·simp only [if_neg hv]; omega
theorem uS (lo hi:Option Int) (n:Nat):Builtin.Slice.sliceAdjust lo hi 1 (n:Int)=(((sIx n 0 lo:Nat):Int),((sIx n n hi:Nat):Int)):=by
 have h1 : ¬ ((1:Int) < 0):=by omega
 unfold Builtin.Slice.sliceAdjust
 simp only [h1,if_false]
 refine Prod.ext ?_ ?_
 ·cases lo with
  | none=>rfl
  | some v=>exact wj v n 0
 ·cases hi with
  | none=>rfl
  | some v=>exact wj v n n
theorem vh (i j:Nat):Builtin.Slice.slicePlaces (i:Int) (j:Int) 1=j - i:=by
 unfold Builtin.Slice.slicePlaces
 have h1:(1:Int) > 0:=by omega
 simp only [h1,if_true,Int.ediv_one]
 split <;> omega
theorem mD {v:Value} {o:Option Int} {Q:Option Int->Shared->Prop} (p:IsPart v o) (h:Q o s):wpAny (model prog w) A (Builtin.Slice.slicePartIndex v) Q E s:=by
 cases p with
 | none=>exact slicePart_none h
 | int i t=>exact slicePart_int h
theorem sliceApplied_gen {sl:Addr} {vl vu:Value} {lo hi:Option Int} {Q:Int × Int × Nat->Shared->Prop} (hs:s.heap.IsSliceOf sl vl vu .none) (pl:IsPart vl lo) (pu:IsPart vu hi)
 (h:Q (((sIx n 0 lo:Nat):Int),1,sIx n n hi - sIx n 0 lo) s):wpAny (model prog w) A (Builtin.Slice.sliceApplied (.ref sl) (pure (n:Int))) Q E s:=by
 obtain ⟨os,hos,hcs,hds⟩:=id hs
 unfold Builtin.Slice.sliceApplied Builtin.Slice.sliceFields
 refine wpAny_bind (wpAny_bind (wpAny_field hos hds (x:=vl) rfl (wpAny_bind (wpAny_field hos hds (x:=vu) rfl (wpAny_bind (wpAny_field hos hds (x:=.none) rfl (wpAny_pure ?_)))))))
 refine wpAny_bind (slicePart_none ?_)
 show wpAny _ _ (if ((1:Int)==0)=true then _ else _) _ _ s
 rw [if_neg (by decide)]
 refine wpAny_bind (mD pl (wpAny_bind (mD pu (wpAny_bind (wpAny_pure ?_)))))
 show wpAny _ _ (match Builtin.Slice.sliceAdjust lo hi 1 (n:Int) with | (lo,hi)=>pure (lo,(1:Int),Builtin.Slice.slicePlaces lo hi 1)) _ _ s
 rw [uS lo hi n]
 show wpAny _ _ (pure (((sIx n 0 lo:Nat):Int),(1:Int),Builtin.Slice.slicePlaces ((sIx n 0 lo:Nat):Int) ((sIx n n hi:Nat):Int) 1)) _ _ s
 rw [vh]
 exact wpAny_pure h
theorem yp (xs:Array Value) (i k:Nat):((List.range k).filterMap fun (m:Nat)=>xs[((i:Int)+(m:Int) * 1).toNat]?).toArray=((xs.toList.drop i).take k).toArray:=by
 have e:(fun (m:Nat)=>xs[((i:Int)+(m:Int) * 1).toNat]?)=fun m=>xs[i+m]?:=by
  funext m
  have:((i:Int)+(m:Int) * 1).toNat=i+m:=by omega
  rw [this]
 rw [e]
 have:=pick_run xs i k
 rw [List.filterMap_map] at this
 have e2:((fun x=>xs[x]?) ∘ fun x=>i+x)=fun m=>xs[i+m]?:=rfl
 rw [e2] at this
 rw [this]
theorem getItem_tuple_cut {t sl:Addr} {items:Array Value} {vl vu:Value} {lo hi:Option Int} {Q:Value->Shared->Prop} (ht:IsTup s.heap t items) (hs:s.heap.IsSliceOf sl vl vu .none) (pl:IsPart vl lo) (pu:IsPart vu hi)
 (hw : ¬ (sIx items.size 0 lo=0/\sIx items.size items.size hi=items.size))
 (h:Q (.ref s.heap.objs.size) { s with heap:=s.heap.push { cls:=.type "tuple",data:=.seq ((items.toList.drop (sIx items.size 0 lo)).take (sIx items.size items.size hi - sIx items.size 0 lo)).toArray } })
 (hsz:items.size<=sizeLine):wpAny (model prog w) A (getItem (.ref t) (.ref sl)) Q E s:=by
 have htake:sizeOk (.seq ((items.toList.drop (sIx items.size 0 lo)).take (sIx items.size items.size hi - sIx items.size 0 lo)).toArray):=by
  show ((items.toList.drop (sIx items.size 0 lo)).take (sIx items.size items.size hi - sIx items.size 0 lo)).toArray.size<=sizeLine
  rw [List.size_toArray,List.length_take,List.length_drop,Array.length_toList]
  omega
 have hj:sIx items.size items.size hi<=items.size:=sIx_le _ _ (Nat.le_refl _) hi
 obtain ⟨os,hos,hcs,hds⟩:=id hs
 have hTs:s.TypeIs (.ref sl) "slice":=⟨os,hos,hcs⟩
 unfold getItem
 try with_reducible refine wpAny_holding ?_
 first | refine wpAny_bind (wpAny_pure ?_) | skip
 refine wpAny_bind (wpAny_sequenceKey ht.typeIs (by decide) ?_)
 refine wpAny_bind (wpAny_callSpecial?_slot (name:=Str.ofString "__getitem__") ht.typeIs PyProof.Rows.slot_tuple_getitem
  (wpAny_call_entry PyProof.Rows.slot_tuple_getitem ht.typeIs entry_tuple_getitem ?_ (args_tuple_getitem _ _)))
 show wpAny _ _ (Builtin.Tuple.tupleItemsOf (.ref t)>>=_) _ _ s
 refine wpAny_bind (tupleItemsOf_ ht ?_)
 refine wpAny_bind (wpAny_typeOf hTs ?_)
 rw [if_pos (by decide)]
 refine wpAny_bind (sliceApplied_gen hs pl pu ?_)
 have hno : ¬ ((((sIx items.size 0 lo:Nat):Int)==0 && (1:Int)==1 && (sIx items.size items.size hi - sIx items.size 0 lo)==items.size)=true):=by
  intro q
  rw [Bool.and_eq_true,Bool.and_eq_true] at q
  have q1:((sIx items.size 0 lo:Nat):Int)=0:=eq_of_beq q.1.1
  have q2:sIx items.size items.size hi - sIx items.size 0 lo=items.size:=eq_of_beq q.2
  exact hw ⟨by omega,by omega⟩
 show wpAny _ _ (if (((sIx items.size 0 lo:Nat):Int)==0 && (1:Int)==1 && (sIx items.size items.size hi - sIx items.size 0 lo)==items.size)=true then _ else _) _ _ s
 rw [if_neg hno,yp]
 first
  | exact wpAny_bind (m:=Builtin.Tuple.tupleExact _) (wpAny_newObj_type (wpAny_pure ⟨_,rfl,wpAny_pure h⟩) htake)
  | exact wpAny_bind (m:=Builtin.Tuple.tupleExact _) (wpAny_newObj_type (wpAny_bind (wpAny_pure (wpAny_pure ⟨_,rfl,wpAny_pure h⟩))) htake)
  | exact wpAny_bind (wpAny_bind (m:=Builtin.Tuple.tupleExact _) (wpAny_newObj_type (wpAny_pure (wpAny_pure ⟨_,rfl,wpAny_pure h⟩)) htake))
  | exact wpAny_bind (wpAny_bind (m:=Builtin.Tuple.tupleExact _) (wpAny_newObj_type (wpAny_pure ⟨_,rfl,wpAny_pure h⟩) htake))
end
end HT
namespace L2
open PySem PySem.Spec PyProof.Rows
noncomputable abbrev TO:=St->Hp->(Option Int->Hp->Prop)->Prop
noncomputable def PO (X:Cx) (e:Option Expr) (t:TO):Prop:=
 ∀ (pins:List (Addr × Obj)) (s:Shared) (σ:St) (H:Hp) (Q:Option Int->Hp->Prop),Inv X pins σ H s->t σ H Q->
  wpAny (model X.prog X.w) X.A (evalPart e X.env) (fun u s'=>∃ o H',Inv X pins σ H' s'/\IsPart u o/\Q o H') X.xe s
noncomputable def Bf:TO:=fun _ H Q=>Q none H
noncomputable def ER (t:TE):TO:=fun σ H Q=>t σ H fun x H1=>∃ i,x=.int i/\Q (some i) H1
section
variable {X:Cx} {e:Expr} {te:TE} {lo hi:Option Expr} {tl th:TO} {pos p2:Pos}
theorem A5:PO X none Bf:=by
 intro pins s σ H Q I h
 rw [evalPart_none]
 exact wpAny_pure ⟨none,H,I,.none,h⟩
theorem BB (h:PE X e te):PO X (some e) (ER te):=by
 intro pins s σ H Q I hw
 rw [evalPart_some]
 refine thn (h pins s σ H _ I hw) fun u s1 ⟨x,H1,I1,r1,q1⟩=>?_
 obtain ⟨i,rfl,q⟩:=q1
 obtain ⟨t,rfl⟩:=r1
 exact ⟨some i,H1,I1,.int i t,q⟩
noncomputable def SlR (X:Cx) (r:V->Option Int->Option Int->Hp->VK->Prop):Prop:=
 ∀ (pins:List (Addr × Obj)) (s:Shared) (σ:St) (H:Hp) (x:V) (v vl vu:Value) (lo hi:Option Int) (sl:Addr) (Q:VK),Inv X pins σ H s->RelV x v->s.heap.IsSliceOf sl vl vu .none->IsPart vl lo->IsPart vu hi->r x lo hi H Q->
  ∃ T id,typeLookup (.type T) "__getitem__"=pure (some (.builtin id))/\s.TypeIs v T/\wpAny (model X.prog X.w) X.A (getItem v (.ref sl)) (EP X pins σ Q) X.xe s
theorem SlR.or {r r':V->Option Int->Option Int->Hp->VK->Prop} (h:SlR X r) (h':SlR X r'):SlR X (fun x lo hi H Q=>r x lo hi H Q\/r' x lo hi H Q):=by
 intro pins s σ H x v vl vu lo hi sl Q I rx hs pl pu q
 rcases q with q | q
 ·exact h pins s σ H x v vl vu lo hi sl Q I rx hs pl pu q
 ·exact h' pins s σ H x v vl vu lo hi sl Q I rx hs pl pu q
noncomputable def tSl (r:V->Option Int->Option Int->Hp->VK->Prop) (te:TE) (tl th:TO):TE:=fun σ H Q=>te σ H fun x H1=>tl σ H1 fun l H2=>th σ H2 fun u H3=>r x l u H3 Q
theorem yM {r:V->Option Int->Option Int->Hp->VK->Prop} (hr:SlR X r) (he:PE X e te) (hl:PO X lo tl) (hu:PO X hi th):PE X (.Subscript e (.Slice lo hi none p2) pos) (tSl r te tl th):=by
 intro pins s σ H Q I h
 refine Subscript_ (thn (he pins s σ H _ I h) fun v s1 ⟨x,H1,I1,r1,q1⟩=>?_)
 refine wpAny_Slice (thn (hl pins s1 σ H1 _ I1 q1) fun vl s2 ⟨l,H2,I2,pl,q2⟩=>thn (hu pins s2 σ H2 _ I2 q2) fun vu s3 ⟨u,H3,I3,pu,q3⟩=>?_)
 rw [evalPart_none]
 refine wpAny_pure ?_
 have I4:Inv X pins σ H3 { s3 with heap:=s3.heap.push { cls:=.type "slice",data:=.fields #[vl,vu,.none] } }:=I3.kept (t':=s3.toks) fun b ob q=>Heap.get?_push_of_some _ q
 obtain ⟨T,id,hT,ht,hg⟩:=hr pins { s3 with heap:=s3.heap.push { cls:=.type "slice",data:=.fields #[vl,vu,.none] } } σ H3 x v vl vu l u s3.heap.objs.size Q I4 r1 (Heap.IsSliceOf.new ..) pl pu q3
 show wpAny (model X.prog X.w) X.A (subscriptTail e (.Slice lo hi none p2) v (.ref s3.heap.objs.size)) (EP X pins σ Q) X.xe { s3 with heap:=s3.heap.push { cls:=.type "slice",data:=.fields #[vl,vu,.none] } }
 exact tail_any (ops:=[.ref s3.heap.objs.size,v]) ht hT hg (by with_unfolding_all rfl)
noncomputable def zp (xs:List V) (lo hi:Option Int):List V:=(xs.drop (HT.sIx xs.length 0 lo)).take (HT.sIx xs.length xs.length hi - HT.sIx xs.length 0 lo)
theorem kQ (xs:List V) (lo hi:Option Int):(zp xs lo hi).length<=xs.length:=by
 unfold zp
 rw [List.length_take,List.length_drop]
 omega
noncomputable def FT (K:PySem.W.Frag):V->Option Int->Option Int->Hp->VK->Prop:=fun x lo hi H Q=>∃ a xs,x=.ref a/\SqT K H a xs/\
 ¬ (HT.sIx xs.length 0 lo=0/\HT.sIx xs.length xs.length hi=xs.length)/\∀ p,H p=none->Q (.ref p) (upd H p (.tup (zp xs lo hi)))
theorem sl_tup:SlR X (FT X.K):=by
 intro pins s σ H x v vl vu lo hi sl Q I rx hs pl pu h
 obtain ⟨a,xs,rfl,hx,hw,q⟩:=h
 cases rx
 obtain ⟨its,r,ht,hz⟩:=I.tuple hx
 have hlen:its.toArray.size=xs.length:=by rw [List.size_toArray]; exact r.length.symm
 refine ⟨"tuple",_,PyProof.Rows.slot_tuple_getitem.lookup,ht.typeIs,?_⟩
 refine HT.getItem_tuple_cut ht hs pl pu (by rw [hlen]; exact hw) ?_ (by rw [hlen]; exact hz)
 rw [hlen]
 refine ⟨.ref s.heap.objs.size,_,I.laid (t':=s.toks) (o:=.tup (zp xs lo hi)) (fun b ob q=>Heap.get?_push_of_some _ q) (Nat.le_refl _) ?_,rfl,q _ (I.hok.fresh (Nat.le_refl _))⟩
 exact ⟨Nat.le_trans (kQ xs lo hi) hz,_,(r.drop (HT.sIx xs.length 0 lo)).take (HT.sIx xs.length xs.length hi - HT.sIx xs.length 0 lo),IsTup.new _ _⟩
noncomputable def ED (K:PySem.W.Frag):R2:=fun x y H Q=>∃ a b xs ys,x=.ref a/\y=.ref b/\SqT K H a xs/\SqT K H b ys/\xs ≠ []/\xs.length+ys.length<=sizeLine/\
 (ys=[]->Q (.ref a) H)/\(ys ≠ []->∀ p,H p=none->Q (.ref p) (upd H p (.tup (xs++ys))))
theorem Vals.nil_iff (r:Vals xs us):us=[] ↔ xs=[]:=by
 cases r with
 | nil=>simp
 | cons _ _=>simp
theorem A3:OpR X (binaryOp .Add) (ED X.K):=by
 intro pins s σ H x y v u Q I rx ry h
 obtain ⟨a,b,xs,ys,rfl,rfl,ha,hb,hx,hz,q1,q2⟩:=h
 cases rx
 cases ry
 obtain ⟨its,r1,p1,_⟩:=I.tuple ha
 obtain ⟨its2,r2,p2,_⟩:=I.tuple hb
 refine HT.cat_tup p1 p2 (fun z=>hx (r1.nil_iff.mp z)) (fun z=>⟨.ref a,H,I,rfl,q1 (r2.nil_iff.mp z)⟩) (fun z=>?_) (by rw [<- r1.length,<- r2.length]; exact hz)
 refine ⟨.ref s.heap.objs.size,_,I.laid (t':=s.toks) (o:=.tup (xs++ys)) (fun b ob q=>Heap.get?_push_of_some _ q) (Nat.le_refl _) ?_,rfl,q2 (fun w=>z (r2.nil_iff.mpr w)) _ (I.hok.fresh (Nat.le_refl _))⟩
 exact ⟨by rw [List.length_append]; exact hz,_,r1.append r2,IsTup.new _ _⟩
end
end L2
namespace L2
open PySem PySem.Spec PyProof.Rows
noncomputable def ixN (n:Nat) (i:Int):Option Nat:=if 0<=i then (if i < n then some i.toNat else none) else if -(n:Int)<=i then some (i+n).toNat else none
noncomputable def atI {α:Type} (xs:List α) (i:Int):Option α:=(ixN xs.length i).bind fun j=>xs[j]?
theorem BC {i:Int} (h:ixN n i=some j):seqIndex? i n=some j/\j < n/\-(n:Int)<=i/\i < n:=by
 unfold ixN at h
 by_cases h0:0<=i
 ·rw [if_pos h0] at h
  by_cases h1:i < n
  ·rw [if_pos h1] at h
   have e:i.toNat=j:=Option.some.inj h
   exact ⟨by rw [seqIndex_of h0 h1,e],by omega,by omega,h1⟩
  ·rw [if_neg h1] at h; cases h
 ·rw [if_neg h0] at h
  by_cases h1 : -(n:Int)<=i
  ·rw [if_pos h1] at h
   have e:(i+n).toNat=j:=Option.some.inj h
   exact ⟨by rw [seqIndex_neg (by omega) h1,e],by omega,h1,by omega⟩
  ·rw [if_neg h1] at h; cases h
theorem sx {α:Type} {xs:List α} {i:Int} {v:α} (h:atI xs i=some v):∃ j,seqIndex? i xs.length=some j/\xs[j]?=some v/\j < xs.length/\-(xs.length:Int)<=i/\i < xs.length:=by
 unfold atI at h
 cases e:ixN xs.length i with
 | none=>rw [e] at h; cases h
 | some j=>
  rw [e] at h
  obtain ⟨h1,h2,h3,h4⟩:=BC e
  exact ⟨j,h1,h,h2,h3,h4⟩
theorem BE {α:Type} {xs:List α} {v:α} (h:xs[j]?=some v):atI xs (j:Int)=some v:=by
 have hj:j < xs.length:=(List.getElem?_eq_some_iff.mp h).1
 have e:ixN xs.length (j:Int)=some j:=by
  unfold ixN
  rw [if_pos (by omega),if_pos (by omega)]; simp
 unfold atI; rw [e]; exact h
noncomputable def rM (b:Expr):Prop:=∀ o i,subscripted b false o i=operate [o,i] (getItem o i)
noncomputable def IxR (X:Cx) (r:R2):Prop:=
 ∀ (value slice:Expr) (pins:List (Addr × Obj)) (s:Shared) (σ:St) (H:Hp) (x y:V) (v u:Value) (Q:VK),Inv X pins σ H s->RelV x v->RelV y u->r x y H Q->
  subscripted slice false v u=operate [v,u] (getItem v u)->wpAny (model X.prog X.w) X.A (subscriptTail value slice v u) (EP X pins σ Q) X.xe s
noncomputable def MtR (X:Cx) (id:String) (r:V->List V->Hp->VK->Prop):Prop:=
 ∀ (pins:List (Addr × Obj)) (s:Shared) (σ:St) (H:Hp) (x:V) (xs:List V) (v:Value) (us:List Value) (Q:VK),Inv X pins σ H s->RelV x v->Vals xs us->r x xs H Q->
  wpAny (model X.prog X.w) X.A (call (.builtin id) (v::us)) (EP X pins σ Q) X.xe s
section
variable {X:Cx} {a b:Expr} {ta tb:TE} {pos:Pos}
theorem IxR.or {r r':R2} (h:IxR X r) (h':IxR X r'):IxR X (fun x y H Q=>r x y H Q\/r' x y H Q):=by
 intro value slice pins s σ H x y v u Q I rx ry q hs
 rcases q with q | q
 ·exact h value slice pins s σ H x y v u Q I rx ry q hs
 ·exact h' value slice pins s σ H x y v u Q I rx ry q hs
theorem DI {r:R2} (hr:IxR X r) (ha:PE X a ta) (hb:PE X b tb) (hs:rM b):PE X (.Subscript a b pos) (tOp r ta tb):=by
 intro pins s σ H Q I h
 exact Subscript_ (Ei ha hb I h fun v u s2 x y H2 I2 rx ry q=>hr a b pins s2 σ H2 x y v u Q I2 rx ry q (hs _ _))
noncomputable def F7 (K:PySem.W.Frag):R2:=fun x y H Q=>∃ p xs i v,x=.ref p/\y=.int i/\SqL K H p xs/\atI xs i=some v/\Q v H
noncomputable def FW (K:PySem.W.Frag):R2:=fun x y H Q=>∃ p xs i v,x=.ref p/\y=.int i/\SqT K H p xs/\atI xs i=some v/\Q v H
noncomputable def F3:R2:=fun x y H Q=>∃ z i c,x=.str z/\y=.int i/\z.length<=sizeLine/\atI z.cps.toList i=some c/\Q (.str ⟨#[c]⟩) H
theorem ix_list:IxR X (F7 X.K):=by
 intro value slice pins s σ H x y v u Q I rx ry h hs
 obtain ⟨p,xs,i,z,rfl,rfl,hq,he,q⟩:=h
 cases rx
 obtain ⟨t,rfl⟩:=ry
 obtain ⟨its,r,pl,hz⟩:=I.list hq
 obtain ⟨j,h1,h2,h3,h4,h5⟩:=sx he
 obtain ⟨w,ew,rw'⟩:=r.get h2
 have hl:=r.length
 have hn:=kM
 have fin:EP X pins σ Q w s:=⟨z,H,I,rw',q⟩
 by_cases h0:0<=i
 ·have hj:i.toNat=j:=by
   rw [seqIndex_of h0 h5] at h1
   exact Option.some.inj h1
  exact item_listR pl.isList h0 (by omega) (by rw [hj]; simpa using ew) fin hs
 ·have hj:(i+(its.toArray.size:Int)).toNat=j:=by
   rw [seqIndex_neg (by omega) h4] at h1
   rw [List.size_toArray,<- hl]
   exact Option.some.inj h1
  exact subscriptTail_builtinR (x:=w) pl.isList.typeIs slot_list_getitem.lookup
   (wpAny_getItem_list_neg (Q:=fun r s'=>r=w/\EP X pins σ Q r s') pl.isList (by omega) (by rw [List.size_toArray] <;> omega) (by omega) (by rw [hj]; simpa using ew) ⟨rfl,fin⟩) hs
theorem ix_tup:IxR X (FW X.K):=by
 intro value slice pins s σ H x y v u Q I rx ry h hs
 obtain ⟨p,xs,i,z,rfl,rfl,hq,he,q⟩:=h
 cases rx
 obtain ⟨t,rfl⟩:=ry
 obtain ⟨its,r,pl,hz⟩:=I.tuple hq
 obtain ⟨j,h1,h2,h3,h4,h5⟩:=sx he
 obtain ⟨w,ew,rw'⟩:=r.get h2
 have hl:=r.length
 have hn:=kM
 have fin:EP X pins σ Q w s:=⟨z,H,I,rw',q⟩
 exact subscriptTail_builtinR (x:=w) pl.typeIs slot_tuple_getitem.lookup
  (getItem_tuple (j:=j) (Q:=fun r s'=>r=w/\EP X pins σ Q r s') pl (by omega) (by omega) (by rw [List.size_toArray,<- hl]; exact h1) (by simpa using ew) ⟨rfl,fin⟩) hs
theorem B3:IxR X F3:=by
 intro value slice pins s σ H x y v u Q I rx ry h hs
 obtain ⟨z,i,c,rfl,rfl,hz,he,q⟩:=h
 obtain ⟨t,rfl⟩:=rx
 obtain ⟨t',rfl⟩:=ry
 obtain ⟨j,h1,h2,h3,h4,h5⟩:=sx he
 have hl:z.cps.toList.length=z.length:=by simp [Str.length]
 rw [hl] at h1 h4 h5
 have hn:=kM
 exact tail_any (typeIs_str s z t) slot_str_getitem.lookup (getItem_str (c:=c) (by
  have e1:decide (i < -(2 ^ 63:Int))=false:=decide_eq_false (by omega)
  have e2:decide (i ≥ 2 ^ 63)=false:=decide_eq_false (by omega)
  rw [e1,e2,Bool.or_false]) (by rw [h1]; simpa using h2) ⟨.str ⟨#[c]⟩,H,I.tok _,⟨_,rfl⟩,q⟩) hs
noncomputable def rIx (K:PySem.W.Frag):R2:=fun x y H Q=>F7 K x y H Q\/FW K x y H Q\/F3 x y H Q
theorem BO:IxR X (rIx X.K):=ix_list.or (ix_tup.or B3)
theorem pD (lo hi:Option Int) (n:Nat):(sliceBounds lo hi none n).1=((HT.sIx n 0 lo:Nat):Int)/\(sliceBounds lo hi none n).2.1=((HT.sIx n n hi:Nat):Int)/\(sliceBounds lo hi none n).2.2=1:=by
 refine ⟨?_,?_,rfl⟩
 ·cases lo with
  | none=>simp [sliceBounds,HT.sIx]
  | some i=>
   simp only [sliceBounds,HT.sIx,Option.getD_none,show (1:Int) > 0 by decide,if_true]
   by_cases h:i < 0
   ·simp only [h,if_true] <;> omega
   ·simp only [h,if_false] <;> omega
 ·cases hi with
  | none=>simp [sliceBounds,HT.sIx]
  | some i=>
   simp only [sliceBounds,HT.sIx,Option.getD_none,show (1:Int) > 0 by decide,if_true]
   by_cases h:i < 0
   ·simp only [h,if_true] <;> omega
   ·simp only [h,if_false] <;> omega
theorem ny (its:List Value) (lo hi:Option Int):slicePick its.toArray lo hi none=((its.drop (HT.sIx its.length 0 lo)).take (HT.sIx its.length its.length hi - HT.sIx its.length 0 lo)).toArray:=by
 obtain ⟨h1,h2,h3⟩:=pD lo hi its.toArray.size
 unfold slicePick
 rw [h1,h2,h3]
 simp only [sliceRange_one,pick_run,List.size_toArray] <;> rfl
noncomputable def F5 (K:PySem.W.Frag):V->Option Int->Option Int->Hp->VK->Prop:=fun x lo hi H Q=>∃ a xs,x=.ref a/\SqL K H a xs/\∀ p,H p=none->Q (.ref p) (upd H p (.lst (zp xs lo hi)))
theorem BD:SlR X (F5 X.K):=by
 intro pins s σ H x v vl vu lo hi sl Q I rx hs pl pu h
 obtain ⟨a,xs,rfl,hx,q⟩:=h
 cases rx
 obtain ⟨its,r,ht,hz⟩:=I.list hx
 have hlen:=r.length
 refine ⟨"list",_,slot_list_getitem.lookup,ht.isList.typeIs,?_⟩
 refine wpAny_getItem_list_slice ht.isList hs pl pu .none (by simp) ?_ (by rw [List.size_toArray] <;> omega)
 rw [ny,<- hlen]
 refine ⟨.ref s.heap.objs.size,_,I.laid (t':=s.toks) (o:=.lst (zp xs lo hi)) (fun b ob q=>Heap.get?_push_of_some _ q) (Nat.le_refl _) ?_,rfl,q _ (I.hok.fresh (Nat.le_refl _))⟩
 exact ⟨Nat.le_trans (kQ xs lo hi) hz,_,0,(r.drop (HT.sIx xs.length 0 lo)).take (HT.sIx xs.length xs.length hi - HT.sIx xs.length 0 lo),Heap.get?_push_size _ rfl⟩
theorem qt:kK X (.builtin "len") (fun xs H Q=>∃ p ys,xs=[.ref p]/\(SqL X.K H p ys\/SqT X.K H p ys)/\Q (.int ys.length) H):=by
 intro pins s σ H xs us Q I r h
 obtain ⟨p,ys,rfl,hq,q⟩:=h
 obtain ⟨u,rfl,rx⟩:=zW r
 cases rx
 have hn:=kM
 rcases hq with hq | hq
 ·obtain ⟨its,r',pl,hz⟩:=I.list hq
  have hlen:=r'.length
  exact Calls.call_len_list pl.isList (by simp only [List.size_toArray] <;> omega) ⟨.int ys.length,H,I.tok _,⟨s.toks+1,by rw [List.size_toArray,hlen]⟩,q⟩
 ·obtain ⟨its,r',pl,hz⟩:=I.tuple hq
  have hlen:=r'.length
  exact len_tuple pl (by simp only [List.size_toArray] <;> omega) ⟨.int ys.length,H,I.tok _,⟨s.toks+1,by rw [List.size_toArray,hlen]⟩,q⟩
theorem mO:kK X (.type "tuple") (fun xs H Q=>∃ p ys,xs=[.ref p]/\((SqL X.K H p ys/\∀ l,H l=none->Q (.ref l) (upd H l (.tup ys)))\/(SqT X.K H p ys/\Q (.ref p) H))):=by
 intro pins s σ H xs us Q I r h
 obtain ⟨p,ys,rfl,h⟩:=h
 obtain ⟨u,rfl,rx⟩:=zW r
 cases rx
 rcases h with ⟨hq,q⟩ | ⟨hq,q⟩
 ·obtain ⟨its,r',pl,hz⟩:=I.list hq
  have hlen:=r'.length
  refine call_tuple_list pl.isList (fun h' kp=>?_) (by simp only [List.size_toArray] <;> omega)
  have I1:Inv X pins σ H { s with heap:=h' }:=I.kept (t':=s.toks) kp
  have I2:Inv X pins σ (upd H h'.objs.size (.tup ys)) { s with heap:=h'.push { cls:=.type "tuple",data:=.seq its.toArray } }:=
   I1.laid (t':=s.toks) (fun b o e=>Heap.get?_push_of_some _ e) (Nat.le_refl _) (show ObjOk X.prog X.w _ _ _ (.tup ys) from ⟨hz,its,r',IsTup.new _ _⟩)
  exact ⟨.ref h'.objs.size,_,I2,rfl,q _ (I1.hok.fresh (Nat.le_refl _))⟩
 ·obtain ⟨its,r',pl,hz⟩:=I.tuple hq
  exact call_tuple_same pl ⟨.ref p,H,I,rfl,q⟩
noncomputable def tyV (K:PySem.W.Frag) (T:String) (x:V) (H:Hp):Prop:=match x with
 | .str _=>T="str"
 | .int _=>T="int"
 | .ref p=>(T="list"/\∃ xs,SqL K H p xs)\/(T="tuple"/\∃ o,K.lookup p=some o/\o.cls=.type "tuple"/\o.dict=none)\/
   (T="dict"/\((∃ kvs,H p=some (.dK kvs))\/∃ kvs,H p=some (.dT kvs)))\/(T="set"/\∃ S n,H p=some (.set S n))
 | _=>False
theorem zo {T:String} {x:V} {v:Value} (I:Inv X pins σ H s) (r:RelV x v) (ty:tyV X.K T x H) :
  s.TypeIs v T/\∀ a,v=.ref a->∃ ob,s.heap.get? a=some ob/\ob.dict=none:=by
 cases x with
 | str z=>
  obtain ⟨t,rfl⟩:=r
  cases (show T="str" from ty)
  exact ⟨typeIs_str s z t,fun _ e=>nomatch e⟩
 | int i=>
  obtain ⟨t,rfl⟩:=r
  cases (show T="int" from ty)
  exact ⟨typeIs_int s i t,fun _ e=>nomatch e⟩
 | ref p=>
  cases r
  rcases ty with ⟨rfl,xs,hq⟩ | ⟨rfl,o,hk,hc,hd⟩ | ⟨rfl,hk⟩ | ⟨rfl,S,n,hk⟩
  ·obtain ⟨its,_,pl,_⟩:=I.list hq
   refine ⟨pl.isList.typeIs,fun a e=>?_⟩
   cases e
   obtain ⟨o,n,e,c,hd,_⟩:=pl
   exact ⟨o,e,hd⟩
  ·refine ⟨⟨o,I.kIn p o hk,hc⟩,fun a e=>?_⟩
   cases e
   exact ⟨o,I.kIn _ o hk,hd⟩
  ·have z:∃ o,s.heap.get? p=some o/\o.ExactDict:=by
    rcases hk with ⟨kvs,hk⟩ | ⟨kvs,hk⟩
    ·obtain ⟨_,_,_,_,o,_,_,e,ex,_⟩:=I.hok p _ hk
     exact ⟨o,e,ex⟩
    ·obtain ⟨_,_,_,_,o,_,_,e,ex,_⟩:=I.hok p _ hk
     exact ⟨o,e,ex⟩
   obtain ⟨o,e,ex⟩:=z
   refine ⟨⟨o,e,ex.1⟩,fun a e2=>?_⟩
   cases e2
   exact ⟨o,e,ex.2.1⟩
  ·obtain ⟨o,_,_,_,e,ex,_⟩:=I.hok p _ hk
   refine ⟨⟨o,e,ex.1⟩,fun a e2=>?_⟩
   cases e2
   exact ⟨o,e,ex.2.1⟩
 | _=>exact False.elim ty
noncomputable def Ge (K:PySem.W.Frag) (T:String) (r:V->List V->Hp->VK->Prop) (to:TE):TE:=fun σ H Q=>to σ H fun x H1=>tyV K T x H1/\r x [] H1 Q
noncomputable def tBM (K:PySem.W.Frag) (T:String) (r:V->List V->Hp->VK->Prop) (to:TE) (t:TA):TE:=fun σ H Q=>to σ H fun x H1=>tyV K T x H1/\t σ H1 fun xs H2=>r x xs H2 Q
variable {o e:Expr} {es:List Expr} {to:TE} {t:TA} {name:Str} {apos cpos:Pos} {T id:String} {r:V->List V->Hp->VK->Prop}
theorem D7 (pa:PlainAttrs T) (slot:Slot T name id) (hty:typeOf (.builtin id)=pure (.type "method_descriptor")) (hm:MtR X id r) (ho:PE X o to)
 (hbase:attributeBase o name X.env (eval o X.env)=eval o X.env:=by rfl) (hline:(apos.endLine==cpos.line)=true:=by rfl):PE X (.Call (.Attribute o name apos) [] [] cpos) (Ge X.K T r to):=by
 intro pins s σ H Q I h
 refine wpAny_Call_method0_late hbase hline (thn (ho pins s σ H _ I h) fun v s1 ⟨x,H1,I1,r1,ty,q1⟩=>?_)
 obtain ⟨h1,h2⟩:=zo I1 r1 ty
 exact ⟨T,id,pa,slot,hty,h1,h2,Calls.callWith_builtin rfl (PySem.evalArgs_none (hm pins s1 σ H1 x [] v [] Q I1 r1 .nil q1))⟩
theorem xL (pa:PlainAttrs T) (slot:Slot T name id) (hty:typeOf (.builtin id)=pure (.type "method_descriptor")) (hm:MtR X id r) (ho:PE X o to) (ha:PA X (e::es) t)
 (hbase:attributeBase o name X.env (eval o X.env)=eval o X.env:=by rfl)
 (hfew:((backTo cpos (starEach (e::es) X.env)).all (fun x=>!x.1) && (backToKw cpos (keywordEach [] X.env)).all (fun x=>x.1.isSome)
 && decide ((e::es).length+([]:List Keyword).length+(if ([]:List Keyword).isEmpty then 0 else 1) < 30))=true:=by rfl)
 (hline:(apos.endLine==cpos.line)=true:=by rfl) (hs:starEach (e::es) X.env=(false,eval e X.env)::starEach es X.env:=by rfl) (hplain:(backTo cpos (starEach es X.env)).any (·.1)=false:=by rfl) :
  PE X (.Call (.Attribute o name apos) (e::es) [] cpos) (tBM X.K T r to t):=by
 intro pins s σ H Q I h
 refine wpAny_Call_method_late hbase hfew hline rfl (thn (ho pins s σ H _ I h) fun v s1 ⟨x,H1,I1,r1,ty,q1⟩=>?_)
 obtain ⟨h1,h2⟩:=zo I1 r1 ty
 refine ⟨T,id,pa,slot,hty,h1,h2,?_⟩
 have hA:=ha cpos pins s1 σ H1 _ I1 q1
 rw [hs] at hA ⊢
 refine Calls.callWith_builtin (by show (false || (backTo cpos (starEach es X.env)).any (·.1))=false; rw [hplain] <;> rfl) (Calls.evalArgs_plain ?_)
 exact thn hA fun us s2 ⟨vs,H2,I2,r2,q2⟩=>hm pins s2 σ H2 x vs v us Q I2 r1 r2 q2
/- xs.append(e),list.index on a module's tuple .. are MtR facts of 06m -/
end
end L2
namespace L2
open PySem PySem.Spec PyProof.Rows
noncomputable def MtM (X:Cx) (id:String) (r:V->List V->Hp->VK->Prop):Prop:=
 ∀ (pins:List (Addr × Obj)) (s:Shared) (σ:St) (H:Hp) (x:V) (xs:List V) (v:Value) (us:List Value) (Q:VK),Inv X pins σ H s->RelV x v->Vals xs us->r x xs H Q->
  wpAny (model X.prog X.w) X.A (call (.builtin id) (v::us)) (EP X pins σ Q) X.xe s
theorem Vals.one:∀ {x:V} {us:List Value},Vals [x] us->∃ u,us=[u]/\RelV x u
 | _,_,.cons r .nil=>⟨_,rfl,r⟩
theorem Vals.two:∀ {x y:V} {us:List Value},Vals [x,y] us->∃ u v,us=[u,v]/\RelV x u/\RelV y v
 | _,_,_,.cons r (.cons q .nil)=>⟨_,_,rfl,r,q⟩
theorem Vals.zero:∀ {us:List Value},Vals [] us->us=[]
 | _,.nil=>rfl
theorem Vals.dropLast (h:Vals xs us):Vals xs.dropLast us.dropLast:=by
 induction h with
 | nil=>exact .nil
 | cons r t ih=>
  cases t with
  | nil=>exact .nil
  | cons q t'=>exact .cons r ih
theorem Vals.rep (h:Vals xs us):∀ k:Nat,Vals (List.replicate k xs).flatten (List.replicate k us).flatten
 | 0=>.nil
 | k+1=>by
  rw [List.replicate_succ,List.replicate_succ,List.flatten_cons,List.flatten_cons]
  exact Vals.append h (Vals.rep h k)
theorem uO {α:Type} (l:List α):l.eraseIdx (l.length - 1)=l.dropLast:=by
 induction l with
 | nil=>rfl
 | cons a r ih=>
  cases r with
  | nil=>rfl
  | cons b r=>
   have e:(a::b::r).length - 1=((b::r).length - 1)+1:=by
    have h1:(a::b::r).length=r.length+2:=rfl
    have h2:(b::r).length=r.length+1:=rfl
    omega
   rw [e,List.eraseIdx_cons_succ,ih]
   all_goals rfl
theorem iu (its:List Value):∀ (k:Nat) (acc:List Value),
  List.foldl (fun x1 x2=>x1++x2) acc.toArray (List.replicate k its.toArray)=(acc++(List.replicate k its).flatten).toArray
 | 0,acc=>by simp
 | k+1,acc=>by
  have e:acc.toArray++its.toArray=(acc++its).toArray:=by simp
  have e2:(acc++its)++(List.replicate k its).flatten=acc++(List.replicate (k+1) its).flatten:=by
   rw [List.replicate_succ,List.flatten_cons,List.append_assoc]
  rw [<- e2,<- iu its k (acc++its),<- e,List.replicate_succ,List.foldl_cons]
section
variable {X:Cx} {pins:List (Addr × Obj)} {σ:St} {H:Hp} {s:Shared} {l b:Addr} {xs ys zs:List V}
theorem Inv.lset {its':List Value} {f:Array Value->Array Value} {t':Nat} (I:Inv X pins σ H s) (hH:H l=some (.lst xs))
 (e:s.heap.get? l=some { cls:=.type "list",data:=.seq its.toArray n }) (hf:f its.toArray=its'.toArray) (hv:Vals ys its') (hz:ys.length<=sizeLine) :
  Inv X pins σ (upd H l (.lst ys)) { s with heap:=s.heap.update l (Obj.mapSeq f),toks:=t' }:=by
 have q:=PySem.IsL.update e f
 rw [hf] at q
 refine I.write (x:=l) (e:=l) (by rw [hH]; exact trivial) (.inl rfl) (fun b' u hb hu=>(Heap.get?_update_other s.heap (Obj.mapSeq f) (Ne.symm hb)).trans hu) ⟨_,q⟩ ?_
 exact ⟨hz,its',_,hv,q⟩
theorem Inv.lnew {t':Nat} (I:Inv X pins σ H s) (hv:Vals ys its) (hz:ys.length<=sizeLine) :
  Inv X pins σ (upd H s.heap.objs.size (.lst ys)) { s with heap:=s.heap.push { cls:=.type "list",data:=.seq its.toArray },toks:=t' }:=
 I.laid (fun _ _ q=>Heap.get?_push_of_some _ q) (Nat.le_refl _) ⟨hz,its,0,hv,Heap.get?_push_size _ rfl⟩
theorem Inv.fresh (I:Inv X pins σ H s):H s.heap.objs.size=none:=I.hok.fresh (Nat.le_refl _)
theorem Inv.lstM (I:Inv X pins σ H s) (hH:H l=some (.lst xs)):xs.length<=sizeLine/\∃ (its:List Value) (n:Nat),Vals xs its/\xs.length=its.length/\s.heap.get? l=some { cls:=.type "list",data:=.seq its.toArray n }:=by
 obtain ⟨z,its,n,r,e⟩:=I.hok l _ hH
 exact ⟨z,its,n,r,r.length,e⟩
theorem sU (h:n<=sizeLine):Builtin.List.listTooLong n=false:=by
 unfold Builtin.List.listTooLong
 exact decide_eq_false (by omega)
end
section
variable {X:Cx}
noncomputable def AI:V->List V->Hp->VK->Prop:=fun x vs H Q=>∃ l xs y,x=.ref l/\vs=[y]/\H l=some (.lst xs)/\xs.length < sizeLine/\Q .non (upd H l (.lst (xs++[y])))
theorem kB:MtM X "list.append" AI:=by
 intro pins s σ H x vs v us Q I rx rv h
 obtain ⟨l,xs,y,rfl,rfl,hH,hz,q⟩:=h
 cases rx
 obtain ⟨u,rfl,ru⟩:=rv.one
 obtain ⟨z,its,n,r,hl,e⟩:=I.lstM hH
 refine call_meets F.slot_list_append ⟨_,e,rfl⟩ F.entry_list_append (F.args_list_append_2 _ _) (PySem.list_append l its.toArray n u (by rw [List.size_toArray]; omega)) ⟨e,?_⟩
 refine ⟨.non,_,I.lset (its':=its++[u]) hH e (by simp) (r.append (.cons ru .nil)) ?_,rfl,q⟩
 rw [List.length_append,List.length_singleton]
 omega
noncomputable def AB:V->List V->Hp->VK->Prop:=fun x vs H Q=>∃ l b xs zs,x=.ref l/\vs=[.ref b]/\H l=some (.lst xs)/\H b=some (.lst zs)/\xs.length+zs.length<=sizeLine/\Q .non (upd H l (.lst (xs++zs)))
theorem vK:MtM X "list.extend" AB:=by
 intro pins s σ H x vs v us Q I rx rv h
 obtain ⟨l,b,xs,zs,rfl,rfl,hH,hB,hz,q⟩:=h
 cases rx
 obtain ⟨u,rfl,ru⟩:=rv.one
 cases ru
 obtain ⟨z,its,n,r,hl,e⟩:=I.lstM hH
 obtain ⟨z2,its2,n2,r2,hl2,e2⟩:=I.lstM hB
 have hsz:its.toArray.size+its2.toArray.size<=sizeLine:=by rw [List.size_toArray,List.size_toArray]; omega
 have hlong : ¬ (!its.toArray.isEmpty && Builtin.List.listTooLong (its.toArray.size+its2.toArray.size))=true:=by
  rw [sU hsz,Bool.and_false]
  exact Bool.false_ne_true
 refine call_meets F.slot_list_extend ⟨_,e,rfl⟩ F.entry_list_extend (F.args_list_extend_2 _ _)
  (AutoSeq1.list_extend_list_list_0 l its.toArray n b its2.toArray n2 hlong (by rw [List.size_toArray]; omega) (by omega)) ⟨e,e2,?_⟩
 refine ⟨.non,_,I.lset (its':=its++its2) hH e (by simp) (r.append r2) ?_,rfl,q⟩
 rw [List.length_append]
 omega
noncomputable def GP:V->List V->Hp->VK->Prop:=fun x vs H Q=>∃ l xs y,x=.ref l/\vs=[]/\H l=some (.lst xs)/\xs[xs.length - 1]?=some y/\Q y (upd H l (.lst xs.dropLast))
theorem Dw:MtM X "list.pop" GP:=by
 intro pins s σ H x vs v us Q I rx rv h
 obtain ⟨l,xs,y,rfl,rfl,hH,hy,q⟩:=h
 cases rx
 have hus:=rv.zero
 subst hus
 obtain ⟨z,its,n,r,hl,e⟩:=I.lstM hH
 obtain ⟨u,hu,ru⟩:=r.get hy
 have hy':its.toArray[its.toArray.size - 1]?=some u:=by
  show its.toArray[its.length - 1]?=some u
  rw [<- Array.getElem?_toList,<- hl]
  exact hu
 refine call_meets F.slot_list_pop ⟨_,e,rfl⟩ F.entry_list_pop (F.args_list_pop_1 _) (MeetsSeq.list_pop_last l its.toArray n u hy' (by rw [List.size_toArray]; omega)) ⟨e,?_⟩
 refine ⟨y,_,I.lset (its':=its.dropLast) hH e ?_ r.dropLast ?_,ru,q⟩
 ·show its.toArray.eraseIdxIfInBounds (its.toArray.size - 1)=its.dropLast.toArray
  rw [List.size_toArray,List.eraseIdxIfInBounds_toArray,uO]
 ·rw [List.length_dropLast]
  omega
noncomputable def FY:R2:=fun x y H Q=>∃ l b xs zs,x=.ref l/\y=.ref b/\H l=some (.lst xs)/\H b=some (.lst zs)/\xs.length+zs.length<=sizeLine/\∀ p,H p=none->Q (.ref p) (upd H p (.lst (xs++zs)))
theorem op_cat:OpR X (binaryOp .Add) FY:=by
 intro pins s σ H x y v u Q I rx ry h
 obtain ⟨l,b,xs,zs,rfl,rfl,hH,hB,hz,q⟩:=h
 cases rx
 cases ry
 obtain ⟨z,its,n,r,hl,e⟩:=I.lstM hH
 obtain ⟨z2,its2,n2,r2,hl2,e2⟩:=I.lstM hB
 refine PySem.P.add_list e e2 ?_ (by rw [List.size_toArray,List.size_toArray]; omega)
 have ea:its.toArray++its2.toArray=(its++its2).toArray:=by simp
 rw [ea]
 exact ⟨.ref _,_,I.lnew (t':=s.toks) (r.append r2) (by rw [List.length_append]; omega),rfl,q _ I.fresh⟩
noncomputable def FR:R2:=fun x y H Q=>∃ l k xs,x=.ref l/\y=.int k/\H l=some (.lst xs)/\-(2 ^ 63)<=k/\k < 2 ^ 63/\xs.length * k.toNat<=sizeLine/\
 ∀ p,H p=none->Q (.ref p) (upd H p (.lst (List.replicate k.toNat xs).flatten))
theorem nQ {α:Type} (xs:List α) (k:Nat):(List.replicate k xs).flatten.length=k * xs.length:=by
 induction k with
 | zero=>simp
 | succ k ih=>rw [List.replicate_succ,List.flatten_cons,List.length_append,ih,Nat.succ_mul,Nat.add_comm]
theorem Dg:OpR X (binaryOp .Mult) FR:=by
 intro pins s σ H x y v u Q I rx ry h
 obtain ⟨l,k,xs,rfl,rfl,hH,h1,h2,hz,q⟩:=h
 cases rx
 obtain ⟨t,rfl⟩:=ry
 obtain ⟨z,its,n,r,hl,e⟩:=I.lstM hH
 have hlen:its.toArray.size * k.toNat<=sizeLine:=by rw [List.size_toArray,<- hl]; exact hz
 have hcap : ¬ its.toArray.size * k.toNat > (2 ^ 63 - 1) / 8:=by
  have:(sizeLine:Nat)<=(2 ^ 63 - 1) / 8:=by decide
  omega
 have hfit : ¬ (!Builtin.List.listFitsIndex k)=true:=by
  rw [fitsIndex_both h1 h2]
  exact Bool.false_ne_true
 have hlong : ¬ Builtin.List.listTooLong (its.toArray.size * k.toNat)=true:=by
  rw [sU hlen]
  exact Bool.false_ne_true
 have hnew:List.foldl (fun x1 x2=>x1++x2) #[] (List.replicate (if its.toArray.isEmpty=true then 0 else k.toNat) its.toArray)=(List.replicate k.toNat its).flatten.toArray:=by
  have f0:∀ m:Nat,List.foldl (fun x1 x2=>x1++x2) #[] (List.replicate m its.toArray)=(List.replicate m its).flatten.toArray:=fun m=>by
   have:=iu its m []
   rw [List.nil_append] at this
   exact this
  rw [f0]
  cases its with
  | nil=>simp
  | cons a r'=>rw [if_neg (by simp)]
 refine wpAny_binaryOp_repeat_ref (T:="list") (U:="int") (by decide) ⟨_,e,rfl⟩ (fun s'=>typeIs_int s' k t) noFill_list_mul F.fills_int_mul F.slot_int_rmul repeat_list F.slot_int_index.lookup
  (call_meets F.slot_int_rmul (typeIs_int s k t) F.entry_int_rmul (F.args_int_rmul_2 _ _) (int___rmul___int_list k t l its.toArray n)
   ⟨e,rfl,⟨_,e,rfl⟩,call_meets F.slot_list_mul ⟨_,e,rfl⟩ F.entry_list_mul (F.args_list_mul_2 _ _) (AutoListH.list___mul___list_int_3 l its.toArray n k t hfit hcap hlong) ⟨e,?_⟩⟩)
 rw [hnew]
 exact ⟨.ref _,_,I.lnew (t':=s.toks) (r.rep k.toNat) (by rw [nQ,Nat.mul_comm]; exact hz),rfl,q _ I.fresh⟩
end
section
variable {prog:Program} {w:World} {A:Around} {E:Value->Shared->Prop} {s:Shared}
end
section
variable {X:Cx}
end
end L2
namespace Att
open PySem PySem.W PySem.Calls PyProof.Rows
theorem km {P:Params}:∀ (ns:List Int) (vs:List Value),WellAll P h vs (ns.map WData.int)->IntsAre vs ns:=by
 intro ns
 induction ns with
 | nil=>
  intro vs w
  rw [List.map_nil] at w
  cases w
  exact .nil
 | cons n ns ih=>
  intro vs w
  rw [List.map_cons] at w
  cases w with
  | cons a b=>
   cases a
   exact .cons _ _ (ih _ b)
theorem xh {l:OpenLaw} (hn:l.most=some n) {P:Params} {args:List WData} {vals:List Value}
 (hpre:l.row.toRowW.claim.pre args=true) (hwl:WellAll P h vals args) :
  ∃ a vs ns,vals=[Value.ref a]/\args=[WData.list (ns.map WData.int)]/\h.get? a=some { cls:=.type "list",data:=.seq vs.toArray }/\IntsAre vs ns/\ns.length<=n:=by
 have hsh:WShape.hasAll [] args [.list .int]=true:=(pre_splitW hpre).1
 have hc:l.pre.holds [] { args:=args }=true:=(pre_splitW hpre).2
 obtain ⟨d,r,rfl,h1,h2⟩:=hasAllW_cons hsh
 obtain rfl:=hasAllW_nil h2
 obtain ⟨xs,rfl,h3⟩:=hasW_list h1
 obtain ⟨ns,rfl⟩:=items_int h3
 have hlen:ns.length<=n:=by
  unfold OpenLaw.pre at hc
  have h4:(WTm.not (.lt (.lit (.int (n:Int))) (.len (.arg 0)))).holds [] { args:=[.list (ns.map .int)] }=true:=by
   have h4:=(holds_andW hc).1
   rw [hn] at h4
   exact h4
  have h5:=condW_of h4 (w_not (w_lt w_lit (w_len_list (w_arg rfl))))
  rw [List.length_map] at h5
  refine Nat.le_of_not_lt fun q=>?_
  have q':(n:Int) < ((ns.length:Nat):Int):=by omega
  first
   | (rw [decide_eq_true q'] at h5; exact absurd h5 (by decide))
   | (simp at h5; omega)
 cases hwl with
 | cons w1 w2=>
  cases w2
  cases w1 with
  | list ho hall=>exact ⟨_,_,ns,rfl,rfl,ho,km ns _ hall,hlen⟩
theorem vB (l:OpenLaw) (args:List WData):l.row.toRowW.claim.post args (.bool true) args=true:=
 postW_of (r:=l.row.toRowW) (X:=(true==true))
  (show WShape.has [] (.bool true) .bool=true by first | rfl | decide | simp [WShape.has,WShape.arms,WShape.armsAll])
  (show (WTm.eq .res (.lit (.bool true))).value [] { args:=args,res:=some (.bool true),after:=args }=some (.bool (true==true)) from w_eq_bool (w_res rfl) w_lit) rfl
theorem attach_call {l:OpenLaw} {q:Program} {XP:(Str->Option Value)->Heap->Prop} {YP:World->Heap->Prop} {d:DefRec}
 (hn:l.most=some n) (hdf:d.params.defaults=[])
 (call:∀ (w:World) (s₀ s₁:Shared) (mg mb:Str->Option Value) (fa:Addr) (o:Obj) (pm cd doc:Value) (a:Addr) (vs:List Value) (ns:List Int),
 Ground q loose [] XP w s₀ mg mb s₁.heap->YP w s₁.heap->
 s₁.heap.get? fa=some o->o.data=.func (docDef d.name d.params d.body d.scope pm cd doc)->s₁.heap.CodeRec cd d.name->mg d.name=some (.ref fa)->
 s₁.heap.get? a=some { cls:=.type "list",data:=.seq vs.toArray }->IntsAre vs ns->ns.length<=n->s₁.gens = #[]->
 codeAny (model l.prog w) callerA (.call (.ref fa) ⟨[.ref a],[]⟩) (fun r s'=>r=.ok (.ret (.bool true))/\OldK s₁.heap s'.heap/\s'.os=s₁.os/\AllBare s'.gens) s₁) :
  WalkO q loose XP YP l.row.toRowW d [] (fun f vs=>PySem.call f vs):=by
 intro w s₀ s₁ mg mb G Y fa o pm cd doc dV kV ho hd hcd hD hmg hg args vals as hpre hlay hrd hwl hlo
 obtain rfl:dV=.none:=Dflts.none hD hdf
 obtain rfl:kV=.none:=Dflts.noKw hD
 obtain ⟨a,vs,ns,rfl,rfl,hobj,hints,hlen⟩:=xh hn hpre hwl
 refine enter_call (codeAny_mono (call w s₀ s₁ mg mb fa o pm cd doc a vs ns G Y ho (fd_plain hd) hcd hmg hobj hints hlen hg) fun r s' hq=>?_)
 obtain ⟨rfl,h2,h3,h4⟩:=hq
 exact ⟨.inl ⟨.bool true,.bool true,[],rfl,fun _=>rfl,.bool true,vB l _,fun _=>⟨List.Pairwise.nil,fun _ hm=>(nomatch hm)⟩⟩,h2,h3,h4⟩
section
variable {prog:Program} {w:World} {A:Around} {E:Value->Shared->Prop} {s:Shared} {K:Frag}
noncomputable def FV (h:Heap) (L d:Addr):List (Addr × Obj):=(List.range h.objs.size).filterMap fun a=>if a=L\/a=d then none else (h.get? a).map fun o=>(a,o)
end
end Att
namespace L2
open PySem PySem.Spec PyProof.Rows
theorem qm:∀ {vs:List Value} {ns:List Int},IntsAre vs ns->Vals (ns.map V.int) vs
 | _,_,.nil=>.nil
 | _,_,.cons n t h=>.cons ⟨t,rfl⟩ (qm h)
end L2
namespace L2
open PySem PySem.Spec PyProof.Rows
noncomputable abbrev KOf {K:PySem.W.Frag} {h:Heap} (_:K.In h):PySem.W.Frag:=K
end L2
/- THE LAST THEOREM (shape; LID,My.* are yours):
  My.Adr: a structure of the addresses that your layer names (classes,functions); My.Txt K t: a structure (Prop) of the equations over K;
  My.txt_mk:{K} {implicit addresses ..} (e1:nsIn K mainGlobals "law"=some (some (.ref f))) (e2:K.lookup f=some ⟨oc,od,.func (fnOf "law" "law" params body scope dV kV doc pm an cdv ct),sl⟩) (e3:codeIn K cdv "law"=true) .. : ∃ t,My.Txt K t
set_option maxRecDepth 100000 in
set_option maxHeartbeats 0 in
theorem PySem.Challenge.cw_LID_holds : PySem.Challenge.rw_LID.Holds := by
 w_on; o_law; k_head; (case hw=>w_witness2)
 k_fill
 refine L2.walk_of (l:=PySem.Challenge.rw_LID) (n:=63) (k:=40) (x:="script") (CX:=fun w=>..) (sp:=fun _=>My.sp_law) rfl (by decide) rfl ⟨rfl,by decide,by decide⟩ (fun w h Y=>PySem.W.kIn_of Y) ?F ?S ?C
 case F=>
  intro w mg fa h KX G hmg
  have T:∃ t,My.Txt (L2.KOf KX) t:=by
   dsimp only [L2.KOf]
   refine' My.txt_mk ?e1 ?e2 ?e3 ..
   (case e1=>PySem.W.k_is)
   (case e2=>PySem.W.k_is)
   ..
  obtain ⟨t,T⟩:=T
  have e0:=hmg.symm.trans (PySem.W.mg_of KX G T.law)
  cases e0
  exact ⟨_,fun s u=>.of_eq rfl,fun base kb nb=>My.law_fn T kb nb⟩
 case S=>exact fun w H a ns hl hO hS=>..
 case C=>exact ..
(the tactic k_is has no namespace: write k_is) -/
namespace L2
open PySem PySem.Spec PyProof.Rows
noncomputable def bb (s:Stmt) (j:Nat):Stmt:=match s with
 | .ClassDef _ _ _ body _ _ _ _ _ _ _=>body.getD j (.Pass ⟨0,0,0,0⟩)
 | _=>.Pass ⟨0,0,0,0⟩
noncomputable def cN (s:Stmt):Arguments:=match s with
 | .FunctionDef _ a _ _ _ _ _ _ _ _=>a
 | _=>{ posonlyargs:=[],args:=[],vararg:=none,kwonlyargs:=[],kw_defaults:=[],kwarg:=none,defaults:=[] }
noncomputable def bi (s:Stmt):List Stmt:=match s with
 | .FunctionDef _ _ b _ _ _ _ _ _ _=>b
 | _=>[]
noncomputable def av (s:Stmt):Scope:=match s with
 | .FunctionDef _ _ _ _ _ _ sc _ _ _=>sc
 | _=>{ kind:=.function,names:=[],isGenerator:=false,isCoroutine:=false }
structure Fun (K:PySem.W.Frag) (x qual:Str) (st:Stmt) (f:Addr) (fd:FuncData):Prop where
 ex:∃ (oc:Value) (od:Option Addr) (kV doc pm:Value) (an:Option Addr) (cdv ct:Value) (osl:Array (Option Value)),
  fd=PySem.W.fnOf x qual (cN st) (bi st) (av st) .none kV doc pm an cdv ct/\K.lookup f=some ⟨oc,od,.func fd,osl⟩/\PySem.W.codeIn K cdv qual=true
 kp:PySem.W.keepIn K (.ref f)=true
section
variable {P:Program} {w:World} {K:PySem.W.Frag} {mg:Str->Option Value} {base:Heap}
theorem Fun.binds (F:Fun K x qual st f fd)
 (h:∀ (kV doc pm:Value) (an:Option Addr) (cdv ct:Value) (us:List Value),us.length=ps.length->bindArgs (PySem.W.fnOf x qual (cN st) (bi st) (av st) .none kV doc pm an cdv ct) ⟨us,[]⟩=pure (ps.zip us)):Binds K fd ps []:=by
 obtain ⟨oc,od,kV,doc,pm,an,cdv,ct,osl,rfl,lk,hcd⟩:=F.ex
 exact .all (h kV doc pm an cdv ct)
theorem sV {kV ct:Value} (l:K.lookup f=some ⟨oc,od,.func (PySem.W.fnOf x qual (cN st) (bi st) (av st) .none kV doc pm an cdv ct),osl⟩)
 (c:PySem.W.codeIn K cdv qual=true) (k:PySem.W.keepIn K (.ref f)=true):Fun K x qual st f (PySem.W.fnOf x qual (cN st) (bi st) (av st) .none kV doc pm an cdv ct):=⟨⟨oc,od,kV,doc,pm,an,cdv,ct,osl,rfl,l,c⟩,k⟩
end
section
variable {X:Cx}
end
noncomputable def Same (H H':Hp):Prop:=∀ b o,H b=some o->H' b=some o
theorem Same.refl (H:Hp):Same H H:=fun _ _ h=>h
theorem Same.trans {H2:Hp} (a:Same H H1) (b:Same H1 H2):Same H H2:=fun c o h=>b c o (a c o h)
theorem Same.free (e:Same H H') {l:Addr} (h:H' l=Option.none):H l=Option.none:=by
 cases q:H l with
 | none=>rfl
 | some o=>
  rw [e l o q] at h
  cases h
theorem Same.seq {K:PySem.W.Frag} (e:Same H H') (h:SqL K H a xs):SqL K H' a xs:=by
 rcases h with (h | ⟨o,h⟩) | h
 ·exact .inl (.inl (e _ _ h))
 ·exact .inl (.inr ⟨o,e _ _ h⟩)
 ·exact .inr h
end L2
set_option maxRecDepth 100000
set_option maxHeartbeats 4000000
namespace L2
open PySem PySem.Spec PyProof.Rows
inductive D where
 | non | bl (b:Bool) | int (i:Int) | str (x:List Nat) | tup (xs:List D) | lst (fz:Bool) (xs:List D) | exc (C:Addr)
noncomputable def gD (a C:Addr):Heap->Prop:=fun h=>∃ ob,h.get? a=some ob/\ob.cls=.ref C
mutual
inductive Rep (K:PySem.W.Frag) (G:Hp):V->D->Prop
 | non:Rep K G .non .non
 | bl (b:Bool):Rep K G (.bl b) (.bl b)
 | int (i:Int):Rep K G (.int i) (.int i)
 | str (x:Str) (h:x.length<=sizeLine):Rep K G (.str x) (.str x.cps.toList)
 | tup {a:Addr} {vs:List V} {ds:List D} (h:SqT K G a vs) (r:Reps K G vs ds):Rep K G (.ref a) (.tup ds)
 | lst {a:Addr} {vs:List V} {ds:List D} (h:G a=some (.lst vs)) (r:Reps K G vs ds):Rep K G (.ref a) (.lst false ds)
 | fls {a:Addr} {vs:List V} {ds:List D} (h:SqL K G a vs) (r:Reps K G vs ds):Rep K G (.ref a) (.lst true ds)
 | exc {a C:Addr} (h:G a=some (.ext (gD a C))):Rep K G (.ref a) (.exc C)
inductive Reps (K:PySem.W.Frag) (G:Hp):List V->List D->Prop
 | nil:Reps K G [] []
 | cons {v:V} {d:D} {vs:List V} {ds:List D} (r:Rep K G v d) (t:Reps K G vs ds):Reps K G (v::vs) (d::ds)
end
section
variable {K:PySem.W.Frag} {G G' H H' G1 H1 G2 H2:Hp}
theorem SqT.mono (e:Same G G') (h:SqT K G a xs):SqT K G' a xs:=by
 rcases h with (h | ⟨o,h⟩) | h
 ·exact .inl (.inl (e _ _ h))
 ·exact .inl (.inr ⟨o,e _ _ h⟩)
 ·exact .inr h
theorem SqL.mono (e:Same G G') (h:SqL K G a xs):SqL K G' a xs:=e.seq h
mutual
theorem Rep.mono (e:Same G G'):∀ {v:V} {d:D},Rep K G v d->Rep K G' v d
 | _,_,.non=>.non
 | _,_,.bl b=>.bl b
 | _,_,.int i=>.int i
 | _,_,.str x h=>.str x h
 | _,_,.tup h r=>.tup (h.mono e) (Reps.mono e r)
 | _,_,.lst h r=>.lst (e _ _ h) (Reps.mono e r)
 | _,_,.fls h r=>.fls (h.mono e) (Reps.mono e r)
 | _,_,.exc h=>.exc (e _ _ h)
theorem Reps.mono (e:Same G G'):∀ {vs:List V} {ds:List D},Reps K G vs ds->Reps K G' vs ds
 | _,_,.nil=>.nil
 | _,_,.cons r t=>.cons (Rep.mono e r) (Reps.mono e t)
end
section inv
variable {v:V}
theorem Rep.int_inv {i:Int} (r:Rep K G v (.int i)):v=.int i:=by cases r; rfl
theorem Rep.bl_inv {b:Bool} (r:Rep K G v (.bl b)):v=.bl b:=by cases r; rfl
theorem Rep.non_inv (r:Rep K G v .non):v=.non:=by cases r; rfl
theorem Rep.str_inv {x:List Nat} (r:Rep K G v (.str x)):∃ y:Str,v=.str y/\y.cps.toList=x/\y.length<=sizeLine:=by
 generalize e:D.str x=d at r
 cases r with
 | str y h=>cases e; exact ⟨y,rfl,rfl,h⟩
 | _=>cases e
theorem Rep.tup_inv {ds:List D} (r:Rep K G v (.tup ds)):∃ a vs,v=.ref a/\SqT K G a vs/\Reps K G vs ds:=by
 cases r with
 | tup h t=>exact ⟨_,_,rfl,h,t⟩
theorem Rep.lst_inv {ds:List D} (r:Rep K G v (.lst false ds)):∃ a vs,v=.ref a/\G a=some (.lst vs)/\Reps K G vs ds:=by
 cases r with
 | lst h t=>exact ⟨_,_,rfl,h,t⟩
theorem Rep.seq_inv {f:Bool} {ds:List D} (r:Rep K G v (.lst f ds)):∃ a vs,v=.ref a/\SqL K G a vs/\Reps K G vs ds:=by
 cases r with
 | lst h t=>exact ⟨_,_,rfl,.of h,t⟩
 | fls h t=>exact ⟨_,_,rfl,h,t⟩
theorem Rep.exc_inv (r:Rep K G v (.exc C)):∃ a,v=.ref a/\G a=some (.ext (gD a C)):=by
 cases r with
 | exc h=>exact ⟨_,rfl,h⟩
theorem Rep.strL {x:List Nat} (e:y.cps.toList=x) (h:x.length<=sizeLine):Rep K G (.str y) (.str x):=by
 subst e; exact .str y (by simpa [Str.length] using h)
end inv
theorem Reps.length:∀ {vs:List V} {ds:List D},Reps K G vs ds->vs.length=ds.length
 | _,_,.nil=>rfl
 | _,_,.cons _ t=>by simp [Reps.length t]
theorem Reps.get:∀ {vs:List V} {ds:List D} {i:Nat} {d:D},Reps K G vs ds->ds[i]?=some d->∃ v,vs[i]?=some v/\Rep K G v d
 | _,_,_,_,.nil,e=>by simp at e
 | _,_,0,_,.cons r _,e=>by simp at e; subst e; exact ⟨_,rfl,r⟩
 | _,_,i+1,d,.cons _ t,e=>by
  obtain ⟨v,h1,h2⟩:=Reps.get (i:=i) (d:=d) t (by simpa using e)
  exact ⟨v,by simpa using h1,h2⟩
theorem Reps.append:∀ {vs ws:List V} {ds es:List D},Reps K G vs ds->Reps K G ws es->Reps K G (vs++ws) (ds++es)
 | _,_,_,_,.nil,s=>s
 | _,_,_,_,.cons r t,s=>.cons r (Reps.append t s)
theorem Reps.take:∀ {vs:List V} {ds:List D} (n:Nat),Reps K G vs ds->Reps K G (vs.take n) (ds.take n)
 | _,_,0,_=>by simpa using Reps.nil
 | _,_,_+1,.nil=>.nil
 | _,_,n+1,.cons r t=>.cons r (Reps.take n t)
theorem Reps.drop:∀ {vs:List V} {ds:List D} (n:Nat),Reps K G vs ds->Reps K G (vs.drop n) (ds.drop n)
 | _,_,0,r=>r
 | _,_,_+1,.nil=>.nil
 | _,_,n+1,.cons _ t=>Reps.drop n t
theorem Reps.rep {ds:List D} (r:Reps K G vs ds):∀ n:Nat,Reps K G (List.replicate n vs).flatten (List.replicate n ds).flatten
 | 0=>.nil
 | n+1=>by
  simp only [List.replicate_succ,List.flatten_cons]
  exact Reps.append r (Reps.rep r n)
structure Up (G H G' H':Hp):Prop where
 sub:Same G' H'
 gg:Same G G'
 hh:Same H H'
 fr:∀ a o,G' a=some o->G a=some o\/H a=none
theorem Up.refl (s:Same G H):Up G H G H:=⟨s,.refl _,.refl _,fun _ _ h=>.inl h⟩
theorem Up.trans (a:Up G H G1 H1) (b:Up G1 H1 G2 H2):Up G H G2 H2:=⟨b.sub,a.gg.trans b.gg,a.hh.trans b.hh,fun c o h=>by
 rcases b.fr c o h with h | h
 ·exact a.fr c o h
 ·exact .inr (a.hh.free h)⟩
theorem Same.both (s:Same G H):Same (upd G p o) (upd H p o):=fun a u h=>by
 unfold L2.upd at h ⊢
 split
 ·rename_i e; rw [if_pos e] at h; exact h
 ·rename_i e; rw [if_neg e] at h; exact s a u h
theorem Same.into (h:H p=none):Same H (upd H p o):=fun a u e=>by
 rw [aR (aU e h)]; exact e
theorem Up.new (s:Same G H) (hp:H p=none):Up G H (upd G p o) (upd H p o):=
 ⟨s.both,.into (s.free hp),.into hp,fun a u h=>by
  by_cases e:a=p
  ·subst e; exact .inr hp
  ·rw [aR e] at h; exact .inl h⟩
end
inductive R (α:Type) where
 | ok (a:α) | ex (C:Addr) | no
noncomputable def R.bind {α β:Type}:R α->(α->R β)->R β
 | .ok a,f=>f a
 | .ex C,_=>.ex C
 | .no,_=>.no
noncomputable instance:Monad R where
 pure:=.ok
 bind:=R.bind
section
variable {α β:Type}
@[simp] theorem R.ok_bind (a:α) (f:α->R β):(R.ok a>>=f)=f a:=rfl
@[simp] theorem R.ex_bind (C:Addr) (f:α->R β):((R.ex C:R α)>>=f)=.ex C:=rfl
noncomputable def R.post (m:R α) (P:α->Prop) (E:Addr->Prop):Prop:=match m with
 | .ok a=>P a
 | .ex C=>E C
 | .no=>False
theorem R.post.mono {m:R α} {P P':α->Prop} {E E':Addr->Prop} (h:m.post P E) (hp:∀ a,P a->P' a) (he:∀ C,E C->E' C):m.post P' E':=by
 cases m with
 | ok a=>exact hp a h
 | ex C=>exact he C h
 | no=>exact h
noncomputable def ofO:Option α->R α
 | some a=>.ok a
 | none=>.no
@[simp] theorem cA (a:α):ofO (some a)=R.ok a:=rfl
theorem ofO.ok {o:Option α} {P:α->Prop} {E:Addr->Prop} (h:(ofO o).post P E):∃ a,o=some a/\P a:=by
 cases o with
 | none=>exact h.elim
 | some a=>exact ⟨a,rfl,h⟩
end
inductive Fd where
 | val (d:D) | own (ds:List D)
inductive Sl where
  | val (d : D)
  /-- a list that no other name, and no datum, holds -/
  | own (ds : List D)
  /-- an instance of the class at C, at p, that no other name, and no datum, holds; m: it may be changed -/
  | obj (m : Bool) (C p : Addr) (fs : List (Nat × Fd))
noncomputable abbrev Ev:=List (Option Sl)
noncomputable def rdV (ρ:Ev) (i:Nat):R D:=match ρ[i]? with
 | some (some (.val d))=>.ok d
 | _=>.no
noncomputable def fnames:List Str:=["states","taken_back","width","screen","last_notes","tasks","numbers_given"]
noncomputable def cm (k:Nat):Str:=fnames.getD k ""
noncomputable abbrev jP:=Addr->Option (Nat × Nat)
noncomputable def FdAt (K:PySem.W.Frag) (H₀ G H:Hp) (ow:jP) (i:Nat) (m:Bool) (k:Nat):Fd->V->Prop
 | .val d,v=>Rep K G v d
 | .own ds,v=>∃ l ws,v=.ref l/\H l=some (.lst ws)/\G l=none/\(m=true->H₀ l=none)/\Reps K G ws ds/\ow l=some (i,k+1)
inductive FdsAt (K:PySem.W.Frag) (H₀ G H:Hp) (ow:jP) (i:Nat) (m:Bool):List (Nat × Fd)->List (Str × V)->Prop
 | nil:FdsAt K H₀ G H ow i m [] []
 | cons {k:Nat} {fd:Fd} {v:V} {fs:List (Nat × Fd)} {vs:List (Str × V)} (h:k < fnames.length) (nk:fs.lookup k=none) (r:FdAt K H₀ G H ow i m k fd v) (t:FdsAt K H₀ G H ow i m fs vs):FdsAt K H₀ G H ow i m ((k,fd)::fs) ((cm k,v)::vs)
noncomputable def ObjAt (K:PySem.W.Frag) (H₀ G H:Hp) (ow:jP) (i:Nat) (m:Bool) (C p:Addr) (fs:List (Nat × Fd)):Prop:=
 ∃ dx vs,H p=some (.ins C dx vs)/\H dx=some (.own p)/\G p=none/\G dx=none/\(m=true->H₀ p=none/\H₀ dx=none)/\ow p=some (i,0)/\ow dx=some (i,0)/\FdsAt K H₀ G H ow i m fs vs
section
variable {K:PySem.W.Frag} {H₀ H₀' G H G' H':Hp} {ow ow':jP} {i:Nat}
structure ObKeep (H₀ H₀' G H G' H':Hp) (ow ow':jP) (i:Nat):Prop where
 hh:∀ a t o,ow a=some (i,t)->H a=some o->H' a=some o
 gg:Same G G'
 gn:∀ a t o,ow a=some (i,t)->H a=some o->G a=none->G' a=none
 oo:∀ a t o,ow a=some (i,t)->H a=some o->ow' a=some (i,t)
 h0:∀ a o,H a=some o->G a=none->H₀ a=none->H₀' a=none
theorem FdAt.keep (k:ObKeep H₀ H₀' G H G' H' ow ow' i) {m:Bool}:∀ {fd:Fd} {v:V},FdAt K H₀ G H ow i m n fd v->FdAt K H₀' G' H' ow' i m n fd v
 | .val d,v,r=>Rep.mono k.gg (show Rep K G v d from r)
 | .own ds,v,⟨l,ws,e,h1,h2,h3,h4,h5⟩=>⟨l,ws,e,k.hh l _ _ h5 h1,k.gn l _ _ h5 h1 h2,fun z=>k.h0 l _ h1 h2 (h3 z),h4.mono k.gg,k.oo l _ _ h5 h1⟩
theorem FdsAt.keep (k:ObKeep H₀ H₀' G H G' H' ow ow' i) {m:Bool}:∀ {fs:List (Nat × Fd)} {vs:List (Str × V)},FdsAt K H₀ G H ow i m fs vs->FdsAt K H₀' G' H' ow' i m fs vs
 | _,_,.nil=>.nil
 | _,_,.cons h nk r t=>.cons h nk (FdAt.keep k r) (FdsAt.keep k t)
theorem ObjAt.keep (k:ObKeep H₀ H₀' G H G' H' ow ow' i) {m:Bool} {fs:List (Nat × Fd)} (h:ObjAt K H₀ G H ow i m C p fs):ObjAt K H₀' G' H' ow' i m C p fs:=by
 obtain ⟨dx,vs,h1,h2,h3,h4,h5,h6,h7,h8⟩:=h
 exact ⟨dx,vs,k.hh p _ _ h6 h1,k.hh dx _ _ h7 h2,k.gn p _ _ h6 h1 h3,k.gn dx _ _ h7 h2 h4,fun z=>⟨k.h0 p _ h1 h3 (h5 z).1,k.h0 dx _ h2 h4 (h5 z).2⟩,k.oo p _ _ h6 h1,k.oo dx _ _ h7 h2,h8.keep k⟩
theorem ObKeep.up (u:Up G H G' H'):ObKeep H₀ H₀ G H G' H' ow ow i:=by
 have gn:∀ a o,H a=some o->G a=none->G' a=none:=fun a o e n=>by
  cases q:G' a with
  | none=>rfl
  | some o'=>
   rcases u.fr a o' q with z | z
   ·rw [n] at z; cases z
   ·rw [e] at z; cases z
 exact ⟨fun a t o _ e=>u.hh a o e,u.gg,fun a t o _ e n=>gn a o e n,fun a t o e _=>e,fun a o _ _ n=>n⟩
end
theorem ObjAt.rd {K:PySem.W.Frag} {H₀:Hp} {ow:jP} {m:Bool} {fs:List (Nat × Fd)} (h:ObjAt K H₀ G H ow i m C p fs):ObjAt K (fun _=>none) G H ow i m C p fs:=
 h.keep ⟨fun _ _ _ _ e=>e,.refl _,fun _ _ _ _ _ n=>n,fun _ _ _ e _=>e,fun _ _ _ _ _=>rfl⟩
structure StE (K:PySem.W.Frag) (G H:Hp) (σ:St) (ρ:Ev):Prop where
 sub:Same G H
 len:σ.length=ρ.length
 val:∀ (i:Nat) d,ρ[i]?=some (some (.val d))->∃ v,σ[i]?=some (some v)/\Rep K G v d
 obs:∀ (i:Nat) m C p fs,ρ[i]?=some (some (.obj m C p fs))->σ[i]?=some (some (.ref p))/\∃ ow,ObjAt K (fun _=>none) G H ow i m C p fs
theorem StE.up {K:PySem.W.Frag} {G':Hp} {ρ:Ev} (s:StE K G H σ ρ) (u:Up G H G' H'):StE K G' H' σ ρ:=
 ⟨u.sub,s.len,fun i d e=>let ⟨v,h1,h2⟩:=s.val i d e; ⟨v,h1,h2.mono u.gg⟩,fun i m C p fs e=>let ⟨h1,ow,h2⟩:=s.obs i m C p fs e; ⟨h1,ow,h2.keep (.up u)⟩⟩
noncomputable def Ax (P:Program) (w:World) (outer:List Env) (H:Hp) (s:Shared) (a C:Addr) (H':Hp) (s':Shared):Prop:=
 s'.os=s.os/\AllBare s'.gens/\Un (frs outer) [] H H' s.heap s'.heap/\HOk P w H' s'.heap/\H' a=none/\
 ∃ (B:Heap) (a0:Value),Heap.FlyingW B outer a (.ref C) a0 s'.heap/\∀ b o,b ∉ frs outer->((∃ o0,s.heap.get? b=some o0)\/∃ u,H' b=some u)->s'.heap.get? b=some o->B.get? b=some o
noncomputable def CXo (P:Program) (w:World):CXT:=fun outer H s E e s'=>∃ a C H',e=.ref a/\Ax P w outer H s a C H' s'/\E (.ref C) none H'
noncomputable def E6 (X:Cx) (pins:List (Addr × Obj)) (b:Addr):Prop:=
 (b ∈ X.ex\/X.s₀.heap.objs.size<=b)/\b ≠ X.env.locals/\(∀ x c,X.env.cells.lookup x=some c->c ≠ b)/\∀ p ∈ X.pn++pins,p.1 ≠ b
noncomputable def zF (X:Cx) (pins:List (Addr × Obj)) (L:Addr) (H:Hp) (s:Shared) (a C:Addr) (H':Hp) (s':Shared):Prop:=
 s'.os=s.os/\AllBare s'.gens/\(∃ ch,(∀ b ∈ ch,E6 X pins b)/\Un (frs X.stack) ch H H' s.heap s'.heap)/\HOk X.prog X.w H' s'.heap/\H' a=none/\s.heap.get? a=none/\
 ∃ (B:Heap) (a0:Value),Heap.HeldW B X.stack a (.ref C) a0 L s'.heap/\∀ b o,b ∉ frs X.stack->((∃ o0,s.heap.get? b=some o0)\/∃ u,H' b=some u)->s'.heap.get? b=some o->B.get? b=some o
noncomputable def FZ (X:Cx) (σ:St) (G₁ H₁:Hp) (C:Addr) (e:Value) (s':Shared):Prop:=
 ∃ pins s₁ a,e=.ref a/\Inv X pins σ H₁ s₁/\
  ((∃ h' vs,Heap.MadeExcOf s₁.heap h' a (.ref C) vs/\s'={ s₁ with heap:=h' })\/(∃ G' H',Ax X.prog X.w X.stack H₁ s₁ a C H' s'/\Up G₁ H₁ G' H')\/∃ G' H' L,X.env.frame=some L/\zF X pins L H₁ s₁ a C H' s'/\Up G₁ H₁ G' H')
noncomputable def Fly (X:Cx) (σ:St) (G H:Hp) (C:Addr) (e:Value) (s':Shared):Prop:=∃ G₁ H₁,Up G H G₁ H₁/\FZ X σ G₁ H₁ C e s'
theorem Fly.up {G1:Hp} {e:Value} (u:Up G H G1 H1) (f:Fly X σ G1 H1 C e s'):Fly X σ G H C e s':=
 let ⟨G2,H2,v,q⟩:=f; ⟨G2,H2,u.trans v,q⟩
section
variable {α β:Type}
noncomputable def Fin (G H:Hp) (rep:Hp->β->α->Prop) (Q:β->Hp->Prop):α->Prop:=fun d=>∀ v G' H',Up G H G' H'->rep G' v d->Q v H'
noncomputable def Exx (X:Cx) (σ:St) (G H:Hp):Addr->Prop:=fun C=>∀ e s',Fly X σ G H C e s'->X.xe e s'
theorem Fin.up {G1:Hp} {rep:Hp->β->α->Prop} {Q:β->Hp->Prop} {d:α} (u:Up G H G1 H1) (h:Fin G H rep Q d):Fin G1 H1 rep Q d:=fun v G' H' u' r=>h v G' H' (u.trans u') r
theorem Exx.up {G1:Hp} (u:Up G H G1 H1) (h:Exx X σ G H C):Exx X σ G1 H1 C:=fun e s' f=>h e s' (f.up u)
theorem iQ {G1:Hp} {rep:Hp->β->α->Prop} {Q:β->Hp->Prop} {m:R α} (u:Up G H G1 H1) (h:m.post (Fin G H rep Q) (Exx X σ G H)):m.post (Fin G1 H1 rep Q) (Exx X σ G1 H1):=
 h.mono (fun _=>Fin.up u) fun _=>Exx.up u
noncomputable def tG (X:Cx) (rep:Hp->β->α->Prop) (g:Ev->R α):St->Hp->(β->Hp->Prop)->Prop:=fun σ H Q=>∃ G ρ,StE X.K G H σ ρ/\(g ρ).post (Fin G H rep Q) (Exx X σ G H)
theorem tG.intro {γ δ:Type} {ρ:Ev} {rep:Hp->β->α->Prop} {rep':Hp->δ->γ->Prop} {g:Ev->R α} {k:α->R γ} {Q:β->Hp->Prop} {Q':δ->Hp->Prop} (st:StE X.K G H σ ρ)
 (h:(g ρ>>=k).post (Fin G H rep' Q') (Exx X σ G H)) (hk:∀ a,∀ v G1 H1,Up G H G1 H1->StE X.K G1 H1 σ ρ->rep G1 v a->(k a).post (Fin G1 H1 rep' Q') (Exx X σ G1 H1)->Q v H1):tG X rep g σ H Q:=by
 refine ⟨G,ρ,st,?_⟩
 cases e:g ρ with
 | ok a=>rw [e] at h; exact fun v G' H' u r=>hk a v G' H' u (st.up u) r (iQ u h)
 | ex C=>rw [e] at h; exact h
 | no=>rw [e] at h; exact h
theorem tG.last {ρ:Ev} {rep:Hp->β->α->Prop} {g:Ev->R α} {Q:β->Hp->Prop} (st:StE X.K G H σ ρ) (h:(g ρ).post (Fin G H rep Q) (Exx X σ G H)):tG X rep g σ H Q:=⟨G,ρ,st,h⟩
end
noncomputable abbrev tF (X:Cx) (g:Ev->R D):TE:=tG X (Rep X.K) g
noncomputable abbrev tTF (X:Cx) (g:Ev->R Bool):TT:=tG X (fun _ b c=>b=c) g
noncomputable abbrev tAF (X:Cx) (g:Ev->R (List D)):TA:=tG X (Reps X.K) g
noncomputable def QF (X:Cx) (e:Expr) (g:Ev->R D):Prop:=PE X e (tF X g)
noncomputable def QB (X:Cx) (e:Expr) (g:Ev->R Bool):Prop:=PT X e (tTF X g)
noncomputable def QBW (X:Cx) (e:Expr) (g:Ev->R Bool):Prop:=PW X e (tTF X g)
noncomputable def QFA (X:Cx) (es:List Expr) (g:Ev->R (List D)):Prop:=PA X es (tAF X g)
end L2
variable {g aX aG ai aC aS aZ:List L2.D->L2.R L2.D} {ds:List L2.D} {ow:L2.jP} {ρ:L2.Ev} {d:L2.D} {gl gi:L2.Ev->L2.R (List L2.D)} {asg:L2.D->L2.Ev->L2.R L2.Ev} {gs:List (L2.Ev->L2.R L2.D)} {gb:L2.Ev->L2.R L2.D}
namespace L2
open PySem PySem.Spec PyProof.Rows
theorem rdV.ok {P:D->Prop} {E:Addr->Prop} (h:(rdV ρ i).post P E):∃ d,ρ[i]?=some (some (.val d))/\P d:=by
 unfold rdV at h
 split at h
 ·rename_i d e; exact ⟨d,e,h⟩
 ·exact h.elim
section
variable {X:Cx} {e a b c:Expr} {ga gb gc:Ev->R D} {pos:Pos}
theorem jG (i:Nat) (hN:X.N[i]?=some x:=by rfl) (hv:Vis X.env.scope x:=by first | exact Or.inl rfl | exact Or.inr (Or.inl rfl) | exact Or.inr (Or.inr rfl)) (hd:(x==("__debug__":Str))=false:=by decide)
 (hcd:(x==("__classdict__":Str))=false:=by decide):QF X (.Name x pos) (fun ρ=>rdV ρ i):=by
 intro pins s σ H Q I h
 obtain ⟨G,ρ,st,h⟩:=h
 refine eu hN hv hd hcd pins s σ H Q I ?_
 obtain ⟨d,e,q⟩:=rdV.ok h
 obtain ⟨v,e',r⟩:=st.val i d e
 exact ⟨v,e',q v G H (.refl st.sub) r⟩
theorem dD (h:PE X e (tC v)) (hr:∀ K G,Rep K G v d):QF X e (fun _=>.ok d):=by
 intro pins s σ H Q I q
 obtain ⟨G,ρ,st,q⟩:=q
 exact h pins s σ H Q I (q v G H (.refl st.sub) (hr _ _))
noncomputable def ROk (K:PySem.W.Frag) (r:R2) (f:D->D->Option D):Prop:=∀ (G H:Hp) (x y:V) (dx dy d:D) (Q:VK),Same G H->Rep K G x dx->Rep K G y dy->f dx dy=some d->Fin G H (Rep K) Q d->r x y H Q
noncomputable def g2 (f:D->D->Option D) (ga gb:Ev->R D):Ev->R D:=fun ρ=>ga ρ>>=fun x=>gb ρ>>=fun y=>ofO (f x y)
theorem yq {r:R2} {f:D->D->Option D} (hf:ROk X.K r f) {Q:VK} (h:tF X (g2 f ga gb) σ H Q):tOp r (tF X ga) (tF X gb) σ H Q:=by
 obtain ⟨G,ρ,st,h⟩:=h
 refine tG.intro st h fun x v G1 H1 u1 st1 r1 h1=>?_
 refine tG.intro st1 h1 fun y w G2 H2 u2 st2 r2 h2=>?_
 obtain ⟨d,e,q⟩:=ofO.ok h2
 exact hf G2 H2 v w x y d Q st2.sub (r1.mono u2.gg) r2 e q
theorem hG {op:Operator} {r:R2} {f:D->D->Option D} (ho:OpR X (binaryOp op) r) (hf:ROk X.K r f) (ha:QF X a ga) (hb:QF X b gb):QF X (.BinOp a op b pos) (g2 f ga gb):=
 fun pins s σ H Q I h=>E1 ho ha hb pins s σ H Q I (yq hf h)
theorem tM {op:CmpOp} {r:R2} {f:D->D->Option D} (ho:OpR X (compareOp op) r) (hf:ROk X.K r f) (ha:QF X a ga) (hb:QF X b gb) (hm:behindInMarks op b=false):QF X (.Compare a [op] [b] pos) (g2 f ga gb):=
 fun pins s σ H Q I h=>vS ho ha hb hm pins s σ H Q I (yq hf h)
noncomputable def g3 (f f':D->D->Option D) (ga gb gc:Ev->R D):Ev->R D:=fun ρ=>ga ρ>>=fun x=>gb ρ>>=fun y=>ofO (f x y)>>=fun z=>match z with
 | .bl true=>gc ρ>>=fun w=>ofO (f' y w)
 | .bl false=>.ok (.bl false)
 | _=>.no
theorem vk {op op':CmpOp} {r r':R2} {f f':D->D->Option D} (ho:OpR X (compareOp op) r) (ho':OpR X (compareOp op') r') (hf:ROk X.K r f) (hf':ROk X.K r' f') (ha:QF X a ga) (hb:QF X b gb) (hc:QF X c gc)
 (hm:lastMarks [op,op'] [b,c]=false:=by with_unfolding_all rfl):QF X (.Compare a [op,op'] [b,c] pos) (g3 f f' ga gb gc):=by
 intro pins s σ H Q I h
 refine yu ho ho' ha hb hc hm pins s σ H Q I ?_
 obtain ⟨G,ρ,st,h⟩:=h
 refine tG.intro st h fun x v G1 H1 u1 st1 r1 h1=>?_
 refine tG.intro st1 h1 fun y w G2 H2 u2 st2 r2 h2=>?_
 cases e:f x y with
 | none=>rw [e] at h2; exact h2.elim
 | some d=>
  rw [e] at h2
  refine hf G2 H2 v w x y d _ st2.sub (r1.mono u2.gg) r2 e fun z G3 H3 u3 r3=>?_
  have h3:=iQ u3 h2
  have st3:=st2.up u3
  cases r3 with
  | bl k=>
   refine ⟨k,rfl,?_⟩
   cases k with
   | false=>rw [if_neg Bool.false_ne_true]; exact h3 _ G3 H3 (.refl st3.sub) (.bl false)
   | true=>
    rw [if_pos rfl]
    refine tG.intro st3 (show (gc ρ>>=fun w=>ofO (f' y w)).post _ _ from h3) fun q vq G4 H4 u4 st4 r4 h4=>?_
    obtain ⟨d,e',q'⟩:=ofO.ok h4
    exact hf' G4 H4 w vq y q d Q st4.sub ((r2.mono u3.gg).mono u4.gg) r4 e' q'
  | _=>exact h3.elim
end
section
variable {X:Cx}
noncomputable def eE:D->D->Option D
 | .int i,.int j=>some (.int (i+j))
 | .str x,.str y=>if x.length+y.length<=sizeLine then some (.str (x++y)) else none
 | .lst false xs,.lst false ys=>if xs.length+ys.length<=sizeLine then some (.lst false (xs++ys)) else none
 | .tup xs,.tup ys=>if xs.length+ys.length<=sizeLine then some (.tup (xs++ys)) else none
 | _,_=>none
noncomputable def zu (K:PySem.W.Frag):R2:=fun x y H Q=>∃ a b xs ys,x=.ref a/\y=.ref b/\SqT K H a xs/\SqT K H b ys/\xs.length+ys.length<=sizeLine/\
 (xs=[]->Q (.ref b) H)/\(xs ≠ []->ys=[]->Q (.ref a) H)/\(xs ≠ []->ys ≠ []->∀ p,H p=none->Q (.ref p) (upd H p (.tup (xs++ys))))
theorem yk:OpR X (binaryOp .Add) (zu X.K):=by
 intro pins s σ H x y v u Q I rx ry h
 obtain ⟨a,b,xs,ys,rfl,rfl,ha,hb,hz,q0,q1,q2⟩:=h
 by_cases hx:xs=[]
 ·cases rx
  cases ry
  obtain ⟨its,r1,p1,_⟩:=I.tuple ha
  obtain ⟨its2,r2,p2,_⟩:=I.tuple hb
  have hi:its=[]:=r1.nil_iff.mpr hx
  obtain ⟨⟨cls,dd,data,sl⟩,ho,hc,n,hd⟩:=id p1
  obtain ⟨⟨cls2,dd2,data2,sl2⟩,ho2,hc2,n2,hd2⟩:=id p2
  simp only at hc hd hc2 hd2
  subst hc hd hc2 hd2
  exact concat_meets ⟨_,ho,rfl⟩ ⟨_,ho2,rfl⟩ noFill_tuple_add seq_tuple_add PySem.F.slot_tuple_add PySem.F.entry_tuple_add (PySem.F.args_tuple_add_2 _ _)
   (tuple_addW0 a b its.toArray its2.toArray n n2 dd dd2 sl sl2 (by simp [hi])) ⟨ho,ho2,.ref b,H,I,rfl,q0 hx⟩
 ·exact A3 pins s σ H _ _ v u Q I rx ry ⟨a,b,xs,ys,rfl,rfl,ha,hb,hx,hz,q1 hx,q2 hx⟩
noncomputable def BP (K:PySem.W.Frag):R2:=fun x y H Q=>(rI0 fun i j=>.int (i+j)) x y H Q\/(∃ i j,x=.str i/\y=.str j/\i.length+j.length<=sizeLine/\Q (.str (i++j)) H)\/FY x y H Q\/zu K x y H Q
theorem AO:OpR X (binaryOp .Add) (BP X.K):=op_add.or (op_add_str.or (op_cat.or yk))
theorem Str.app_list (x y:Str):(x++y).cps.toList=x.cps.toList++y.cps.toList:=by
 show (x.cps++y.cps).toList=_
 simp
theorem Str.len_list (x:Str):x.cps.toList.length=x.length:=by simp [Str.length]
theorem Cq (K:PySem.W.Frag):ROk K (BP K) eE:=by
 intro G H x y dx dy d Q s rx ry e q
 unfold eE at e
 split at e
 ·cases e
  exact .inl ⟨_,_,rx.int_inv,ry.int_inv,q _ G H (.refl s) (.int _)⟩
 ·split at e
  ·rename_i hz
   cases e
   obtain ⟨i,rfl,ei,hi⟩:=rx.str_inv
   obtain ⟨j,rfl,ej,hj⟩:=ry.str_inv
   subst ei ej
   rw [Str.len_list,Str.len_list] at hz
   exact .inr (.inl ⟨i,j,rfl,rfl,hz,q _ G H (.refl s) (.strL (Str.app_list i j) (by rw [List.length_append,Str.len_list,Str.len_list]; exact hz))⟩)
  ·cases e
 ·split at e
  ·rename_i hz
   cases e
   obtain ⟨a,vs,rfl,ha,ra⟩:=rx.lst_inv
   obtain ⟨b,ws,rfl,hb,rb⟩:=ry.lst_inv
   refine .inr (.inr (.inl ⟨a,b,vs,ws,rfl,rfl,s _ _ ha,s _ _ hb,by rw [ra.length,rb.length]; exact hz,fun p hp=>q _ _ _ (.new s hp) (.lst bf ?_)⟩))
   exact (ra.append rb).mono (.into (s.free hp))
  ·cases e
 ·split at e
  ·rename_i hz
   cases e
   obtain ⟨a,vs,rfl,ha,ra⟩:=rx.tup_inv
   obtain ⟨b,ws,rfl,hb,rb⟩:=ry.tup_inv
   refine .inr (.inr (.inr ⟨a,b,vs,ws,rfl,rfl,ha.mono s,hb.mono s,by rw [ra.length,rb.length]; exact hz,fun z=>?_,fun _ z=>?_,fun _ _ p hp=>?_⟩))
   ·subst z
    cases ra
    exact q _ G H (.refl s) (.tup hb rb)
   ·subst z
    cases rb
    rw [List.append_nil] at q
    exact q _ G H (.refl s) (.tup ha ra)
   ·exact q _ _ _ (.new s hp) (.tup (.of bf) ((ra.append rb).mono (.into (s.free hp))))
  ·cases e
 ·cases e
noncomputable def zA:D->D->Option D
 | .int i,.int j=>some (.int (i - j))
 | _,_=>none
noncomputable def yZ:D->D->Option D
 | .int i,.int j=>if 0 < j/\j < 1073741824 then some (.int (i / j)) else none
 | _,_=>none
noncomputable def qk:D->D->Option D
 | .int i,.int j=>if 0 < j then some (.int (i % j)) else none
 | _,_=>none
end
end L2
namespace L2
open PySem PySem.Spec PyProof.Rows
section
variable {X:Cx} {a b c e:Expr} {ga gb gc:Ev->R D} {pos:Pos}
noncomputable def leD:D->D->Option D
 | .int i,.int j=>some (.bl (decide (i<=j)))
 | .str x,.str y=>some (.bl (!decide (y < x)))
 | _,_=>none
noncomputable def ltD:D->D->Option D
 | .int i,.int j=>some (.bl (decide (i < j)))
 | .str x,.str y=>some (.bl (decide (x < y)))
 | _,_=>none
noncomputable def gtD:D->D->Option D
 | .int i,.int j=>some (.bl (decide (j < i)))
 | _,_=>none
noncomputable def geD:D->D->Option D
 | .int i,.int j=>some (.bl (decide (j<=i)))
 | _,_=>none
theorem vP:OpR X (compareOp .LtE) (fun x y H Q=>∃ i j:Str,x=.str i/\y=.str j/\Q (.bl (!decide (j.cps.toList < i.cps.toList))) H):=by
 intro pins s σ H x y v u Q I rx ry h
 obtain ⟨i,j,rfl,rfl,q⟩:=h
 obtain ⟨t,rfl⟩:=rx
 obtain ⟨t',rfl⟩:=ry
 exact PySem.P.le_str (zw I q rfl)
theorem uW (K:PySem.W.Frag):ROk K (fun x y H Q=>(rI0 fun i j=>.bl (decide (i<=j))) x y H Q\/∃ i j:Str,x=.str i/\y=.str j/\Q (.bl (!decide (j.cps.toList < i.cps.toList))) H) leD:=by
 intro G H x y dx dy d Q s rx ry e q
 unfold leD at e
 split at e
 ·cases e
  exact .inl ⟨_,_,rx.int_inv,ry.int_inv,q _ G H (.refl s) (.bl _)⟩
 ·cases e
  obtain ⟨i,rfl,ei,hi⟩:=rx.str_inv
  obtain ⟨j,rfl,ej,hj⟩:=ry.str_inv
  subst ei ej
  exact .inr ⟨i,j,rfl,rfl,q _ G H (.refl s) (.bl _)⟩
 ·cases e
theorem DD (K:PySem.W.Frag):ROk K (fun x y H Q=>(rI0 fun i j=>.bl (decide (i < j))) x y H Q\/∃ i j:Str,x=.str i/\y=.str j/\Q (.bl (decide (i.cps.toList < j.cps.toList))) H) ltD:=by
 intro G H x y dx dy d Q s rx ry e q
 unfold ltD at e
 split at e
 ·cases e
  exact .inl ⟨_,_,rx.int_inv,ry.int_inv,q _ G H (.refl s) (.bl _)⟩
 ·cases e
  obtain ⟨i,rfl,ei,hi⟩:=rx.str_inv
  obtain ⟨j,rfl,ej,hj⟩:=ry.str_inv
  subst ei ej
  exact .inr ⟨i,j,rfl,rfl,q _ G H (.refl s) (.bl _)⟩
 ·cases e
theorem Ff (K:PySem.W.Frag):ROk K (rI0 fun i j=>.bl (decide (j < i))) gtD:=by
 intro G H x y dx dy d Q s rx ry e q
 unfold gtD at e
 split at e
 ·cases e
  exact ⟨_,_,rx.int_inv,ry.int_inv,q _ G H (.refl s) (.bl _)⟩
 ·cases e
theorem ET (K:PySem.W.Frag):ROk K (rI0 fun i j=>.bl (decide (j<=i))) geD:=by
 intro G H x y dx dy d Q s rx ry e q
 unfold geD at e
 split at e
 ·cases e
  exact ⟨_,_,rx.int_inv,ry.int_inv,q _ G H (.refl s) (.bl _)⟩
 ·cases e
theorem mw:OpR X (compareOp .LtE) (fun x y H Q=>(rI0 fun i j=>.bl (decide (i<=j))) x y H Q\/∃ i j:Str,x=.str i/\y=.str j/\Q (.bl (!decide (j.cps.toList < i.cps.toList))) H):=op_le.or vP
theorem zH:OpR X (compareOp .Lt) (fun x y H Q=>(rI0 fun i j=>.bl (decide (i < j))) x y H Q\/∃ i j:Str,x=.str i/\y=.str j/\Q (.bl (decide (i.cps.toList < j.cps.toList))) H):=op_lt.or vN
end
noncomputable def eqZ (f:D->D->Option Bool):List D->List D->Option (List Bool)
 | x::xs,y::ys=>(f x y).bind fun b=>(eqZ f xs ys).map (b::·)
 | _,_=>some []
noncomputable def eqD:Nat->D->D->Option Bool
 | 0,_,_=>none
 | n+1,a,b=>match a,b with
  | .non,.non=>some true
  | .bl x,.bl y=>some (x==y)
  | .int i,.int j=>some (i==j)
  | .str x,.str y=>some (x==y)
  | .bl x,.int j=>some ((if x then 1 else 0)==j)
  | .int i,.bl y=>some (i==(if y then 1 else 0))
  | .lst _ xs,.lst _ ys=>if xs.length=ys.length then (eqZ (eqD n) xs ys).map fun bs=>bs.all id else some false
  | .tup xs,.tup ys=>(eqZ (eqD n) xs ys).map fun bs=>bs.all id && xs.length==ys.length
  | .exc _,_=>none
  | _,.exc _=>none
  | _,_=>some false
theorem eqZ.get {f:D->D->Option Bool}:∀ {xs ys:List D} {bs:List Bool},eqZ f xs ys=some bs->bs.length=min xs.length ys.length/\∀ (j:Nat) (x y:D),xs[j]?=some x->ys[j]?=some y->∃ b,bs[j]?=some b/\f x y=some b
 | [],_,_,e=>by simp [eqZ] at e; subst e; exact ⟨by simp,fun j x y h=>by simp at h⟩
 | _::_,[],_,e=>by simp [eqZ] at e; subst e; exact ⟨by simp,fun j x y _ h=>by simp at h⟩
 | x::xs,y::ys,bs,e=>by
  unfold eqZ at e
  cases e1:f x y with
  | none=>rw [e1] at e; cases e
  | some b=>
   rw [e1] at e
   cases e2:eqZ f xs ys with
   | none=>rw [e2] at e; cases e
   | some cs=>
    rw [e2] at e
    cases e
    obtain ⟨h1,h2⟩:=eqZ.get e2
    refine ⟨by simp [h1],fun j=>?_⟩
    cases j with
    | zero=>intro x' y' hx hy; simp at hx hy; subst hx hy; exact ⟨b,rfl,e1⟩
    | succ j=>intro x' y' hx hy; exact h2 j x' y' (by simpa using hx) (by simpa using hy)
theorem lq {bs:List Bool} (h:bs.length=n):(List.range n).all (fun j=>bs.getD j true)=bs.all id:=by
 subst h
 rw [Bool.eq_iff_iff,List.all_eq_true,List.all_eq_true]
 constructor
 ·intro h b hb
  obtain ⟨i,hi,rfl⟩:=List.mem_iff_getElem.mp hb
  have:=h i (by simpa using hi)
  simpa [List.getD_eq_getElem?_getD,hi] using this
 ·intro h j hj
  have hj':j < bs.length:=by simpa using hj
  have:=h bs[j] (List.getElem_mem hj')
  simpa [List.getD_eq_getElem?_getD,hj'] using this
theorem dB:(Value.type "list":Value) ≠ .type "tuple":=by
 intro h
 injection h with h
 exact absurd h (by decide)
section
variable {X:Cx} {pins:List (Addr × Obj)} {σ:St} {G H:Hp} {s:Shared}
open SeqAt
theorem ff (I:Inv X pins σ H s) (sub:Same G H):∀ (n:Nat) (a b:D) (k:Bool) (x:V),eqD n a b=some k->Rep X.K G x a->Rep X.K G x b->k=true:=by
 intro n
 induction n with
 | zero=>intro a b k x e; cases e
 | succ n ih=>
  have sq:∀ (vs:List V) (xs ys:List D),Reps X.K G vs xs->Reps X.K G vs ys->∀ bs,eqZ (eqD n) xs ys=some bs->bs.all id=true:=by
   intro vs
   induction vs with
   | nil=>intro xs ys h1 h2 bs e; cases h1; cases h2; simp [eqZ] at e; subst e; rfl
   | cons v vs ihv=>
    intro xs ys h1 h2 bs e
    cases h1 with
    | cons r1 t1=>
     cases h2 with
     | cons r2 t2=>
      unfold eqZ at e
      rename_i d1 ds1 d2 ds2
      cases e1:eqD n d1 d2 with
      | none=>rw [e1] at e; cases e
      | some b=>
       rw [e1] at e
       cases e2:eqZ (eqD n) ds1 ds2 with
       | none=>rw [e2] at e; cases e
       | some cs=>
        rw [e2] at e
        cases e
        rw [List.all_cons,ih _ _ _ _ e1 r1 r2,ihv _ _ t1 t2 _ e2]
        rfl
  intro a b k x e ra rb
  cases ra with
  | non=>cases rb; simp [eqD] at e; exact e
  | bl y=>cases rb; simp [eqD] at e; exact e
  | int i=>cases rb; simp [eqD] at e; exact e
  | str y h=>
   cases rb with
   | str z h'=>simp [eqD] at e; exact e
  | tup h r=>
   cases rb with
   | tup h' r'=>
    have q:=I.tuple_inj (h.mono sub) (h'.mono sub)
    subst q
    simp only [eqD] at e
    rename_i ds es
    cases e2:eqZ (eqD n) ds es with
    | none=>rw [e2] at e; cases e
    | some cs=>
     rw [e2] at e
     have this:(cs.all id && ds.length==es.length)=k:=Option.some.inj e
     rw [sq _ _ _ r r' _ e2,Bool.true_and] at this
     rw [<- this,<- r.length,<- r'.length]
     simp
   | lst h' r'=>
    obtain ⟨its,_,⟨o,e1,c1,_⟩,_⟩:=I.tuple (h.mono sub)
    obtain ⟨_,its',n',_,e2⟩:=I.hok _ _ (sub _ _ h')
    rw [e1] at e2; cases e2; exact absurd c1 dB
   | fls h' r'=>
    obtain ⟨its,_,⟨o,e1,c1,_⟩,_⟩:=I.tuple (h.mono sub)
    obtain ⟨its',_,⟨o',n',e2,c2,_⟩,_⟩:=I.list (h'.mono sub)
    rw [e1] at e2; cases e2; rw [c1] at c2; exact absurd c2.symm dB
   | exc h'=>simp [eqD] at e
  | lst h r=>
   have hl:SqL X.K G _ _:=SqL.of h
   cases rb with
   | tup h' r'=>
    obtain ⟨its,_,⟨o,e1,c1,_⟩,_⟩:=I.tuple (h'.mono sub)
    obtain ⟨_,its',n',_,e2⟩:=I.hok _ _ (sub _ _ h)
    rw [e1] at e2; cases e2; exact absurd c1 dB
   | lst h' r'=>
    rw [h] at h'; cases h'
    simp only [eqD] at e
    rw [if_pos (by rw [<- r.length,<- r'.length])] at e
    rename_i ds es
    cases e2:eqZ (eqD n) ds es with
    | none=>rw [e2] at e; cases e
    | some cs=>rw [e2] at e; have:=Option.some.inj e; rw [<- this]; exact sq _ _ _ r r' _ e2
   | fls h' r'=>
    have q:=I.list_inj (hl.mono sub) (h'.mono sub)
    subst q
    simp only [eqD] at e
    rw [if_pos (by rw [<- r.length,<- r'.length])] at e
    rename_i ds es
    cases e2:eqZ (eqD n) ds es with
    | none=>rw [e2] at e; cases e
    | some cs=>rw [e2] at e; have:=Option.some.inj e; rw [<- this]; exact sq _ _ _ r r' _ e2
   | exc h'=>simp [eqD] at e
  | fls h r=>
   cases rb with
   | tup h' r'=>
    obtain ⟨its,_,⟨o,e1,c1,_⟩,_⟩:=I.tuple (h'.mono sub)
    obtain ⟨its',_,⟨o',n',e2,c2,_⟩,_⟩:=I.list (h.mono sub)
    rw [e1] at e2; cases e2; rw [c1] at c2; exact absurd c2.symm dB
   | lst h' r'=>
    have q:=I.list_inj (h.mono sub) ((SqL.of h':SqL X.K G _ _).mono sub)
    subst q
    simp only [eqD] at e
    rw [if_pos (by rw [<- r.length,<- r'.length])] at e
    rename_i ds es
    cases e2:eqZ (eqD n) ds es with
    | none=>rw [e2] at e; cases e
    | some cs=>rw [e2] at e; have:=Option.some.inj e; rw [<- this]; exact sq _ _ _ r r' _ e2
   | fls h' r'=>
    have q:=I.list_inj (h.mono sub) (h'.mono sub)
    subst q
    simp only [eqD] at e
    rw [if_pos (by rw [<- r.length,<- r'.length])] at e
    rename_i ds es
    cases e2:eqZ (eqD n) ds es with
    | none=>rw [e2] at e; cases e
    | some cs=>rw [e2] at e; have:=Option.some.inj e; rw [<- this]; exact sq _ _ _ r r' _ e2
   | exc h'=>simp [eqD] at e
  | exc h=>simp [eqD] at e
structure Eqs (A:Around) (s:Shared) (v u:Value) (k:Bool):Prop where
 eq:EqAt A s v u k
 rc:RcAt A s v u k
 ne:RcNeAt A s v u (!k)
theorem gP {f:Bool} {x:V} (I:Inv X pins σ H s) (sub:Same G H) (r:Rep X.K G x (.lst f ds)) (ru:RelV x u):∃ a its vs,u=.ref a/\s.heap.IsList a (List.toArray its)/\Vals vs its/\Reps X.K G vs ds:=by
 obtain ⟨a,vs,rfl,h,t⟩:=r.seq_inv
 cases ru
 obtain ⟨its,rv,⟨o,n,e1,c1,_,d1⟩,_⟩:=I.list (h.mono sub)
 exact ⟨a,its,vs,rfl,⟨o,e1,c1,n,d1⟩,rv,t⟩
theorem kR {x:V} (I:Inv X pins σ H s) (sub:Same G H) (r:Rep X.K G x (.tup ds)) (ru:RelV x u):∃ a its vs,u=.ref a/\s.heap.IsTuple a (List.toArray its)/\Vals vs its/\Reps X.K G vs ds:=by
 obtain ⟨a,vs,rfl,h,t⟩:=r.tup_inv
 cases ru
 obtain ⟨its,rv,p,_⟩:=I.tuple (h.mono sub)
 exact ⟨a,its,vs,rfl,p,rv,t⟩
theorem vH (I:Inv X pins σ H s) (sub:Same G H):∀ (n:Nat) (A:Around) (a b:D) (k:Bool) (x y:V) (v u:Value),A.units+n < cLine->eqD n a b=some k->Rep X.K G x a->Rep X.K G y b->RelV x v->RelV y u->Eqs A s v u k:=by
 intro n
 induction n with
 | zero=>intro A a b k x y v u _ e; cases e
 | succ n ih=>
  have sq:∀ (A:Around) (vs ws:List V) (xs ys:List D) (is js:List Value) (bs:List Bool),A.units+(n+1) < cLine->Reps X.K G vs xs->Reps X.K G ws ys->Vals vs is->Vals ws js->eqZ (eqD n) xs ys=some bs->
    bs.length=min is.length js.length/\∀ j (h1:j < is.toArray.size) (h2:j < js.toArray.size),EqAt A.in1 s is.toArray[j] js.toArray[j] (bs.getD j true):=by
   intro A vs ws xs ys is js bs hA r1 r2 v1 v2 e
   obtain ⟨h1,h2⟩:=eqZ.get e
   refine ⟨by rw [h1,<- r1.length,<- r2.length,v1.length,v2.length],fun j q1 q2=>?_⟩
   rw [List.size_toArray] at q1 q2
   have p1:j < xs.length:=by rw [<- r1.length,v1.length]; exact q1
   have p2:j < ys.length:=by rw [<- r2.length,v2.length]; exact q2
   obtain ⟨b,e1,e2⟩:=h2 j xs[j] ys[j] (by simp [p1]) (by simp [p2])
   obtain ⟨x',ex,rx⟩:=r1.get (i:=j) (d:=xs[j]) (by simp [p1])
   obtain ⟨y',ey,ry⟩:=r2.get (i:=j) (d:=ys[j]) (by simp [p2])
   obtain ⟨u1,eu1,ru1⟩:=v1.get ex
   obtain ⟨u2,eu2,ru2⟩:=v2.get ey
   have g1:is.toArray[j]=u1:=by simpa [q1] using eu1
   have g2:js.toArray[j]=u2:=by simpa [q2] using eu2
   rw [List.getD_eq_getElem?_getD,e1]
   simp only [List.getElem_toArray] at g1 g2 ⊢
   rw [g1,g2]
   exact (ih A.in1 _ _ b x' y' u1 u2 (by show A.units+1+n < cLine; omega) e2 rx ry ru1 ru2).eq
  intro A a b k x y v u hA e ra rb rv ru
  have hu:A.units < cLine:=by omega
  have same:∀ c d:Addr,v=.ref c->u=.ref d->c=d->k=true:=fun c d h1 h2 h3=>by
   subst h1 h2 h3
   cases ra with
   | tup h r=>cases rv; cases rb with
    | tup h' r'=>cases ru; exact ff I sub (n+1) _ _ k _ e (.tup h r) (.tup h' r')
    | lst h' r'=>cases ru; exact ff I sub (n+1) _ _ k _ e (.tup h r) (.lst h' r')
    | fls h' r'=>cases ru; exact ff I sub (n+1) _ _ k _ e (.tup h r) (.fls h' r')
    | exc h'=>simp [eqD] at e
    | str _ _=>obtain ⟨t,z⟩:=ru; cases z
    | int _=>obtain ⟨t,z⟩:=ru; cases z
    | non=>cases ru
    | bl _=>cases ru
   | lst h r=>cases rv; cases rb with
    | tup h' r'=>cases ru; exact ff I sub (n+1) _ _ k _ e (.lst h r) (.tup h' r')
    | lst h' r'=>cases ru; exact ff I sub (n+1) _ _ k _ e (.lst h r) (.lst h' r')
    | fls h' r'=>cases ru; exact ff I sub (n+1) _ _ k _ e (.lst h r) (.fls h' r')
    | exc h'=>simp [eqD] at e
    | str _ _=>obtain ⟨t,z⟩:=ru; cases z
    | int _=>obtain ⟨t,z⟩:=ru; cases z
    | non=>cases ru
    | bl _=>cases ru
   | fls h r=>cases rv; cases rb with
    | tup h' r'=>cases ru; exact ff I sub (n+1) _ _ k _ e (.fls h r) (.tup h' r')
    | lst h' r'=>cases ru; exact ff I sub (n+1) _ _ k _ e (.fls h r) (.lst h' r')
    | fls h' r'=>cases ru; exact ff I sub (n+1) _ _ k _ e (.fls h r) (.fls h' r')
    | exc h'=>simp [eqD] at e
    | str _ _=>obtain ⟨t,z⟩:=ru; cases z
    | int _=>obtain ⟨t,z⟩:=ru; cases z
    | non=>cases ru
    | bl _=>cases ru
   | exc h=>simp [eqD] at e
   | str _ _=>obtain ⟨t,z⟩:=rv; cases z
   | int _=>obtain ⟨t,z⟩:=rv; cases z
   | non=>cases rv
   | bl _=>cases rv
  have refs:∀ c d:Addr,v=.ref c->u=.ref d->RcAt A s v u k->EqAt A s v u k:=fun c d h1 h2 h=>by
   subst h1 h2
   by_cases h3:c=d
   ·have:=same c d rfl rfl h3
    subst h3 this
    exact EqAt.same _
   ·exact EqAt.of_refs h3 h
  cases a with
  | exc C=>simp [eqD] at e
  | non=>
   obtain rfl:=ra.non_inv
   cases rv
   cases b with
   | exc C=>simp [eqD] at e
   | non=>obtain rfl:=rb.non_inv; cases ru; simp [eqD] at e; subst e; exact ⟨EqAt.same _,RcAt.none_none,RcNeAt.none_none⟩
   | bl z=>obtain rfl:=rb.bl_inv; cases ru; simp [eqD] at e; subst e; exact ⟨EqAt.none_bool _,RcAt.none_bool _,RcNeAt.none_bool _⟩
   | int z=>obtain rfl:=rb.int_inv; obtain ⟨t,rfl⟩:=ru; simp [eqD] at e; subst e; exact ⟨EqAt.none_int _ _,RcAt.none_int _ _,RcNeAt.none_int _ _⟩
   | str z=>obtain ⟨z,rfl,-,-⟩:=rb.str_inv; obtain ⟨t,rfl⟩:=ru; simp [eqD] at e; subst e; exact ⟨EqAt.none_str _ _,RcAt.none_str _ _,RcNeAt.none_str _ _⟩
   | tup ds=>obtain ⟨c,its,vs,rfl,p,_,_⟩:=kR I sub rb ru; simp [eqD] at e; subst e; exact ⟨EqAt.none_tuple p hu,RcAt.none_tuple p hu,RcNeAt.none_tuple p hu⟩
   | lst f ds=>obtain ⟨c,its,vs,rfl,p,_,_⟩:=gP I sub rb ru; simp [eqD] at e; subst e; exact ⟨EqAt.none_list p hu,RcAt.none_list p hu,RcNeAt.none_list p hu⟩
  | bl w=>
   obtain rfl:=ra.bl_inv
   cases rv
   cases b with
   | exc C=>simp [eqD] at e
   | non=>obtain rfl:=rb.non_inv; cases ru; simp [eqD] at e; subst e; exact ⟨EqAt.bool_none _,RcAt.bool_none _,RcNeAt.bool_none _⟩
   | bl z=>obtain rfl:=rb.bl_inv; cases ru; simp only [eqD] at e; cases e; exact ⟨EqAt.bool_bool _ _,RcAt.bool_bool _ _,RcNeAt.bool_bool _ _⟩
   | int z=>obtain rfl:=rb.int_inv; obtain ⟨t,rfl⟩:=ru; simp only [eqD] at e; cases e; exact ⟨EqAt.bool_int _ _ _,RcAt.bool_int _ _ _,RcNeAt.bool_int _ _ _⟩
   | str z=>obtain ⟨z,rfl,-,-⟩:=rb.str_inv; obtain ⟨t,rfl⟩:=ru; simp [eqD] at e; subst e; exact ⟨EqAt.bool_str _ _ _,RcAt.bool_str _ _ _,RcNeAt.bool_str _ _ _⟩
   | tup ds=>obtain ⟨c,its,vs,rfl,p,_,_⟩:=kR I sub rb ru; simp [eqD] at e; subst e; exact ⟨EqAt.bool_tuple _ p hu,RcAt.bool_tuple _ p hu,RcNeAt.bool_tuple _ p hu⟩
   | lst f ds=>obtain ⟨c,its,vs,rfl,p,_,_⟩:=gP I sub rb ru; simp [eqD] at e; subst e; exact ⟨EqAt.bool_list _ p hu,RcAt.bool_list _ p hu,RcNeAt.bool_list _ p hu⟩
  | int w=>
   obtain rfl:=ra.int_inv
   obtain ⟨t0,rfl⟩:=rv
   cases b with
   | exc C=>simp [eqD] at e
   | non=>obtain rfl:=rb.non_inv; cases ru; simp [eqD] at e; subst e; exact ⟨EqAt.int_none _ _,RcAt.int_none _ _,RcNeAt.int_none _ _⟩
   | bl z=>obtain rfl:=rb.bl_inv; cases ru; simp only [eqD] at e; cases e; exact ⟨EqAt.int_bool _ _ _,RcAt.int_bool _ _ _,RcNeAt.int_bool _ _ _⟩
   | int z=>obtain rfl:=rb.int_inv; obtain ⟨t,rfl⟩:=ru; simp only [eqD] at e; cases e; exact ⟨EqAt.int_int _ _ _ _,RcAt.int_int _ _ _ _,RcNeAt.int_int _ _ _ _⟩
   | str z=>obtain ⟨z,rfl,-,-⟩:=rb.str_inv; obtain ⟨t,rfl⟩:=ru; simp [eqD] at e; subst e; exact ⟨EqAt.int_str _ _ _ _,RcAt.int_str _ _ _ _,RcNeAt.int_str _ _ _ _⟩
   | tup ds=>obtain ⟨c,its,vs,rfl,p,_,_⟩:=kR I sub rb ru; simp [eqD] at e; subst e; exact ⟨EqAt.int_tuple _ _ p hu,RcAt.int_tuple _ _ p hu,RcNeAt.int_tuple _ _ p hu⟩
   | lst f ds=>obtain ⟨c,its,vs,rfl,p,_,_⟩:=gP I sub rb ru; simp [eqD] at e; subst e; exact ⟨EqAt.int_list _ _ p hu,RcAt.int_list _ _ p hu,RcNeAt.int_list _ _ p hu⟩
  | str w=>
   obtain ⟨w,rfl,ew,-⟩:=ra.str_inv
   obtain ⟨t0,rfl⟩:=rv
   cases b with
   | exc C=>simp [eqD] at e
   | non=>obtain rfl:=rb.non_inv; cases ru; simp [eqD] at e; subst e; exact ⟨EqAt.str_none _ _,RcAt.str_none _ _,RcNeAt.str_none _ _⟩
   | bl z=>obtain rfl:=rb.bl_inv; cases ru; simp [eqD] at e; subst e; exact ⟨EqAt.str_bool _ _ _,RcAt.str_bool _ _ _,RcNeAt.str_bool _ _ _⟩
   | int z=>obtain rfl:=rb.int_inv; obtain ⟨t,rfl⟩:=ru; simp [eqD] at e; subst e; exact ⟨EqAt.str_int _ _ _ _,RcAt.str_int _ _ _ _,RcNeAt.str_int _ _ _ _⟩
   | str z=>
    obtain ⟨z,rfl,ez,-⟩:=rb.str_inv; obtain ⟨t,rfl⟩:=ru
    simp only [eqD] at e
    subst ew ez
    rw [str_beq] at e
    cases e
    exact ⟨EqAt.str_str _ _ _ _,RcAt.str_str _ _ _ _,RcNeAt.str_str _ _ _ _⟩
   | tup ds=>obtain ⟨c,its,vs,rfl,p,_,_⟩:=kR I sub rb ru; simp [eqD] at e; subst e; exact ⟨EqAt.str_tuple _ _ p hu,RcAt.str_tuple _ _ p hu,RcNeAt.str_tuple _ _ p hu⟩
   | lst f ds=>obtain ⟨c,its,vs,rfl,p,_,_⟩:=gP I sub rb ru; simp [eqD] at e; subst e; exact ⟨EqAt.str_list _ _ p hu,RcAt.str_list _ _ p hu,RcNeAt.str_list _ _ p hu⟩
  | tup ds1=>
   obtain ⟨c1,its1,vs1,rfl,p1,w1,q1⟩:=kR I sub ra rv
   cases b with
   | exc C=>simp [eqD] at e
   | non=>obtain rfl:=rb.non_inv; cases ru; simp [eqD] at e; subst e; exact ⟨EqAt.tuple_none p1 hu,RcAt.tuple_none p1 hu,RcNeAt.tuple_none p1 hu⟩
   | bl z=>obtain rfl:=rb.bl_inv; cases ru; simp [eqD] at e; subst e; exact ⟨EqAt.tuple_bool _ p1 hu,RcAt.tuple_bool _ p1 hu,RcNeAt.tuple_bool _ p1 hu⟩
   | int z=>obtain rfl:=rb.int_inv; obtain ⟨t,rfl⟩:=ru; simp [eqD] at e; subst e; exact ⟨EqAt.tuple_int _ _ p1 hu,RcAt.tuple_int _ _ p1 hu,RcNeAt.tuple_int _ _ p1 hu⟩
   | str z=>obtain ⟨z,rfl,-,-⟩:=rb.str_inv; obtain ⟨t,rfl⟩:=ru; simp [eqD] at e; subst e; exact ⟨EqAt.tuple_str _ _ p1 hu,RcAt.tuple_str _ _ p1 hu,RcNeAt.tuple_str _ _ p1 hu⟩
   | lst f ds=>obtain ⟨c,its,vs,rfl,p,_,_⟩:=gP I sub rb ru; simp [eqD] at e; subst e; exact ⟨EqAt.tuple_list p1 p hu,RcAt.tuple_list p1 p hu,RcNeAt.tuple_list p1 p hu⟩
   | tup ds2=>
    obtain ⟨c2,its2,vs2,rfl,p2,w2,q2⟩:=kR I sub rb ru
    simp only [eqD] at e
    cases e2:eqZ (eqD n) ds1 ds2 with
    | none=>rw [e2] at e; cases e
    | some bs=>
     rw [e2] at e
     have ek:=Option.some.inj e
     obtain ⟨hl,he⟩:=sq A _ _ _ _ _ _ bs hA q1 q2 w1 w2 e2
     have e3:((List.range (min its1.toArray.size its2.toArray.size)).all (fun j=>bs.getD j true) && its1.toArray.size==its2.toArray.size)=k:=by
      rw [<- ek,List.size_toArray,List.size_toArray,lq hl,<- w1.length,<- w2.length,q1.length,q2.length]
     have hrc:RcAt A s (.ref c1) (.ref c2) k:=by rw [<- e3]; exact RcAt.tuples p1 p2 hu he
     have hne:RcNeAt A s (.ref c1) (.ref c2) (!k):=by rw [<- e3]; exact RcNeAt.tuples p1 p2 hu he
     exact ⟨refs _ _ rfl rfl hrc,hrc,hne⟩
  | lst f1 ds1=>
   obtain ⟨c1,its1,vs1,rfl,p1,w1,q1⟩:=gP I sub ra rv
   cases b with
   | exc C=>simp [eqD] at e
   | non=>obtain rfl:=rb.non_inv; cases ru; simp [eqD] at e; subst e; exact ⟨EqAt.list_none p1 hu,RcAt.list_none p1 hu,RcNeAt.list_none p1 hu⟩
   | bl z=>obtain rfl:=rb.bl_inv; cases ru; simp [eqD] at e; subst e; exact ⟨EqAt.list_bool _ p1 hu,RcAt.list_bool _ p1 hu,RcNeAt.list_bool _ p1 hu⟩
   | int z=>obtain rfl:=rb.int_inv; obtain ⟨t,rfl⟩:=ru; simp [eqD] at e; subst e; exact ⟨EqAt.list_int _ _ p1 hu,RcAt.list_int _ _ p1 hu,RcNeAt.list_int _ _ p1 hu⟩
   | str z=>obtain ⟨z,rfl,-,-⟩:=rb.str_inv; obtain ⟨t,rfl⟩:=ru; simp [eqD] at e; subst e; exact ⟨EqAt.list_str _ _ p1 hu,RcAt.list_str _ _ p1 hu,RcNeAt.list_str _ _ p1 hu⟩
   | tup ds=>obtain ⟨c,its,vs,rfl,p,_,_⟩:=kR I sub rb ru; simp [eqD] at e; subst e; exact ⟨EqAt.list_tuple p1 p hu,RcAt.list_tuple p1 p hu,RcNeAt.list_tuple p1 p hu⟩
   | lst f2 ds2=>
    obtain ⟨c2,its2,vs2,rfl,p2,w2,q2⟩:=gP I sub rb ru
    simp only [eqD] at e
    by_cases hlen:ds1.length=ds2.length
    ·rw [if_pos hlen] at e
     cases e2:eqZ (eqD n) ds1 ds2 with
     | none=>rw [e2] at e; cases e
     | some bs=>
      rw [e2] at e
      have ek:=Option.some.inj e
      obtain ⟨hl,he⟩:=sq A _ _ _ _ _ _ bs hA q1 q2 w1 w2 e2
      have hz:its1.toArray.size=its2.toArray.size:=by rw [List.size_toArray,List.size_toArray,<- w1.length,<- w2.length,q1.length,q2.length]; exact hlen
      have e3:(List.range its1.toArray.size).all (fun j=>bs.getD j true)=k:=by
       rw [<- ek,lq]
       rw [hl,List.size_toArray]
       simp only [List.size_toArray] at hz
       omega
      have hrc:RcAt A s (.ref c1) (.ref c2) k:=by rw [<- e3]; exact RcAt.lists p1 p2 hz hu he
      have hne:RcNeAt A s (.ref c1) (.ref c2) (!k):=by rw [<- e3]; exact RcNeAt.lists p1 p2 hz hu he
      exact ⟨refs _ _ rfl rfl hrc,hrc,hne⟩
    ·rw [if_neg hlen] at e
     cases e
     have hz:(its1.toArray.size != its2.toArray.size)=true:=by
      rw [List.size_toArray,List.size_toArray,<- w1.length,<- w2.length,q1.length,q2.length]
      simpa using hlen
     have hrc:RcAt A s (.ref c1) (.ref c2) false:=RcAt.lists_lengths p1 p2 hz hu
     exact ⟨refs _ _ rfl rfl hrc,hrc,RcNeAt.lists_lengths p1 p2 hz hu⟩
end
section
variable {X:Cx} {a b:Expr} {ga gb:Ev->R D} {pos:Pos}
noncomputable def eqF (x y:D):Option D:=(eqD 40 x y).map .bl
noncomputable def neF (x y:D):Option D:=(eqD 40 x y).map fun k=>.bl (!k)
noncomputable def Ej (K:PySem.W.Frag) (neg:Bool):R2:=fun x y H Q=>∃ G dx dy k,Same G H/\Rep K G x dx/\Rep K G y dy/\eqD 40 dx dy=some k/\Q (.bl (if neg then !k else k)) H
theorem wu (hu:X.A.units+64 < cLine):OpR X (compareOp .Eq) (Ej X.K false):=by
 intro pins s σ H x y v u Q I rx ry h
 obtain ⟨G,dx,dy,k,sub,r1,r2,e,q⟩:=h
 exact (vH I sub 40 X.A dx dy k x y v u (by omega) e r1 r2 rx ry).rc _ _ _ _ ⟨.bl k,H,I,rfl,q⟩
theorem BN (hu:X.A.units+64 < cLine):OpR X (compareOp .NotEq) (Ej X.K true):=by
 intro pins s σ H x y v u Q I rx ry h
 obtain ⟨G,dx,dy,k,sub,r1,r2,e,q⟩:=h
 exact (vH I sub 40 X.A dx dy k x y v u (by omega) e r1 r2 rx ry).ne _ _ _ _ ⟨.bl (!k),H,I,rfl,q⟩
end
end L2
namespace L2
open PySem PySem.Spec PyProof.Rows
section
variable {X:Cx} {a b c e:Expr} {es cZ:List Expr} {ga gb gc:Ev->R D} {gt gu:Ev->R Bool} {gl:Ev->R (List D)} {pos:Pos}
noncomputable def asB:D->R Bool
 | .bl k=>.ok k
 | _=>.no
noncomputable def oz (ga gb:Ev->R D):Ev->R D:=fun ρ=>ga ρ>>=fun x=>asB x>>=fun k=>if k=true then gb ρ else .ok (.bl false)
noncomputable def gOr (ga gb:Ev->R D):Ev->R D:=fun ρ=>ga ρ>>=fun x=>asB x>>=fun k=>if k=true then .ok (.bl true) else gb ρ
noncomputable def E2 (ga:Ev->R D):Ev->R D:=fun ρ=>ga ρ>>=fun x=>asB x>>=fun k=>.ok (.bl (!k))
theorem asB.ok {β:Type} {K:PySem.W.Frag} {k:Bool->R β} {P:β->Prop} {E:Addr->Prop} (r:Rep K G v d) (h:(asB d>>=k).post P E):∃ c,v=.bl c/\d=.bl c/\(k c).post P E:=by
 cases r with
 | bl c=>exact ⟨c,rfl,rfl,h⟩
 | _=>exact h.elim
noncomputable def yw:D->R D
 | .int i=>.ok (.int (-i))
 | _=>.no
theorem yK (ha:QF X a ga):QF X (.UnaryOp .USub a pos) (fun ρ=>ga ρ>>=yw):=by
 intro pins s σ H Q I h
 refine Ew Ci ha pins s σ H Q I ?_
 obtain ⟨G,ρ,st,h⟩:=h
 refine tG.intro st h fun x v G1 H1 u1 st1 r1 h1=>?_
 cases r1 with
 | int i=>exact ⟨i,rfl,h1 _ G1 H1 (.refl st1.sub) (.int _)⟩
 | _=>exact h1.elim
noncomputable def kf:D->R Bool
 | .non=>.ok false
 | .bl k=>.ok k
 | .int i=>.ok (i != 0)
 | .str x=>.ok (!x.isEmpty)
 | .tup xs=>.ok (!xs.isEmpty)
 | .lst _ xs=>.ok (!xs.isEmpty)
 | .exc _=>.no
theorem Reps.isEmpty {K:PySem.W.Frag} (r:Reps K G vs ds):vs.isEmpty=ds.isEmpty:=by cases r <;> rfl
theorem yt (h:QF X e ga) (he:∀ whole,isTrue e X.env whole=(do let v <- whole; standAt e.pos; holding [v] (truthy v)):=by intro _; rfl):QB X e (fun ρ=>ga ρ>>=kf):=by
 intro pins s σ H Q I hq
 refine ye h he pins s σ H Q I ?_
 obtain ⟨G,ρ,st,hq⟩:=hq
 refine tG.intro st hq fun x v G1 H1 u1 st1 r1 h1=>?_
 have fin:∀ k,kf x=.ok k->Q k H1:=fun k ek=>by rw [ek] at h1; exact h1 k G1 H1 (.refl st1.sub) rfl
 cases r1 with
 | non=>exact ⟨_,rfl,fin _ rfl⟩
 | bl k=>exact ⟨_,rfl,fin _ rfl⟩
 | int i=>exact ⟨_,rfl,fin _ rfl⟩
 | str y hy=>
  refine ⟨_,⟨hy,rfl⟩,fin _ ?_⟩
  show R.ok _=R.ok _
  congr 1
  have:y.cps.toList.length=y.length:=Str.len_list y
  cases h:y.cps.toList with
  | nil=>rw [h] at this; rw [<- this]; rfl
  | cons c cs=>rw [h] at this; rw [<- this]; simp; omega
 | tup h r=>exact ⟨_,.inr (.inl ⟨_,h.mono st1.sub,rfl⟩),fin _ (by show R.ok _=R.ok _; rw [r.isEmpty])⟩
 | lst h r=>exact ⟨_,.inl ⟨_,.of (st1.sub _ _ h),rfl⟩,fin _ (by show R.ok _=R.ok _; rw [r.isEmpty])⟩
 | fls h r=>exact ⟨_,.inl ⟨_,h.mono st1.sub,rfl⟩,fin _ (by show R.ok _=R.ok _; rw [r.isEmpty])⟩
 | exc h=>exact h1.elim
theorem iy {op:CmpOp} {r:R2} {f:D->D->Option D} (ho:OpR X (compareOp op) r) (hf:ROk X.K r f) (ha:QF X a ga) (hb:QF X b gb) (hm:behindInMarks op b=false):QB X (.Compare a [op] [b] pos) (fun ρ=>g2 f ga gb ρ>>=asB):=by
 intro pins s σ H Q I h
 refine Bb ho ha hb hm pins s σ H Q I ?_
 obtain ⟨G,ρ,st,h⟩:=h
 refine yq hf ?_
 refine tG.intro st h fun x v G1 H1 u1 st1 r1 h1=>?_
 cases r1 with
 | bl k=>exact ⟨k,rfl,h1 k G1 H1 (.refl st1.sub) rfl⟩
 | _=>exact h1.elim
theorem A0 (ha:QF X a ga) (hb:QF X b gb):QB X (.Compare a [.Lt] [b] pos) (fun ρ=>g2 ltD ga gb ρ>>=asB):=iy zH (DD _) ha hb (jb _)
theorem BA (ha:QF X a ga) (hb:QF X b gb):QB X (.Compare a [.Gt] [b] pos) (fun ρ=>g2 gtD ga gb ρ>>=asB):=iy E8 (Ff _) ha hb (jb _)
theorem wP (K:PySem.W.Frag) (neg:Bool):ROk K (Ej K neg) (fun x y=>(eqD 40 x y).map fun k=>.bl (if neg then !k else k)):=by
 intro G H x y dx dy d Q s rx ry e q
 dsimp only at e
 cases e1:eqD 40 dx dy with
 | none=>rw [e1] at e; cases e
 | some k=>rw [e1] at e; cases e; exact ⟨G,dx,dy,k,s,rx,ry,e1,q _ G H (.refl s) (.bl _)⟩
theorem AG (hu:X.A.units+64 < cLine) (ha:QF X a ga) (hb:QF X b gb):QB X (.Compare a [.Eq] [b] pos) (fun ρ=>g2 eqF ga gb ρ>>=asB):=iy (wu hu) (wP _ false) ha hb (jb _)
theorem AD (hu:X.A.units+64 < cLine) (ha:QF X a ga) (hb:QF X b gb):QB X (.Compare a [.NotEq] [b] pos) (fun ρ=>g2 neF ga gb ρ>>=asB):=iy (BN hu) (wP _ true) ha hb (jb _)
theorem mj {op op':CmpOp} {r r':R2} {f f':D->D->Option D} (ho:OpR X (compareOp op) r) (ho':OpR X (compareOp op') r') (hf:ROk X.K r f) (hf':ROk X.K r' f') (ha:QF X a ga) (hb:QF X b gb) (hc:QF X c gc)
 (hm:lastMarks [op,op'] [b,c]=false:=by with_unfolding_all rfl):QB X (.Compare a [op,op'] [b,c] pos) (fun ρ=>g3 f f' ga gb gc ρ>>=asB):=by
 intro pins s σ H Q I h
 refine zc ho ho' ha hb hc hm pins s σ H Q I ?_
 obtain ⟨G,ρ,st,h⟩:=h
 have h':(ga ρ>>=fun x=>gb ρ>>=fun y=>ofO (f x y)>>=fun z=>(match z with | .bl true=>gc ρ>>=fun w=>ofO (f' y w) | .bl false=>.ok (.bl false) | _=>.no)>>=asB).post (Fin G H (fun _ b c=>b=c) Q) (Exx X σ G H):=by
  have e:(g3 f f' ga gb gc ρ>>=asB)=(ga ρ>>=fun x=>gb ρ>>=fun y=>ofO (f x y)>>=fun z=>(match z with | .bl true=>gc ρ>>=fun w=>ofO (f' y w) | .bl false=>.ok (.bl false) | _=>.no)>>=asB):=by
   unfold g3
   cases ga ρ with
   | ok x=>cases gb ρ with
    | ok y=>simp only [R.ok_bind]; cases ofO (f x y) <;> rfl
    | _=>rfl
   | _=>rfl
  rw [<- e]; exact h
 refine tG.intro st h' fun x v G1 H1 u1 st1 r1 h1=>?_
 refine tG.intro st1 h1 fun y w G2 H2 u2 st2 r2 h2=>?_
 cases e:f x y with
 | none=>rw [e] at h2; exact h2.elim
 | some d=>
  rw [e] at h2
  refine hf G2 H2 v w x y d _ st2.sub (r1.mono u2.gg) r2 e fun z G3 H3 u3 r3=>?_
  have h3:=iQ u3 h2
  have st3:=st2.up u3
  cases r3 with
  | bl k=>
   refine ⟨k,rfl,?_⟩
   cases k with
   | false=>rw [if_neg Bool.false_ne_true]; exact ⟨false,rfl,h3 _ G3 H3 (.refl st3.sub) rfl⟩
   | true=>
    rw [if_pos rfl]
    have h3':(gc ρ>>=fun w=>ofO (f' y w)>>=asB).post (Fin G3 H3 (fun _ b c=>b=c) Q) (Exx X σ G3 H3):=by
     have e:((gc ρ>>=fun w=>ofO (f' y w))>>=asB)=(gc ρ>>=fun w=>ofO (f' y w)>>=asB):=by cases gc ρ <;> rfl
     rw [<- e]; exact h3
    refine tG.intro st3 h3' fun q vq G4 H4 u4 st4 r4 h4=>?_
    cases e':f' y q with
    | none=>rw [e'] at h4; exact h4.elim
    | some d'=>
     rw [e'] at h4
     refine hf' G4 H4 w vq y q d' _ st4.sub ((r2.mono u3.gg).mono u4.gg) r4 e' fun z' G5 H5 u5 r5=>?_
     have h5:=iQ u5 h4
     cases r5 with
     | bl k'=>exact ⟨k',rfl,h5 k' G5 H5 (.refl u5.sub) rfl⟩
     | _=>exact h5.elim
  | _=>exact h3.elim
theorem vz (ha:QF X a ga) (hb:QF X b gb) (hc:QF X c gc) (hm:lastMarks [.LtE,.LtE] [b,c]=false:=by with_unfolding_all rfl):QB X (.Compare a [.LtE,.LtE] [b,c] pos) (fun ρ=>g3 leD leD ga gb gc ρ>>=asB):=mj mw mw (uW _) (uW _) ha hb hc hm
noncomputable def EK (t u:Ev->R Bool):Ev->R Bool:=fun ρ=>t ρ>>=fun k=>if k=true then u ρ else .ok false
noncomputable def oB (t u:Ev->R Bool):Ev->R Bool:=fun ρ=>t ρ>>=fun k=>if k=true then .ok true else u ρ
theorem xH (ha:QB X a gt):QB X (.UnaryOp .Not a pos) (fun ρ=>gt ρ>>=fun k=>.ok (!k)):=by
 intro pins s σ H Q I h
 refine CU ha pins s σ H Q I ?_
 obtain ⟨G,ρ,st,h⟩:=h
 refine tG.intro st h fun x v G1 H1 u1 st1 r1 h1=>?_
 subst r1
 exact h1 _ G1 H1 (.refl st1.sub) rfl
noncomputable def gIf (gt:Ev->R Bool) (ga gb:Ev->R D):Ev->R D:=fun ρ=>gt ρ>>=fun k=>if k=true then ga ρ else gb ρ
theorem pz:QFA X [] (fun _=>.ok []):=by
 intro pos pins s σ H Q I h
 obtain ⟨G,ρ,st,h⟩:=h
 exact ll pos pins s σ H Q I (h [] G H (.refl st.sub) .nil)
theorem vi (ha:QF X e ga) (hr:QFA X es gl) (hs:starEach (e::es) X.env=(false,eval e X.env)::starEach es X.env:=by rfl):QFA X (e::es) (fun ρ=>ga ρ>>=fun x=>gl ρ>>=fun xs=>.ok (x::xs)):=by
 intro pos pins s σ H Q I h
 refine eX ha hr hs pos pins s σ H Q I ?_
 obtain ⟨G,ρ,st,h⟩:=h
 refine tG.intro st h fun x v G1 H1 u1 st1 r1 h1=>?_
 refine tG.intro st1 h1 fun y w G2 H2 u2 st2 r2 h2=>?_
 exact h2 _ G2 H2 (.refl st2.sub) (.cons (r1.mono u2.gg) r2)
noncomputable def mkT (ds:List D):R D:=if ds.length<=sizeLine then .ok (.tup ds) else .no
theorem xW (h:QFA X es gl):QF X (.Tuple es k pos) (fun ρ=>gl ρ>>=mkT):=by
 intro pins s σ H Q I hq
 refine B0 h pins s σ H Q I ?_
 obtain ⟨G,ρ,st,hq⟩:=hq
 refine tG.intro st hq fun ds vs G1 H1 u1 st1 r1 h1=>?_
 unfold mkT at h1
 split at h1
 ·rename_i hz
  exact ⟨by rw [r1.length]; exact hz,fun p hp=>h1 _ _ _ (.new st1.sub hp) (.tup (.of bf) (r1.mono (.into (st1.sub.free hp))))⟩
 ·exact h1.elim
theorem zj {c:Nat}:[c].length<=sizeLine:=by show 1<=sizeLine; decide
noncomputable def ixD:D->D->Option D
 | .lst _ xs,.int i=>atI xs i
 | .tup xs,.int i=>atI xs i
 | .str x,.int i=>(atI x i).map fun c=>.str [c]
 | _,_=>none
theorem Reps.atI {K:PySem.W.Frag} {G:Hp} {vs:List V} {ds:List D} {i:Int} {d:D} (r:Reps K G vs ds) (h:atI ds i=some d):∃ v,atI vs i=some v/\Rep K G v d:=by
 unfold L2.atI at h ⊢
 rw [r.length]
 cases e:ixN ds.length i with
 | none=>rw [e] at h; cases h
 | some j=>rw [e] at h; exact r.get h
theorem EJ (K:PySem.W.Frag):ROk K (rIx K) ixD:=by
 intro G H x y dx dy d Q s rx ry e q
 unfold ixD at e
 split at e
 ·obtain ⟨a,vs,rfl,h,r⟩:=rx.seq_inv
  obtain ⟨v,e1,r1⟩:=r.atI e
  exact .inl ⟨a,vs,_,v,rfl,ry.int_inv,h.mono s,e1,q v G H (.refl s) r1⟩
 ·obtain ⟨a,vs,rfl,h,r⟩:=rx.tup_inv
  obtain ⟨v,e1,r1⟩:=r.atI e
  exact .inr (.inl ⟨a,vs,_,v,rfl,ry.int_inv,h.mono s,e1,q v G H (.refl s) r1⟩)
 ·rename_i z i
  obtain ⟨y',rfl,ey,hy⟩:=rx.str_inv
  subst ey
  cases e1:L2.atI y'.cps.toList i with
  | none=>rw [e1] at e; cases e
  | some c=>
   rw [e1] at e
   cases e
   exact .inr (.inr ⟨y',i,c,rfl,ry.int_inv,hy,e1,q _ G H (.refl s) (.strL (by simp) zj)⟩)
 ·cases e
end
end L2
namespace L2
open PySem PySem.Spec PyProof.Rows
noncomputable def oj {α:Type} (xs:List α) (lo hi:Option Int):List α:=(xs.drop (HT.sIx xs.length 0 lo)).take (HT.sIx xs.length xs.length hi - HT.sIx xs.length 0 lo)
theorem Ac {α:Type} (xs:List α) (lo hi:Option Int):(oj xs lo hi).length<=xs.length:=by
 unfold oj
 rw [List.length_take,List.length_drop]
 omega
theorem Reps.cut {K:PySem.W.Frag} (r:Reps K G vs ds) (lo hi:Option Int):Reps K G (zp vs lo hi) (oj ds lo hi):=by
 unfold zp oj
 rw [r.length]
 exact (r.drop _).take _
section
variable {X:Cx} {a b c e:Expr} {es cZ:List Expr} {lo hi:Option Expr} {ga gb gc:Ev->R D} {go gp:Ev->R (Option Int)} {gl:Ev->R (List D)} {pos p2:Pos}
noncomputable def Dh (K:PySem.W.Frag):V->Option Int->Option Int->Hp->VK->Prop:=fun x lo hi H Q=>∃ a xs,x=.ref a/\SqT K H a xs/\
 (HT.sIx xs.length 0 lo=0/\HT.sIx xs.length xs.length hi=xs.length)/\Q (.ref a) H
theorem sl_tup_whole:SlR X (Dh X.K):=by
 intro pins s σ H x v vl vu lo hi sl Q I rx hs pl pu h
 obtain ⟨a,xs,rfl,hx,⟨hw1,hw2⟩,q⟩:=h
 cases rx
 obtain ⟨its,r,ht,hz⟩:=I.tuple hx
 have hlen:its.toArray.size=xs.length:=by rw [List.size_toArray]; exact r.length.symm
 refine ⟨"tuple",_,PyProof.Rows.slot_tuple_getitem.lookup,ht.typeIs,?_⟩
 obtain ⟨os,hos,hcs,hds⟩:=id hs
 have hTs:s.TypeIs (.ref sl) "slice":=⟨os,hos,hcs⟩
 unfold getItem
 try with_reducible refine wpAny_holding ?_
 first | refine wpAny_bind (wpAny_pure ?_) | skip
 refine wpAny_bind (wpAny_sequenceKey ht.typeIs (by decide) ?_)
 refine wpAny_bind (wpAny_callSpecial?_slot (name:=Str.ofString "__getitem__") ht.typeIs PyProof.Rows.slot_tuple_getitem
  (wpAny_call_entry PyProof.Rows.slot_tuple_getitem ht.typeIs entry_tuple_getitem ?_ (args_tuple_getitem _ _)))
 show wpAny _ _ (Builtin.Tuple.tupleItemsOf (.ref a)>>=_) _ _ s
 refine wpAny_bind (tupleItemsOf_ ht ?_)
 refine wpAny_bind (wpAny_typeOf hTs ?_)
 rw [if_pos (by decide)]
 refine wpAny_bind (HT.sliceApplied_gen hs pl pu ?_)
 rw [hlen,hw1,hw2]
 dsimp only
 rw [if_pos (by simp)]
 have fin:EP X pins σ Q (.ref a) s:=⟨.ref a,H,I,rfl,q⟩
 obtain ⟨o,ho,hc,n,hd⟩:=id ht
 unfold Builtin.Tuple.tupleIsExact
 refine wpAny_bind (wpAny_bind (wpAny_typeOf ht.typeIs (wpAny_pure ?_)))
 rw [if_pos (by decide)]
 exact wpAny_bind (wpAny_rule (wpAny_pure ⟨_,rfl,wpAny_pure fin⟩))
theorem Db {α:Type} (xs:List α) (a:Nat):∀ k:Nat,((List.range k).map (a + ·)).filterMap (fun i:Nat=>xs[i]?)=(xs.drop a).take k
 | 0=>by simp
 | k+1=>by
  rw [List.range_succ,List.map_append,List.filterMap_append,Db xs a k,List.take_add_one,List.getElem?_drop]
  congr 1
  try (simp only [List.map_cons,List.map_nil,List.filterMap_cons,List.filterMap_nil]; cases xs[a+k]? <;> rfl)
theorem tQ (n d:Nat) (v:Option Int):(match v with | none=>(d:Int) | some i=>max 0 (min (if i < 0 then i+(n:Int) else i) (n:Int)))=((HT.sIx n d v:Nat):Int):=by
 cases v with
 | none=>rfl
 | some i=>
  show max 0 (min (if i < 0 then i+(n:Int) else i) (n:Int))=(((if i < 0 then (i+(n:Int)).toNat else min i.toNat n):Nat):Int)
  split <;> omega
theorem AL (lo hi:Option Int) (n:Nat):Builtin.Str.strSliceIndices lo hi 1 n=(List.range (HT.sIx n n hi - HT.sIx n 0 lo)).map (HT.sIx n 0 lo + ·):=by
 have e:Builtin.Str.strSliceIndices lo hi 1 n=sliceRange ((HT.sIx n 0 lo:Nat):Int) ((HT.sIx n n hi:Nat):Int) 1:=by
  rw [<- tQ n 0 lo,<- tQ n n hi]
  rfl
 rw [e]
 generalize HT.sIx n 0 lo=a
 generalize HT.sIx n n hi=b
 unfold sliceRange
 have hc:(if (1:Int) > 0 then (if (a:Int) < (b:Int) then ((b:Int) - (a:Int)+1 - 1) / 1 else 0) else (if (a:Int) > (b:Int) then ((a:Int) - (b:Int) - 1 - 1) / (-1) else 0)).toNat=b - a:=by
  rw [if_pos (by decide)]
  split
  ·rw [Int.ediv_one]; omega
  ·omega
 simp only [hc]
 apply List.map_congr_left
 intro k _
 omega
theorem wt (x:Str) (lo hi:Option Int):(Txt.slice x lo hi).cps.toList=oj x.cps.toList lo hi:=by
 have hn:x.cps.toList.length=x.length:=Str.len_list x
 unfold Txt.slice oj
 rw [hn,AL]
 have hb:HT.sIx x.length x.length hi<=x.length:=HT.sIx_le _ _ (Nat.le_refl _) hi
 by_cases hc:((1:Int)==1 && ((List.range (HT.sIx x.length x.length hi - HT.sIx x.length 0 lo)).map (HT.sIx x.length 0 lo + ·)).length==x.length)=true
 ·rw [if_pos hc]
  have h2:HT.sIx x.length x.length hi - HT.sIx x.length 0 lo=x.length:=by simpa using hc
  have h3:HT.sIx x.length 0 lo=0\/x.length=0:=by omega
  rw [h2]
  rcases h3 with h3 | h3
  ·rw [h3,List.drop_zero,<- hn,List.take_length]
  ·have:x.cps.toList=[]:=List.eq_nil_of_length_eq_zero (by rw [hn]; exact h3)
   rw [this]; simp
 ·rw [if_neg hc]
  have e:(fun i:Nat=>x.cps[i]?)=(fun i:Nat=>x.cps.toList[i]?):=by funext i; simp
  show (List.filterMap (fun i:Nat=>x.cps[i]?) _).toArray.toList=_
  rw [List.toList_toArray,e,Db]
noncomputable def F0:V->Option Int->Option Int->Hp->VK->Prop:=fun x lo hi H Q=>∃ y:Str,x=.str y/\y.length<=sizeLine/\Q (.str (Txt.slice y lo hi)) H
theorem sl_str:SlR X F0:=by
 intro pins s σ H x v vl vu lo hi sl Q I rx hs pl pu h
 obtain ⟨y,rfl,hz,q⟩:=h
 obtain ⟨t,rfl⟩:=rx
 refine ⟨"str",_,F.slot_str_getitem.lookup,typeIs_str _ _ _,?_⟩
 cases pl with
 | none=>
  cases pu with
  | none=>exact wpAny_getItem_str_slice (l:=none) (u:=none) (st:=none) hs rfl (post_val_or_str ⟨Nat.le_trans (Txt.slice_le y _ _) hz,fun t' k=>⟨.str _,H,I.tok k,⟨t',rfl⟩,q⟩⟩)
  | int j uj=>exact wpAny_getItem_str_slice (l:=none) (u:=some (j,uj)) (st:=none) hs rfl (post_val_or_str ⟨Nat.le_trans (Txt.slice_le y _ _) hz,fun t' k=>⟨.str _,H,I.tok k,⟨t',rfl⟩,q⟩⟩)
 | int i ui=>
  cases pu with
  | none=>exact wpAny_getItem_str_slice (l:=some (i,ui)) (u:=none) (st:=none) hs rfl (post_val_or_str ⟨Nat.le_trans (Txt.slice_le y _ _) hz,fun t' k=>⟨.str _,H,I.tok k,⟨t',rfl⟩,q⟩⟩)
  | int j uj=>exact wpAny_getItem_str_slice (l:=some (i,ui)) (u:=some (j,uj)) (st:=none) hs rfl (post_val_or_str ⟨Nat.le_trans (Txt.slice_le y _ _) hz,fun t' k=>⟨.str _,H,I.tok k,⟨t',rfl⟩,q⟩⟩)
noncomputable def BH (lo hi:Option Int):D->Option D
 | .str x=>some (.str (oj x lo hi))
 | .tup xs=>some (.tup (oj xs lo hi))
 | .lst _ xs=>some (.lst false (oj xs lo hi))
 | _=>none
noncomputable def rSl (K:PySem.W.Frag):V->Option Int->Option Int->Hp->VK->Prop:=fun x lo hi H Q=>F0 x lo hi H Q\/Dh K x lo hi H Q\/FT K x lo hi H Q\/F5 K x lo hi H Q
theorem D8:SlR X (rSl X.K):=sl_str.or (sl_tup_whole.or (sl_tup.or BD))
noncomputable def QFO (X:Cx) (o:Option Expr) (g:Ev->R (Option Int)):Prop:=PO X o (tG X (fun _ b c=>b=c) g)
noncomputable def asI:D->R Int
 | .int i=>.ok i
 | _=>.no
theorem uM (h:QF X e ga):QFO X (some e) (fun ρ=>ga ρ>>=fun x=>asI x>>=fun i=>.ok (some i)):=by
 intro pins s σ H Q I hq
 refine BB h pins s σ H Q I ?_
 obtain ⟨G,ρ,st,hq⟩:=hq
 refine tG.intro st hq fun x v G1 H1 u1 st1 r1 h1=>?_
 cases r1 with
 | int i=>exact ⟨i,rfl,h1 (some i) G1 H1 (.refl st1.sub) rfl⟩
 | _=>exact h1.elim
noncomputable def gSl (ga:Ev->R D) (go gp:Ev->R (Option Int)):Ev->R D:=fun ρ=>ga ρ>>=fun x=>go ρ>>=fun l=>gp ρ>>=fun u=>ofO (BH l u x)
noncomputable def Ed (K:PySem.W.Frag) (r:List V->Hp->VK->Prop) (f:List D->Option D):Prop:=∀ (G H:Hp) (xs:List V) (ds:List D) (d:D) (Q:VK),Same G H->Reps K G xs ds->f ds=some d->Fin G H (Rep K) Q d->r xs H Q
theorem iT {id:String} {p:Pos} {r:List V->Hp->VK->Prop} {f:List D->Option D} (hc:kK X (.builtin id) r) (hf:Ed X.K r f) (hg:Gl X x) (hm:X.mg x=none) (hv:bootBuiltins x=some (.builtin id)) (ha:QFA X (e::es) gl)
 (hn:x ≠ "__name__":=by decide) (hdb:(x==("__debug__":Str))=false:=by decide)
 (he:starEach (e::es) X.env=(false,eval e X.env)::starEach es X.env:=by rfl) (hpl:(backTo pos (starEach es X.env)).any (·.1)=false:=by rfl):QF X (.Call (.Name x p) (e::es) [] pos) (fun ρ=>gl ρ>>=fun ds=>ofO (f ds)):=by
 intro pins s σ H Q I h
 refine jK hc hg hm hv ha hn hdb he hpl pins s σ H Q I ?_
 obtain ⟨G,ρ,st,h⟩:=h
 refine tG.intro st h fun ds vs G1 H1 u1 st1 r1 h1=>?_
 obtain ⟨d,e,q⟩:=ofO.ok h1
 exact hf G1 H1 vs ds d Q st1.sub r1 e q
theorem Reps.one {K:PySem.W.Frag} (r:Reps K G vs [d]):∃ v,vs=[v]/\Rep K G v d:=by
 cases r with
 | cons r t=>cases t; exact ⟨_,rfl,r⟩
noncomputable def gm:List D->Option D
 | [.str x]=>some (.int x.length)
 | [.tup xs]=>some (.int xs.length)
 | [.lst _ xs]=>some (.int xs.length)
 | _=>none
theorem yJ {p:Pos} (hg:Gl X "len") (hm:X.mg "len"=none) (ha:QFA X [e] gl) (he:starEach [e] X.env=[(false,eval e X.env)]:=by rfl):QF X (.Call (.Name "len" p) [e] [] pos) (fun ρ=>gl ρ>>=fun ds=>ofO (gm ds)):=
 iT yj (by
  intro G H xs ds d Q s r e q
  unfold gm at e
  split at e
  ·cases e
   obtain ⟨v,rfl,r1⟩:=r.one
   obtain ⟨y,rfl,ey,hy⟩:=r1.str_inv
   subst ey
   exact ⟨_,y.length,rfl,⟨hy,rfl⟩,by rw [<- Str.len_list]; exact q _ G H (.refl s) (.int _)⟩
  ·cases e
   obtain ⟨v,rfl,r1⟩:=r.one
   obtain ⟨a,vs,rfl,h,t⟩:=r1.tup_inv
   exact ⟨_,vs.length,rfl,.inr ⟨vs,h.mono s,rfl⟩,by rw [t.length]; exact q _ G H (.refl s) (.int _)⟩
  ·cases e
   obtain ⟨v,rfl,r1⟩:=r.one
   obtain ⟨a,vs,rfl,h,t⟩:=r1.seq_inv
   exact ⟨_,vs.length,rfl,.inl ⟨vs,h.mono s,rfl⟩,by rw [t.length]; exact q _ G H (.refl s) (.int _)⟩
  ·cases e) hg hm PySem.boot_len ha (he:=by rw [he]; rfl)
noncomputable def pK:List D->Option D
 | [.lst _ xs]=>some (.tup xs)
 | [.tup xs]=>some (.tup xs)
 | _=>none
theorem yz (K:PySem.W.Frag):Ed K (fun xs H Q=>∃ p ys,xs=[.ref p]/\((SqL K H p ys/\∀ l,H l=none->Q (.ref l) (upd H l (.tup ys)))\/(SqT K H p ys/\Q (.ref p) H))) pK:=by
 intro G H xs ds d Q s r e q
 unfold pK at e
 split at e
 ·cases e
  obtain ⟨v,rfl,r1⟩:=r.one
  obtain ⟨a,vs,rfl,h,t⟩:=r1.seq_inv
  exact ⟨a,vs,rfl,.inl ⟨h.mono s,fun l hl=>q _ _ _ (.new s hl) (.tup (.of bf) (t.mono (.into (s.free hl))))⟩⟩
 ·cases e
  obtain ⟨v,rfl,r1⟩:=r.one
  obtain ⟨a,vs,rfl,h,t⟩:=r1.tup_inv
  exact ⟨a,vs,rfl,.inr ⟨h.mono s,q _ G H (.refl s) (.tup h t)⟩⟩
 ·cases e
end
end L2
namespace L2
open PySem PySem.Spec PyProof.Rows
noncomputable def ItOk (K:PySem.W.Frag) (G₁:Hp) (J:It) (items:List D):Prop:=∀ (i:Nat) (G H:Hp),Same G₁ G->Same G H->
 (∀ d,items[i]?=some d->J.go i H/\∀ x H',J.yld i H x H'->∃ G',Up G H G' H'/\Rep K G' x d)/\(items.length<=i->J.stop i H)
noncomputable def QIF (X:Cx) (tg iter:Expr) (g:Ev->R (List D)):Prop:=PI X tg iter (tG X (fun G J items=>ItOk X.K G J items) g)
noncomputable def Its (x:Str):It:=⟨fun i _=>i < x.cps.size,fun i H v H'=>H'=H/\∃ c,x.cps[i]?=some c/\v=.str ⟨#[c]⟩,fun i _=>x.cps.size<=i⟩
section
variable {X:Cx} {tg a e:Expr} {ga:Ev->R D} {gl:Ev->R (List D)} {pos:Pos}
theorem vG {l:Addr} {Rr:It->Hp->Prop} (I:Inv X pins σ H s) (h:SqL X.K H l xs) (q:Rr (Itl X.K l) H) :
  wpAny (model X.prog X.w) X.A (pyIter (.ref l)) (PIE X pins σ tg Rr) X.xe s:=by
 obtain ⟨its,rv,p,hz⟩:=I.list h
 refine wpAny_pyIter_list p.isList ?_
 refine ⟨s.heap.objs.size,[s.heap.objs.size],_,_,H,rfl,I.kept (t':=s.toks) fun b o e=>Heap.get?_push_of_some _ e,wV l _,⟨_,Heap.get?_push_size _ rfl,rfl,rfl⟩,fun b hb=>?_,q⟩
 have e:b=s.heap.objs.size:=by simpa using hb
 subst e
 exact I.fpOk (Nat.le_refl _) (I.hok.fresh (Nat.le_refl _))
theorem B4 {l:Addr} {Rr:It->Hp->Prop} (I:Inv X pins σ H s) (h:SqT X.K H l xs) (q:Rr (Itt X.K l) H) :
  wpAny (model X.prog X.w) X.A (pyIter (.ref l)) (PIE X pins σ tg Rr) X.xe s:=by
 obtain ⟨its,rv,p,hz⟩:=I.tuple h
 refine wpAny_pyIter_tuple (show s.heap.IsTuple l its.toArray from p) ?_
 refine ⟨s.heap.objs.size,[s.heap.objs.size],_,_,H,rfl,I.kept (t':=s.toks) fun b o e=>Heap.get?_push_of_some _ e,ux l _,⟨_,Heap.get?_push_size _ rfl,rfl,rfl⟩,fun b hb=>?_,q⟩
 have e:b=s.heap.objs.size:=by simpa using hb
 subst e
 exact I.fpOk (Nat.le_refl _) (I.hok.fresh (Nat.le_refl _))
theorem vg {w:World} {K:PySem.W.Frag} (it:Addr) (x:Str) (t:Tok):Turn P w K tg (Its x) [it] it (fun i h=>h.IsStrIter it "str_ascii_iterator" x t i) where
 mem:=by simp
 obj:=fun i h st b hb=>by
  have e:b=it:=by simpa using hb
  subst e
  obtain ⟨o,e,c,d⟩:=st
  exact ⟨o,e,fun v z=>by rw [d] at z; cases z⟩
 keep:=fun i h h' st k=>let ⟨o,ho,r⟩:=st; ⟨o,k it (by simp) o ho,r⟩
 item:=by
  intro X hP hw hK hc i pins s σ H E I hf st hg
  subst hP hw hK
  have hg':i < x.cps.size:=hg
  obtain ⟨f0,f1,f2,f3,f4,f5⟩:=hf it (by simp)
  refine wpAny_pyNext_ascii_item st (c:=x.cps[i]) (by simp [hg']) fun h' st' sb=>?_
  have I1:Inv X pins σ H { s with heap:=h',toks:=s.toks+1 }:=I.turned (t':=s.toks+1) (fun b o hb e=>(sb.2 b hb).trans e) f0 f1 f3 f4 f5
  obtain ⟨o,e,c,d⟩:=id st'
  exact ⟨_,rfl,we (s:={ s with heap:=h',toks:=s.toks+1 }) e c d (by decide) ⟨.str ⟨#[x.cps[i]]⟩,H,I1,⟨_,rfl⟩,⟨rfl,_,by simp [hg'],rfl⟩,st',fun b hb=>(hf b hb).1⟩⟩
 done:=by
  intro X hP hw hK hc i pins s σ H E I hf st hg
  subst hP hw hK
  obtain ⟨f0,f1,f2,f3,f4,f5⟩:=hf it (by simp)
  have hg':x.cps.size<=i:=hg
  exact wpAny_pyNext_ascii_end (I.ok.hd hc) st (by simp; omega) fun h' eb=>⟨rfl,I.turned (t':=s.toks) (fun b o hb e=>eb b o hb e) f0 f1 f3 f4 f5⟩
 self:=fun _ _ _ _ _ st h=>wpAny_pyIter_striter_ascii st h
theorem wZ {w:World} {K:PySem.W.Frag} (it:Addr) (x:Str) (t:Tok):Turn P w K tg (Its x) [it] it (fun i h=>h.IsStrIter it "str_iterator" x t i) where
 mem:=by simp
 obj:=fun i h st b hb=>by
  have e:b=it:=by simpa using hb
  subst e
  obtain ⟨o,e,c,d⟩:=st
  exact ⟨o,e,fun v z=>by rw [d] at z; cases z⟩
 keep:=fun i h h' st k=>let ⟨o,ho,r⟩:=st; ⟨o,k it (by simp) o ho,r⟩
 item:=by
  intro X hP hw hK hc i pins s σ H E I hf st hg
  subst hP hw hK
  have hg':i < x.cps.size:=hg
  obtain ⟨f0,f1,f2,f3,f4,f5⟩:=hf it (by simp)
  refine wpAny_pyNext_wide_item st (c:=x.cps[i]) (by simp [hg']) fun h' st' sb=>?_
  have I1:Inv X pins σ H { s with heap:=h',toks:=s.toks+1 }:=I.turned (t':=s.toks+1) (fun b o hb e=>(sb.2 b hb).trans e) f0 f1 f3 f4 f5
  obtain ⟨o,e,c,d⟩:=id st'
  exact ⟨_,rfl,we (s:={ s with heap:=h',toks:=s.toks+1 }) e c d (by decide) ⟨.str ⟨#[x.cps[i]]⟩,H,I1,⟨_,rfl⟩,⟨rfl,_,by simp [hg'],rfl⟩,st',fun b hb=>(hf b hb).1⟩⟩
 done:=by
  intro X hP hw hK hc i pins s σ H E I hf st hg
  subst hP hw hK
  obtain ⟨f0,f1,f2,f3,f4,f5⟩:=hf it (by simp)
  have hg':x.cps.size<=i:=hg
  exact wpAny_pyNext_wide_end (I.ok.hd hc) st (by simp; omega) fun h' eb=>⟨rfl,I.turned (t':=s.toks) (fun b o hb e=>eb b o hb e) f0 f1 f3 f4 f5⟩
 self:=fun _ _ _ _ _ st h=>wpAny_pyIter_striter_wide st h
theorem B1 {t:Tok} {Rr:It->Hp->Prop} (I:Inv X pins σ H s) (q:Rr (Its x) H) :
  wpAny (model X.prog X.w) X.A (pyIter (.str x t)) (PIE X pins σ tg Rr) X.xe s:=by
 have fp:∀ (o:Obj),∀ b ∈ [s.heap.objs.size],vT X pins H b:=fun o b hb=>by
  have e:b=s.heap.objs.size:=by simpa using hb
  subst e
  exact I.fpOk (Nat.le_refl _) (I.hok.fresh (Nat.le_refl _))
 cases ha:x.cps.all (· < 128)
 ·refine wpAny_pyIter_wide ha ⟨s.heap.objs.size,[s.heap.objs.size],_,_,H,rfl,I.kept (t':=s.toks) fun b o e=>Heap.get?_push_of_some _ e,wZ _ x t,⟨_,Heap.get?_push_size _ rfl,rfl,rfl⟩,fp default,q⟩
 ·refine wpAny_pyIter_ascii ha ⟨s.heap.objs.size,[s.heap.objs.size],_,_,H,rfl,I.kept (t':=s.toks) fun b o e=>Heap.get?_push_of_some _ e,vg _ x t,⟨_,Heap.get?_push_size _ rfl,rfl,rfl⟩,fp default,q⟩
noncomputable def dH:D->R (List D)
 | .lst _ xs=>.ok xs
 | .tup xs=>.ok xs
 | .str x=>.ok (x.map fun c=>.str [c])
 | _=>.no
theorem ItOk.list {K:PySem.W.Frag} {l:Addr} (h:SqL K G l vs) (r:Reps K G vs ds):ItOk K G (Itl K l) ds:=by
 intro i G1 H1 s1 s2
 refine ⟨fun d e=>?_,fun hl=>⟨vs,(h.mono s1).mono s2,by rw [r.length]; exact hl⟩⟩
 obtain ⟨v,ev,rv⟩:=r.get e
 refine ⟨⟨vs,v,(h.mono s1).mono s2,ev⟩,fun x H' y=>?_⟩
 obtain ⟨rfl,y⟩:=y
 have:=y vs ((h.mono s1).mono s2)
 rw [ev] at this
 cases this
 exact ⟨G1,.refl s2,rv.mono s1⟩
theorem ItOk.tup {K:PySem.W.Frag} {l:Addr} (h:SqT K G l vs) (r:Reps K G vs ds):ItOk K G (Itt K l) ds:=by
 intro i G1 H1 s1 s2
 refine ⟨fun d e=>?_,fun hl=>⟨vs,(h.mono s1).mono s2,by rw [r.length]; exact hl⟩⟩
 obtain ⟨v,ev,rv⟩:=r.get e
 refine ⟨⟨vs,v,(h.mono s1).mono s2,ev⟩,fun x H' y=>?_⟩
 obtain ⟨rfl,y⟩:=y
 have:=y vs ((h.mono s1).mono s2)
 rw [ev] at this
 cases this
 exact ⟨G1,.refl s2,rv.mono s1⟩
theorem ItOk.str {K:PySem.W.Frag} (x:Str):ItOk K G (Its x) (x.cps.toList.map fun c=>.str [c]):=by
 intro i G1 H1 s1 s2
 refine ⟨fun d e=>?_,fun hl=>show x.cps.size<=i by simpa using hl⟩
 rw [List.getElem?_map] at e
 cases ec:x.cps.toList[i]? with
 | none=>rw [ec] at e; cases e
 | some c=>
  rw [ec] at e
  cases e
  have hi:i < x.cps.size:=by
   have:=(List.getElem?_eq_some_iff.mp ec).1
   simpa using this
  refine ⟨hi,fun v H' y=>?_⟩
  obtain ⟨rfl,c',e',rfl⟩:=y
  have:c'=c:=by
   have h2:x.cps.toList[i]?=x.cps[i]?:=by simp
   rw [h2,e'] at ec
   exact Option.some.inj ec
  subst this
  exact ⟨G1,.refl s2,.strL rfl zj⟩
theorem ItOk.range {K:PySem.W.Frag} (lo:Int) (n:Nat):ItOk K G (Itr lo n) ((List.range n).map fun i=>.int (lo+(i:Nat))):=by
 intro i G1 H1 s1 s2
 refine ⟨fun d e=>?_,fun hl=>show n<=i by simpa using hl⟩
 rw [List.getElem?_map] at e
 by_cases hi:i < n
 ·rw [List.getElem?_range hi] at e
  cases e
  refine ⟨hi,fun v H' y=>?_⟩
  obtain ⟨rfl,rfl⟩:=y
  exact ⟨G1,.refl s2,.int _⟩
 ·rw [List.getElem?_eq_none (by simpa using hi)] at e
  cases e
theorem vQ (ha:QF X a ga):QIF X tg a (fun ρ=>ga ρ>>=dH):=by
 intro pins s σ H Rr I h
 obtain ⟨G,ρ,st,h⟩:=h
 have t:tF X ga σ H (fun x H1=>∃ G1 d,Same G1 H1/\Rep X.K G1 x d/\(dH d).post (Fin G1 H1 (fun G J items=>ItOk X.K G J items) Rr) (Exx X σ G1 H1)):=
  tG.intro st h fun x v G1 H1 u1 st1 r1 h1=>⟨G1,x,st1.sub,r1,h1⟩
 refine thn (ha pins s σ H _ I t) fun v s1 ⟨x,H1,I1,r1,G1,d,sub,rd,h1⟩=>?_
 cases rd with
 | lst hh r=>cases r1; exact vG I1 (.of (sub _ _ hh)) (h1 _ G1 H1 (.refl sub) (.list (.of hh) r))
 | fls hh r=>cases r1; exact vG I1 (hh.mono sub) (h1 _ G1 H1 (.refl sub) (.list hh r))
 | tup hh r=>cases r1; exact B4 I1 (hh.mono sub) (h1 _ G1 H1 (.refl sub) (.tup hh r))
 | str y hy=>obtain ⟨t,rfl⟩:=r1; exact B1 I1 (h1 _ G1 H1 (.refl sub) (.str y))
 | _=>exact h1.elim
noncomputable def fg:List D->R (List D)
 | [.int j]=>if -(2 ^ 62)<=j/\j < 2 ^ 62 then .ok ((List.range j.toNat).map fun i=>.int (0+(i:Nat))) else .no
 | _=>.no
theorem qp {p:Pos} (hg:Gl X "range") (hm:X.mg "range"=none) (ha:QFA X [a] gl) (hs:starEach [a] X.env=[(false,eval a X.env)]:=by rfl):QIF X tg (.Call (.Name "range" p) [a] [] pos) (fun ρ=>gl ρ>>=fg):=by
 intro pins s σ H Rr I h
 refine wL hg hm ha hs pins s σ H Rr I ?_
 obtain ⟨G,ρ,st,h⟩:=h
 refine tG.intro st h fun ds vs G1 H1 u1 st1 r1 h1=>?_
 unfold fg at h1
 split at h1
 ·split at h1
  ·rename_i hj
   obtain ⟨v,rfl,r⟩:=r1.one
   obtain rfl:=r.int_inv
   exact ⟨_,rfl,hj.1,hj.2,h1 _ G1 H1 (.refl st1.sub) (.range 0 _)⟩
  ·exact h1.elim
 ·exact h1.elim
end
noncomputable def ObSt (K:PySem.W.Frag) (H₀ G H:Hp) (σ:St) (ρ:Ev):Prop:=
 ∃ ow:jP,(∀ (i:Nat) ds l,ρ[i]?=some (some (.own ds))->σ[i]?=some (some (.ref l))->ow l=some (i,0))/\
  ∀ (i:Nat) m C p fs,ρ[i]?=some (some (.obj m C p fs))->σ[i]?=some (some (.ref p))/\ObjAt K H₀ G H ow i m C p fs
theorem ObSt.rd {K:PySem.W.Frag} {H₀:Hp} (h:ObSt K H₀ G H σ ρ):∀ (i:Nat) m C p fs,ρ[i]?=some (some (.obj m C p fs))->σ[i]?=some (some (.ref p))/\∃ ow,ObjAt K (fun _=>none) G H ow i m C p fs:=fun i m C p fs e=>by
 obtain ⟨ow,_,o2⟩:=h
 exact ⟨(o2 i m C p fs e).1,ow,(o2 i m C p fs e).2.rd⟩
noncomputable def NoOwn (ρ:Ev):Prop:=∀ (j:Nat) (x:Sl),ρ[j]?=some (some x)->∃ d,x=.val d
theorem NoOwn.own (h:NoOwn ρ) (j:Nat) (ds:List D):ρ[j]? ≠ some (some (.own ds)):=fun e=>by obtain ⟨d,z⟩:=h j _ e; cases z
theorem NoOwn.obj (h:NoOwn ρ) (j:Nat) (m:Bool) (C p:Addr) (fs:List (Nat × Fd)):ρ[j]? ≠ some (some (.obj m C p fs)):=fun e=>by obtain ⟨d,z⟩:=h j _ e; cases z
theorem NoOwn.ob {K:PySem.W.Frag} {H₀:Hp} (h:NoOwn ρ):ObSt K H₀ G H σ ρ:=
 ⟨fun _=>none,fun i ds l e=>absurd e (h.own i ds),fun i m C p fs e=>absurd e (h.obj i m C p fs)⟩
structure StR (K:PySem.W.Frag) (G₀ H₀ G H:Hp) (σ:St) (ρ:Ev):Prop where
 e:StE K G H σ ρ
 sub0:Same G₀ H₀
 up:Up G₀ H₀ G H
 own:∀ (i:Nat) ds,ρ[i]?=some (some (.own ds))->∃ l vs,σ[i]?=some (some (.ref l))/\H l=some (.lst vs)/\G l=none/\H₀ l=none/\Reps K G vs ds
 inj:∀ (i j:Nat) ds es l,ρ[i]?=some (some (.own ds))->ρ[j]?=some (some (.own es))->σ[i]?=some (some (.ref l))->σ[j]?=some (some (.ref l))->i=j
 ob:ObSt K H₀ G H σ ρ
section
variable {K:PySem.W.Frag} {G₀ H₀ G H G' H':Hp} {σ:St} {ρ:Ev}
theorem StR.ups (s:StR K G₀ H₀ G H σ ρ) (u:Up G H G' H'):StR K G₀ H₀ G' H' σ ρ:=⟨s.e.up u,s.sub0,s.up.trans u,(fun i ds e=>by
 obtain ⟨l,vs,h1,h2,h3,h4,h5⟩:=s.own i ds e
 refine ⟨l,vs,h1,u.hh _ _ h2,?_,h4,h5.mono u.gg⟩
 cases q:G' l with
 | none=>rfl
 | some o=>
  rcases u.fr l o q with z | z
  ·rw [h3] at z; cases z
  ·rw [h2] at z; cases z),s.inj,by
 obtain ⟨ow,o1,o2⟩:=s.ob
 exact ⟨ow,o1,fun i m C p fs e=>⟨(o2 i m C p fs e).1,(o2 i m C p fs e).2.keep (.up u)⟩⟩⟩
theorem StR.set (s:StR K G₀ H₀ G H σ ρ) (r:Rep K G v d) (i:Nat):StR K G₀ H₀ G H (σ.set i (some v)) (ρ.set i (some (.val d))):=by
 have get:∀ (j:Nat) x,(ρ.set i (some (.val d)))[j]?=some (some x)->(j=i/\x=.val d/\i < σ.length)\/(j ≠ i/\ρ[j]?=some (some x)/\(σ.set i (some v))[j]?=σ[j]?):=fun j x h=>by
  by_cases e:i=j
  ·subst e
   have hl:i < ρ.length:=by
    have:=(List.getElem?_eq_some_iff.mp h).1
    simpa using this
   rw [List.getElem?_set_self hl] at h
   exact .inl ⟨rfl,by injection (Option.some.inj h) with q; exact q.symm,by rw [s.e.len]; exact hl⟩
  ·rw [List.getElem?_set_ne e] at h
   exact .inr ⟨fun z=>e z.symm,h,List.getElem?_set_ne e⟩
 have ob:ObSt K H₀ G H (σ.set i (some v)) (ρ.set i (some (.val d))):=by
  obtain ⟨ow,o1,o2⟩:=s.ob
  refine ⟨ow,fun j ds l h1 h2=>?_,fun j m C p fs h1=>?_⟩
  ·rcases get j _ h1 with ⟨_,e,_⟩ | ⟨_,e,e'⟩
   ·cases e
   ·exact o1 j ds l e (e' ▸ h2)
  ·rcases get j _ h1 with ⟨_,e,_⟩ | ⟨_,e,e'⟩
   ·cases e
   ·rw [e']; exact o2 j m C p fs e
 refine ⟨⟨s.e.sub,by simp [s.e.len],fun j d' h=>?_,ob.rd⟩,s.sub0,s.up,fun j ds h=>?_,fun j k ds es l h1 h2 h3 h4=>?_,ob⟩
 ·rcases get j _ h with ⟨rfl,e,hl⟩ | ⟨_,e,e'⟩
  ·cases e
   exact ⟨v,List.getElem?_set_self hl,r⟩
  ·rw [e']; exact s.e.val j d' e
 ·rcases get j _ h with ⟨_,e,_⟩ | ⟨_,e,e'⟩
  ·cases e
  ·rw [e']; exact s.own j ds e
 ·rcases get j _ h1 with ⟨_,e,_⟩ | ⟨_,e,e'⟩
  ·cases e
  ·rcases get k _ h2 with ⟨_,f,_⟩ | ⟨_,f,f'⟩
   ·cases f
   ·exact s.inj j k ds es l e f (e' ▸ h3) (f' ▸ h4)
end
noncomputable def PGF (X:Cx) (tg:Expr) (asg:D->Ev->R Ev):Prop:=PG X tg (fun v σ H Q=>∃ G₀ H₀ G ρ d ρ',StR X.K G₀ H₀ G H σ ρ/\Rep X.K G v d/\asg d ρ=.ok ρ'/\∀ σ',StR X.K G₀ H₀ G H σ' ρ'->Q σ' H)
section
variable {X:Cx} {pos:Pos}
noncomputable def vt (i:Nat):D->Ev->R Ev:=fun d ρ=>.ok (ρ.set i (some (.val d)))
theorem iq (i:Nat) (hN:X.N.Nodup) (hi:X.N[i]?=some x:=by rfl) (hx:Loc X.env.scope x:=by first | exact Or.inl rfl | exact Or.inr rfl)
 (hf:X.fn x=true\/X.env.scope.names.lookup x=some .local:=by first | exact .inl rfl | exact .inr rfl):PGF X (.Name x pos) (vt i):=by
 intro pins s σ H v u Q I r h
 obtain ⟨G₀,H₀,G,ρ,d,ρ',st,rd,e,q⟩:=h
 cases e
 exact nV hN hi hx hf pins s σ H v u Q I r (q _ (st.set rd i))
end
end L2
namespace L2
open PySem PySem.Spec PyProof.Rows
noncomputable def vL (K:PySem.W.Frag) (G H:Hp) (Q:VK):List D->Prop:=fun ds=>∀ l vs G' H',Up G H G' H'->H' l=none->Reps K G' vs ds->Q (.ref l) (upd H' l (.lst vs))
noncomputable def tL (X:Cx) (g:Ev->R (List D)):TE:=fun σ H Q=>∃ G ρ,StE X.K G H σ ρ/\(g ρ).post (vL X.K G H Q) (Exx X σ G H)
noncomputable def QFL (X:Cx) (e:Expr) (g:Ev->R (List D)):Prop:=PE X e (tL X g)
theorem mC {e:Expr} {g:Ev->R (List D)} (h:QFL X e g):QF X e (fun ρ=>g ρ>>=fun ds=>.ok (.lst false ds)):=by
 intro pins s σ H Q I hq
 refine h pins s σ H Q I ?_
 obtain ⟨G,ρ,st,hq⟩:=hq
 try dsimp only at hq
 refine ⟨G,ρ,st,?_⟩
 cases e:g ρ with
 | ok ds=>
  rw [e] at hq
  intro l vs G' H' u hl r
  exact hq _ _ _ (u.trans (.new u.sub hl)) (.lst bf (r.mono (.into (u.sub.free hl))))
 | ex C=>rw [e] at hq; exact hq
 | no=>rw [e] at hq; exact hq
theorem wR {es:List Expr} (h:QFA X es gl):QFL X (.List es pos) (fun ρ=>gl ρ>>=fun ds=>if ds.length<=sizeLine then .ok ds else .no):=by
 intro pins s σ H Q I hq
 refine D1 h pins s σ H Q I ?_
 obtain ⟨G,ρ,st,hq⟩:=hq
 try dsimp only at hq
 refine ⟨G,ρ,st,?_⟩
 cases e:gl ρ with
 | ok ds=>
  rw [e] at hq
  intro vs G' H' u r
  simp only [R.ok_bind] at hq
  split at hq
  ·rename_i hz
   exact ⟨by rw [r.length]; exact hz,fun p hp=>hq p vs G' H' u hp r⟩
  ·exact hq.elim
 | ex C=>rw [e] at hq; exact hq
 | no=>rw [e] at hq; exact hq
noncomputable def oA (env:Env):List (Str × NameKind)->List (Str × Addr)->List (Str × Addr)
 | [],cs=>cs
 | (n,k)::r,cs=>oA env r (if (k==.free)=true then (match env.cells.lookup n with | some c=>(n,c)::cs | none=>cs) else cs)
theorem tm {env:Env} {F:Str × NameKind->List (Str × Addr)->Sem (ForInStep (List (Str × Addr)))}
  (hF:∀ n k r,(k=NameKind.free->∃ c,env.cells.lookup n=some c)->F (n,k) r=pure (ForInStep.yield (if (k==.free)=true then (match env.cells.lookup n with | some c=>(n,c)::r | none=>r) else r))) :
  ∀ (l:List (Str × NameKind)) (cs:List (Str × Addr)),(∀ x ∈ l,x.2=.free->∃ c,env.cells.lookup x.1=some c)->forIn l cs F=pure (oA env l cs)
 | [],cs,_=>rfl
 | (n,k)::l,cs,h=>by
  rw [List.forIn_cons,hF n k cs (h (n,k) List.mem_cons_self),pure_bind]
  exact tm hF l _ fun y hy=>h y (List.mem_cons_of_mem _ hy)
theorem fh {env:Env} (h:∀ x ∈ scope.names,x.2=.free->∃ c,env.cells.lookup x.1=some c):closureFor scope env=pure (oA env scope.names []):=by
 simp only [closureFor]
 rw [tm (env:=env) (fun n k r hk=>?_) scope.names [] h]
 ·rfl
 ·by_cases hf:(k==NameKind.free)=true
  ·obtain ⟨c,hc⟩:=hk (by simpa using hf)
   simp only [hf,if_true,cellOf,hc,pure_bind]
  ·simp only [hf,if_false]
   rfl
theorem nT {env:Env}:∀ (l:List (Str × NameKind)) (cs:List (Str × Addr)),(∀ x c,cs.lookup x=some c->env.cells.lookup x=some c)->∀ x c,(oA env l cs).lookup x=some c->env.cells.lookup x=some c
 | [],cs,h,x,c,e=>h x c e
 | (n,k)::l,cs,h,x,c,e=>by
  unfold oA at e
  refine nT l _ (fun y d ed=>?_) x c e
  split at ed
  ·split at ed
   ·rename_i c' hc'
    rw [List.lookup_cons] at ed
    split at ed
    ·rename_i q; rw [eq_of_beq q]; rw [<- Option.some.inj ed]; exact hc'
    ·exact h y d ed
   ·exact h y d ed
  ·exact h y d ed
theorem jL {env:Env}:∀ (l:List (Str × NameKind)) (cs:List (Str × Addr)) (x:Str),((∃ c,cs.lookup x=some c)\/((x,NameKind.free) ∈ l/\∃ c,env.cells.lookup x=some c))->∃ c,(oA env l cs).lookup x=some c
 | [],cs,x,h=>by
  rcases h with h | ⟨h,_⟩
  ·exact h
  ·cases h
 | (n,k)::l,cs,x,h=>by
  unfold oA
  refine jL l _ x ?_
  rcases h with ⟨c,h⟩ | ⟨h,c,hc⟩
  ·left
   split
   ·split
    ·rename_i c' _
     rw [List.lookup_cons]
     split
     ·exact ⟨_,rfl⟩
     ·exact ⟨c,h⟩
    ·exact ⟨c,h⟩
   ·exact ⟨c,h⟩
  ·rcases List.mem_cons.mp h with e | h
   ·cases e
    left
    rw [if_pos (by rfl),hc]
    exact ⟨c,by simp [List.lookup_cons]⟩
   ·exact .inr ⟨h,c,hc⟩
noncomputable def bI (X:Cx) (N':List Str) (scope:Scope) (C:Addr) (s₂:Shared) (H₂:Hp) (fp:List Addr):Cx:=
 { X with N:=N',s₀:=s₂,H₀:=H₂,env:=compEnvC scope (oA X.env scope.names []) C X.env,outer:=X.stack,stack:=X.stack,ex:=fp,fn:=fun _=>false,pn:=[],xe:=fun _ _=>False }
noncomputable def fq {α:Type}:R α->R α
 | .ok a=>.ok a
 | _=>.no
noncomputable def lF (ix:List Nat) (ρ:Ev):Ev:=none::ix.map fun (i:Nat)=>match ρ[i]? with
 | some (some (.val d))=>some (.val d)
 | _=>none
noncomputable def bK (n:Nat) (ix:List Nat) (ρ:Ev):Ev:=List.replicate n none++ix.map fun (i:Nat)=>match ρ[i]? with
 | some (some (.val d))=>some (.val d)
 | _=>none
noncomputable def fD (asg:D->Ev->R Ev) (gt:Ev->R Bool) (ge:Ev->R D):List D->Ev->R (List D)
 | [],_=>.ok []
 | d::ds,ρ=>fq (asg d ρ)>>=fun ρ1=>fq (gt ρ1)>>=fun k=>if k=true then fq (ge ρ1)>>=fun x=>fD asg gt ge ds ρ1>>=fun xs=>.ok (x::xs) else fD asg gt ge ds ρ1
noncomputable def jD (gt:Ev->R Bool) (ge:Ev->R D):List D->Ev->R (List D):=fD (vt 0) gt ge
theorem iY {asg:D->Ev->R Ev} {gt:Ev->R Bool} {ge:Ev->R D}:∀ (ds:List D) (ρ:Ev),(∃ xs,fD asg gt ge ds ρ=.ok xs)\/fD asg gt ge ds ρ=.no
 | [],ρ=>.inl ⟨[],rfl⟩
 | d::ds,ρ=>by
  unfold fD
  cases asg d ρ with
  | ok ρ1=>
   simp only [fq,R.ok_bind]
   cases gt ρ1 with
   | ok k=>
    simp only [fq,R.ok_bind]
    cases k with
    | true=>
     simp only [if_true]
     cases ge ρ1 with
     | ok x=>
      simp only [fq,R.ok_bind]
      rcases iY (asg:=asg) ds ρ1 with ⟨xs,e⟩ | e
      ·rw [e]; exact .inl ⟨_,rfl⟩
      ·rw [e]; exact .inr rfl
     | ex C=>exact .inr rfl
     | no=>exact .inr rfl
    | false=>simp only [Bool.false_eq_true,if_false]; exact iY ds _
   | ex C=>exact .inr rfl
   | no=>exact .inr rfl
  | ex C=>exact .inr rfl
  | no=>exact .inr rfl
noncomputable def im (gi:Ev->R (List D)) (ix:List Nat) (gt:Ev->R Bool) (ge:Ev->R D):Ev->R (List D):=fun ρ=>gi ρ>>=fun items=>jD gt ge items (lF ix ρ)>>=fun ds=>if ds.length<=sizeLine then .ok ds else .no
noncomputable def ml (n:Nat) (asg:D->Ev->R Ev) (gi:Ev->R (List D)) (ix:List Nat) (gt:Ev->R Bool) (ge:Ev->R D):Ev->R (List D):=fun ρ=>gi ρ>>=fun items=>fD asg gt ge items (bK n ix ρ)>>=fun ds=>if ds.length<=sizeLine then .ok ds else .no
noncomputable def PTs (X:Cx) (ifs:List Expr) (gt:Ev->R Bool):Prop:=∀ (pins:List (Addr × Obj)) (s:Shared) (σ:St) (H:Hp) (Q:Bool->Hp->Prop),Inv X pins σ H s->tTF X gt σ H Q->
 wpAny (model X.prog X.w) X.A (forIn ifs true fun c r=>if r=true then do let ok <- isTrue c X.env (eval c X.env); pure (ForInStep.yield ok) else pure (ForInStep.yield r)) (TP X pins σ Q) X.xe s
theorem gN:PTs X [] (fun _=>.ok true):=by
 intro pins s σ H Q I h
 obtain ⟨G,ρ,st,h⟩:=h
 exact wpAny_pure ⟨H,I,h true G H (.refl st.sub) rfl⟩
theorem Un.sameBut {fs ex:List Addr} {h1 h2:Heap} (u:Un fs ex H H' h h1) (k:∀ b o,b ≠ C->h1.get? b=some o->h2.get? b=some o) (hC:h.objs.size<=C):Un fs ex H H' h h2:=by
 have ne:∀ b o,h.get? b=some o->b ≠ C:=fun b o e=>Nat.ne_of_lt (Nat.lt_of_lt_of_le (Heap.lt_size e) hC)
 exact ⟨fun b o e n hb hx=>k b o (ne b o e) (u.keep b o e n hb hx),fun b o e n hb hx=>let ⟨sl,q⟩:=u.slot b o e n hb hx; ⟨sl,k b _ (ne b o e) q⟩,u.free,fun b o e hx=>let ⟨o',q⟩:=u.there b o e hx; ⟨o',k b o' (ne b o e) q⟩,u.tups,u.frzs,u.tbls⟩
theorem HOk.sameBut {w:World} (x:HOk P w H h) (k:∀ b o,b ≠ C->h.get? b=some o->h'.get? b=some o) (hC:H C=none):HOk P w H h':=fun a o e=>by
 refine (x a o e).stay (fun b u hb q=>k b u ?_ q) (fun _ z=>z) (fun _ _ z=>z)
 rcases hb with rfl | hb
 ·exact aU e hC
 ·exact aU hb hC
end L2
namespace L2
open PySem PySem.Spec PyProof.Rows
section
variable {X:Cx} {elt iter:Expr} {ifs:List Expr} {x:Str} {px pos:Pos} {scope:Scope} {N':List Str} {ix:List Nat} {gi:Ev->R (List D)} {gt:Ev->R Bool} {ge:Ev->R D}
structure CompOk (X:Cx) (scope:Scope) (x:Str) (N':List Str) (ix:List Nat):Prop where
 kind:scope.kind=.function
 cell:∀ y ∈ scope.names,y.2 ≠ .cell
 names:∀ y ∈ scope.names,y.2=.local->scope.names.lookup y.1=some .local
 loc:scope.names.lookup x=some .local
 fr:∀ y ∈ scope.names,y.2=.free->X.env.kindOf y.1=some .cell
 nd:N'.Nodup
 hd:N'[0]?=some x
 tl:N'.tail=ix.map fun (i:Nat)=>X.N.getD i Str.empty
 lt:∀ i ∈ ix,i < X.N.length
 fre:∀ y ∈ N'.tail,scope.names.lookup y=some .free/\(y,NameKind.free) ∈ scope.names
structure CompOkT (X:Cx) (scope:Scope) (n:Nat) (N':List Str) (ix:List Nat):Prop where
 kind:scope.kind=.function
 cell:∀ y ∈ scope.names,y.2 ≠ .cell
 names:∀ y ∈ scope.names,y.2=.local->scope.names.lookup y.1=some .local
 fr:∀ y ∈ scope.names,y.2=.free->X.env.kindOf y.1=some .cell
 le:n<=N'.length
 tl:N'.drop n=ix.map fun (i:Nat)=>X.N.getD i Str.empty
 lt:∀ i ∈ ix,i < X.N.length
 fre:∀ y ∈ N'.drop n,scope.names.lookup y=some .free/\(y,NameKind.free) ∈ scope.names
theorem CompOk.t (ok:CompOk X scope x N' ix):CompOkT X scope 1 N' ix:=
 ⟨ok.kind,ok.cell,ok.names,ok.fr,(List.getElem?_eq_some_iff.mp ok.hd).1,List.drop_one ▸ ok.tl,ok.lt,List.drop_one ▸ ok.fre⟩
theorem jn {env:Env} (hk:env.scope.kind=.function):∀ {names:List (Str × NameKind)} {x:Str},names.lookup x=some .free->env.kindOf x=some .cell->
  (names.map fun (n,k)=>if (k==NameKind.free && env.scope.kind==.function && env.kindOf n==some .cell) then (n,NameKind.cell) else (n,k)).lookup x=some .cell
 | [],_,h,_=>by simp at h
 | (n,k)::r,x,h,hc=>by
  have ih:=@jn env hk r x
  show List.lookup x ((if (k==NameKind.free && env.scope.kind==.function && env.kindOf n==some .cell)=true then (n,NameKind.cell) else (n,k))::_)=_
  cases hx:x==n with
  | true=>
   simp only [List.lookup_cons,hx] at h
   cases h
   have e:=eq_of_beq hx
   subst e
   rw [if_pos (by rw [hk,hc]; rfl)]
   simp [List.lookup_cons]
  | false=>
   simp only [List.lookup_cons,hx] at h
   by_cases hc':(k==NameKind.free && env.scope.kind==.function && env.kindOf n==some .cell)=true
   ·rw [if_pos hc']; simp only [List.lookup_cons,hx]; exact ih h hc
   ·rw [if_neg hc']; simp only [List.lookup_cons,hx]; exact ih h hc
theorem xp (h:(bK n ix ρ)[j]?=some (some (.val d))):∃ k i,j=k+n/\ix[k]?=some i/\ρ[i]?=some (some (.val d)):=by
 unfold bK at h
 by_cases hj:j < n
 ·rw [List.getElem?_append_left (by simpa using hj),List.getElem?_replicate,if_pos hj] at h; cases h
 ·rw [List.getElem?_append_right (by simpa using Nat.not_lt.1 hj),List.length_replicate,List.getElem?_map] at h
  cases e:ix[j - n]? with
  | none=>rw [e] at h; cases h
  | some i=>
   rw [e] at h
   refine ⟨j - n,i,by omega,e,?_⟩
   simp only [Option.map_some,Option.some.injEq] at h
   split at h
   ·rename_i d' e'; cases h; exact e'
   ·cases h
noncomputable def cq (n:Nat) (ix:List Nat) (σ:St):St:=List.replicate n none++ix.map fun (i:Nat)=>(σ[i]?).join
theorem fS:NoOwn (bK n ix ρ):=fun j x h=>by
 unfold bK at h
 by_cases hj:j < n
 ·rw [List.getElem?_append_left (by simpa using hj),List.getElem?_replicate,if_pos hj] at h; cases h
 ·rw [List.getElem?_append_right (by simpa using Nat.not_lt.1 hj),List.length_replicate,List.getElem?_map] at h
  cases e:ix[j - n]? with
  | none=>rw [e] at h; cases h
  | some i=>
   rw [e] at h
   simp only [Option.map_some,Option.some.injEq] at h
   split at h
   ·cases h; exact ⟨_,rfl⟩
   ·cases h
theorem jR {K:PySem.W.Frag} (st:StE K G H σ ρ) (n:Nat) (ix:List Nat):StE K G H (cq n ix σ) (bK n ix ρ):=by
 refine ⟨st.sub,by simp [bK,cq],fun j d h=>?_,fun j m C p fs h=>absurd h (NoOwn.obj fS j m C p fs)⟩
 obtain ⟨k,i,rfl,e1,e2⟩:=xp h
 obtain ⟨v,h1,h2⟩:=st.val i d e2
 refine ⟨v,?_,h2⟩
 unfold cq
 rw [List.getElem?_append_right (by simp),List.length_replicate,Nat.add_sub_cancel,List.getElem?_map,e1]
 simp [h1]
theorem yh {h₁:Heap} {tk:Nat} {m:Str->Option Value} (ok:CompOkT X scope n N' ix) (hcalm:X.calm=true) (I:Inv X pins σ H s) (hf:∀ b ∈ fp,vT X pins H b) (hfl:∀ b ∈ fp,b < s.heap.objs.size)
 (hC:s.heap.objs.size<=C) (hn:h₁.Ns C m) (old:∀ b o,s.heap.get? b=some o->h₁.get? b=some o) (un:Un (frs X.stack) fp H H' s.heap h₁) (hok:HOk X.prog X.w H' h₁) (hfC:H' C=none) (hfc:∀ c:Addr,c < s.heap.objs.size->H c=none->H' c=none) :
  Inv (bI X N' scope C s H fp) [] (cq n ix σ) H' { s with heap:=h₁,toks:=tk }:=by
 have cl:∀ y c,(oA X.env scope.names []).lookup y=some c->X.env.cells.lookup y=some c:=nT scope.names [] (fun y c h=>by simp at h)
 have nlt:N'.length=n+ix.length:=by
  have h1:=congrArg List.length ok.tl
  rw [List.length_drop,List.length_map] at h1
  have:=ok.le
  omega
 refine ⟨⟨I.ok.mod,by show (relabel scope X.env).kind=_; exact ok.kind,I.ok.glob,I.ok.blt,hC,?_,?_,?_,I.ok.hd,I.ok.frames,.inl rfl,?_,I.bs,Nat.le_trans I.ok.bsz I.sz,?_,?_,I.stack,I.stkFree,I.ok.tabs.un I.base⟩,rfl,I.bare,un,?_,?_,hfC,?_,?_,hok,?_⟩
 ·intro y z c h1 h2
  exact I.ok.inj y z c (cl y c h1) (cl z c h2)
 ·intro y hy
  have h1:(y,NameKind.free) ∈ scope.names:=by
   have hy':(relabel scope X.env).names.lookup y=some .cell\/(relabel scope X.env).names.lookup y=some .free:=hy
   have mem:∀ k,(relabel scope X.env).names.lookup y=some k->(k=.cell\/k=.free)->(y,NameKind.free) ∈ scope.names:=fun k e hk=>by
    have hm:=PySem.mem_of_lookup e
    obtain ⟨⟨n,k'⟩,hm1,hm2⟩:=List.mem_map.mp hm
    dsimp only at hm2
    split at hm2
    ·rename_i hc
     cases hm2
     have:k'=.free:=by
      have:=(Bool.and_eq_true _ _ ▸ (Bool.and_eq_true _ _ ▸ hc).1).1
      simpa using this
     rw [<- this]; exact hm1
    ·cases hm2
     rcases hk with rfl | rfl
     ·exact absurd rfl (ok.cell _ hm1)
     ·exact hm1
   rcases hy' with h | h
   ·exact mem _ h (.inl rfl)
   ·exact mem _ h (.inr rfl)
  have hc:=I.ok.has y (.inl (ok.fr _ h1 rfl))
  exact jL scope.names [] y (.inr ⟨h1,hc⟩)
 ·intro y c hfn; cases hfn
 ·intro b hb
  obtain ⟨f0,f1,f2,f3,f4,f5⟩:=hf b hb
  exact ⟨fun z=>absurd (hfl b hb) (by rw [z]; exact Nat.not_lt.mpr hC),fun y c h=>f4 y c (cl y c h)⟩
 ·intro b o e hb
  obtain ⟨f0,f1,f2,f3,f4,f5⟩:=hf b hb
  rcases f3 with f3 | f3
  ·exact I.ok.noex b o e f3
  ·exact absurd (Heap.lt_size (I.ok.bs b o e).1) (Nat.not_lt.mpr f3)
 ·intro b hb hb'
  obtain ⟨f0,f1,f2,f3,f4,f5⟩:=hf b hb
  rcases List.mem_cons.mp (I.stkSub b hb') with e | e
  ·exact f1 e
  ·exact f2 e
 ·refine ⟨m,hn,fun i y v h1 h2 h3=>?_⟩
  have h1:N'[i]?=some y:=h1
  have h2:(cq n ix σ)[i]?=some (some v):=h2
  by_cases hi:i < n
  ·unfold cq at h2
   rw [List.getElem?_append_left (by simpa using hi),List.getElem?_replicate,if_pos hi] at h2; cases h2
  ·unfold cq at h2
   rw [List.getElem?_append_right (by simpa using Nat.not_lt.1 hi),List.length_replicate,List.getElem?_map] at h2
   cases e:ix[i - n]? with
   | none=>rw [e] at h2; cases h2
   | some i0=>
    rw [e] at h2
    have h2':σ[i0]?=some (some v):=by
     cases q:σ[i0]? with
     | none=>rw [Option.map_some,q] at h2; cases h2
     | some z=>rw [Option.map_some,q] at h2; have:=Option.some.inj h2; rw [<- this]; rfl
    have ht:(N'.drop n)[i - n]?=some y:=by rw [List.getElem?_drop,Nat.add_sub_cancel' (Nat.not_lt.1 hi)]; exact h1
    have hy:X.N[i0]?=some y:=by
     have ht2:=ht
     rw [ok.tl,List.getElem?_map,e] at ht2
     have hl:=ok.lt i0 (List.mem_of_getElem? e)
     have q:=Option.some.inj ht2
     rw [List.getElem?_eq_getElem hl]
     rw [<- q]
     show some X.N[i0]=some (X.N.getD i0 Str.empty)
     rw [List.getD_eq_getElem?_getD,List.getElem?_eq_getElem hl]
     rfl
    obtain ⟨fr1,fr2⟩:=ok.fre y (List.mem_of_getElem? ht)
    have kc:=ok.fr _ fr2 rfl
    obtain ⟨m0,hn0,hl⟩:=I.loc
    obtain ⟨u,ru,lk⟩:=hl i0 y v hy h2' (.inr (.inl kc))
    refine ⟨u,ru,.inr ⟨.inl (jn I.ok.kind fr1 kc),?_⟩⟩
    rcases lk with ⟨z,_⟩ | ⟨_,c,hc,hcell⟩
    ·rw [kc] at z; cases z
    ·obtain ⟨c',hc'⟩:=jL scope.names [] y (.inr ⟨fr2,c,hc⟩)
     have:=cl y c' hc'
     rw [hc] at this
     cases this
     exact ⟨c,hc',hcell.keeps old⟩
 ·intro y c h
  obtain ⟨v,q⟩:=I.cell y c (cl y c h)
  exact ⟨v,q.keeps old⟩
 ·intro y c h
  obtain ⟨v,q⟩:=I.cell y c (cl y c h)
  exact hfc c q.lt (I.freeC y c (cl y c h))
 ·intro p hp
  exact absurd (show p ∈ ([]:List (Addr × Obj)) from hp) (by simp)
 ·show (cq n ix σ).length=N'.length
  rw [nlt]; simp [cq]
theorem uA {prog:Program} {w:World} {A:Around} {R':Result->Shared->Prop} {elt target:Expr} {ifs:List Expr} {it acc:Value} {env:Env} (I:Nat->Shared->Prop)
 (turn:∀ n s,I n s->wpAny (model prog w) A (pyNext it) (fun r s₁=>match r with
 | none=>R' (.ok .next) s₁
 | some v=>wpAny (model prog w) A (letOwnedTupleGo target it v) (fun _ s₁'=>wpAny (model prog w) A (assign target env v) (fun _ s₂=>
 wpAny (model prog w) A (forIn ifs true fun c r=>if r=true then do let ok <- isTrue c env (eval c env); pure (ForInStep.yield ok) else pure (ForInStep.yield r)) (fun ok s₃=>
 if ok=true then wpAny (model prog w) A (eval elt env) (fun x s₄=>
 wpAny (model prog w) A (call (.builtin "list.append") [acc,x]) (fun _ s₅=>∃ m,m < n/\I m s₅) (fun _ _=>False) s₄) (fun _ _=>False) s₃
 else ∃ m,m < n/\I m s₃) (fun _ _=>False) s₂) (fun _ _=>False) s₁') (fun _ _=>False) s₁) (fun _ _=>False) s)
 (n:Nat) (h:I n s) :
  codeAny (model prog w) A (.compLoop (.ListComp elt [⟨target,iter,ifs,0⟩] scope pos) 0 it acc env) R' s:=by
 refine codeAny_loop rfl I (fun n s hI=>?_) n h
 show wpAny _ A ((compTurn (.ListComp elt [⟨target,iter,ifs,0⟩] scope pos) 0 it acc env).onRaise (fun x=>do noteFrame x env; theTreesLotGoes x)) _ _ s
 refine wpAny_noted ?_
 rw [compTurn_list]
 refine wpAny_bind (wpAny_standAt (wpAny_bind (wpAny_mono (turn n s hI) (fun r s₁ h₁=>?_) fun _ _ z=>z.elim)))
 cases r with
 | none=>exact wpAny_pure h₁
 | some v=>
  refine wpAny_bind (wpAny_mono h₁ (fun _ s₁' h₁'=>?_) fun _ _ z=>z.elim)
  refine wpAny_bind (wpAny_mono h₁' (fun _ s₂ h₂=>wpAny_bind (wpAny_mono h₂ (fun ok s₃ h₃=>?_) fun _ _ z=>z.elim)) fun _ _ z=>z.elim)
  cases ok with
  | false=>exact wpAny_pure ⟨rfl,h₃⟩
  | true=>
   exact wpAny_bind (wpAny_bind (wpAny_mono h₃ (fun x s₄ h₄=>wpAny_bind (wpAny_mono h₄ (fun _ s₅ h₅=>wpAny_pure (wpAny_pure ⟨rfl,h₅⟩)) fun _ _ z=>z.elim)) fun _ _ z=>z.elim))
theorem tK:∀ d ρ ρ',vt i d ρ=.ok ρ'->NoOwn ρ->NoOwn ρ':=by
 intro d ρ ρ' e h j x q
 have e':ρ.set i (some (.val d))=ρ':=R.ok.inj e
 rw [<- e',List.getElem?_set] at q
 split at q
 ·split at q
  ·cases q; exact ⟨d,rfl⟩
  ·cases q
 ·exact h j x q
theorem ik {tn : Nat -> Heap -> Prop} {J : It} {items : List D} {Q : VK} {RR : Value -> Addr -> Result -> Shared -> Prop} {E : Value -> Shared -> Prop} (ok : CompOkT X scope n N' ix) (hcalm : X.calm = true) (hg : ∀ C s₂ H₂ fp, PGF (bI X N' scope C s₂ H₂ fp) tgt asg) (hown : ∀ d ρ ρ', asg d ρ = .ok ρ' -> (NoOwn ρ) -> NoOwn ρ')
 (he : ∀ C s₂ H₂ fp, QF (bI X N' scope C s₂ H₂ fp) elt ge) (ht : ∀ C s₂ H₂ fp, PTs (bI X N' scope C s₂ H₂ fp) ifs gt)
 (I : Inv X pins σ H s) (T : Turn X.prog X.w X.K tgt J fp it tn) (st0 : tn 0 s.heap) (hf : ∀ b ∈ fp, vT X pins H b) (st : StE X.K G H σ ρ) (hi : ItOk X.K G J items)
 (h : (fD asg gt ge items (bK n ix ρ) >>= fun ds => if ds.length <= sizeLine then R.ok ds else .no).post (vL X.K G H Q) (Exx X σ G H))
 (hR : ∀ (Dd C : Addr) (s' : Shared) (m : Str -> Option Value) (vs : List V) (G' H' : Hp), Up G H G' H' -> H' Dd = none -> C ≠ Dd -> (∀ ds, Reps X.K G' vs ds -> True) -> Q (.ref Dd) (upd H' Dd (.lst vs)) -> s'.heap.Ns C m -> s'.os = s.os -> AllBare s'.gens -> H' C = none -> s.heap.objs.size <= C ->
 Un (frs X.stack) fp H (upd H' Dd (.lst vs)) s.heap s'.heap -> HOk X.prog X.w (upd H' Dd (.lst vs)) s'.heap -> RR (.ref Dd) C (.ok .next) s') :
    wpAny (model X.prog X.w) X.A (newList []) (fun acc s₃ => wpAny (model X.prog X.w) X.A (newFunctionEnv scope X.env.globals (oA X.env scope.names []) [] X.env.qual none .none (some X.env)) (fun cenv s₄ =>
      codeAny (model X.prog X.w) X.A (.compStart (.ListComp elt [⟨tgt, iter, ifs, 0⟩] scope pos) 0 (.ref it) acc { cenv with scope := relabel scope X.env }) (RR acc cenv.locals) s₄) E s₃) E s := by
  have hfl : ∀ b ∈ fp, b < s.heap.objs.size := fun b hb => let ⟨o, e, _⟩ := T.obj 0 s.heap st0 b hb; Heap.lt_size e
  refine wpAny_newObj_type (wpAny_newFunctionEnv ok.cell (by intro y hy; simp at hy) (fun h₁ hns₁ hsb₁ => ?_) ok.kind)
  dsimp only at hns₁ hsb₁ ⊢
  generalize hH2 : s.heap.push { cls := .type "list", dict := none, data := .seq ([] : List Value).toArray } = Hq at hns₁ hsb₁ ⊢
  have hC : Hq.objs.size = s.heap.objs.size + 1 := by rw [<- hH2, Heap.size_push]
  have hDC : s.heap.objs.size ≠ Hq.objs.size := by rw [hC]; exact Nat.ne_of_lt (Nat.lt_succ_self _)
  have hCle : s.heap.objs.size <= Hq.objs.size := by rw [hC]; exact Nat.le_succ _
  have old : ∀ b o, s.heap.get? b = some o -> h₁.get? b = some o := fun b o e =>
    hsb₁.extBut b o (by rw [hC]; exact Nat.ne_of_lt (Nat.lt_succ_of_lt (Heap.lt_size e))) (Heap.get?_push_of_some _ (hH2 ▸ Heap.get?_push_of_some _ e))
  have hacc : h₁.get? s.heap.objs.size = some { cls := .type "list", data := .seq ([] : List Value).toArray } := hsb₁.extBut _ _ hDC (Heap.get?_push_of_some _ (hH2 ▸ Heap.get?_push_size _ rfl))
  have hD0 : H s.heap.objs.size = none := I.fresh
  have hC0 : H Hq.objs.size = none := I.hok.fresh hCle
  have st0' : tn 0 h₁ := T.keep 0 _ _ st0 fun b hb o e => old b o e
  -- the block's state at its beginning
  have I0 : ∀ tk, Inv (bI X N' scope Hq.objs.size s H fp) [] (cq n ix σ) (upd H s.heap.objs.size (.lst [])) { s with heap := h₁, toks := tk } := fun tk => by
    refine yh ok hcalm I hf hfl hCle hns₁ old (Un.laid old (Nat.le_refl _) hD0) (I.hok.laid old (Nat.le_refl _) ⟨Nat.zero_le _, [], 0, .nil, hacc⟩) (by rw [aR hDC.symm]; exact hC0) fun c hc e => ?_
    rw [aR (Nat.ne_of_lt hc)]; exact e
  have loop : ∀ tk, codeAny (model X.prog X.w) X.A (.compLoop (.ListComp elt [⟨tgt, iter, ifs, 0⟩] scope pos) 0 (.ref it) (.ref s.heap.objs.size) (compEnvC scope (oA X.env scope.names []) Hq.objs.size X.env))
      (RR (.ref s.heap.objs.size) Hq.objs.size) { s with heap := h₁, toks := tk } := fun tk => by
    have fpk : ∀ {pins' : List (Addr × Obj)} {σ' : St} {H' : Hp} {s' : Shared}, Inv (bI X N' scope Hq.objs.size s H fp) pins' σ' H' s' -> pins' = [] -> (∀ b ∈ fp, H' b = none) -> ∀ b ∈ fp, vT (bI X N' scope Hq.objs.size s H fp) pins' H' b := fun I' e hn b hb =>
      ⟨hn b hb, (I'.ok.exf b hb).1, I'.ok.exfs b hb, .inl hb, (I'.ok.exf b hb).2, by subst e; intro p hp; exact absurd (show p ∈ ([] : List (Addr × Obj)) from hp) (by simp)⟩
    refine uA (fun nn s' => ∃ (i : Nat) (σ' : St) (G' H' : Hp) (ρ' : Ev) (vs : List V) (ys : List D), nn = items.length - i /\ i <= items.length /\ Inv (bI X N' scope Hq.objs.size s H fp) [] σ' H' s' /\ tn i s'.heap /\ (∀ b ∈ fp, H' b = none) /\
      H' s.heap.objs.size = some (.lst vs) /\ G' s.heap.objs.size = none /\ Up G H G' H' /\ StE X.K G' H' σ' ρ' /\ (NoOwn ρ') /\ Reps X.K G' vs ys /\
      (fD asg gt ge (items.drop i) ρ' >>= fun zs => if (ys ++ zs).length <= sizeLine then R.ok (ys ++ zs) else .no).post (vL X.K G H Q) (Exx X σ G H)) ?_ items.length
      ⟨0, cq n ix σ, G, upd H s.heap.objs.size (.lst []), bK n ix ρ, [], [], by simp, Nat.zero_le _, I0 tk, st0', fun b hb => by rw [aR (Nat.ne_of_lt (hfl b hb))]; exact (hf b hb).1, bf, st.sub.free hD0,
        ⟨fun a o e => by rw [aR (aU e (st.sub.free hD0))]; exact st.sub a o e, .refl _, .into hD0, fun _ _ e => .inl e⟩,
        ⟨fun a o e => by rw [aR (aU e (st.sub.free hD0))]; exact st.sub a o e, (jR st n ix).len, (jR st n ix).val, fun j m C p fs h => absurd h (NoOwn.obj fS j m C p fs)⟩, fS, .nil, by simpa using h⟩
    rintro nn s' ⟨i, σ', G', H', ρ', vs, ys, rfl, hil, I', tn', fr', hD', gD', up', st', no', rp', h'⟩
    have hIt := hi i G' H' up'.gg st'.sub
    by_cases hlt : i < items.length
    · -- a turn
      have hd : items.drop i = items[i] :: items.drop (i + 1) := List.drop_eq_getElem_cons hlt
      rw [hd] at h'
      obtain ⟨go, yl⟩ := hIt.1 items[i] (by simp [hlt])
      refine wpAny_mono (T.item (bI X N' scope Hq.objs.size s H fp) rfl rfl rfl hcalm i [] s' σ' H' (fun _ _ => False) I' (fpk I' rfl fr') tn' go) (fun r s1 ⟨u, hr, h1⟩ => ?_) fun _ _ z => z
      subst hr
      refine wpAny_mono h1 (fun _ s2 ⟨x2, H2, I2, r2, y2, tn2, fr2⟩ => ?_) fun _ _ z => z
      obtain ⟨G2, up2, rep2⟩ := yl x2 H2 y2
      have I2p := I2.pinned (fpk I2 rfl fr2) (T.obj _ _ tn2)
      have st2 : StE X.K G2 H2 σ' ρ' := st'.up up2
      have sr2 : StR X.K G2 H2 G2 H2 σ' ρ' := ⟨st2, up2.sub, .refl up2.sub, fun j ds e => absurd e (no'.own j ds), fun j k ds es l e => absurd e (no'.own j ds), no'.ob⟩
      have ea : ∃ ρ1, asg items[i] ρ' = .ok ρ1 := by
        unfold fD at h'
        cases q : asg items[i] ρ' with
        | ok k => exact ⟨k, rfl⟩
        | _ => rw [q] at h'; exact h'.elim
      obtain ⟨ρ1, ea⟩ := ea
      unfold fD at h'
      rw [ea] at h'
      simp only [fq, R.ok_bind] at h'
      refine wpAny_mono (hg Hq.objs.size s H fp _ s2 σ' H2 x2 u (fun σ3 H3 => H3 = H2 /\ StR X.K G2 H2 G2 H2 σ3 ρ1) I2p r2
        ⟨G2, H2, G2, ρ', items[i], _, sr2, rep2, ea, fun σ3 q => ⟨rfl, q⟩⟩) (fun _ s3 ⟨σ3, H3, I3, e3, sr3⟩ => ?_) fun _ _ z => z
      subst e3
      have no3 := hown _ _ _ ea no'
      have hD2 : H3 s.heap.objs.size = some (.lst vs) := up2.hh _ _ hD'
      have gD2 : G2 s.heap.objs.size = none := by
        cases q : G2 s.heap.objs.size with
        | none => rfl
        | some o =>
          rcases up2.fr _ _ q with z | z
          · rw [gD'] at z; cases z
          · rw [hD'] at z; cases z
      -- the tests
      have ek : ∃ k, gt ρ1 = .ok k := by
        cases q : gt ρ1 with
        | ok k => exact ⟨k, rfl⟩
        | _ => rw [q] at h'; exact h'.elim
      obtain ⟨k, ek⟩ := ek
      rw [ek] at h'
      simp only [fq, R.ok_bind] at h'
      refine wpAny_mono (ht Hq.objs.size s H fp _ s3 σ3 H3 (fun b H4 => b = k /\ ∃ G4, Up G2 H3 G4 H4) I3 ⟨G2, _, sr3.e, by rw [ek]; exact fun b G4 H4 u4 e4 => ⟨e4, G4, u4⟩⟩) (fun b s4 ⟨H4, I4, eb, G4, up4⟩ => ?_) fun _ _ z => z
      subst eb
      have next : ∀ {H7 : Hp} {s7 : Shared} {G7 : Hp} {vs7 : List V} {ys7 : List D}, Inv (bI X N' scope Hq.objs.size s H fp) ([] ++ pP fp s2.heap) σ3 H7 s7 -> H7 s.heap.objs.size = some (.lst vs7) -> G7 s.heap.objs.size = none -> Up G H G7 H7 -> StE X.K G7 H7 σ3 ρ1 -> Reps X.K G7 vs7 ys7 ->
          (fD asg gt ge (items.drop (i + 1)) ρ1 >>= fun zs => if (ys7 ++ zs).length <= sizeLine then R.ok (ys7 ++ zs) else .no).post (vL X.K G H Q) (Exx X σ G H) ->
          ∃ m, m < items.length - i /\ ∃ (i : Nat) (σ' : St) (G' H' : Hp) (ρ' : Ev) (vs : List V) (ys : List D), m = items.length - i /\ i <= items.length /\ Inv (bI X N' scope Hq.objs.size s H fp) [] σ' H' s7 /\ tn i s7.heap /\ (∀ b ∈ fp, H' b = none) /\
            H' s.heap.objs.size = some (.lst vs) /\ G' s.heap.objs.size = none /\ Up G H G' H' /\ StE X.K G' H' σ' ρ' /\ (NoOwn ρ') /\ Reps X.K G' vs ys /\
            (fD asg gt ge (items.drop i) ρ' >>= fun zs => if (ys ++ zs).length <= sizeLine then R.ok (ys ++ zs) else .no).post (vL X.K G H Q) (Exx X σ G H) := fun {H7 s7 G7 vs7 ys7} I7 hD7 gD7 up7 st7 rp7 h7 => by
        have pin : ∀ b ∈ fp, ∀ o, s2.heap.get? b = some o -> s7.heap.get? b = some o /\ H7 b = none := fun b hb o e => by
          have := I7.pin (b, o) (List.mem_append_right _ (List.mem_append_right _ (iZ hb e)))
          exact ⟨this.1, this.2.1⟩
        refine ⟨items.length - (i + 1), by omega, i + 1, σ3, G7, H7, _, vs7, ys7, rfl, hlt, I7.unpinned, T.keep _ _ _ tn2 fun b hb o e => (pin b hb o e).1, fun b hb => ?_, hD7, gD7, up7, st7, no3, rp7, h7⟩
        obtain ⟨o, e, _⟩ := T.obj _ _ tn2 b hb
        exact (pin b hb o e).2
      have hD4 : H4 s.heap.objs.size = some (.lst vs) := up4.hh _ _ hD2
      have gD4 : G4 s.heap.objs.size = none := by
        cases q : G4 s.heap.objs.size with
        | none => rfl
        | some o =>
          rcases up4.fr _ _ q with z | z
          · rw [gD2] at z; cases z
          · rw [hD2] at z; cases z
      cases b with
      | false =>
        simp only [Bool.false_eq_true, if_false] at h' ⊢
        exact next I4 hD4 gD4 ((up'.trans up2).trans up4) (sr3.e.up up4) ((rp'.mono up2.gg).mono up4.gg) h'
      | true =>
        simp only [if_true] at h' ⊢
        have ex : ∃ y, ge ρ1 = .ok y := by
          cases q : ge ρ1 with
          | ok y => exact ⟨y, rfl⟩
          | _ => rw [q] at h'; exact h'.elim
        obtain ⟨y, ey⟩ := ex
        rw [ey] at h'
        simp only [fq, R.ok_bind] at h'
        refine wpAny_mono (he Hq.objs.size s H fp _ s4 σ3 H4 (fun v H5 => ∃ G5, Up G4 H4 G5 H5 /\ Rep X.K G5 v y) I4 ⟨G4, _, sr3.e.up up4, by rw [ey]; exact fun v G5 H5 u5 r5 => ⟨G5, u5, r5⟩⟩) (fun u5 s5 ⟨v5, H5, I5, r5, G5, up5, rep5⟩ => ?_) fun _ _ z => z
        have hD5 : H5 s.heap.objs.size = some (.lst vs) := up5.hh _ _ hD4
        have gD5 : G5 s.heap.objs.size = none := by
          cases q : G5 s.heap.objs.size with
          | none => rfl
          | some o =>
            rcases up5.fr _ _ q with z | z
            · rw [gD4] at z; cases z
            · rw [hD4] at z; cases z
        have ups := ((up'.trans up2).trans up4).trans up5
        rcases iY (asg := asg) (gt := gt) (ge := ge) (items.drop (i + 1)) ρ1 with ⟨zs, ez⟩ | ez
        · rw [ez] at h'
          simp only [R.ok_bind] at h'
          have hz : (ys ++ y :: zs).length <= sizeLine := by
            by_cases hz : (ys ++ y :: zs).length <= sizeLine
            · exact hz
            · rw [if_neg hz] at h'; exact h'.elim
          have hvl : vs.length < sizeLine := by
            rw [rp'.length]
            rw [List.length_append, List.length_cons] at hz
            omega
          refine wpAny_mono (kB (X := bI X N' scope Hq.objs.size s H fp) _ s5 σ3 H5 (.ref s.heap.objs.size) [v5] (.ref s.heap.objs.size) [u5] (fun _ H6 => H6 = upd H5 s.heap.objs.size (.lst (vs ++ [v5]))) I5 rfl (.cons r5 .nil)
            ⟨_, vs, v5, rfl, rfl, hD5, hvl, rfl⟩) (fun _ s6 ⟨_, H6, I6, _, e6⟩ => ?_) fun _ _ z => z
          subst e6
          have sub6 : Same G5 (upd H5 s.heap.objs.size (.lst (vs ++ [v5]))) := fun a o e => by rw [aR (aU e gD5)]; exact up5.sub a o e
          refine next I6 bf gD5 ⟨sub6, ups.gg, fun a o e => ?_, ups.fr⟩ ?_ (ys7 := ys ++ [y]) ((((rp'.mono up2.gg).mono up4.gg).mono up5.gg).append (.cons rep5 .nil)) ?_
          · rw [aR (aU e hD0)]; exact ups.hh a o e
          · exact ⟨sub6, ((sr3.e.up up4).up up5).len, ((sr3.e.up up4).up up5).val, fun j m C p fs h => absurd h (no3.obj j m C p fs)⟩
          · rw [ez]
            simp only [R.ok_bind, List.append_assoc, List.singleton_append]
            exact h'
        · rw [ez] at h'; exact h'.elim
    · -- the end
      have hie : i = items.length := by omega
      subst hie
      rw [List.drop_length] at h'
      unfold fD at h'
      simp only [R.ok_bind, List.append_nil] at h'
      refine wpAny_mono (T.done (bI X N' scope Hq.objs.size s H fp) rfl rfl rfl hcalm items.length [] s' σ' H' (fun _ _ => False) I' (fpk I' rfl fr') tn' (hIt.2 (Nat.le_refl _))) (fun r s1 ⟨hr, I1⟩ => ?_) fun _ _ z => z
      subst hr
      have hz : ys.length <= sizeLine := by
        by_cases hz : ys.length <= sizeLine
        · exact hz
        · rw [if_neg hz] at h'; exact h'.elim
      rw [if_pos hz] at h'
      have eH : upd (fun a => if a = s.heap.objs.size then none else H' a) s.heap.objs.size (.lst vs) = H' := by
        funext a
        unfold upd
        by_cases e : a = s.heap.objs.size
        · subst e; rw [if_pos rfl]; exact hD'.symm
        · rw [if_neg e]
          show (if a = s.heap.objs.size then none else H' a) = _
          rw [if_neg e]
      have hn : (fun a => if a = s.heap.objs.size then none else H' a) s.heap.objs.size = none := by simp
      have upn : Up G H G' (fun a => if a = s.heap.objs.size then none else H' a) := by
        refine ⟨fun a o e => ?_, up'.gg, fun a o e => ?_, up'.fr⟩
        · have : a ≠ s.heap.objs.size := aU e gD'
          simp only [this, if_false]; exact up'.sub a o e
        · have : a ≠ s.heap.objs.size := aU e hD0
          simp only [this, if_false]; exact up'.hh a o e
      obtain ⟨m1, hm1, _⟩ := I1.loc
      refine hR s.heap.objs.size Hq.objs.size s1 m1 vs G' _ upn hn hDC.symm (fun _ _ => trivial) (h' _ vs G' _ upn hn rp') hm1 I1.os I1.bare ?_ hCle (by rw [eH]; exact I1.base) (by rw [eH]; exact I1.hok)
      have := I1.free
      show (if Hq.objs.size = s.heap.objs.size then none else H' Hq.objs.size) = none
      rw [if_neg hDC.symm]; exact this
  exact codeAny_compStart_list (loop _) (T.self X.A 0 _ _ _ st0' (loop _))

theorem qu {tn:Nat->Heap->Prop} {J:It} {items:List D} {Q:VK} {RR:Value->Addr->Result->Shared->Prop} {E:Value->Shared->Prop} (ok:CompOk X scope x N' ix) (hcalm:X.calm=true)
 (he:∀ C s₂ H₂ fp,QF (bI X N' scope C s₂ H₂ fp) elt ge) (ht:∀ C s₂ H₂ fp,PTs (bI X N' scope C s₂ H₂ fp) ifs gt)
 (I:Inv X pins σ H s) (T:Turn X.prog X.w X.K (.Name x px) J fp it tn) (st0:tn 0 s.heap) (hf:∀ b ∈ fp,vT X pins H b) (st:StE X.K G H σ ρ) (hi:ItOk X.K G J items)
 (h:(jD gt ge items (lF ix ρ)>>=fun ds=>if ds.length<=sizeLine then R.ok ds else .no).post (vL X.K G H Q) (Exx X σ G H))
 (hR:∀ (Dd C:Addr) (s':Shared) (m:Str->Option Value) (vs:List V) (G' H':Hp),Up G H G' H'->H' Dd=none->C ≠ Dd->(∀ ds,Reps X.K G' vs ds->True)->Q (.ref Dd) (upd H' Dd (.lst vs))->s'.heap.Ns C m->s'.os=s.os->AllBare s'.gens->H' C=none->s.heap.objs.size<=C->
 Un (frs X.stack) fp H (upd H' Dd (.lst vs)) s.heap s'.heap->HOk X.prog X.w (upd H' Dd (.lst vs)) s'.heap->RR (.ref Dd) C (.ok .next) s') :
  wpAny (model X.prog X.w) X.A (newList []) (fun acc s₃=>wpAny (model X.prog X.w) X.A (newFunctionEnv scope X.env.globals (oA X.env scope.names []) [] X.env.qual none .none (some X.env)) (fun cenv s₄=>
   codeAny (model X.prog X.w) X.A (.compStart (.ListComp elt [⟨.Name x px,iter,ifs,0⟩] scope pos) 0 (.ref it) acc { cenv with scope:=relabel scope X.env }) (RR acc cenv.locals) s₄) E s₃) E s:=
 ik (n:=1) (asg:=vt 0) ok.t hcalm (fun C s₂ H₂ fp=>iq (X:=bI X N' scope C s₂ H₂ fp) (pos:=px) 0 ok.nd ok.hd (.inl (lookup_relabel_local ok.loc)) (.inr (lookup_relabel_local ok.loc))) tK he ht I T st0 hf st hi h hR
end
end L2
namespace L2
open PySem PySem.Spec PyProof.Rows
inductive O where
 | nx (ρ:Ev) | rt (d:D) | re (d:D) (ρ:Ev) | bk (ρ:Ev) | ct (ρ:Ev) | ex (C:Addr) (ρ:Ev) | no
noncomputable def FlyS (X:Cx) (G₀ H₀:Hp) (ρ:Ev) (C:Addr) (e:Value) (s':Shared):Prop:=∃ σ H₁ pins s₁ a,e=.ref a/\Inv X pins σ H₁ s₁/\
 ((∃ G₁ h' vs,StR X.K G₀ H₀ G₁ H₁ σ ρ/\Heap.MadeExcOf s₁.heap h' a (.ref C) vs/\s'={ s₁ with heap:=h' })\/(∃ G' H',Ax X.prog X.w X.stack H₁ s₁ a C H' s'/\StR X.K G₀ H₀ G' H' σ ρ)\/
  ∃ G' H' L,X.env.frame=some L/\zF X pins L H₁ s₁ a C H' s'/\StR X.K G₀ H₀ G' H' σ ρ)
theorem FlyS.of {H₀ G₁ H₁:Hp} {e:Value} (sr:StR X.K G₀ H₀ G₁ H₁ σ ρ) (f:FZ X σ G₁ H₁ C e s'):FlyS X G₀ H₀ ρ C e s':=by
 obtain ⟨pins,s₁,a,e,I,way⟩:=f
 refine ⟨σ,H₁,pins,s₁,a,e,I,?_⟩
 rcases way with ⟨h',vs,m,z⟩ | ⟨G',H',fl,u⟩ | ⟨G',H',L,hL,fl,u⟩
 ·exact .inl ⟨G₁,h',vs,sr,m,z⟩
 ·exact .inr (.inl ⟨G',H',fl,sr.ups u⟩)
 ·exact .inr (.inr ⟨G',H',L,hL,fl,sr.ups u⟩)
theorem FlyS.map {A B A' B':Hp} {ρ':Ev} {e:Value} (f:FlyS X A B ρ C e s') (h:∀ σ G H,StR X.K A B G H σ ρ->StR X.K A' B' G H σ ρ'):FlyS X A' B' ρ' C e s':=by
 obtain ⟨σ,H₁,pins,s₁,a,e,I,way⟩:=f
 refine ⟨σ,H₁,pins,s₁,a,e,I,?_⟩
 rcases way with ⟨G₁,h',vs,sr,m,z⟩ | ⟨G',H',fl,sr⟩ | ⟨G',H',L,hL,fl,sr⟩
 ·exact .inl ⟨G₁,h',vs,h _ _ _ sr,m,z⟩
 ·exact .inr (.inl ⟨G',H',fl,h _ _ _ sr⟩)
 ·exact .inr (.inr ⟨G',H',L,hL,fl,h _ _ _ sr⟩)
noncomputable def mq (X:Cx) (G₀ H₀:Hp) (D:Ends) (o:O):Prop:=match o with
 | .nx ρ=>∀ σ G H,StR X.K G₀ H₀ G H σ ρ->D.nx σ H
 | .rt d=>∀ v G H,Up G₀ H₀ G H->Rep X.K G v d->D.rt v H
 | .re d ρ=>∀ v σ G H,StR X.K G₀ H₀ G H σ ρ->Rep X.K G v d->D.rt v H
 | .bk ρ=>∀ σ G H,StR X.K G₀ H₀ G H σ ρ->D.bk σ H
 | .ct ρ=>∀ σ G H,StR X.K G₀ H₀ G H σ ρ->D.ct σ H
 | .ex C ρ=>∀ e s',FlyS X G₀ H₀ ρ C e s'->X.xe e s'
 | .no=>False
noncomputable def tS (X:Cx) (G₀ H₀:Hp) (g:Ev->O):TS:=fun D σ H=>∃ G ρ,StR X.K G₀ H₀ G H σ ρ/\mq X G₀ H₀ D (g ρ)
noncomputable def QSF (X:Cx) (st:Stmt) (g:Ev->O):Prop:=∀ G₀ H₀,PS X st (tS X G₀ H₀ g)
noncomputable def xz (X:Cx) (st:List Stmt) (g:Ev->O):Prop:=∀ G₀ H₀,PSs X st (tS X G₀ H₀ g)
noncomputable def R.out {α:Type} (m:R α) (ρ:Ev) (k:α->O):O:=match m with
 | .ok a=>k a
 | .ex C=>.ex C ρ
 | .no=>.no
noncomputable def O.seq (o:O) (k:Ev->O):O:=match o with
 | .nx ρ=>k ρ
 | o=>o
section
variable {X:Cx} {st:Stmt} {cZ body a b:List Stmt} {e c tg:Expr} {g g1 g2:Ev->O} {ga:Ev->R D} {gt:Ev->R Bool} {gl:Ev->R (List D)} {pos:Pos}
theorem Exx.of {H₀:Hp} {D:Ends} (sr:StR X.K G₀ H₀ G H σ ρ) (h:mq X G₀ H₀ D (.ex C ρ)):Exx X σ G H C:=fun e s' ⟨G1,H1,u,f⟩=>h e s' (.of (sr.ups u) f)
theorem sP:xz X [] (fun ρ=>.nx ρ):=fun G₀ H₀ pins s σ H D I h=>by
 obtain ⟨G,ρ,sr,h⟩:=h
 try dsimp only at h
 exact Aj pins s σ H D I (h σ G H sr)
theorem qq (h1:QSF X st g1) (h2:xz X cZ g2):xz X (st::cZ) (fun ρ=>(g1 ρ).seq g2):=fun G₀ H₀ pins s σ H D I h=>by
 refine mW (h1 G₀ H₀) (h2 G₀ H₀) pins s σ H D I ?_
 obtain ⟨G,ρ,sr,h⟩:=h
 try dsimp only at h
 refine ⟨G,ρ,sr,?_⟩
 cases q:g1 ρ with
 | nx ρ'=>rw [q] at h; exact fun σ' G' H' sr'=>⟨G',ρ',sr',h⟩
 | rt d=>rw [q] at h; exact h
 | re d ρ'=>rw [q] at h; exact h
 | bk ρ'=>rw [q] at h; exact h
 | ct ρ'=>rw [q] at h; exact h
 | ex C ρ'=>rw [q] at h; exact h
 | no=>rw [q] at h; exact h
theorem uE (he:QF X e ga):QSF X (.Return (some e) pos) (fun ρ=>(ga ρ).out ρ .rt):=fun G₀ H₀ pins s σ H D I h=>by
 refine uf he pins s σ H D I ?_
 obtain ⟨G,ρ,sr,h⟩:=h
 try dsimp only at h
 refine ⟨G,ρ,sr.e,?_⟩
 cases q:ga ρ with
 | ok d=>rw [q] at h; exact fun v G' H' u r=>h v G' H' (sr.up.trans u) r
 | ex C=>rw [q] at h; exact Exx.of sr h
 | no=>rw [q] at h; exact h
theorem rL (he:QF X e ga) (hs:swapsWith e none pos.line X.env=pure false:=by rfl):QSF X (.Expr e pos) (fun ρ=>(ga ρ).out ρ fun _=>.nx ρ):=fun G₀ H₀ pins s σ H D I h=>by
 refine gR he hs pins s σ H D I ?_
 obtain ⟨G,ρ,sr,h⟩:=h
 try dsimp only at h
 refine ⟨G,ρ,sr.e,?_⟩
 cases q:ga ρ with
 | ok d=>rw [q] at h; exact fun v G' H' u r=>h σ G' H' (sr.ups u)
 | ex C=>rw [q] at h; exact Exx.of sr h
 | no=>rw [q] at h; exact h
theorem vE (hc:QB X c gt) (ha:xz X a g1) (hb:xz X b g2):QSF X (.If c a b pos) (fun ρ=>(gt ρ).out ρ fun k=>if k=true then g1 ρ else g2 ρ):=fun G₀ H₀ pins s σ H D I h=>by
 refine Dt hc (ha G₀ H₀) (hb G₀ H₀) pins s σ H D I ?_
 obtain ⟨G,ρ,sr,h⟩:=h
 try dsimp only at h
 refine ⟨G,ρ,sr.e,?_⟩
 cases q:gt ρ with
 | ok k=>
  rw [q] at h
  intro b' G' H' u r
  subst r
  cases b' with
  | true=>rw [if_pos rfl]; exact ⟨G',ρ,sr.ups u,by simpa [R.out] using h⟩
  | false=>rw [if_neg Bool.false_ne_true]; exact ⟨G',ρ,sr.ups u,by simpa [R.out] using h⟩
 | ex C=>rw [q] at h; exact Exx.of sr h
 | no=>rw [q] at h; exact h
theorem uq (he:QF X e ga) (hg:PGF X tg asg) (hs:swapsWithSole [tg] e pos.line X.env=pure false:=by rfl) (hw:swappedStores [tg] e X.env=pure none:=by rfl)
 (hn:∀ d ρ C,asg d ρ ≠ .ex C:=by intro _ _ _ z; cases z) (h1:(assignEach [tg] X.env).map (·.2)=[assign tg X.env]:=by rfl):QSF X (.Assign [tg] e pos) (fun ρ=>(ga ρ).out ρ fun d=>(asg d ρ).out ρ .nx):=fun G₀ H₀ pins s σ H D I h=>by
 refine tZ he hg hs hw h1 pins s σ H D I ?_
 obtain ⟨G,ρ,sr,h⟩:=h
 try dsimp only at h
 refine ⟨G,ρ,sr.e,?_⟩
 cases q:ga ρ with
 | ok d=>
  rw [q] at h
  simp only [R.out] at h
  intro v G' H' u r
  cases q2:asg d ρ with
  | ok ρ'=>rw [q2] at h; exact ⟨G₀,H₀,G',ρ,d,ρ',sr.ups u,r,q2,fun σ' sr'=>h σ' G' H' sr'⟩
  | ex C=>exact absurd q2 (hn d ρ C)
  | no=>rw [q2] at h; exact h.elim
 | ex C=>rw [q] at h; exact Exx.of sr h
 | no=>rw [q] at h; exact h
theorem uV (i:Nat) {p:Pos} (hN:X.N.Nodup) (he:QF X e ga) (hi:X.N[i]?=some x:=by rfl) (hx:Loc X.env.scope x:=by first | exact Or.inl rfl | exact Or.inr rfl)
 (hs:swapsWithSole [.Name x p] e pos.line X.env=pure false:=by rfl) (hw:swappedStores [.Name x p] e X.env=pure none:=by rfl) (hf:X.fn x=true\/X.env.scope.names.lookup x=some .local:=by first | exact .inl rfl | exact .inr rfl) :
  QSF X (.Assign [.Name x p] e pos) (fun ρ=>(ga ρ).out ρ fun d=>.nx (ρ.set i (some (.val d)))):=uq he (iq i hN hi hx hf) hs hw
theorem StR.setOwn {K:PySem.W.Frag} {H₀:Hp} (s:StR K G₀ H₀ G H σ ρ) {l:Addr} (hl:H l=none) (r:Reps K G vs ds) (i:Nat) :
  StR K G₀ H₀ G (upd H l (.lst vs)) (σ.set i (some (.ref l))) (ρ.set i (some (.own ds))):=by
 have gl:G l=none:=s.e.sub.free hl
 have sub:Same G (upd H l (.lst vs)):=fun a o e=>by rw [aR (aU e gl)]; exact s.e.sub a o e
 have get:∀ (j:Nat) x,(ρ.set i (some (.own ds)))[j]?=some (some x)->(j=i/\x=.own ds/\i < σ.length)\/(j ≠ i/\ρ[j]?=some (some x)/\(σ.set i (some (.ref l)))[j]?=σ[j]?):=fun j x h=>by
  by_cases e:i=j
  ·subst e
   have hl:i < ρ.length:=by
    have:=(List.getElem?_eq_some_iff.mp h).1
    simpa using this
   rw [List.getElem?_set_self hl] at h
   exact .inl ⟨rfl,by injection (Option.some.inj h) with q; exact q.symm,by rw [s.e.len]; exact hl⟩
  ·rw [List.getElem?_set_ne e] at h
   exact .inr ⟨fun z=>e z.symm,h,List.getElem?_set_ne e⟩
 have ob:ObSt K H₀ G (upd H l (.lst vs)) (σ.set i (some (.ref l))) (ρ.set i (some (.own ds))):=by
  obtain ⟨ow,o1,o2⟩:=s.ob
  have nl:∀ {a:Addr} {o:HO},H a=some o->a ≠ l:=fun e z=>by rw [z,hl] at e; cases e
  refine ⟨fun a=>if a=l then some (i,0) else ow a,fun j es l' h1 h2=>?_,fun j m C p fs h1=>?_⟩
  ·rcases get j _ h1 with ⟨rfl,e,hj⟩ | ⟨_,e,e'⟩
   ·rw [List.getElem?_set_self hj] at h2; cases h2; exact if_pos rfl
   ·rw [e'] at h2
    obtain ⟨l2,vs2,q1,q2,_⟩:=s.own j es e
    rw [h2] at q1; cases q1
    exact (if_neg (nl q2)).trans (o1 j es l' e h2)
  ·rcases get j _ h1 with ⟨_,e,_⟩ | ⟨_,e,e'⟩
   ·cases e
   ·rw [e']
    refine ⟨(o2 j m C p fs e).1,(o2 j m C p fs e).2.keep ⟨fun a t o _ q=>?_,.refl _,fun a t o _ _ n=>n,fun a t o q1 q2=>?_,fun a o _ _ n=>n⟩⟩
    ·rw [aR (nl q)]; exact q
    ·exact (if_neg (nl q2)).trans q1
 refine ⟨⟨sub,by simp [s.e.len],fun j d' h=>?_,ob.rd⟩,s.sub0,⟨sub,s.up.gg,fun a o e=>?_,s.up.fr⟩,fun j es h=>?_,fun j k es fs l' h1 h2 h3 h4=>?_,ob⟩
 ·rcases get j _ h with ⟨_,e,_⟩ | ⟨_,e,e'⟩
  ·cases e
  ·rw [e']; exact s.e.val j d' e
 ·rw [aR (aU (s.up.hh a o e) hl)]; exact s.up.hh a o e
 ·rcases get j _ h with ⟨rfl,e,hj⟩ | ⟨_,e,e'⟩
  ·cases e
   exact ⟨l,vs,List.getElem?_set_self hj,bf,gl,s.up.hh.free hl,r⟩
  ·obtain ⟨l',vs',h1,h2,h3,h4,h5⟩:=s.own j es e
   exact ⟨l',vs',by rw [e']; exact h1,by rw [aR (aU h2 hl)]; exact h2,h3,h4,h5⟩
 ·rcases get j _ h1 with ⟨rfl,e,hj⟩ | ⟨nj,e,e'⟩
  ·rcases get k _ h2 with ⟨rfl,f,_⟩ | ⟨nk,f,f'⟩
   ·rfl
   ·obtain ⟨l2,vs2,q1,q2,_⟩:=s.own k fs f
    rw [List.getElem?_set_self hj] at h3
    rw [f',q1] at h4
    cases h3
    cases h4
    rw [hl] at q2; cases q2
  ·rcases get k _ h2 with ⟨rfl,f,hk⟩ | ⟨nk,f,f'⟩
   ·obtain ⟨l2,vs2,q1,q2,_⟩:=s.own j es e
    rw [List.getElem?_set_self hk] at h4
    rw [e',q1] at h3
    cases h3
    cases h4
    rw [hl] at q2; cases q2
   ·exact s.inj j k es fs l' e f (e' ▸ h3) (f' ▸ h4)
theorem va (i:Nat) {p:Pos} (hN:X.N.Nodup) (he:QFL X e gl) (hi:X.N[i]?=some x:=by rfl) (hx:Loc X.env.scope x:=by first | exact Or.inl rfl | exact Or.inr rfl)
 (hs:swapsWithSole [.Name x p] e pos.line X.env=pure false:=by rfl) (hw:swappedStores [.Name x p] e X.env=pure none:=by rfl) (hf:X.fn x=true\/X.env.scope.names.lookup x=some .local:=by first | exact .inl rfl | exact .inr rfl) :
  QSF X (.Assign [.Name x p] e pos) (fun ρ=>(gl ρ).out ρ fun ds=>.nx (ρ.set i (some (.own ds)))):=fun G₀ H₀ pins s σ H D I h=>by
 refine tZ he (nV (i:=i) hN hi hx hf) hs hw rfl pins s σ H D I ?_
 obtain ⟨G,ρ,sr,h⟩:=h
 try dsimp only at h
 refine ⟨G,ρ,sr.e,?_⟩
 cases q:gl ρ with
 | ok ds=>rw [q] at h; exact fun l vs G' H' u hl r=>h _ G' _ ((sr.ups u).setOwn hl r i)
 | ex C=>rw [q] at h; exact Exx.of sr h
 | no=>rw [q] at h; exact h
theorem StR.mut {K:PySem.W.Frag} {H₀:Hp} (s:StR K G₀ H₀ G H σ ρ) {l:Addr} {es:List D} (e:ρ[i]?=some (some (.own ds))) (hs:σ[i]?=some (some (.ref l))) (r:Reps K G vs es) :
  StR K G₀ H₀ G (upd H l (.lst vs)) σ (ρ.set i (some (.own es))):=by
 obtain ⟨l0,vs0,h1,h2,h3,h4,h5⟩:=s.own i ds e
 rw [hs] at h1
 cases h1
 have sub:Same G (upd H l (.lst vs)):=fun a o e=>by rw [aR (aU e h3)]; exact s.e.sub a o e
 have hl:i < ρ.length:=(List.getElem?_eq_some_iff.mp e).1
 have get:∀ (j:Nat) x,(ρ.set i (some (.own es)))[j]?=some (some x)->(j=i/\x=.own es)\/(j ≠ i/\ρ[j]?=some (some x)):=fun j x h=>by
  by_cases e:i=j
  ·subst e
   rw [List.getElem?_set_self hl] at h
   exact .inl ⟨rfl,by injection (Option.some.inj h) with q; exact q.symm⟩
  ·rw [List.getElem?_set_ne e] at h
   exact .inr ⟨fun z=>e z.symm,h⟩
 have ob:ObSt K H₀ G (upd H l (.lst vs)) σ (ρ.set i (some (.own es))):=by
  obtain ⟨ow,o1,o2⟩:=s.ob
  have ol:=o1 i ds l e hs
  refine ⟨ow,fun j fs l' q1 q2=>?_,fun j m C p fs q1=>?_⟩
  ·rcases get j _ q1 with ⟨rfl,_⟩ | ⟨nj,f1⟩
   ·exact o1 j ds l' e q2
   ·exact o1 j fs l' f1 q2
  ·rcases get j _ q1 with ⟨_,e'⟩ | ⟨nj,f1⟩
   ·cases e'
   ·have ne:∀ a t,ow a=some (j,t)->a ≠ l:=fun a t q z=>by rw [z,ol] at q; cases q; exact nj rfl
    refine ⟨(o2 j m C p fs f1).1,(o2 j m C p fs f1).2.keep ⟨fun a t o q1 q=>?_,.refl _,fun a t o _ _ n=>n,fun a t o q1 _=>q1,fun a o _ _ n=>n⟩⟩
    ·rw [aR (ne a t q1)]; exact q
 refine ⟨⟨sub,by simp [s.e.len],fun j d' h=>?_,ob.rd⟩,s.sub0,⟨sub,s.up.gg,fun a o e=>?_,s.up.fr⟩,fun j fs h=>?_,fun j k fs gs l' q1 q2 q3 q4=>?_,ob⟩
 ·rcases get j _ h with ⟨_,e⟩ | ⟨_,e⟩
  ·cases e
  ·exact s.e.val j d' e
 ·rw [aR (aU e h4)]; exact s.up.hh a o e
 ·rcases get j _ h with ⟨rfl,e'⟩ | ⟨nj,e'⟩
  ·cases e'
   exact ⟨l,vs,hs,bf,h3,h4,r⟩
  ·obtain ⟨l',vs',p1,p2,p3,p4,p5⟩:=s.own j fs e'
   have:l' ≠ l:=fun z=>by subst z; exact nj (s.inj j i fs ds l' e' e p1 hs)
   exact ⟨l',vs',p1,by rw [aR this]; exact p2,p3,p4,p5⟩
 ·rcases get j _ q1 with ⟨rfl,_⟩ | ⟨nj,f1⟩
  ·rcases get k _ q2 with ⟨rfl,_⟩ | ⟨nk,f2⟩
   ·rfl
   ·exact s.inj j k ds gs l' e f2 q3 q4
  ·rcases get k _ q2 with ⟨rfl,_⟩ | ⟨nk,f2⟩
   ·exact s.inj j k fs ds l' f1 e q3 q4
   ·exact s.inj j k fs gs l' f1 f2 q3 q4
noncomputable def frz (i:Nat) (ρ:Ev):Ev:=match ρ[i]? with
 | some (some (.own ds))=>ρ.set i (some (.val (.lst false ds)))
 | _=>ρ
theorem StR.frzTo {K:PySem.W.Frag} {H₀:Hp} (s:StR K G₀ H₀ G H σ ρ) (i:Nat):∃ G',StR K G₀ H₀ G' H σ (L2.frz i ρ)/\(G'=G\/∃ l vs,G l=none/\G'=upd G l (.lst vs)):=by
 unfold L2.frz
 split
 ·rename_i ds e
  obtain ⟨l,vs,h1,h2,h3,h4,h5⟩:=s.own i ds e
  have hl:i < ρ.length:=(List.getElem?_eq_some_iff.mp e).1
  have g0:G₀ l=none:=s.sub0.free h4
  have into:Same G (upd G l (.lst vs)):=.into h3
  have sub:Same (upd G l (.lst vs)) H:=fun a o q=>by
   by_cases ea:a=l
   ·subst ea; rw [bf] at q; rw [<- q]; exact h2
   ·rw [aR ea] at q; exact s.e.sub a o q
  have get:∀ (j:Nat) x,(ρ.set i (some (.val (.lst false ds))))[j]?=some (some x)->(j=i/\x=.val (.lst false ds))\/(j ≠ i/\ρ[j]?=some (some x)):=fun j x h=>by
   by_cases e:i=j
   ·subst e
    rw [List.getElem?_set_self hl] at h
    exact .inl ⟨rfl,by injection (Option.some.inj h) with q; exact q.symm⟩
   ·rw [List.getElem?_set_ne e] at h
    exact .inr ⟨fun z=>e z.symm,h⟩
  have ob:ObSt K H₀ (upd G l (.lst vs)) H σ (ρ.set i (some (.val (.lst false ds)))):=by
   obtain ⟨ow,o1,o2⟩:=s.ob
   have ol:=o1 i ds l e h1
   refine ⟨ow,fun j fs l' q1 q2=>?_,fun j m C p fs q1=>?_⟩
   ·rcases get j _ q1 with ⟨_,e'⟩ | ⟨nj,f1⟩
    ·cases e'
    ·exact o1 j fs l' f1 q2
   ·rcases get j _ q1 with ⟨_,e'⟩ | ⟨nj,f1⟩
    ·cases e'
    ·have ne:∀ a t,ow a=some (j,t)->a ≠ l:=fun a t q z=>by rw [z,ol] at q; cases q; exact nj rfl
     refine ⟨(o2 j m C p fs f1).1,(o2 j m C p fs f1).2.keep ⟨fun a t o _ q=>q,into,fun a t o q1 _ n=>?_,fun a t o q1 _=>q1,fun a o _ _ n=>n⟩⟩
     ·rw [aR (ne a t q1)]; exact n
  refine ⟨upd G l (.lst vs),⟨⟨sub,by simp [s.e.len],fun j d' h=>?_,ob.rd⟩,s.sub0,⟨sub,s.up.gg.trans into,s.up.hh,fun a o q=>?_⟩,fun j fs h=>?_,fun j k fs gs l' q1 q2 q3 q4=>?_,ob⟩,.inr ⟨l,vs,h3,rfl⟩⟩
  ·rcases get j _ h with ⟨rfl,e'⟩ | ⟨_,e'⟩
   ·cases e'
    exact ⟨.ref l,h1,.lst bf (h5.mono into)⟩
   ·obtain ⟨v,p1,p2⟩:=s.e.val j d' e'
    exact ⟨v,p1,p2.mono into⟩
  ·by_cases ea:a=l
   ·subst ea; exact .inr h4
   ·rw [aR ea] at q; exact s.up.fr a o q
  ·rcases get j _ h with ⟨_,e'⟩ | ⟨nj,e'⟩
   ·cases e'
   ·obtain ⟨l',vs',p1,p2,p3,p4,p5⟩:=s.own j fs e'
    have:l' ≠ l:=fun z=>by subst z; exact nj (s.inj j i fs ds l' e' e p1 h1)
    exact ⟨l',vs',p1,p2,by rw [aR this]; exact p3,p4,p5.mono into⟩
  ·rcases get j _ q1 with ⟨_,e'⟩ | ⟨nj,f1⟩
   ·cases e'
   ·rcases get k _ q2 with ⟨_,e'⟩ | ⟨nk,f2⟩
    ·cases e'
    ·exact s.inj j k fs gs l' f1 f2 q3 q4
 ·exact ⟨G,s,.inl rfl⟩
theorem StR.frz {K:PySem.W.Frag} {H₀:Hp} (s:StR K G₀ H₀ G H σ ρ) (i:Nat):∃ G',StR K G₀ H₀ G' H σ (L2.frz i ρ):=
 let ⟨G',h,_⟩:=s.frzTo i; ⟨G',h⟩
theorem sv (i:Nat) (h:xz X sts g):xz X sts (fun ρ=>g (frz i ρ)):=fun G₀ H₀ pins s σ H D I q=>by
 obtain ⟨G,ρ,sr,q⟩:=q
 obtain ⟨G',sr'⟩:=sr.frz i
 exact h G₀ H₀ pins s σ H D I ⟨G',_,sr',q⟩
noncomputable def ownAt (ρ:Ev) (i:Nat):R (List D):=match ρ[i]? with
 | some (some (.own ds))=>.ok ds
 | _=>.no
theorem ownAt.ok {k:List D->O} {D:Ends} {H₀:Hp} (h:mq X G₀ H₀ D ((ownAt ρ i).out ρ k)):∃ ds,ρ[i]?=some (some (.own ds))/\mq X G₀ H₀ D (k ds):=by
 unfold ownAt at h
 split at h
 ·rename_i ds e; exact ⟨ds,e,h⟩
 ·exact h.elim
theorem mZ (i:Nat) {p ap cp:Pos} (he:QF X e ga) (hi:X.N[i]?=some x:=by rfl) (hv:Vis X.env.scope x:=by first | exact Or.inl rfl | exact Or.inr (Or.inl rfl))
 (hd:(x==("__debug__":Str))=false:=by decide) (hcd:(x==("__classdict__":Str))=false:=by decide) (hs1:starEach [e] X.env=(false,eval e X.env)::starEach [] X.env:=by rfl)
 (hbase:attributeBase (.Name x p) "append" X.env (eval (.Name x p) X.env)=eval (.Name x p) X.env:=by rfl)
 (hfew:((backTo cp (starEach [e] X.env)).all (fun x=>!x.1) && (backToKw cp (keywordEach [] X.env)).all (fun x=>x.1.isSome)
 && decide ([e].length+([]:List Keyword).length+(if ([]:List Keyword).isEmpty then 0 else 1) < 30))=true:=by rfl)
 (hline:(ap.endLine==cp.line)=true:=by rfl)
 (hs:swapsWith (.Call (.Attribute (.Name x p) "append" ap) [e] [] cp) none pos.line X.env=pure false:=by rfl) :
  QSF X (.Expr (.Call (.Attribute (.Name x p) "append" ap) [e] [] cp) pos) (fun ρ=>(ownAt ρ i).out ρ fun ds=>(ga ρ).out ρ fun d=>if ds.length < sizeLine then .nx (ρ.set i (some (.own (ds++[d])))) else .no):=fun G₀ H₀ pins s σ H D I h=>by
 refine gR (xL PySem.F.plainAttrs_list PySem.F.slot_list_append PySem.F.type_list_append kB (eu hi hv hd hcd) (eX he ll hs1) hbase hfew hline hs1 rfl) hs pins s σ H D I ?_
 obtain ⟨G,ρ,sr,h⟩:=h
 try dsimp only at h
 obtain ⟨ds,e1,h⟩:=ownAt.ok h
 obtain ⟨l,vs,h1,h2,h3,h4,h5⟩:=sr.own i ds e1
 refine ⟨.ref l,h1,.inl ⟨rfl,vs,.of h2⟩,G,ρ,sr.e,?_⟩
 cases q:ga ρ with
 | ok d=>
  rw [q] at h
  simp only [R.out] at h
  intro v G' H' u r
  by_cases hz:ds.length < sizeLine
  ·rw [if_pos hz] at h
   refine ⟨l,vs,v,rfl,rfl,u.hh _ _ h2,by rw [h5.length]; exact hz,h _ G' _ ?_⟩
   exact (sr.ups u).mut e1 h1 ((h5.mono u.gg).append (.cons r .nil))
  ·rw [if_neg hz] at h; exact h.elim
 | ex C=>rw [q] at h; exact Exx.of sr h
 | no=>rw [q] at h; exact h
noncomputable def asL:D->R (List D)
 | .lst false xs=>.ok xs
 | _=>.no
theorem nK (i:Nat) {p ap cp:Pos} (he:QF X e ga) (hi:X.N[i]?=some x:=by rfl) (hv:Vis X.env.scope x:=by first | exact Or.inl rfl | exact Or.inr (Or.inl rfl))
 (hd:(x==("__debug__":Str))=false:=by decide) (hcd:(x==("__classdict__":Str))=false:=by decide) (hs1:starEach [e] X.env=(false,eval e X.env)::starEach [] X.env:=by rfl)
 (hbase:attributeBase (.Name x p) "extend" X.env (eval (.Name x p) X.env)=eval (.Name x p) X.env:=by rfl)
 (hfew:((backTo cp (starEach [e] X.env)).all (fun x=>!x.1) && (backToKw cp (keywordEach [] X.env)).all (fun x=>x.1.isSome)
 && decide ([e].length+([]:List Keyword).length+(if ([]:List Keyword).isEmpty then 0 else 1) < 30))=true:=by rfl)
 (hline:(ap.endLine==cp.line)=true:=by rfl)
 (hs:swapsWith (.Call (.Attribute (.Name x p) "extend" ap) [e] [] cp) none pos.line X.env=pure false:=by rfl) :
  QSF X (.Expr (.Call (.Attribute (.Name x p) "extend" ap) [e] [] cp) pos) (fun ρ=>(ownAt ρ i).out ρ fun ds=>(ga ρ).out ρ fun d=>(asL d).out ρ fun es=>if ds.length+es.length<=sizeLine then .nx (ρ.set i (some (.own (ds++es)))) else .no):=fun G₀ H₀ pins s σ H D I h=>by
 refine gR (xL PySem.F.plainAttrs_list PySem.F.slot_list_extend PySem.F.type_list_extend vK (eu hi hv hd hcd) (eX he ll hs1) hbase hfew hline hs1 rfl) hs pins s σ H D I ?_
 obtain ⟨G,ρ,sr,h⟩:=h
 try dsimp only at h
 obtain ⟨ds,e1,h⟩:=ownAt.ok h
 obtain ⟨l,vs,h1,h2,h3,h4,h5⟩:=sr.own i ds e1
 refine ⟨.ref l,h1,.inl ⟨rfl,vs,.of h2⟩,G,ρ,sr.e,?_⟩
 cases q:ga ρ with
 | ok d=>
  rw [q] at h
  simp only [R.out] at h
  intro v G' H' u r
  cases r with
  | lst hb t=>
   rename_i b ws es
   have h:mq X G₀ H₀ D (if ds.length+es.length<=sizeLine then .nx (ρ.set i (some (.own (ds++es)))) else .no):=h
   by_cases hz:ds.length+es.length<=sizeLine
   ·rw [if_pos hz] at h
    refine ⟨l,b,vs,ws,rfl,rfl,u.hh _ _ h2,u.sub _ _ hb,by rw [h5.length,t.length]; exact hz,h _ G' _ ?_⟩
    exact (sr.ups u).mut e1 h1 ((h5.mono u.gg).append t)
   ·rw [if_neg hz] at h; exact h.elim
  | _=>exact h.elim
 | ex C=>rw [q] at h; exact Exx.of sr h
 | no=>rw [q] at h; exact h
noncomputable def fv (asg:D->Ev->R Ev) (g:Ev->O):List D->Ev->O
 | [],ρ=>.nx ρ
 | d::ds,ρ=>(asg d ρ).out ρ fun ρ1=>match g ρ1 with
  | .nx ρ2=>fv asg g ds ρ2
  | .ct ρ2=>fv asg g ds ρ2
  | .bk ρ2=>.nx ρ2
  | .rt d=>.rt d
  | .re d ρ2=>.re d ρ2
  | .ex C ρ2=>.ex C ρ2
  | .no=>.no
noncomputable def mix (H₀ G₁:Hp):Hp:=fun a=>match G₁ a with
 | some o=>some o
 | none=>H₀ a
theorem nO {H₀ G₁:Hp} {a:Addr} (h:mix H₀ G₁ a=none):G₁ a=none/\H₀ a=none:=by
 unfold mix at h
 cases q:G₁ a with
 | none=>rw [q] at h; exact ⟨rfl,h⟩
 | some o=>rw [q] at h; cases h
section
variable {K:PySem.W.Frag} {G₀ H₀ G₁ H₁ G H:Hp} {σ:St} {ρ:Ev}
theorem StR.to (s:StR K G₀ H₀ G₁ H₁ σ ρ):StR K G₁ (mix H₀ G₁) G₁ H₁ σ ρ:=by
 refine ⟨s.e,fun a o e=>?_,⟨s.e.sub,.refl _,fun a o e=>?_,fun _ _ e=>.inl e⟩,fun i ds e=>?_,s.inj,?_⟩
 ·unfold mix; rw [e]
 ·unfold mix at e
  cases q:G₁ a with
  | none=>rw [q] at e; exact s.up.hh a o e
  | some o'=>rw [q] at e; cases e; exact s.e.sub a o q
 ·obtain ⟨l,vs,h1,h2,h3,h4,h5⟩:=s.own i ds e
  exact ⟨l,vs,h1,h2,h3,by unfold mix; rw [h3]; exact h4,h5⟩
 ·obtain ⟨ow,o1,o2⟩:=s.ob
  exact ⟨ow,o1,fun i m C p fs e=>⟨(o2 i m C p fs e).1,(o2 i m C p fs e).2.keep ⟨fun a t o _ q=>q,.refl _,fun a t o _ _ n=>n,fun a t o q1 _=>q1,fun a o _ g n=>by unfold mix; rw [g]; exact n⟩⟩⟩
theorem Up.back (u:Up G₀ H₀ G₁ H₁) (v:Up G₁ (mix H₀ G₁) G H):Up G₀ H₀ G H:=by
 refine ⟨v.sub,u.gg.trans v.gg,fun a o e=>?_,fun a o e=>?_⟩
 ·cases q:G₁ a with
  | none=>exact v.hh a o (by unfold mix; rw [q]; exact e)
  | some o'=>
   have h1:=u.sub a o' q
   have h2:=u.hh a o e
   rw [h1] at h2
   cases h2
   exact v.hh a o (by unfold mix; rw [q])
 ·rcases v.fr a o e with h | h
  ·exact u.fr a o h
  ·exact .inr (nO h).2
theorem StR.back (s0:Same G₀ H₀) (u:Up G₀ H₀ G₁ H₁) (s:StR K G₁ (mix H₀ G₁) G H σ ρ):StR K G₀ H₀ G H σ ρ:=
 ⟨s.e,s0,u.back s.up,fun i ds e=>let ⟨l,vs,h1,h2,h3,h4,h5⟩:=s.own i ds e; ⟨l,vs,h1,h2,h3,(nO h4).2,h5⟩,s.inj,by
 obtain ⟨ow,o1,o2⟩:=s.ob
 exact ⟨ow,o1,fun i m C p fs e=>⟨(o2 i m C p fs e).1,(o2 i m C p fs e).2.keep ⟨fun a t o _ q=>q,.refl _,fun a t o _ _ n=>n,fun a t o q1 _=>q1,fun a o _ _ n=>(nO n).2⟩⟩⟩⟩
end
theorem uX (hp:PassesOwn (model X.prog X.w) X.A X.env X.xe) (hcalm:X.calm=true) (hi:QIF X tg iter gi) (hg:PGF X tg asg) (hb:xz X body g)
 (hs:∀ x,foldedSetIterable iter X.env x=pure x:=by intro _; rfl) (hn:∀ d ρ C,asg d ρ ≠ .ex C:=by intro _ _ _ z; cases z):QSF X (.For tg iter body [] pos) (fun ρ=>(gi ρ).out ρ fun items=>fv asg g items ρ):=fun G₀ H₀ pins s σ H D I h=>by
 obtain ⟨G,ρ,sr,h⟩:=h
 try dsimp only at h
 cases q:gi ρ with
 | ok items=>
  rw [q] at h
  simp only [R.out] at h
  have key:∀ (J:It) (G1 H1:Hp),Up G H G1 H1->ItOk X.K G1 J items->∃ W:Nat->Nat->St->Hp->Prop,(∃ m,W 0 m σ H1)/\∀ i m σ H,W i m σ H->
    (J.stop i H/\D.nx σ H)\/(J.go i H/\∃ N:St->Hp->Prop,(∀ σ' H',N σ' H'->∃ m',m' < m/\W (i+1) m' σ' H')/\∀ x H',J.yld i H x H'->(fun v σ H Q=>∃ G₀ H₀ G ρ d ρ',StR X.K G₀ H₀ G H σ ρ/\Rep X.K G v d/\asg d ρ=.ok ρ'/\∀ σ',StR X.K G₀ H₀ G H σ' ρ'->Q σ' H) x σ H' fun σ2 H2=>(fun D σ H=>∃ G₀ H₀,tS X G₀ H₀ g D σ H) { D with nx:=N,ct:=N,bk:=D.nx } σ2 H2):=by
   intro J G1 H1 u1 iok
   have sr1:=sr.ups u1
   refine ⟨fun i m σ' H'=>m=items.length - i/\i<=items.length/\∃ G' ρ',StR X.K G1 (mix H₀ G1) G' H' σ' ρ'/\mq X G₀ H₀ D (fv asg g (items.drop i) ρ'),⟨items.length,by simp,Nat.zero_le _,G1,ρ,sr1.to,by simpa using h⟩,?_⟩
   rintro i m σ' H' ⟨rfl,hil,G',ρ',sr',h'⟩
   have hIt:=iok i G' H' sr'.up.gg sr'.e.sub
   by_cases hlt:i < items.length
   ·have hd:items.drop i=items[i]::items.drop (i+1):=List.drop_eq_getElem_cons hlt
    rw [hd] at h'
    obtain ⟨go,yl⟩:=hIt.1 items[i] (by simp [hlt])
    refine .inr ⟨go,fun σ2 H2=>i+1<=items.length/\∃ G2 ρ2,StR X.K G1 (mix H₀ G1) G2 H2 σ2 ρ2/\mq X G₀ H₀ D (fv asg g (items.drop (i+1)) ρ2),fun σ2 H2 q2=>⟨items.length - (i+1),by omega,rfl,q2⟩,fun x H2 y=>?_⟩
    obtain ⟨G2,up2,rep2⟩:=yl x H2 y
    unfold fv at h'
    cases q2:asg items[i] ρ' with
    | ok ρ1=>
     rw [q2] at h'
     simp only [R.out] at h'
     refine ⟨G1,mix H₀ G1,G2,ρ',items[i],ρ1,sr'.ups up2,rep2,q2,fun σ3 sr3=>⟨G1,mix H₀ G1,G2,ρ1,sr3,?_⟩⟩
     cases q3:g ρ1 with
     | nx ρ2=>rw [q3] at h'; exact fun σ4 G4 H4 sr4=>⟨hlt,G4,ρ2,sr4,h'⟩
     | ct ρ2=>rw [q3] at h'; exact fun σ4 G4 H4 sr4=>⟨hlt,G4,ρ2,sr4,h'⟩
     | bk ρ2=>rw [q3] at h'; exact fun σ4 G4 H4 sr4=>h' σ4 G4 H4 (sr4.back sr.sub0 sr1.up)
     | rt d=>rw [q3] at h'; exact fun v G4 H4 u4 r4=>h' v G4 H4 (sr1.up.back u4) r4
     | re d ρ2=>rw [q3] at h'; exact fun v σ4 G4 H4 sr4 r4=>h' v σ4 G4 H4 (sr4.back sr.sub0 sr1.up) r4
     | ex C ρ2=>rw [q3] at h'; exact fun e s' f4=>h' e s' (f4.map fun σ4 G4 H4 sr4=>sr4.back sr.sub0 sr1.up)
     | no=>rw [q3] at h'; exact h'
    | ex C=>exact absurd q2 (hn _ _ C)
    | no=>rw [q2] at h'; exact h'.elim
   ·have hie:i=items.length:=by omega
    subst hie
    rw [List.drop_length] at h'
    exact .inl ⟨hIt.2 (Nat.le_refl _),h' σ' G' H' (sr'.back sr.sub0 sr1.up)⟩
  have hb':PSs X body (fun D σ H=>∃ G₀ H₀,tS X G₀ H₀ g D σ H):=fun pins s σ H D I ⟨G₀,H₀,q⟩=>hb G₀ H₀ pins s σ H D I q
  refine ze hp hcalm hi hg hb' hs pins s σ H D I ⟨G,ρ,sr.e,?_⟩
  rw [q]
  exact fun J G1 H1 u1 iok=>key J G1 H1 u1 iok
 | ex C=>
  rw [q] at h
  have hb':PSs X body (fun D σ H=>∃ G₀ H₀,tS X G₀ H₀ g D σ H):=fun pins s σ H D I ⟨G₀,H₀,q⟩=>hb G₀ H₀ pins s σ H D I q
  refine ze hp hcalm hi hg hb' hs pins s σ H D I ⟨G,ρ,sr.e,?_⟩
  rw [q]
  exact Exx.of sr h
 | no=>rw [q] at h; exact h.elim
end
end L2
namespace L2
open PySem PySem.Spec PyProof.Rows
noncomputable def spF (K:PySem.W.Frag) (f:List D->R D):Sp:=fun vs H Q E=>∃ G ds,Same G H/\Reps K G vs ds/\(f ds).post (Fin G H (Rep K) Q) (fun C=>∀ G' H',Up G H G' H'->E (.ref C) none H')
noncomputable abbrev FnF (P:Program) (w:World) (K:PySem.W.Frag) (mg:Str->Option Value) (base:Heap) (k:Nat) (f:Addr) (fd:FuncData) (ps:List Str) (g:List D->R D):Prop:=FnOk P w K mg base (CXo P w) k f fd ps (fun vs H Q E=>vs.length=ps.length/\spF K g vs H Q E)
section
variable {X:Cx} {k:Nat} {f:Addr} {fd:FuncData} {ps:List Str} {x:Str} {p pos:Pos} {e:Expr} {es:List Expr} {gl:Ev->R (List D)} {g:List D->R D}
theorem wS (F:FnF X.prog X.w X.K X.mg X.base k f fd ps g) (hr:Room k X.A) (hg:Gl X x) (hm:X.mg x=some (.ref f)) (hk:PySem.W.keepIn X.K (.ref f)=true) (hb:Binds X.K fd ps []) (ha:QFA X (e::es) gl)
 (hdb:(x==("__debug__":Str))=false:=by decide) (he:starEach (e::es) X.env=(false,eval e X.env)::starEach es X.env:=by rfl) (hpl:(backTo pos (starEach es X.env)).any (·.1)=false:=by rfl) :
  QF X (.Call (.Name x p) (e::es) [] pos) (fun ρ=>gl ρ>>=fun ds=>if ds.length=ps.length then g ds else .no):=by
 intro pins s σ H Q I h
 obtain ⟨G,ρ,st,h⟩:=h
 have t:tAF X gl σ H (fun vs H1=>∃ G1 ds,Up G H G1 H1/\Same G1 H1/\Reps X.K G1 vs ds/\ds.length=ps.length/\(g ds).post (Fin G1 H1 (Rep X.K) Q) (Exx X σ G1 H1)):=by
  refine tG.intro st h fun ds vs G1 H1 u1 st1 r1 h1=>?_
  by_cases hl:ds.length=ps.length
  ·rw [if_pos hl] at h1; exact ⟨G1,ds,u1,st1.sub,r1,hl,h1⟩
  ·rw [if_neg hl] at h1; exact h1.elim
 refine wpAny_Call_Name_kw (fO I hg hm ?_ hdb)
 refine PySem.W.callWith_K (h₀:=X.base) I.ok.mod.kin hk (thn (ha pos pins s σ H _ I t) fun us s1 q=>⟨?_,?_⟩) he hpl
 ·obtain ⟨vs,H1,I1,r,_⟩:=q; exact I1.kIn
 obtain ⟨vs,H1,I1,r,G1,ds,u1,sub1,rp,hl,h1⟩:=q
 have hvl:vs.length=ps.length:=by rw [rp.length]; exact hl
 have hul:(us++[]).length=ps.length:=by rw [List.append_nil,<- r.length]; exact hvl
 have hbb:=hb s1 us I1.kIn hul
 rw [List.append_nil] at hbb
 refine wpAny_call (codeAny_mono (F.run X.A X.stack s1 H1 ⟨us,[]⟩ us vs Q (fun c _ H'=>∃ C G',c=.ref C/\Up G1 H1 G' H'/\Exx X σ G1 H1 C) hr I1.env0 hbb r ⟨hvl,G1,ds,sub1,rp,h1.mono (fun _ q=>q) fun C q G' H' u=>⟨C,G',rfl,u,q⟩⟩) fun r' s' hq=>?_)
 cases r' with
 | error e'=>
  obtain ⟨a,C,H',rfl,fl,C',G',ec,u,q⟩:=hq
  cases ec
  exact q _ _ ⟨G1,H1,.refl sub1,pins,s1,a,rfl,I1,.inr (.inl ⟨G',H',fl,u⟩)⟩
 | ok fl=>
  cases fl with
  | ret u=>exact I1.after hq
  | _=>exact False.elim hq
end
theorem ObjOk.there {w:World} (x:ObjOk P w H h a o):∃ ob,h.get? a=some ob:=by
 cases o with
 | lst xs=>obtain ⟨_,_,_,_,e⟩:=x; exact ⟨_,e⟩
 | tup xs=>obtain ⟨_,_,_,o,e,_⟩:=x; exact ⟨_,e⟩
 | dK kvs=>obtain ⟨_,_,_,_,o,_,_,e,_⟩:=x; exact ⟨_,e⟩
 | dT kvs=>obtain ⟨_,_,_,_,o,_,_,e,_⟩:=x; exact ⟨_,e⟩
 | set S n=>obtain ⟨o,_,_,_,e,_⟩:=x; exact ⟨_,e⟩
 | ins C dx fs=>obtain ⟨_,_,_,e,_⟩:=x; exact ⟨_,e⟩
 | own y=>obtain ⟨_,e⟩:=x; exact ⟨_,e⟩
 | xd fs=>obtain ⟨_,⟨_,_,_,e,_⟩,_⟩:=x; exact ⟨_,e⟩
 | rng lo hi=>obtain ⟨_,_,_,e⟩:=x; exact ⟨_,e⟩
 | frz ob u=>obtain ⟨e,_⟩:=x; exact ⟨_,e⟩
 | tbl ps=>obtain ⟨_,e,_⟩:=x; exact ⟨_,e⟩
 | met f y=>exact ⟨_,show h.get? a=some _ from x⟩
 | ext φ=>obtain ⟨_,⟨_,e⟩,_⟩:=x; exact ⟨_,e⟩
theorem tV {env:Env} {outer:List Env} {L:Addr} (h:env.frame=some L):frs (env::outer)=L::frs outer:=by
 unfold frs
 rw [List.filterMap_cons,h]
section
variable {P:Program} {w:World} {H H':Hp} {h h1 h2 hm:Heap} {l l':List Addr} {B:Heap}
theorem HOk.flight (x:HOk P w H' h1) (hb:B.StaysIn h2) (hk:∀ b o,b ∉ l->((∃ o0,hm.get? b=some o0)\/∃ u,H' b=some u)->h1.get? b=some o->B.get? b=some o) (hl:∀ b ∈ l,H' b=none):HOk P w H' h2:=fun a o e=>by
 refine (x a o e).stay (fun b u hbb q=>hb b u (hk b u (fun z=>?_) (.inr ?_) q)) (fun _ z=>z) (fun _ _ z=>z)
 ·rcases hbb with rfl | hbb
  ·rw [hl _ z] at e; cases e
  ·rw [hl _ z] at hbb; cases hbb
 ·rcases hbb with rfl | hbb
  ·exact ⟨_,e⟩
  ·exact ⟨_,hbb⟩
theorem Un.flight {ex:List Addr} (u:Un l' ex H H' h h1) (hb:B.StaysIn h2) (sm:h1.UpToSlots h2) (hk:∀ b o,b ∉ l->((∃ o0,hm.get? b=some o0)\/∃ u,H' b=some u)->h1.get? b=some o->B.get? b=some o) (lt:∀ b o,h.get? b=some o->∃ o0,hm.get? b=some o0)
 (hl:∀ b ∈ l,b ∈ l'\/h.objs.size<=b) (hd:∀ b ∈ l,∀ o,h1.get? b=some o->∀ vs,o.data ≠ .fields vs):Un l' ex H H' h h2:=by
 refine ⟨fun b o e nn hb' hx=>?_,fun b o e nn hb' hx=>?_,u.free,fun b o e hx=>?_,u.tups,u.frzs,u.tbls⟩
 ·have q:=u.keep b o e nn hb' hx
  refine hb b o (hk b o (fun z=>?_) (.inl (lt b o e)) q)
  rcases hl b z with z | z
  ·exact hb' z
  ·exact absurd (Heap.lt_size e) (Nat.not_lt.mpr z)
 ·obtain ⟨sl,q⟩:=u.slot b o e nn hb' hx
  by_cases z:b ∈ l
  ·obtain ⟨sl',q'⟩:=sm b _ q (hd b z _ q)
   exact ⟨sl',q'⟩
  ·exact ⟨sl,hb b _ (hk b _ z (.inl (lt b o e)) q)⟩
 ·obtain ⟨o',q⟩:=u.there b o e hx
  by_cases z:b ∈ l
  ·obtain ⟨sl',q'⟩:=sm b _ q (hd b z _ q)
   exact ⟨_,q'⟩
  ·exact ⟨o',hb b _ (hk b _ z (.inl (lt b o e)) q)⟩
end
theorem FunFrames.data {base:Heap}:∀ {l:List Env},h.FunFrames base l->∀ b ∈ frs l,∃ o,h.get? b=some o/\(∀ vs,o.data ≠ .fields vs)/\base.get? b=none:=fun {l} hf b hb=>by
 obtain ⟨h1,o,h2,h3⟩:=hf.mem hb
 exact ⟨o,h2,h3,h1⟩
noncomputable def gCx (P:Program) (w:World) (K:PySem.W.Frag) (mg:Str->Option Value) (base:Heap) (N:List Str) (env:Env) (fn:Str->Bool) (A:Around) (outer:List Env) (s:Shared) (H:Hp) (E:XK):Cx where
 prog:=P
 w:=w
 K:=K
 mg:=mg
 base:=base
 A:=A.deeper env
 N:=N
 s₀:=s
 H₀:=H
 env:=env
 outer:=outer
 stack:=env::outer
 ex:=[]
 calm:=true
 fn:=fn
 pn:=[]
 xe:=fun e s'=>wpAny (model P w) (A.deeper env) (leaving env e) (fun _ s''=>CXo P w outer H s E e s'') (fun e' s''=>CXo P w outer H s E e' s'') s'
theorem ss {w : World} {K : PySem.W.Frag} {mg : Str -> Option Value} {base : Heap} {N : List Str} {env : Env} {fn : Str -> Bool} {A : Around} {outer : List Env} {E : XK} {e : Value}
 (hloc : env.locals = s.heap.objs.size) (hf : env.frame = some s.heap.objs.size) (fl : FlyS (gCx P w K mg base N env fn A outer s H E) G H ρ C e s') (hE : ∀ G' H', Up G H G' H' -> E (.ref C) none H') : (gCx P w K mg base N env fn A outer s H E).xe e s' := by
  obtain ⟨σ, H₁, pins, s₁, a, rfl, I, way⟩ := fl
  have hfr : (A.deeper (env)).frames = some (env :: outer) := I.ok.frames
  have hst : frs (env :: outer) = s.heap.objs.size :: frs outer := tV hf
  have old : ∀ b o, s.heap.get? b = some o -> ∃ o0, s₁.heap.get? b = some o0 := fun b o e => I.base.there b o e (by show b ∉ ([] : List Addr); simp)
  show wpAny (model P w) (A.deeper (env)) (leaving (env) (.ref a)) (fun _ s'' => CXo P w outer H s E (.ref a) s'') (fun e' s'' => CXo P w outer H s E e' s'') s'
  -- the end, from the heap behind
  have fin : ∀ {H' : Hp} {G' : Hp} {s' : Shared} {h'' B : Heap} {a0 : Value}, Inv (gCx P w K mg base N env fn A outer s H E) pins σ H' s' -> StR K G H G' H' σ ρ -> H' a = none -> Heap.FlyingW B outer a (.ref C) a0 h'' -> s'.heap.UpToSlots h'' ->
      (∀ b o, b ∉ s.heap.objs.size :: frs outer -> ((∃ o0, s₁.heap.get? b = some o0) \/ ∃ u, H' b = some u) -> s'.heap.get? b = some o -> B.get? b = some o) -> CXo P w outer H s E (.ref a) { s' with heap := h'' } := by
    intro H' G' s' h'' B a0 J up ha fl sm hk
    have J0 : H' s.heap.objs.size = none := by have q : H' env.locals = none := J.free; rw [hloc] at q; exact q
    have fr0 : ∀ b ∈ frs outer, H' b = none := fun b hb => J.stkFree b (by show b ∈ frs (env :: outer); rw [hst]; exact List.mem_cons_of_mem _ hb)
    have frA : ∀ b ∈ s.heap.objs.size :: frs outer, H' b = none := fun b hb => by
      rcases List.mem_cons.mp hb with rfl | hb
      · exact J0
      · exact fr0 b hb
    have dat : ∀ b ∈ s.heap.objs.size :: frs outer, ∀ o, s'.heap.get? b = some o -> ∀ vs, o.data ≠ .fields vs := fun b hb o e => by
      obtain ⟨o', e', d', _⟩ := FunFrames.data J.stack b (by show b ∈ frs (env :: outer); rw [hst]; exact hb)
      rw [e] at e'; cases e'; exact d'
    have hok : HOk P w H' h'' := J.hok.flight fl.1 hk frA
    have un : Un (frs outer) [] H H' s.heap h'' := Un.flight J.base fl.1 sm hk old (fun b hb => (List.mem_cons.mp hb).elim (fun z => .inr (by rw [z]; exact Nat.le_refl _)) .inl) dat
    refine ⟨a, C, H', rfl, ⟨J.os, J.bare, un, hok, ha, B, a0, fl, fun b o hb ho e => ?_⟩, hE G' H' up.up⟩
    have nb : b ∉ s.heap.objs.size :: frs outer := fun z => by
      rcases List.mem_cons.mp z with z | z
      · rcases ho with ⟨o0, ho⟩ | ⟨u, ho⟩
        · rw [z] at ho; exact Nat.lt_irrefl _ (Heap.lt_size ho)
        · rw [z, J0] at ho; cases ho
      · exact hb z
    have ho' : (∃ o0, s₁.heap.get? b = some o0) \/ ∃ u, H' b = some u := ho.imp (fun ⟨o0, z⟩ => old b o0 z) id
    have ex : ∃ o', s'.heap.get? b = some o' := by
      rcases ho with ⟨o0, ho⟩ | ⟨u, ho⟩
      · exact J.base.there b o0 ho (by show b ∉ ([] : List Addr); simp)
      · exact (J.hok b u ho).there
    obtain ⟨o', e'⟩ := ex
    have q := hk b o' nb ho' e'
    have q2 := fl.1 b o' q
    have e2 : h''.get? b = some o := e
    rw [q2] at e2
    cases e2
    exact q
  rcases way with ⟨G₁, h', vs, sr, made, rfl⟩ | ⟨G', H', ⟨os, bare, un, hok, ha, B, a0, fl, hk⟩, up⟩ | ⟨G', H', L', hL, ⟨os, bare, ⟨ch, hch, un⟩, hok, ha, _, B, a0, fl, hk⟩, up⟩
  · -- made here
    have J : Inv (gCx P w K mg base N env fn A outer s H E) pins σ H₁ { s₁ with heap := h' } := I.kept (t' := s₁.toks) made.keeps
    have hin : ∀ en ∈ (env :: outer), ∀ b, en.frame = some b -> b ∈ s.heap.objs.size :: frs outer := fun en he b hb => by
      rw [<- hst]; exact List.mem_filterMap.mpr ⟨en, he, hb⟩
    refine wpAny_leaves_madeW (base := PySem.W.hideAll s₁.heap (s.heap.objs.size :: frs outer)) hfr hf (fun b o q => PySem.W.of_hideAll _ q) (PySem.W.funFrames_hide I.stack hin) made fun h'' t fl' _ _ sm => ?_
    have ha : H₁ a = none := by
      cases q : H₁ a with
      | none => rfl
      | some u =>
        obtain ⟨ob, e⟩ := (I.hok a u q).there
        rw [made.new] at e; cases e
    refine fin J sr ha fl' sm fun b o hb ho e => ?_
    have e1 : s₁.heap.get? b = some o := by
      rcases ho with ⟨o0, ho⟩ | ⟨u, ho⟩
      · have q := made.keeps b o0 ho
        have e' : h'.get? b = some o := e
        rw [q] at e'; cases e'; exact ho
      · obtain ⟨ob, ho⟩ := (I.hok b u ho).there
        have q := made.keeps b ob ho
        have e' : h'.get? b = some o := e
        rw [q] at e'; cases e'; exact ho
    exact PySem.W.hideAll_get _ e1 hb
  · have J := I.call' (s' := s') (ch := []) os un hok bare (fun b z => absurd z (by simp))
    exact wpAny_leaves_onW hfr hf fl fun h'' fl' sm => fin J up ha fl' sm fun b o hb ho e => hk b o (by show b ∉ frs (env :: outer); rw [hst]; exact hb) ho e
  · have J := I.call' (s' := s') (ch := ch) os un hok bare hch
    have eL : s.heap.objs.size = L' := Option.some.inj (hf.symm.trans hL)
    rw [<- eL] at fl
    refine wpAny_bind (wpAny_noteFrame_againW hf fl.2.2.2 (wpAny_landsW fl fun h'' fl' sm => ?_))
    obtain ⟨k1, k2, ⟨_, _, k3⟩, k4⟩ := fl'
    exact fin J up ha ⟨k1, k2, k3, k4⟩ sm fun b o hb ho e => hk b o (by show b ∉ frs (env :: outer); rw [hst]; exact hb) ho e

theorem jJ {w:World} {K:PySem.W.Frag} {mg:Str->Option Value} {base:Heap} {N:List Str} {A:Around} {outer:List Env} {E:XK} {e:Value}
 (fl:FlyS (cD (CXo P w) P w K mg base N qual scope f cd A outer s H E) G H ρ C e s') (hE:∀ G' H',Up G H G' H'->E (.ref C) none H'):(cD (CXo P w) P w K mg base N qual scope f cd A outer s H E).xe e s':=
 ss (env:=envOfC qual scope s.heap.objs.size f cd) (fn:=fun _=>true) rfl rfl fl hE
noncomputable def aL (n:Nat) (ds:List D):Ev:=ds.map (fun d=>some (.val d))++List.replicate (n - ds.length) none
noncomputable def aM (o:O):R D:=match o with
 | .rt d=>.ok d
 | .re d _=>.ok d
 | .nx _=>.ok .non
 | .ex C _=>.ex C
 | _=>.no
theorem mJ {K:PySem.W.Frag} {N:List Str} (sub:Same G H) (r:Reps K G vs ds):StR K G H G H (eF N vs) (aL N.length ds):=by
 have hl:=r.length
 have get:∀ (i:Nat) x,(aL N.length ds)[i]?=some (some x)->∃ d,ds[i]?=some d/\x=.val d:=fun i x e=>by
  unfold aL at e
  by_cases hi:i < ds.length
  ·rw [List.getElem?_append_left (by simpa using hi),List.getElem?_map] at e
   cases q:ds[i]? with
   | none=>rw [q] at e; cases e
   | some d=>rw [q] at e; cases e; exact ⟨d,rfl,rfl⟩
  ·rw [List.getElem?_append_right (by simpa using hi),List.getElem?_replicate] at e
   split at e <;> cases e
 have no:NoOwn (aL N.length ds):=fun i x e=>by obtain ⟨d',_,q⟩:=get i _ e; exact ⟨d',q⟩
 refine ⟨⟨sub,by simp [eF,aL,hl],fun i d e=>?_,fun i m C p fs e=>absurd e (no.obj i m C p fs)⟩,sub,.refl sub,fun i es e=>?_,fun i j es fs l e=>?_,no.ob⟩
 ·obtain ⟨d',e',q⟩:=get i _ e
  cases q
  obtain ⟨v,ev,rv⟩:=r.get e'
  refine ⟨v,?_,rv⟩
  unfold eF
  rw [List.getElem?_append_left (by have:=(List.getElem?_eq_some_iff.mp ev).1; simpa using this),List.getElem?_map,ev]
  rfl
 ·obtain ⟨d',_,q⟩:=get i _ e; cases q
 ·obtain ⟨d',_,q⟩:=get i _ e; cases q
end L2
namespace L2
open PySem PySem.Spec PyProof.Rows
theorem mh:fillsNumberSlot (.type "tuple") "mul"=pure false:=
 PySem.fillsNumberSlot_seq (id:="tuple.__mul__") (r:=some (.builtin "tuple.__rmul__")) F.slot_tuple_mul.lookup (by decide +kernel) F.slot_tuple_rmul.lookup (by decide +kernel)
theorem AQ:seqRepeat? (.type "tuple")=pure (some (.builtin "tuple.__mul__")):=by
 unfold seqRepeat?
 rw [PySem.seqSlot_of (T:="tuple") (name:="__mul__") (id:="tuple.__mul__") F.slot_tuple_mul.lookup (by decide +kernel),PySem.seqSlot_of (T:="tuple") (name:="__rmul__") (id:="tuple.__rmul__") F.slot_tuple_rmul.lookup (by decide +kernel)]
 rfl
open Builtin in
theorem oJ (a:Int) (t:Tok) (l:Addr) (items:Array Value) (n:Nat) (dd:Option Addr) (sl:Array (Option Value)) :
  Meets (Builtin.«int.__rmul__» ⟨[.int a t,.ref l],[]⟩) (fun _ Rr s=>s.heap.get? l=some { cls:=.type "tuple",dict:=dd,data:=.seq items n,slots:=sl }/\Rr (.ok (.ret Value.notImplemented)) s):=
 .of_wp fun prog w A Rr s h=>by obtain ⟨hp,g,d,tk,os⟩:=s; obtain ⟨hl,h⟩:=h; wp_walk; exact ⟨_,rfl,h⟩
section
open Builtin AutoSeq1
variable (l:Addr) (items:Array Value) (n:Nat) (dd:Option Addr) (sl:Array (Option Value)) (x:Int) (u:Tok) (h1:(decide (x < -(2 ^ 63)) || decide (x ≥ 2 ^ 63))=false)
include h1
theorem yW (hc:(items.isEmpty || x==1)=true) :
  Meets (Builtin.«tuple.__mul__» ⟨[.ref l,.int x u],[]⟩) (fun _ Rr s=>s.heap.get? l=some { cls:=.type "tuple",dict:=dd,data:=.seq items n,slots:=sl }/\Rr (.ok (.ret (.ref l))) s):=
 .of_wp fun prog w A Rr s h=>by
  obtain ⟨hp,g,d,tk,os⟩:=s; obtain ⟨hl,h⟩:=h
  have f1:=idx_int
  wp_walk
  refine wpAny_ite_false (by rw [h1]; rfl) ?_
  refine wpAny_bind (tupleItemsOf_ (show IsTup hp l items from ⟨_,hl,rfl,n,rfl⟩) ?_)
  dsimp only
  rw [if_pos hc]
  unfold Tuple.tupleIsExact
  refine wpAny_bind (wpAny_bind (wpAny_typeOf ⟨_,hl,rfl⟩ (wpAny_pure ?_)))
  rw [if_pos (by decide)]
  exact wpAny_bind (wpAny_rule (wpAny_pure ⟨_,rfl,h⟩))
theorem yf (hc : ¬ (items.isEmpty || x==1)=true) (h2:(decide (x<=0) || items.isEmpty)=true) :
  Meets (Builtin.«tuple.__mul__» ⟨[.ref l,.int x u],[]⟩) (fun _ Rr s=>s.heap.get? l=some { cls:=.type "tuple",dict:=dd,data:=.seq items n,slots:=sl }/\Rr (.ok (.ret (.ref s.heap.objs.size))) { s with heap:=s.heap.push { cls:=.type "tuple",data:=.seq #[] } }):=
 .of_wp fun prog w A Rr s h=>by
  obtain ⟨hp,g,d,tk,os⟩:=s; obtain ⟨hl,h⟩:=h
  have f1:=idx_int
  wp_walk
  refine wpAny_ite_false (by rw [h1]; rfl) ?_
  refine wpAny_bind (tupleItemsOf_ (show IsTup hp l items from ⟨_,hl,rfl,n,rfl⟩) ?_)
  dsimp only
  rw [if_neg hc,if_pos h2]
  exact wpAny_bind (m:=Builtin.Tuple.tupleExact _) (wpAny_newObj_type (wpAny_pure ⟨_,rfl,h⟩) (Nat.zero_le _))
theorem yT (hc : ¬ (items.isEmpty || x==1)=true) (h2 : ¬ (decide (x<=0) || items.isEmpty)=true) (hz:items.size * x.toNat<=sizeLine) :
  Meets (Builtin.«tuple.__mul__» ⟨[.ref l,.int x u],[]⟩) (fun _ Rr s=>s.heap.get? l=some { cls:=.type "tuple",dict:=dd,data:=.seq items n,slots:=sl }/\
   Rr (.ok (.ret (.ref s.heap.objs.size))) { s with heap:=s.heap.push { cls:=.type "tuple",data:=.seq (List.foldl (fun x1 x2=>x1++x2) #[] (List.replicate x.toNat items)) } }):=
 .of_wp fun prog w A Rr s h=>by
  obtain ⟨hp,g,d,tk,os⟩:=s; obtain ⟨hl,h⟩:=h
  have f1:=idx_int
  have hx:0 < x:=by
   cases q:decide (x<=0) with
   | true=>rw [q] at h2; exact absurd rfl h2
   | false=>exact Int.not_le.mp (of_decide_eq_false q)
  have ez:(items.size:Int) * x=((items.size * x.toNat:Nat):Int):=by
   rw [Int.natCast_mul,Int.toNat_of_nonneg (Int.le_of_lt hx)]
  have hlim:(sizeLine:Nat)<=(2 ^ 63 - 1) / 8:=by decide
  have h3 : ¬ ((items.size:Int) * x > (2 ^ 63 - 1) / 8):=by
   rw [ez]
   have:((sizeLine:Nat):Int)<=(2 ^ 63 - 1) / 8:=by decide
   omega
  have h4 : ¬ (Tuple.tupleTooMany ((items.size:Int) * x)=true):=by
   unfold Tuple.tupleTooMany
   rw [ez]
   intro q
   have:=of_decide_eq_true q
   omega
  have hfz:(List.foldl (fun x1 x2=>x1++x2) #[] (List.replicate x.toNat items)).size<=sizeLine:=by
   have e:=iu items.toList x.toNat []
   simp only [List.nil_append,Array.toArray_toList] at e
   rw [e,List.size_toArray,nQ,Array.length_toList,Nat.mul_comm]
   exact hz
  wp_walk
  refine wpAny_ite_false (by rw [h1]; rfl) ?_
  refine wpAny_bind (tupleItemsOf_ (show IsTup hp l items from ⟨_,hl,rfl,n,rfl⟩) ?_)
  dsimp only
  rw [if_neg hc,if_neg h2,if_neg h3,if_neg h4]
  exact wpAny_bind (m:=Builtin.Tuple.tupleExact _) (wpAny_newObj_type (wpAny_pure ⟨_,rfl,h⟩) hfz)
end
section
variable {X:Cx}
noncomputable def BT (K:PySem.W.Frag):R2:=fun x y H Q=>∃ l k xs,x=.ref l/\y=.int k/\SqT K H l xs/\-(2 ^ 63)<=k/\k < 2 ^ 63/\xs.length * k.toNat<=sizeLine/\
 (xs=[]\/k=1->Q (.ref l) H)/\(xs ≠ []->k ≠ 1->∀ p,H p=none->Q (.ref p) (upd H p (.tup (List.replicate k.toNat xs).flatten)))
theorem op_repT:OpR X (binaryOp .Mult) (BT X.K):=by
 intro pins s σ H x y v u Q I rx ry h
 obtain ⟨l,k,xs,rfl,rfl,hH,h1,h2,hz,q0,q1⟩:=h
 cases rx
 obtain ⟨t,rfl⟩:=ry
 obtain ⟨its,r,p,hzz⟩:=I.tuple hH
 obtain ⟨⟨cls,dd,data,sl⟩,ho,hc,n,hd⟩:=id p
 simp only at hc hd
 subst hc hd
 have hlen:its.length=xs.length:=r.length.symm
 have hin:(decide (k < -(2 ^ 63)) || decide (k ≥ 2 ^ 63))=false:=by
  rw [decide_eq_false (by omega),decide_eq_false (by omega)]; rfl
 have emp:its.toArray.isEmpty=decide (xs=[]):=by
  cases its with
  | nil=>cases r; rfl
  | cons a b=>cases r; rfl
 refine wpAny_binaryOp_repeat_ref (T:="tuple") (U:="int") (by decide) ⟨_,ho,rfl⟩ (fun s'=>typeIs_int s' k t) mh F.fills_int_mul F.slot_int_rmul AQ F.slot_int_index.lookup
  (call_meets F.slot_int_rmul (typeIs_int s k t) F.entry_int_rmul (F.args_int_rmul_2 _ _) (oJ k t l its.toArray n dd sl) ⟨ho,rfl,⟨_,ho,rfl⟩,?_⟩)
 by_cases hc:(its.toArray.isEmpty || k==1)=true
 ·refine call_meets F.slot_tuple_mul ⟨_,ho,rfl⟩ F.entry_tuple_mul (F.args_tuple_mul_2 _ _) (yW l its.toArray n dd sl k t hin hc) ⟨ho,.ref l,H,I,rfl,q0 ?_⟩
  rw [emp] at hc
  simpa using hc
 ·have hne:xs ≠ []/\k ≠ 1:=by
   rw [emp] at hc
   simpa using hc
  have fin:∀ its',its'=(List.replicate k.toNat its).flatten->EP X pins σ Q (.ref s.heap.objs.size) { s with heap:=s.heap.push { cls:=.type "tuple",data:=.seq its'.toArray } }:=fun its' e=>by
   subst e
   refine ⟨.ref s.heap.objs.size,_,I.laid (t':=s.toks) (o:=.tup (List.replicate k.toNat xs).flatten) (fun b ob q=>Heap.get?_push_of_some _ q) (Nat.le_refl _) ?_,rfl,q1 hne.1 hne.2 _ I.fresh⟩
   exact ⟨by rw [nQ,Nat.mul_comm]; exact hz,_,r.rep k.toNat,IsTup.new _ _⟩
  by_cases h0:(decide (k<=0) || its.toArray.isEmpty)=true
  ·refine call_meets F.slot_tuple_mul ⟨_,ho,rfl⟩ F.entry_tuple_mul (F.args_tuple_mul_2 _ _) (yf l its.toArray n dd sl k t hin hc h0) ⟨ho,?_⟩
   refine fin [] ?_
   have:k<=0:=by
    rw [emp,decide_eq_false hne.1,Bool.or_false] at h0
    exact of_decide_eq_true h0
   rw [Int.toNat_of_nonpos this]
   rfl
  ·refine call_meets F.slot_tuple_mul ⟨_,ho,rfl⟩ F.entry_tuple_mul (F.args_tuple_mul_2 _ _) (yT l its.toArray n dd sl k t hin hc h0 (by rw [List.size_toArray,hlen]; exact hz)) ⟨ho,?_⟩
   have e:=iu its k.toNat []
   simp only [List.nil_append] at e
   rw [e]
   exact fin _ rfl
theorem zY (x:Str) (n:Int):(Txt.mul x n).cps.toList=(List.replicate n.toNat x.cps.toList).flatten:=by
 unfold Txt.mul
 by_cases h1:n < 1
 ·rw [if_pos h1,Int.toNat_of_nonpos (by omega)]; rfl
 ·rw [if_neg h1]
  by_cases h2:(n==1 || x.length==0)=true
  ·rw [if_pos h2]
   rcases Bool.or_eq_true_iff.mp h2 with h | h
   ·have:n=1:=by simpa using h
    subst this
    show _=(List.replicate 1 x.cps.toList).flatten
    simp
   ·have:x.cps.toList=[]:=List.eq_nil_of_length_eq_zero (by rw [Str.len_list]; simpa using h)
    rw [this]; simp
  ·rw [if_neg h2]
   have:∀ (m:Nat) (acc:Array Nat),((List.replicate m x.cps).foldl (·++·) acc).toList=acc.toList++(List.replicate m x.cps.toList).flatten:=by
    intro m
    induction m with
    | zero=>intro acc; simp
    | succ m ih=>intro acc; rw [List.replicate_succ,List.foldl_cons,ih,List.replicate_succ,List.flatten_cons]; simp
   simpa using this n.toNat #[]
theorem op_mul_str:OpR X (binaryOp .Mult) (fun x y H Q=>∃ (i:Str) (k:Int),x=.str i/\y=.int k/\-(2 ^ 63)<=k/\k < 2 ^ 63/\i.length * k.toNat<=sizeLine/\Q (.str (Txt.mul i k)) H):=by
 intro pins s σ H x y v u Q I rx ry h
 obtain ⟨i,k,rfl,rfl,h1,h2,hz,q⟩:=h
 obtain ⟨t,rfl⟩:=rx
 obtain ⟨t',rfl⟩:=ry
 refine SB.mul ⟨by rw [decide_eq_false (by omega),decide_eq_false (by omega)]; rfl,fun h3 h4=>?_,fun h3 h4=>?_⟩ fun t'' n=>⟨.str _,H,I.tok _,⟨_,rfl⟩,q⟩
 ·have hk:0 < k:=by omega
  intro h5
  have h6:(2 ^ 63 - 1) / k * k<=2 ^ 63 - 1:=Int.ediv_mul_le _ (by omega)
  have h7:(((i.length * k.toNat:Nat)):Int)=(i.length:Int) * k:=by rw [Int.natCast_mul,Int.toNat_of_nonneg (by omega)]
  have h8:((2 ^ 63 - 1) / k+1) * k<=(i.length:Int) * k:=Int.mul_le_mul_of_nonneg_right (by omega) (by omega)
  have h9:2 ^ 63 - 1 < ((2 ^ 63 - 1) / k+1) * k:=Int.lt_ediv_add_one_mul_self _ hk
  have h10:((sizeLine:Nat):Int) < 2 ^ 63 - 1:=by decide
  omega
 ·unfold Builtin.Str.tooLong
  exact decide_eq_false (by omega)
noncomputable def lB:D->D->Option D
 | .int i,.int j=>if (-(2 ^ 64) < i/\i < 2 ^ 64)\/(-(2 ^ 64) < j/\j < 2 ^ 64) then some (.int (i * j)) else none
 | .str x,.int k=>if -(2 ^ 63)<=k/\k < 2 ^ 63/\x.length * k.toNat<=sizeLine then some (.str (List.replicate k.toNat x).flatten) else none
 | .tup xs,.int k=>if -(2 ^ 63)<=k/\k < 2 ^ 63/\xs.length * k.toNat<=sizeLine then some (.tup (List.replicate k.toNat xs).flatten) else none
 | .lst false xs,.int k=>if -(2 ^ 63)<=k/\k < 2 ^ 63/\xs.length * k.toNat<=sizeLine then some (.lst false (List.replicate k.toNat xs).flatten) else none
 | _,_=>none
noncomputable def CS (K:PySem.W.Frag):R2:=fun x y H Q=>rI CMul (fun i j=>.int (i * j)) x y H Q\/(∃ (i:Str) (k:Int),x=.str i/\y=.int k/\-(2 ^ 63)<=k/\k < 2 ^ 63/\i.length * k.toNat<=sizeLine/\Q (.str (Txt.mul i k)) H)\/BT K x y H Q\/FR x y H Q
theorem AA:OpR X (binaryOp .Mult) (CS X.K):=op_mul.or (op_mul_str.or (op_repT.or Dg))
theorem CD (K:PySem.W.Frag):ROk K (CS K) lB:=by
 intro G H x y dx dy d Q s rx ry e q
 unfold lB at e
 split at e
 ·split at e
  ·rename_i hc
   cases e
   exact .inl ⟨_,_,rx.int_inv,ry.int_inv,hc,q _ G H (.refl s) (.int _)⟩
  ·cases e
 ·split at e
  ·rename_i hc
   cases e
   obtain ⟨i,rfl,ei,hi⟩:=rx.str_inv
   subst ei
   rw [Str.len_list] at hc
   exact .inr (.inl ⟨i,_,rfl,ry.int_inv,hc.1,hc.2.1,hc.2.2,q _ G H (.refl s) (.strL (zY i _) (by rw [nQ,Str.len_list,Nat.mul_comm]; exact hc.2.2))⟩)
  ·cases e
 ·split at e
  ·rename_i k hc
   cases e
   obtain ⟨a,vs,rfl,ha,ra⟩:=rx.tup_inv
   refine .inr (.inr (.inl ⟨a,_,vs,rfl,ry.int_inv,ha.mono s,hc.1,hc.2.1,by rw [ra.length]; exact hc.2.2,fun z=>?_,fun _ _ p hp=>q _ _ _ (.new s hp) (.tup (.of bf) ((ra.rep _).mono (.into (s.free hp))))⟩))
   rcases z with z | z
   ·subst z
    cases ra
    have e:(List.replicate k.toNat ([]:List D)).flatten=[]:=by simp
    rw [e] at q
    exact q _ G H (.refl s) (.tup ha .nil)
   ·subst z
    have e:∀ l:List D,(List.replicate (1:Int).toNat l).flatten=l:=fun l=>by show (List.replicate 1 l).flatten=l; simp
    rw [e] at q
    exact q _ G H (.refl s) (.tup ha ra)
  ·cases e
 ·split at e
  ·rename_i hc
   cases e
   obtain ⟨a,vs,rfl,ha,ra⟩:=rx.lst_inv
   exact .inr (.inr (.inr ⟨a,_,vs,rfl,ry.int_inv,s _ _ ha,hc.1,hc.2.1,by rw [ra.length]; exact hc.2.2,fun p hp=>q _ _ _ (.new s hp) (.lst bf ((ra.rep _).mono (.into (s.free hp))))⟩))
  ·cases e
 ·cases e
end
end L2
namespace L2
open PySem PySem.W PySem.Spec PySem.Calls PyProof.Rows
structure ExcCls (K:Frag) (C:Addr):Prop where
 ga:findIn K (.ref C) "__getattribute__"=some (some (.builtin "BaseException.__getattribute__"))
 gt:findIn K (.ref C) "__getattr__"=some none
 cl:findIn K (.ref C) "__class__"=some (some (.builtin "object.__class__"))
 sp:specialIn K (.builtin "object.__class__") "__get__"=some (some (.builtin "getset_descriptor.__get__"))
 tk:takesIn K (.builtin "object.__class__")=some true
 mo:mroIn K C (.type "object")=some true
 be:subIn K (.ref C) (.type "BaseException")=some true
 some:(clsIn K C).isSome=true
section
variable {prog:Program} {w:World} {A:Around} {E:Value->Shared->Prop} {s:Shared} {K:Frag} {a C:Addr}
section
open Builtin Builtin.ObjectAttr Builtin.Getset_descriptor
theorem zQ {tp:Value} {Rr:Result->Shared->Prop} (X:K.In s.heap) (L0:Looks (model prog w) s.heap (typeOf (.ref a)) (.ref C)) (hm:mroIn K C (.type "object")=some true) (h:Rr (.ok (.ret (.ref C))) s) :
  codeAny (model prog w) A (.call (.builtin "getset_descriptor.__get__") ⟨[.builtin "object.__class__",.ref a,tp],[]⟩) Rr s:=by
 obtain ⟨hh,gg,dd,tt,oo⟩:=s
 have L1:=looks_mroIn (M:=model prog w) X hm
 refine codeAny_call_builtin KF.slot_gs.plain KF.entry_gs
  (KF.slot_gs.check _ _ _ _ _ _ _ _ KF.type_class (KF.args_gs _ _ _) ?_)
 unfold Builtin.«getset_descriptor.__get__» descrGet
 rw [dga_obj]
 refine wpAny_bind (wpAny_pure ?_)
 unfold descrGetter descrCheckInstance descrNameAndClass isInstance
 simp only [KF.owner_class]
 repeat lk
 refine ⟨Code.quiet_builtin _ (by decide +kernel),
  codeAny_builtin KF.entry_class ?_⟩
 unfold Builtin.«object.__class__» shownTypeOf
 repeat lk
 exact h
end
theorem xb {Q:Option Value->Shared->Prop} (X:K.In s.heap) (T:ExcCls K C) (L0:Looks (model prog w) s.heap (typeOf (.ref a)) (.ref C))
 (h:Q (some (.ref C)) { s with toks:=s.toks+1 }):wpAny (model prog w) A (getAttr? (.ref a) "__class__") Q E s:=by
 obtain ⟨hh,g,d,t,os⟩:=s
 have L1:=looks_findIn (M:=model prog w) X T.ga
 have L2:=looks_findIn (M:=model prog w) X T.gt
 have L3:Looks (model prog w) hh (Builtin.ObjectAttr.find (.ref a) (.ref C) "__class__") (.bind (.builtin "getset_descriptor.__get__") (.builtin "object.__class__")):=by
  have M1:=looks_findIn (M:=model prog w) X T.cl
  have M2:Looks (model prog w) hh (Builtin.ObjectAttr.getOf (some (.builtin "object.__class__"))) (some (.builtin "getset_descriptor.__get__")):=looks_specialIn X T.sp
  have M3:=looks_takesIn (M:=model prog w) X T.tk
  refine M1.andThen (M2.andThen ?_)
  exact (show Looks (model prog w) hh (Builtin.ObjectAttr.dataDescriptor? (some (.builtin "object.__class__")) (some (.builtin "getset_descriptor.__get__"))) (some (.builtin "getset_descriptor.__get__",.builtin "object.__class__")) from M3.andThen .now).andThen (Looks.tag .now)
 unfold getAttr? getAttrBy? getAttrBy
 refine wpAny_bind (wpAny_mkText (wpAny_bind (wpAny_attempt (wpAny_holding (wpAny_bind (L0.at (wpAny_bind (L1.at ?_))))))))
 have hx2:(Value.builtin "BaseException.__getattribute__"==Value.builtin "object.__getattribute__")=false:=by decide +kernel
 dsimp only
 rw [if_neg (by rw [hx2,Bool.and_false]; exact Bool.false_ne_true)]
 unfold getAttrByItsOwn hookBefore
 rw [if_pos (show onTheHeap (Value.ref C)=true from rfl)]
 refine wpAny_bind (L2.at ?_)
 refine wpAny_bind (wpAny_attempt (wpAny_holding ?_))
 unfold callGetattribute
 rw [if_neg (by rw [Bool.false_and]; exact Bool.false_ne_true)]
 unfold boundAndCalled
 rw [F.attr_ValueError.ga.bind (.ref a)]
 refine wpAny_bind (wpAny_pure ?_)
 show wpAny _ _ (call (.builtin "BaseException.__getattribute__") [.ref a,.str "__class__" t]) _ _ _
 have LB:Looks (model prog w) hh (isInstance (.ref a) (.type "BaseException")) true:=L0.andThen (looks_subIn X T.be)
 have hk:builtinKind "BaseException.__getattribute__"=some .slot:=by decide +kernel
 have hsp:splitId "BaseException.__getattribute__"=some ("BaseException","__getattribute__"):=by decide +kernel
 have ha:=F.args_bexc_ga (.ref a) (.str "__class__" t)
 refine wpAny_call (codeAny_call_builtin F.attr_ValueError.ga.plain F.entry_bexc_ga ?_)
 simp only [checkBuiltinCall,hk,hsp]
 refine wpAny_bind (LB.at ?_)
 rw [if_neg (by decide)]
 refine wpAny_of_eq (a:=()) ha ?_
 unfold Builtin.«object.__getattribute__»
 refine wpAny_bind (wpAny_pure ?_)
 refine wpAny_bind (wpAny_pure ?_)
 refine wpAny_bind (L0.at ?_)
 refine wpAny_bind (L3.at ?_)
 show wpAny _ _ (Builtin.ObjectAttr.bindTo (.builtin "getset_descriptor.__get__") (.builtin "object.__class__") (.ref a) (.ref C)) _ _ _
 unfold Builtin.ObjectAttr.bindTo
 dsimp only
 exact wpAny_bind (wpAny_holding (wpAny_call (zQ (s:=⟨hh,g,d,t+1,os⟩) X L0 T.mo (wpAny_pure (handed_on rfl (wpAny_pure h))))))
theorem ya (T:ExcCls K C):KitX K (.ref a) (.ref C) (fun h=>∃ ob,h.get? a=some ob/\ob.cls=.ref C) where
 ty:=fun M h _ p=>by
  obtain ⟨o,h1,h2⟩:=p
  exact h2 ▸ (Looks.ld h1).andThen .now
 it:=fun M h X _=>by
  have z:=T.some
  unfold clsIn at z
  split at z
  ·rename_i c' d' cd' sl' ho
   intro A' Q' E' s' k q
   unfold isType loadHead
   exact wpAny_bind (wpAny_loadPart (k _ _ (X _ _ ho)) (wpAny_pure q))
  ·cases z
 ne:=fun h tp dd its n sl X htp=>by
  refine Bool.eq_false_iff.mpr fun q=>?_
  have e:C=tp:=Value.ref.inj (beq_iff_eq.mp q)
  subst e
  have z:=T.some
  unfold clsIn at z
  split at z
  ·rename_i c' d' cd' sl' ho
   cases (X _ _ ho).symm.trans htp
  ·cases z
 ca:=fun {prog w A E Q s} X p k=>by
  obtain ⟨o,h1,h2⟩:=p
  exact xb X T (h2 ▸ (Looks.ld h1).andThen .now) k
end
section
variable {X:Cx} {pins:List (Addr × Obj)} {σ:St} {G H:Hp} {s:Shared} {A:Around} {E:Value->Shared->Prop} {Q:Value->Shared->Prop}
noncomputable def tyN:D->Option String
 | .non=>some "NoneType"
 | .bl _=>some "bool"
 | .int _=>some "int"
 | .str _=>some "str"
 | .tup _=>some "tuple"
 | .lst _ _=>some "list"
 | .exc _=>none
theorem B8 {x:V} {c:Value} {T:String} {b:Bool} (I:Inv X pins σ H s) (sub:Same G H) (r:Rep X.K G x d) (ru:RelV x u) (ht:tyN d=some T) (e:kitOne X.K (.type T) c=some b) (h:∀ tk,Q (.bool b) { s with toks:=tk }) :
  wpAny (model X.prog X.w) A (call (.builtin "isinstance") [u,c]) Q E s:=by
 cases r with
 | non=>cases ht; cases ru; exact kia_one kitx_none I.kIn True.intro e (fun z=>nomatch z) h
 | bl y=>cases ht; cases ru; exact kia_one kitx_bool I.kIn True.intro e (fun z=>nomatch z) h
 | int i=>cases ht; obtain ⟨t,rfl⟩:=ru; exact kia_one kitx_int I.kIn True.intro e (fun z=>nomatch z) h
 | str y hy=>cases ht; obtain ⟨t,rfl⟩:=ru; exact kia_one kitx_str I.kIn True.intro e (fun z=>nomatch z) h
 | tup hh t=>
  cases ht; cases ru
  obtain ⟨its,rv,⟨o,h1,h2,_⟩,_⟩:=I.tuple (hh.mono sub)
  exact kia_one kitx_tuple I.kIn ⟨o,h1,h2⟩ e (fun z=>nomatch z) h
 | lst hh t=>
  cases ht; cases ru
  obtain ⟨its,rv,⟨o,n,h1,h2,_⟩,_⟩:=I.list ((SqL.of hh:SqL X.K G _ _).mono sub)
  exact kia_one kitx_list I.kIn ⟨o,h1,h2⟩ e (fun z=>nomatch z) h
 | fls hh t=>
  cases ht; cases ru
  obtain ⟨its,rv,⟨o,n,h1,h2,_⟩,_⟩:=I.list (hh.mono sub)
  exact kia_one kitx_list I.kIn ⟨o,h1,h2⟩ e (fun z=>nomatch z) h
 | exc hh=>cases ht
theorem yb {x:V} {c:Value} {b:Bool} (I:Inv X pins σ H s) (sub:Same G H) (r:Rep X.K G x (.exc C)) (ru:RelV x u) (T:ExcCls X.K C) (e:kitOne X.K (.ref C) c=some b) (h:∀ tk,Q (.bool b) { s with toks:=tk }) :
  wpAny (model X.prog X.w) A (call (.builtin "isinstance") [u,c]) Q E s:=by
 obtain ⟨a,rfl,hh⟩:=r.exc_inv
 cases ru
 obtain ⟨h1,_,_⟩:=(show ObjOk X.prog X.w H s.heap a (.ext (gD a C)) from I.hok a _ (sub _ _ hh))
 exact kia_one (ya T) I.kIn h1 e (fun z=>nomatch z) h
end
section
variable {X:Cx} {e:Expr} {ga:Ev->R D} {y:Str} {p p2 pos:Pos}
noncomputable def iI (f:String->Bool) (d:D):R D:=match tyN d with
 | some t=>.ok (.bl (f t))
 | none=>.no
theorem fB {T:String} (f:String->Bool) (hf:∀ K:Frag,∀ t ∈ ["NoneType","bool","int","str","tuple","list"],kitOne K (.type t) (.type T)=some (f t)) (hg:Gl X "isinstance") (hm:X.mg "isinstance"=none) (hg2:Gl X y) (hm2:X.mg y=none)
 (hv:bootBuiltins y=some (.type T)) (ha:QF X e ga) (hs1:starEach [e,.Name y p2] X.env=(false,eval e X.env)::starEach [.Name y p2] X.env:=by rfl)
 (hn:y ≠ "__name__":=by decide) (hdb:(y==("__debug__":Str))=false:=by decide) :
  QF X (.Call (.Name "isinstance" p) [e,.Name y p2] [] pos) (fun ρ=>ga ρ>>=iI f):=by
 intro pins s σ H Q I h
 have hc:kK X (.builtin "isinstance") (fun xs H Q=>∃ x G d,xs=[x,.ty T]/\Same G H/\Rep X.K G x d/\∃ t,tyN d=some t/\Q (.bl (f t)) H):=by
  intro pins s σ H xs us Q I r ⟨x,G,d,ex,sub,rd,t,et,q⟩
  subst ex
  obtain ⟨u,u2,rfl,r1,r2⟩:=r.two
  cases r2
  refine B8 I sub rd r1 et (hf X.K t ?_) fun tk=>⟨.bl (f t),H,I.tok tk,rfl,q⟩
  cases d <;> cases et <;> simp
 refine jK hc hg hm PyProof.Rows.Boot.«isinstance» (eX ha (eX (wc (v:=.ty T) hg2 hm2 hv rfl hn hdb) ll) hs1) (by decide) (by decide) hs1 rfl pins s σ H Q I ?_
 obtain ⟨G,ρ,st,h⟩:=h
 refine tG.intro st h fun x v G1 H1 u1 st1 r1 h1=>?_
 refine ⟨v,G1,x,rfl,st1.sub,r1,?_⟩
 unfold iI at h1
 cases et:tyN x with
 | none=>rw [et] at h1; exact h1.elim
 | some t=>rw [et] at h1; exact ⟨t,rfl,h1 _ G1 H1 (.refl st1.sub) (.bl _)⟩
noncomputable def gT (f:Addr->Option Bool) (d:D):R D:=match d with
 | .exc C=>ofO ((f C).map .bl)
 | _=>.no
theorem qr {v2:V} {u2:Value} (f:Addr->Option Bool) (hf:∀ C b,f C=some b->ExcCls X.K C/\kitOne X.K (.ref C) u2=some b) (hg:Gl X "isinstance") (hm:X.mg "isinstance"=none) (hy:PE X (.Name y p2) (tC v2)) (hr:RelV v2 u2) (hr2:∀ u,RelV v2 u->u=u2)
 (ha:QF X e ga) (hs1:starEach [e,.Name y p2] X.env=(false,eval e X.env)::starEach [.Name y p2] X.env:=by rfl) :
  QF X (.Call (.Name "isinstance" p) [e,.Name y p2] [] pos) (fun ρ=>ga ρ>>=gT f):=by
 intro pins s σ H Q I h
 have hc:kK X (.builtin "isinstance") (fun xs H Q=>∃ x G C b,xs=[x,v2]/\Same G H/\Rep X.K G x (.exc C)/\f C=some b/\Q (.bl b) H):=by
  intro pins s σ H xs us Q I r ⟨x,G,C,b,ex,sub,rd,ef,q⟩
  subst ex
  obtain ⟨u,w,rfl,r1,r2⟩:=r.two
  obtain rfl:=hr2 w r2
  exact yb I sub rd r1 (hf C b ef).1 (hf C b ef).2 fun tk=>⟨.bl b,H,I.tok tk,rfl,q⟩
 refine jK hc hg hm PyProof.Rows.Boot.«isinstance» (eX ha (eX hy ll) hs1) (by decide) (by decide) hs1 rfl pins s σ H Q I ?_
 obtain ⟨G,ρ,st,h⟩:=h
 refine tG.intro st h fun x v G1 H1 u1 st1 r1 h1=>?_
 cases x with
 | exc C=>
  cases ef:f C with
  | none=>simp only [gT,ef] at h1; exact h1.elim
  | some b=>
   simp only [gT,ef] at h1
   exact ⟨v,G1,C,b,rfl,st1.sub,r1,ef,h1 _ G1 H1 (.refl st1.sub) (.bl b)⟩
 | _=>exact h1.elim
end
end L2
namespace L2
open PySem PySem.Spec PyProof.Rows
noncomputable def tH:List D->Option (List Bool)
 | []=>some []
 | .bl b::ds=>(tH ds).map (b::·)
 | _=>none
theorem Reps.bls {K:PySem.W.Frag}:∀ {vs:List V} {ds:List D} {bs:List Bool},Reps K G vs ds->tH ds=some bs->vs=bs.map .bl
 | _,_,bs,.nil,e=>by cases e; rfl
 | _,_,bs,.cons r t,e=>by
  cases r with
  | bl b=>
   rename_i ds
   unfold tH at e
   cases q:tH ds with
   | none=>rw [q] at e; cases e
   | some cs=>rw [q] at e; cases e; rw [Reps.bls t q]; rfl
  | _=>simp [tH] at e
theorem Vals.bls:∀ {bs:List Bool} {us:List Value},Vals (bs.map V.bl) us->us=bs.map Value.bool
 | [],_,.nil=>rfl
 | b::bs,_,.cons r t=>by rw [Vals.bls t,show _=Value.bool b from r]; rfl
section
variable {X:Cx} {e o:Expr} {es:List Expr} {ga gb:Ev->R D} {gl:Ev->R (List D)} {pos:Pos}
noncomputable def GT (K:PySem.W.Frag) (f:List Bool->Bool):List V->Hp->VK->Prop:=fun xs H Q=>∃ p bs,xs=[.ref p]/\SqL K H p (bs.map V.bl)/\Q (.bl (f bs)) H
theorem vZ (A:Around) (prog:Program) (w:World) (bs:List Bool):TruthOf prog w A (fun i v=>(bs.map Value.bool).toArray[i]?=some v) (fun i=>bs.getD i true):=by
 intro i v s Q E hP hQ
 rw [List.getElem?_toArray,List.getElem?_map] at hP
 cases q:bs[i]? with
 | none=>rw [q] at hP; cases hP
 | some b=>
  rw [q] at hP
  cases hP
  have e:bs.getD i true=b:=by rw [List.getD_eq_getElem?_getD,q]; rfl
  have hQ:Q (bs.getD i true) s:=hQ
  rw [e] at hQ
  exact wpAny_truthy_bool hQ
theorem wM (hc:X.calm=true):kK X (.builtin "all") (GT X.K fun bs=>bs.all id):=by
 intro pins s σ H xs us Q I r ⟨p,bs,ex,hs,q⟩
 subst ex
 obtain ⟨u,rfl,r1⟩:=r.one
 cases r1
 obtain ⟨its,rv,pl,hz⟩:=I.list hs
 obtain rfl:=rv.bls
 have hh:X.A.in1.handled=none:=I.ok.hd hc
 have hlt:p < s.heap.objs.size:=by obtain ⟨o,n,e,_⟩:=id pl; exact Heap.lt_size e
 refine call_all_walk (wpAny_pyIter_list pl.isList ?_)
 refine ⟨s.heap.objs.size,[s.heap.objs.size,p],[s.heap.objs.size],_,_,_,fun i=>bs.getD i true,rfl,Walks.list hh s.heap.objs.size p (Nat.ne_of_lt hlt) (bs.map Value.bool).toArray,⟨⟨_,Heap.get?_push_size _ rfl,rfl,rfl⟩,?_⟩,vZ _ _ _ bs,fun h' tk hk=>?_⟩
 ·obtain ⟨o,n,e,c,_,d⟩:=id pl
  exact ⟨o,Heap.get?_push_of_some _ e,c,n,d⟩
 ·have e:(List.range (bs.map Value.bool).toArray.size).all (fun i=>bs.getD i true)=bs.all id:=by
   rw [List.size_toArray,List.length_map]; exact lq rfl
  rw [e]
  refine ⟨.bl _,H,I.kept (t':=tk) fun b o eb=>hk b o (fun z=>?_) (Heap.get?_push_of_some _ eb),rfl,q⟩
  have:b=s.heap.objs.size:=by simpa using z
  exact Nat.lt_irrefl _ (this ▸ Heap.lt_size eb)
noncomputable def Ar:List D->Option D
 | [.lst _ ds]=>(tH ds).map fun bs=>.bl (bs.all id)
 | _=>none
theorem xQ {p:Pos} (hc:X.calm=true) (hg:Gl X "all") (hm:X.mg "all"=none) (ha:QFA X [e] gl) (he:starEach [e] X.env=[(false,eval e X.env)]:=by rfl):QF X (.Call (.Name "all" p) [e] [] pos) (fun ρ=>gl ρ>>=fun ds=>ofO (Ar ds)):=
 iT (wM hc) (by
  intro G H xs ds d Q s r e q
  unfold Ar at e
  split at e
  ·rename_i f ds
   obtain ⟨v,rfl,r1⟩:=r.one
   obtain ⟨a,vs,rfl,h,t⟩:=r1.seq_inv
   cases eb:tH ds with
   | none=>rw [eb] at e; cases e
   | some bs=>
    rw [eb] at e
    cases e
    obtain rfl:=t.bls eb
    exact ⟨a,bs,rfl,h.mono s,q _ G H (.refl s) (.bl _)⟩
  ·cases e) hg hm PyProof.Rows.Boot.«all» ha (he:=by rw [he]; rfl)
noncomputable def BG (K:PySem.W.Frag) (T:String) (r:V->List V->Hp->VK->Prop) (f:D->List D->Option D):Prop:=∀ (G H:Hp) (x:V) (xs:List V) (dx:D) (ds:List D) (d:D) (Q:VK),Same G H->Rep K G x dx->Reps K G xs ds->f dx ds=some d->Fin G H (Rep K) Q d->r x xs H Q
noncomputable def gK (T:String):D->Bool
 | .str _=>T=="str"
 | .lst _ _=>T=="list"
 | _=>false
theorem ip {T id:String} {ap cp:Pos} {r:V->List V->Hp->VK->Prop} {f:D->List D->Option D} (pa:PlainAttrs T) (slot:PySem.Slot T name id) (hty:typeOf (.builtin id)=pure (.type "method_descriptor")) (hm:MtR X id r) (hf:BG X.K T r f) (ho:QF X o ga) (ha:QFA X (e::es) gl)
 (hbase:attributeBase o name X.env (eval o X.env)=eval o X.env:=by rfl)
 (hfew:((backTo cp (starEach (e::es) X.env)).all (fun x=>!x.1) && (backToKw cp (keywordEach [] X.env)).all (fun x=>x.1.isSome)
 && decide ((e::es).length+([]:List Keyword).length+(if ([]:List Keyword).isEmpty then 0 else 1) < 30))=true:=by rfl)
 (hline:(ap.endLine==cp.line)=true:=by rfl) (hs:starEach (e::es) X.env=(false,eval e X.env)::starEach es X.env:=by rfl) (hplain:(backTo cp (starEach es X.env)).any (·.1)=false:=by rfl) :
  QF X (.Call (.Attribute o name ap) (e::es) [] cp) (fun ρ=>ga ρ>>=fun x=>if gK T x=true then gl ρ>>=fun ds=>ofO (f x ds) else .no):=by
 intro pins s σ H Q I h
 refine xL pa slot hty hm ho ha hbase hfew hline hs hplain pins s σ H Q I ?_
 obtain ⟨G,ρ,st,h⟩:=h
 refine tG.intro st h fun x v G1 H1 u1 st1 r1 h1=>?_
 by_cases hk:gK T x=true
 ·rw [if_pos hk] at h1
  have ty:tyV X.K T v H1:=by
   cases r1 with
   | str y hy=>exact show T="str" by simpa [gK] using hk
   | lst hh t=>exact .inl ⟨by simpa [gK] using hk,_,.of (st1.sub _ _ hh)⟩
   | fls hh t=>exact .inl ⟨by simpa [gK] using hk,_,hh.mono st1.sub⟩
   | _=>cases hk
  refine ⟨ty,tG.intro st1 h1 fun ds vs G2 H2 u2 st2 r2 h2=>?_⟩
  obtain ⟨d,e',q⟩:=ofO.ok h2
  exact hf G2 H2 v vs x ds d Q st2.sub (r1.mono u2.gg) r2 e' q
 ·rw [if_neg hk] at h1; exact h1.elim
theorem zG {A:Around} {bs:List Bool} (k:Bool):∀ y,y ∈ (bs.map Value.bool).toArray->SeqAt.EqAt A s y (.bool k) (y==.bool k):=fun y hy=>by
 obtain ⟨b,_,rfl⟩:=List.mem_map.mp (List.mem_toArray.mp hy)
 have:=SeqAt.EqAt.bool_bool (A:=A) (s:=s) b k
 have e:(Value.bool b==Value.bool k)=(b==k):=by cases b <;> cases k <;> rfl
 rw [e]; exact this
noncomputable def zE (K:PySem.W.Frag):V->List V->Hp->VK->Prop:=fun x vs H Q=>∃ (l:Addr) (bs:List Bool) (k:Bool),x=.ref l/\vs=[.bl k]/\SqL K H l (bs.map V.bl)/\Q (.int (bs.count k:Nat)) H
theorem vv (bs:List Bool) (k:Bool):(bs.map Value.bool).countP (·==.bool k)=bs.count k:=by
 rw [List.countP_map]
 unfold List.count
 congr 1
 funext b
 cases b <;> cases k <;> rfl
theorem yy:MtR X "list.count" (zE X.K):=by
 intro pins s σ H x xs v us Q I rx rv ⟨l,bs,k,ex,exs,hs,q⟩
 subst ex exs
 cases rx
 obtain ⟨u,rfl,r1⟩:=rv.one
 cases r1
 obtain ⟨its,rv',⟨⟨cls,dd,data,sl⟩,n,eo,c,_,d⟩,hz⟩:=I.list hs
 obtain rfl:=rv'.bls
 simp only at c d
 subst c d
 refine call_meets F.slot_list_count ⟨_,eo,rfl⟩ F.entry_list_count (F.args_list_count_2 _ _) (SeqAt.list_countAt l (bs.map Value.bool).toArray n dd sl (.bool k) (·==.bool k)) ⟨eo,zG k,?_⟩
 rw [List.toList_toArray,vv]
 exact ⟨.int _,H,I.tok _,⟨_,rfl⟩,q⟩
noncomputable def hJ:D->List D->Option D
 | .lst _ ds,[.bl k]=>(tH ds).map fun bs=>.int (bs.count k:Nat)
 | _,_=>none
theorem xM (K:PySem.W.Frag):BG K "list" (zE K) hJ:=by
 intro G H x xs dx ds d Q s rx rs e q
 unfold hJ at e
 split at e
 ·rename_i f ds k
  obtain ⟨v,rfl,r1⟩:=rs.one
  obtain rfl:=r1.bl_inv
  obtain ⟨a,vs,rfl,h,t⟩:=rx.seq_inv
  cases eb:tH ds with
  | none=>rw [eb] at e; cases e
  | some bs=>
   rw [eb] at e
   cases e
   obtain rfl:=t.bls eb
   exact ⟨a,bs,k,rfl,rfl,h.mono s,q _ G H (.refl s) (.int _)⟩
 ·cases e
noncomputable def zq (K:PySem.W.Frag):V->List V->Hp->VK->Prop:=fun x vs H Q=>∃ (l:Addr) (bs:List Bool) (k:Bool),x=.ref l/\vs=[.bl k]/\SqL K H l (bs.map V.bl)/\k ∈ bs/\Q (.int (bs.idxOf k:Nat)) H
theorem mG (k:Bool):∀ (bs:List Bool) (m:Nat),m < bs.idxOf k->bs[m]? ≠ some k
 | [],m,h=>by simp
 | b::bs,m,h=>by
  rw [List.idxOf_cons] at h
  cases hb:(b==k) with
  | true=>rw [hb] at h; exact absurd h (Nat.not_lt_zero _)
  | false=>
   rw [hb] at h
   cases m with
   | zero=>intro e; have e1:=Option.some.inj e; rw [e1,beq_self_eq_true] at hb; cases hb
   | succ m=>rw [List.getElem?_cons_succ]; exact mG k bs m (Nat.lt_of_succ_lt_succ h)
theorem yF:MtR X "list.index" (zq X.K):=by
 intro pins s σ H x xs v us Q I rx rv ⟨l,bs,k,ex,exs,hs,hk,q⟩
 subst ex exs
 cases rx
 obtain ⟨u,rfl,r1⟩:=rv.one
 cases r1
 obtain ⟨its,rv',⟨⟨cls,dd,data,sl⟩,n,eo,c,_,d⟩,hz⟩:=I.list hs
 obtain rfl:=rv'.bls
 simp only at c d
 subst c d
 have hlt:bs.idxOf k < bs.length:=List.idxOf_lt_length_iff.mpr hk
 have hsz:bs.length<=sizeLine:=by simpa using hz
 have h63:=kM
 have tob:∀ a b:Bool,(Value.bool a==Value.bool b)=(a==b):=fun a b=>by cases a <;> cases b <;> rfl
 refine call_meets F.slot_list_index ⟨_,eo,rfl⟩ F.entry_list_index (F.args_list_index_2 _ _) (SeqAt.list_indexAt l (bs.map Value.bool).toArray n dd sl (.bool k) (·==.bool k) (bs.idxOf k) (by simpa using hlt) (by omega) ?_ ?_) ⟨eo,zG k,?_⟩
 ·simp only [List.getElem_toArray,List.getElem_map,tob]
  exact beq_iff_eq.mpr (List.getElem_idxOf hlt)
 ·intro m hm hlt'
  simp only [List.getElem_toArray,List.getElem_map,tob]
  have hm':m < bs.length:=by simpa using hm
  cases hq:(bs[m]==k) with
  | false=>rfl
  | true=>exact absurd (by rw [List.getElem?_eq_getElem hm',beq_iff_eq.mp hq]) (mG k bs m hlt')
 ·exact ⟨.int _,H,I.tok _,⟨_,rfl⟩,q⟩
noncomputable def gY:D->List D->Option D
 | .lst _ ds,[.bl k]=>(tH ds).bind fun bs=>if k ∈ bs then some (.int (bs.idxOf k:Nat)) else none
 | _,_=>none
theorem ym (K:PySem.W.Frag):BG K "list" (zq K) gY:=by
 intro G H x xs dx ds d Q s rx rs e q
 unfold gY at e
 split at e
 ·rename_i f ds k
  obtain ⟨v,rfl,r1⟩:=rs.one
  obtain rfl:=r1.bl_inv
  obtain ⟨a,vs,rfl,h,t⟩:=rx.seq_inv
  cases eb:tH ds with
  | none=>rw [eb] at e; cases e
  | some bs=>
   rw [eb,Option.bind_some] at e
   split at e
   ·rename_i hk
    cases e
    obtain rfl:=t.bls eb
    exact ⟨a,bs,k,rfl,rfl,h.mono s,hk,q _ G H (.refl s) (.int _)⟩
   ·cases e
 ·cases e
theorem uN {ap cp:Pos} (ho:QF X o ga) (ha:QFA X [e] gl) (hbase:attributeBase o "count" X.env (eval o X.env)=eval o X.env:=by rfl)
 (hfew:((backTo cp (starEach [e] X.env)).all (fun x=>!x.1) && (backToKw cp (keywordEach [] X.env)).all (fun x=>x.1.isSome)
 && decide ([e].length+([]:List Keyword).length+(if ([]:List Keyword).isEmpty then 0 else 1) < 30))=true:=by rfl)
 (hline:(ap.endLine==cp.line)=true:=by rfl) (hs:starEach [e] X.env=(false,eval e X.env)::starEach [] X.env:=by rfl) :
  QF X (.Call (.Attribute o "count" ap) [e] [] cp) (fun ρ=>ga ρ>>=fun x=>if gK "list" x=true then gl ρ>>=fun ds=>ofO (hJ x ds) else .no):=
 ip PySem.F.plainAttrs_list PySem.F.slot_list_count PySem.F.type_list_count yy (xM _) ho ha hbase hfew hline hs rfl
theorem uL {ap cp:Pos} (ho:QF X o ga) (ha:QFA X [e] gl) (hbase:attributeBase o "index" X.env (eval o X.env)=eval o X.env:=by rfl)
 (hfew:((backTo cp (starEach [e] X.env)).all (fun x=>!x.1) && (backToKw cp (keywordEach [] X.env)).all (fun x=>x.1.isSome)
 && decide ([e].length+([]:List Keyword).length+(if ([]:List Keyword).isEmpty then 0 else 1) < 30))=true:=by rfl)
 (hline:(ap.endLine==cp.line)=true:=by rfl) (hs:starEach [e] X.env=(false,eval e X.env)::starEach [] X.env:=by rfl) :
  QF X (.Call (.Attribute o "index" ap) [e] [] cp) (fun ρ=>ga ρ>>=fun x=>if gK "list" x=true then gl ρ>>=fun ds=>ofO (gY x ds) else .no):=
 ip PySem.F.plainAttrs_list PySem.F.slot_list_index PySem.F.type_list_index yF (ym _) ho ha hbase hfew hline hs rfl
end
end L2
namespace L2
open PySem PySem.Spec PyProof.Rows
noncomputable def wI:List Nat->List D->Ev->R Ev
 | [],[],ρ=>.ok ρ
 | i::is,d::ds,ρ=>wI is ds (ρ.set i (some (.val d)))
 | _,_,_=>.no
section
variable {X:Cx} {e:Expr} {es:List Expr} {ga:Ev->R D} {gl:Ev->R (List D)} {pos:Pos}
theorem vc (i j:Nat) {a b:Expr} {px pt pt2:Pos} {kt k2:Nat} (hc:X.calm=true) (hN:X.N.Nodup) (ha:QFA X [a,b] gl) (hij:i ≠ j) (hi:X.N[i]?=some x:=by rfl) (hj:X.N[j]?=some y:=by rfl)
 (hx:X.env.scope.names.lookup x=some .local:=by rfl) (hy:X.env.scope.names.lookup y=some .local:=by rfl)
 (hw:swappedStores [.Tuple [.Name x px,.Name y py] kt pt] (.Tuple [a,b] k2 pt2) X.env=pure (some [x,y]):=by rfl)
 (hs:swapsWithSole [.Tuple [.Name x px,.Name y py] kt pt] (.Tuple [a,b] k2 pt2) pos.line X.env=pure false:=by rfl) :
  QSF X (.Assign [.Tuple [.Name x px,.Name y py] kt pt] (.Tuple [a,b] k2 pt2) pos) (fun ρ=>(gl ρ).out ρ fun ds=>(wI [i,j] ds ρ).out ρ .nx):=fun G₀ H₀ pins s σ H D I h=>by
 refine DA hc hN hi hj hij hx hy ha hw hs pins s σ H D I ?_
 obtain ⟨G,ρ,sr,h⟩:=h
 dsimp only at h
 refine ⟨G,ρ,sr.e,?_⟩
 cases q:gl ρ with
 | ok ds=>
  rw [q] at h
  simp only [R.out] at h
  intro vs G' H' u r
  cases r with
  | nil=>exact h.elim
  | cons r1 t1=>
   cases t1 with
   | nil=>exact h.elim
   | cons r2 t2=>
    cases t2 with
    | nil=>exact ⟨_,_,rfl,h _ G' H' (((sr.ups u).set r1 i).set r2 j)⟩
    | cons _ _=>exact h.elim
 | ex C=>rw [q] at h; exact Exx.of sr h
 | no=>rw [q] at h; exact h
theorem pb {np cp:Pos} {bm:List Value} {B newId initId:String} (Oc:OwnCls x C bm newId X.mg X.base) (FB:ExcBaseFacts B newId initId bm) (hh:X.A.handled=none) (hg:Gl X x) (ha:QFA X [e] gl)
 (hdb:(x==("__debug__":Str))=false:=by decide) (hs:starEach [e] X.env=(false,eval e X.env)::starEach [] X.env:=by rfl) (hz:∀ ρ ds,gl ρ=.ok ds->ds.length<=1:=by intro _ _ z; first | (cases z; decide) | skip) :
  QSF X (.Raise (some (.Call (.Name x np) [e] [] cp)) none pos) (fun ρ=>(gl ρ).out ρ fun _=>.ex C ρ):=fun G₀ H₀ pins s σ H D I h=>by
 obtain ⟨G,ρ,sr,h⟩:=h
 dsimp only at h
 obtain ⟨tl,N,nm,qn,bs,hdct,sn,sub,ab,col,dd,k0,k1,k2,k3,k5,mN,hC,hN,hni,T⟩:=Oc.obj
 refine wpAny_Raise_call_subT (C:=C) (nm:=nm) (q:=qn) (N:=N) (bs:=bs) (bm:=tl) (hdct:=hdct) (sn:=sn) (sub:=sub) (ab:=ab) (col:=col) (dd:=dd) (k0:=k0) (k1:=k1) (k2:=k2) (k3:=k3) (k5:=k5)
  FB (mN:=mN) (T.hasType FB.hasBase) hh (by rw [hs]; rfl) hni (fO I hg Oc.bound ⟨rfl,?_⟩ hdb)
 have t:tAF X gl σ H (fun vs H1=>vs.length<=sizeLine/\∃ G1,Up G H G1 H1/\mq X G₀ H₀ D (.ex C ρ)):=by
  refine ⟨G,ρ,sr.e,?_⟩
  cases q:gl ρ with
  | ok ds=>
   rw [q] at h
   intro vs G1 H1 u r
   exact ⟨by rw [r.length]; exact Nat.le_trans (hz ρ ds q) (by decide),G1,u,h⟩
  | ex C'=>rw [q] at h; exact Exx.of sr h
  | no=>rw [q] at h; exact h
 have hA:=ha cp pins s σ H _ I t
 rw [hs] at hA ⊢
 refine Calls.evalArgs_plain (wpAny_mono hA (fun vs s₂ q=>?_) fun _ _ y=>y)
 obtain ⟨vs',H1,I1,r,hz,G1,u,h⟩:=q
 exact ⟨rfl,by show vs.length<=sizeLine; rw [<- r.length]; exact hz,I1.bk _ _ hC,hN.keeps I1.bk,T.keeps I1.bk,fun h' a made=>h _ _ (.of (sr.ups u) ⟨pins,s₂,a,rfl,I1,.inl ⟨h',vs,made,rfl⟩⟩)⟩
end
section
variable {X:Cx} {pins:List (Addr × Obj)} {σ:St} {H:Hp} {s:Shared}
theorem Inv.unset {m:Str->Option Value} {u:Option Value} (I:Inv X pins σ H s) (hN:X.N.Nodup) (hi:X.N[i]?=some x)
 (hm:∀ (j:Nat) (y:Str) (v:V),X.N[j]?=some y->σ[j]?=some (some v)->Vis X.env.scope y->∃ u,RelV v u/\F1 X.env s.heap m y u) (hn:h'.Ns X.env.locals (fun y=>if y=x then u else m y)) (sb:Heap.SameBut X.env.locals s.heap h') :
  Inv X pins (σ.set i none) H { s with heap:=h' }:=by
 have kp:∀ b o,b ≠ X.env.locals->s.heap.get? b=some o->h'.get? b=some o:=fun b o hb e=>(sb.2 b hb).trans e
 refine ⟨I.ok,I.os,I.bare,I.base.sameBut kp I.ok.above,⟨_,hn,fun j y v h1 h2 h3=>?_⟩,fun y c e=>?_,I.free,I.freeC,fun p hp=>?_,I.hok.sameBut kp I.free,by simp [I.len]⟩
 ·have hj:i ≠ j:=fun z=>by
   subst z
   rw [List.getElem?_set] at h2
   simp only [if_true] at h2
   split at h2 <;> cases h2
  rw [List.getElem?_set_ne hj] at h2
  have hy:y ≠ x:=fun z=>hj (nU hN hi (z ▸ h1))
  obtain ⟨w,rw',lk⟩:=hm j y v h1 h2 h3
  refine ⟨w,rw',?_⟩
  rcases lk with ⟨k,e⟩ | ⟨k,c,hc,cell⟩
  ·exact .inl ⟨k,by show (if y=x then u else m y)=some w; rw [if_neg hy]; exact e⟩
  ·exact .inr ⟨k,c,hc,cell.sameBut sb (I.cne y c hc)⟩
 ·obtain ⟨v,q⟩:=I.cell y c e
  exact ⟨v,q.sameBut sb (I.cne y c e)⟩
 ·obtain ⟨p1,p2,p3,p4,p5⟩:=I.pin p hp
  exact ⟨kp _ _ p3 p1,p2,p3,p4,p5⟩
theorem Inv.cx {A':Around} {calm':Bool} {pn' pins':List (Addr × Obj)} {xe':Value->Shared->Prop} (I:Inv X pins σ H s) (hp:∀ p ∈ pn'++pins',p ∈ X.pn++pins) (hA:A'.frames=X.A.frames) (hd:calm'=true->A'.handled=none) :
  Inv { X with A:=A',calm:=calm',pn:=pn',xe:=xe' } pins' σ H s:=
 ⟨⟨I.ok.mod,I.ok.kind,I.ok.glob,I.ok.blt,I.ok.above,I.ok.inj,I.ok.has,I.ok.cab,hd,hA.trans I.ok.frames,I.ok.stk,I.ok.exf,I.ok.bs,I.ok.bsz,I.ok.noex,I.ok.exfs,I.ok.funs,I.ok.frf,I.ok.tabs⟩,
  I.os,I.bare,I.base,I.loc,I.cell,I.free,I.freeC,fun p q=>I.pin p (hp p q),I.hok,I.len⟩
end
end L2
namespace L2
open PySem PySem.Spec PyProof.Rows
noncomputable def zC (gb gs:Ev->O) (f:Addr->Option Bool) (i:Nat):Ev->O:=fun ρ=>match gb ρ with
 | .ex C ρ'=>(match f C with
  | some true=>(match gs (ρ'.set i (some (.val (.exc C)))) with
   | .nx ρ''=>.nx (ρ''.set i none)
   | .rt d=>.rt d
   | _=>.no)
  | _=>.no)
 | o=>o
section
variable {X:Cx} {body suite:List Stmt} {b₀:Stmt} {gb gs:Ev->O} {pos hp tp:Pos} {tn nm:Str} {Ct:Addr}
noncomputable abbrev qo (X:Cx) (pn:List (Addr × Obj)) (xe:Value->Shared->Prop):Cx:={ X with A:=X.A,calm:=X.calm,pn:=pn,xe:=xe }
noncomputable abbrev eU (X:Cx) (a:Addr) (xe:Value->Shared->Prop):Cx:={ X with A:=X.A.mark (some (.ref a)),calm:=false,pn:=X.pn,xe:=xe }
theorem uQ (pr:St->Prop) (i:Nat) (f:Addr->Option Bool) (hN:X.N.Nodup) (hcalm:X.calm=true) (hst:X.stack=X.env::X.outer) (hfr:X.env.frame=some X.env.locals) (hkd:X.env.scope.kind=.function)
 (G₀ H₀:Hp) (hb:∀ pn xe,PSs (qo X pn xe) body fun D σ H=>pr σ/\tS (qo X pn xe) G₀ H₀ gb D σ H) (hh:∀ a xe,xz (eU X a xe) (b₀::suite) gs) (hf:∀ C,f C=some true->PySem.W.exmOne X.K (.ref C) (.ref Ct)=some true) (hg:Gl X tn) (hm:X.mg tn=some (.ref Ct))
 (hi:X.N[i]?=some nm) (hx:X.env.scope.names.lookup nm=some .local) (hdb:(tn==("__debug__":Str))=false:=by decide) :
  PS X (.Try body [.ExceptHandler (some (.Name tn tp)) (some nm) (b₀::suite) hp] [] [] pos) fun D σ H=>pr σ/\tS X G₀ H₀ (zC gb gs f i) D σ H:=fun pins s σ H D I h=>by
 obtain ⟨hpr,G,ρ,sr,h⟩:=h
 refine wpAny_Try_except ?_
 have fs:frs X.stack=X.env.locals::frs X.outer:=by rw [hst]; exact tV hfr
 have I1:∀ xe,Inv (qo X (X.pn++pins) xe) [] σ H s:=fun xe=>I.cx (fun p q=>by simpa using q) rfl I.ok.hd
 have back:∀ {xe:Value->Shared->Prop} {pins':List (Addr × Obj)} {σ':St} {H':Hp} {s':Shared},Inv (qo X (X.pn++pins) xe) pins' σ' H' s'->Inv X pins σ' H' s':=fun J=>
  (J.cx (pn':=X.pn) (pins':=pins) (xe':=X.xe) (fun p q=>List.mem_append_left _ q) rfl J.ok.hd:Inv { (qo X (X.pn++pins) _) with A:=X.A,calm:=X.calm,pn:=X.pn,xe:=X.xe } pins _ _ _)
 refine wpAny_mono (hb (X.pn++pins) (fun e s₁=>wpAny (model X.prog X.w) X.A (noteFrame e X.env) (fun _ s₂=>wpAny (model X.prog X.w) X.A (setFlight e none) (fun _ s₃=>
   wpAny (model X.prog X.w) X.A (handleBy e X.env [.ExceptHandler (some (.Name tn tp)) (some nm) (b₀::suite) hp]) (SP X pins D) X.xe s₃) X.xe s₂) X.xe s₁) [] s σ H D (I1 _) ⟨hpr,G,ρ,sr,?_⟩) (fun fl s₁ q=>?_) fun e s₁ q=>q
 case refine_2=>
  cases fl with
  | next=>obtain ⟨σ',H',J,q⟩:=q; exact wpAny_execs_nil ⟨σ',H',back J,q⟩
  | brk=>obtain ⟨σ',H',J,q⟩:=q; exact ⟨σ',H',back J,q⟩
  | cont=>obtain ⟨σ',H',J,q⟩:=q; exact ⟨σ',H',back J,q⟩
  | ret u=>obtain ⟨v,σ',H',J,r,q⟩:=q; exact ⟨v,σ',H',back J,r,q⟩
 unfold zC at h
 cases q:gb ρ with
 | nx ρ'=>rw [q] at h; exact h
 | rt d=>rw [q] at h; exact h
 | re d ρ'=>rw [q] at h; exact h
 | bk ρ'=>rw [q] at h; exact h
 | ct ρ'=>rw [q] at h; exact h
 | no=>rw [q] at h; exact h.elim
 | ex C ρ'=>
  rw [q] at h
  dsimp only at h
  cases qf:f C with
  | none=>rw [qf] at h; exact h.elim
  | some b=>
   cases b with
   | false=>rw [qf] at h; exact h.elim
   | true=>
    rw [qf] at h
    dsimp only at h
    have way8:(∃ ρ'',gs (ρ'.set i (some (.val (.exc C))))=.nx ρ'')\/∃ d,gs (ρ'.set i (some (.val (.exc C))))=.rt d:=by
     cases qs:gs (ρ'.set i (some (.val (.exc C)))) <;> rw [qs] at h <;> first | exact .inl ⟨_,rfl⟩ | exact .inr ⟨_,rfl⟩ | exact h.elim
    ·intro e s' fl
     obtain ⟨σ',H₁,pins₁,s₁,a,rfl,J0,way⟩:=fl
     have J₁:Inv X pins σ' H₁ s₁:=back J0
     have cont:∀ {ch:List Addr} {H' G':Hp} {s':Shared} {B:Heap} {a0:Value} {h₄:Heap},(∀ b ∈ ch,E6 X pins b)->s'.os=s₁.os->AllBare s'.gens->Un (frs X.stack) ch H₁ H' s₁.heap s'.heap->HOk X.prog X.w H' s'.heap->H' a=none->s₁.heap.get? a=none->StR X.K G₀ H₀ G' H' σ' ρ'->
       (∀ b o,b ∉ frs X.stack->((∃ o0,s₁.heap.get? b=some o0)\/∃ u,H' b=some u)->s'.heap.get? b=some o->B.get? b=some o)->Heap.HeldW B (X.env::X.outer) a (.ref C) a0 X.env.locals h₄->s'.heap.UpToSlots h₄->
       wpAny (model X.prog X.w) X.A (setFlight (.ref a) none) (fun _ s₃=>wpAny (model X.prog X.w) X.A (handleBy (.ref a) X.env [.ExceptHandler (some (.Name tn tp)) (some nm) (b₀::suite) hp]) (SP X pins D) X.xe s₃) X.xe { s' with heap:=h₄ }:=by
      intro ch H' G' s' B a0 h₄ hch os bare un hok ha hnew up hk held sm
      have J':Inv X pins σ' H' s':=J₁.call' (ch:=ch) os un hok bare hch
      have dat:∀ b ∈ frs X.stack,∀ o,s'.heap.get? b=some o->∀ vs,o.data ≠ .fields vs:=fun b hb o e=>by
       obtain ⟨o',e',d',_⟩:=FunFrames.data J'.stack b hb
       rw [e] at e'; cases e'; exact d'
      have at_:∀ {h5:Heap},B.StaysIn h5->s'.heap.UpToSlots h5->Un (frs X.stack) ch H₁ H' s₁.heap h5/\HOk X.prog X.w H' h5:=fun {h5} hb5 sm5=>
       ⟨un.flight hb5 sm5 hk (fun b o e=>⟨o,e⟩) (fun b hb=>.inl hb) dat,hok.flight hb5 hk J'.stkFree⟩
      refine wpAny_landsW held fun h₅ fl₅ sm₅=>?_
      obtain ⟨un₅,hok₅⟩:=at_ fl₅.1 (sm.trans sm₅)
      have J₅:Inv X pins σ' H' { s' with heap:=h₅ }:=J₁.call' (s':={ s' with heap:=h₅ }) (ch:=ch) os un₅ hok₅ bare hch
      have S₅:Inv (eU X a fun _ _=>False) pins σ' H' { s' with heap:=h₅ }:=J₅.cx (fun p q=>q) rfl (fun z=>by cases z)
      obtain ⟨ob,hob,hobc⟩:=fl₅.there
      refine wpAny_handleBy_cons (codeAny_handlers_test (fO S₅ hg hm ?_ hdb)) (by intro z; cases z)
      refine (PySem.W.exm_one (M:=model X.prog X.w) S₅.kIn (hobc ▸ (PySem.W.Looks.ld hob).andThen .now) (hf C qf)).here ?_
      show codeAny _ _ _ _ _
      refine codeAny_handlers_suite_as ?_
      refine lands_againW fl₅ fun h₆ fl₆ sm₆=>?_
      obtain ⟨un₆,hok₆⟩:=at_ fl₆.1 ((sm.trans sm₅).trans sm₆)
      obtain ⟨ob6,hob6,hobc6⟩:=fl₆.there
      have hokA:HOk X.prog X.w (upd H' a (.ext (gD a C))) h₆:=fun b o e=>by
       by_cases eb:b=a
       ·subst eb
        rw [bf] at e
        cases e
        exact ⟨⟨ob6,hob6,hobc6⟩,⟨ob6,hob6⟩,fun h1 h2 ⟨ob,e1,e2⟩ k=>⟨ob,k _ e1,e2⟩⟩
       ·rw [aR eb] at e
        refine (hok₆ b o e).stay (fun _ _ _ z=>z) (fun c z=>?_) (fun c xs z=>?_) (fun c ob u z=>?_)
        case refine_3=>rw [aR (aU z ha)]; exact z
        ·rw [aR (aU z ha)]; exact z
        ·rw [aR (aU z ha)]; exact z
      have unA:Un (frs X.stack) ch H₁ (upd H' a (.ext (gD a C))) s₁.heap h₆:=by
       refine ⟨un₆.keep,un₆.slot,fun b o e n x=>?_,un₆.there,fun b xs z=>?_,fun b o u z=>?_,fun b ps z=>?_⟩
       ·rw [aR (fun z=>by rw [z,hnew] at e; cases e)]; exact un₆.free b o e n x
       ·have:=un₆.tups b xs z; rw [aR (aU this ha)]; exact this
       ·have:=un₆.frzs b o u z; rw [aR (aU this ha)]; exact this
       ·obtain ⟨more,this⟩:=un₆.tbls b ps z; exact ⟨more,by rw [aR (aU this ha)]; exact this⟩
      have J₆:Inv X pins σ' (upd H' a (.ext (gD a C))) { s' with heap:=h₆ }:=J₁.call' (s':={ s' with heap:=h₆ }) (ch:=ch) os unA hokA bare hch
      have upA:Up G' H' (upd G' a (.ext (gD a C))) (upd H' a (.ext (gD a C))):=.new up.e.sub ha
      have S₆:Inv (eU X a fun _ _=>False) pins σ' (upd H' a (.ext (gD a C))) { s' with heap:=h₆ }:=J₆.cx (fun p q=>q) rfl (fun z=>by cases z)
      refine jH (X:=eU X a fun _ _=>False) S₆ hN hi (.inl hx) (v:=.ref a) rfl (fun s₇ S₇=>?_) (.inr hx)
      have sr7:=(up.ups upA).set (.exc bf:Rep X.K (upd G' a (.ext (gD a C))) (.ref a) (.exc C)) i
      refine wpAny_mono (hh a (fun _ _=>False) G₀ H₀ pins s₇ _ _ { nx:=fun σ₈ H₈=>∃ ρ'' G₈,gs (ρ'.set i (some (.val (.exc C))))=.nx ρ''/\StR X.K G₀ H₀ G₈ H₈ σ₈ ρ'',rt:=fun v H₈=>∃ d G₈,gs (ρ'.set i (some (.val (.exc C))))=.rt d/\Up G₀ H₀ G₈ H₈/\Rep X.K G₈ v d } S₇ ⟨_,_,sr7,by
       rcases way8 with ⟨ρ'',qs⟩ | ⟨d,qs⟩
       ·rw [qs]; exact fun σ₈ G₈ H₈ sr8=>⟨ρ'',G₈,rfl,sr8⟩
       ·rw [qs]; exact fun v G₈ H₈ u8 rp8=>⟨d,G₈,rfl,u8,rp8⟩⟩) (fun fl s₈ q8=>?_) fun _ _ z=>z.elim
      cases fl with
      | next=>
       obtain ⟨σ₈,H₈,S₈,ρ'',G₈,qs,sr8⟩:=q8
       rw [qs] at h
       have J₈:Inv X pins σ₈ H₈ s₈:=(S₈.cx (pn':=X.pn) (pins':=pins) (A':=X.A) (calm':=X.calm) (xe':=X.xe) (fun p q=>q) rfl I.ok.hd:Inv { (eU X a fun _ _=>False) with A:=X.A,calm:=X.calm,pn:=X.pn,xe:=X.xe } pins _ _ _)
       refine wpAny_bind (wpAny_bindName (gX J₈ hN hi (.inl hx) (v:=.non) rfl (fun s₉ J₉ _=>?_) (.inr hx)))
       obtain ⟨m9,hn9,hl9⟩:=id J₉.loc
       have hlt:i < σ₈.length:=by rw [J₈.len]; exact (List.getElem?_eq_some_iff.mp hi).1
       obtain ⟨u9,r9,lk9⟩:=hl9 i nm .non hi (by rw [List.getElem?_set_self hlt]) (.inl hx)
       have hv9:m9 nm=some u9:=by
        rcases lk9 with ⟨_,e⟩ | ⟨k,_⟩
        ·exact e
        ·have k':X.env.scope.names.lookup nm=some .cell\/X.env.scope.names.lookup nm=some .free:=k
         rw [hx] at k'; rcases k' with k' | k' <;> cases k'
       refine wpAny_onRaise (wpAny_unbindName_local hx hn9 hv9 (by rw [hkd]; rfl) fun h10 u10 hn10 sb10=>?_)
       have J10:=J₉.unset hN hi hl9 hn10 sb10
       refine ⟨_,_,J10,?_⟩
       have e10:(σ₈.set i (some V.non)).set i none=σ₈.set i none:=by rw [List.set_set]
       rw [e10]
       refine h _ G₈ _ ?_
       have get:∀ (j:Nat) x,(ρ''.set i none)[j]?=some (some x)->j ≠ i/\ρ''[j]?=some (some x)/\(σ₈.set i none)[j]?=σ₈[j]?:=fun j x e=>by
        by_cases ej:i=j
        ·subst ej
         rw [List.getElem?_set] at e
         simp only [if_true] at e
         split at e <;> cases e
        ·rw [List.getElem?_set_ne ej] at e
         exact ⟨fun z=>ej z.symm,e,List.getElem?_set_ne ej⟩
       have ob:ObSt X.K H₀ G₈ H₈ (σ₈.set i none) (ρ''.set i none):=by
        obtain ⟨ow,o1,o2⟩:=sr8.ob
        refine ⟨ow,fun j ds l e1 e2=>?_,fun j m C p fs e1=>?_⟩
        ·obtain ⟨_,f1,f2⟩:=get j _ e1; exact o1 j ds l f1 (f2 ▸ e2)
        ·obtain ⟨_,f1,f2⟩:=get j _ e1; rw [f2]; exact o2 j m C p fs f1
       refine ⟨⟨sr8.e.sub,by simp [sr8.e.len],fun j d e=>?_,ob.rd⟩,sr8.sub0,sr8.up,fun j ds e=>?_,fun j k ds es l e1 e2 e3 e4=>?_,ob⟩
       ·obtain ⟨_,e1,e2⟩:=get j _ e; rw [e2]; exact sr8.e.val j d e1
       ·obtain ⟨_,e1,e2⟩:=get j _ e; rw [e2]; exact sr8.own j ds e1
       ·obtain ⟨_,f1,f2⟩:=get j _ e1
        obtain ⟨_,f3,f4⟩:=get k _ e2
        exact sr8.inj j k ds es l f1 f3 (f2 ▸ e3) (f4 ▸ e4)
      | brk=>obtain ⟨_,_,_,z⟩:=q8; exact z.elim
      | cont=>obtain ⟨_,_,_,z⟩:=q8; exact z.elim
      | ret u=>
       obtain ⟨v,σ₈,H₈,S₈,r8,d,G₈,qs,u8,rp8⟩:=q8
       rw [qs] at h
       have J₈:Inv X pins σ₈ H₈ s₈:=(S₈.cx (pn':=X.pn) (pins':=pins) (A':=X.A) (calm':=X.calm) (xe':=X.xe) (fun p q=>q) rfl I.ok.hd:Inv { (eU X a fun _ _=>False) with A:=X.A,calm:=X.calm,pn:=X.pn,xe:=X.xe } pins _ _ _)
       refine wpAny_bind (wpAny_bindName (gX J₈ hN hi (.inl hx) (v:=.non) rfl (fun s₉ J₉ _=>?_) (.inr hx)))
       obtain ⟨m9,hn9,hl9⟩:=id J₉.loc
       have hlt:i < σ₈.length:=by rw [J₈.len]; exact (List.getElem?_eq_some_iff.mp hi).1
       obtain ⟨u9,r9,lk9⟩:=hl9 i nm .non hi (by rw [List.getElem?_set_self hlt]) (.inl hx)
       have hv9:m9 nm=some u9:=by
        rcases lk9 with ⟨_,e⟩ | ⟨k,_⟩
        ·exact e
        ·have k':X.env.scope.names.lookup nm=some .cell\/X.env.scope.names.lookup nm=some .free:=k
         rw [hx] at k'; rcases k' with k' | k' <;> cases k'
       refine wpAny_onRaise (wpAny_unbindName_local hx hn9 hv9 (by rw [hkd]; rfl) fun h10 u10 hn10 sb10=>?_)
       have J10:=J₉.unset hN hi hl9 hn10 sb10
       exact ⟨v,_,_,J10,r8,h v G₈ _ u8 rp8⟩
     have hfrm:X.A.frames=some (X.env::X.outer):=by rw [<- hst]; exact I.ok.frames
     rcases way with ⟨G₁,h',vs,sr',made,rfl⟩ | ⟨G',H',⟨os,bare,un,hok,ha,B,a0,fl,hk⟩,up⟩ | ⟨G',H',L',hL,⟨os,bare,⟨ch,hch,un⟩,hok,ha,hna,B,a0,fl,hk⟩,up⟩
     ·have hin:∀ env ∈ X.stack,∀ b,env.frame=some b->b ∈ frs X.stack:=fun env he b hb=>List.mem_filterMap.mpr ⟨env,he,hb⟩
      have ha:H₁ a=none:=by
       cases q:H₁ a with
       | none=>rfl
       | some u=>
        obtain ⟨ob,e⟩:=(J₁.hok a u q).there
        rw [made.new] at e; cases e
      obtain ⟨t,he,htn,ht⟩:=made.there
      have hkb:(PySem.W.hideAll s₁.heap (frs X.stack)).StaysIn h':=fun b o q=>made.keeps b o (PySem.W.of_hideAll _ q)
      have hen:(PySem.W.hideAll s₁.heap (frs X.stack)).get? a=none:=by
       cases q:(PySem.W.hideAll s₁.heap (frs X.stack)).get? a with
       | none=>rfl
       | some o=>have:=PySem.W.of_hideAll _ q; rw [made.new] at this; cases this
      have hff:h'.FunFrames (PySem.W.hideAll s₁.heap (frs X.stack)) (X.env::X.outer):=by
       rw [<- hst]
       exact (PySem.W.funFrames_hide J₁.stack hin).of_keeps fun b o hb _=>⟨o,made.keeps b o hb,rfl⟩
      show wpAny _ _ (noteFrame (.ref a) X.env) _ _ _
      unfold noteFrame
      simp only [hfr]
      refine wpAny_bind (wpAny_field (show ({ s₁ with heap:=h' }:Shared).heap.get? a=some _ from he) rfl (x:=.none) rfl ?_)
      rw [if_neg (by decide)]
      refine wpAny_entryW (base:=PySem.W.hideAll s₁.heap (frs X.stack)) (a0:=.ref t) hfrm hff hfr he hkb hen rfl (by show 1 < 6; decide) rfl fun h₄ noted=>?_
      obtain ⟨n1,n2,n3,n4⟩:=noted
      refine cont (ch:=[]) (s':={ s₁ with heap:=h' }) (fun b z=>absurd z (by simp)) rfl J₁.bare (Un.kept made.keeps) (J₁.hok.kept made.keeps) ha made.new sr' (fun b o hb ho e=>?_) ⟨n1,hen,n2,n3⟩ n4
      have e1:s₁.heap.get? b=some o:=by
       rcases ho with ⟨o0,ho⟩ | ⟨u,ho⟩
       ·have q:=made.keeps b o0 ho
        have e':h'.get? b=some o:=e
        rw [q] at e'; cases e'; exact ho
       ·obtain ⟨ob,ho⟩:=(J₁.hok b u ho).there
        have q:=made.keeps b ob ho
        have e':h'.get? b=some o:=e
        rw [q] at e'; cases e'; exact ho
      exact PySem.W.hideAll_get _ e1 hb
     ·have hna:s₁.heap.get? a=none:=by
       cases q:s₁.heap.get? a with
       | none=>rfl
       | some o0=>
        obtain ⟨o',e'⟩:=un.there a o0 q (by simp)
        have hna:a ∉ frs X.stack:=fun z=>by
         obtain ⟨o1,e1,d1,_⟩:=FunFrames.data fl.2.2.1 a z
         obtain ⟨oe,vs,_,_,_,e2,_,d2,_⟩:=fl.2.2.2
         rw [e1] at e2; cases e2; exact d1 vs d2
        have:=hk a o' hna (.inl ⟨o0,q⟩) e'
        rw [fl.2.1] at this; cases this
      rw [hst] at fl
      exact wpAny_looks_onW hfrm hfr fl fun h₄ held sm=>cont (ch:=[]) (fun b z=>absurd z (by simp)) os bare un hok ha hna up hk held sm
     ·have hch':∀ b ∈ ch,E6 X pins b:=fun b hb=>let ⟨c1,c2,c3,c4⟩:=hch b hb; ⟨c1,c2,c3,fun p hp=>c4 p (List.mem_append_left _ hp)⟩
      have eL:X.env.locals=L':=Option.some.inj (hfr.symm.trans hL)
      rw [hst,<- eL] at fl
      exact wpAny_noteFrame_againW hfr fl.2.2.2 (cont (h₄:=s'.heap) hch' os bare un hok ha hna up hk fl fun b o hb _=>⟨o.slots,hb⟩)
end
end L2
namespace L2
open PySem PySem.Spec PyProof.Rows
structure Callee (P:Program) (w:World) (K:PySem.W.Frag) (mg:Str->Option Value) (base:Heap) (x:Str) (k n:Nat) (g:List D->R D):Prop where
 ex:∃ f fd ps,FnF P w K mg base k f fd ps g/\mg x=some (.ref f)/\PySem.W.keepIn K (.ref f)=true/\Binds K fd ps []/\ps.length=n
theorem uG {e:Expr} {es:List Expr} {p:Pos} (c:Callee X.prog X.w X.K X.mg X.base x k n g) (hr:Room k X.A) (ha:QFA X (e::es) gl) (hg:Gl X x:=by rfl)
 (hdb:(x==("__debug__":Str))=false:=by decide) (he:starEach (e::es) X.env=(false,eval e X.env)::starEach es X.env:=by rfl) (hpl:(backTo pos (starEach es X.env)).any (·.1)=false:=by rfl) :
  QF X (.Call (.Name x p) (e::es) [] pos) (fun ρ=>gl ρ>>=fun ds=>if ds.length=n then g ds else .no):=by
 obtain ⟨f,fd,ps,F,hm,hk,hb,rfl⟩:=c.ex
 exact wS F hr hg hm hk hb ha hdb he hpl
theorem FnF.to {w:World} {K:PySem.W.Frag} {mg:Str->Option Value} {base:Heap} {g':List D->R D} (F:FnF P w K mg base k f fd ps g) (h:∀ ds,ds.length=ps.length->g' ds=.no\/g ds=g' ds):FnF P w K mg base k f fd ps g':=by
 refine F.imp fun vs H Q E ⟨hl,G,ds,sub,r,q⟩=>⟨hl,G,ds,sub,r,?_⟩
 rcases h ds (by rw [<- r.length]; exact hl) with z | z
 ·rw [z] at q; exact q.elim
 ·rw [z]; exact q
theorem Fun.callee {w:World} {K:PySem.W.Frag} {mg:Str->Option Value} {base:Heap} (F:Fun K x x st f fd) (hm:mg x=some (.ref f)) (ok:FnF P w K mg base k f fd ps g)
 (h:∀ (kV doc pm:Value) (an:Option Addr) (cdv ct:Value) (us:List Value),us.length=ps.length->bindArgs (PySem.W.fnOf x x (cN st) (bi st) (av st) .none kV doc pm an cdv ct) ⟨us,[]⟩=pure (ps.zip us)):Callee P w K mg base x k ps.length g:=
 ⟨f,fd,ps,ok,hm,F.kp,F.binds h,rfl⟩
theorem fI {T:String} {f:String->Bool} (h:∀ K:PySem.W.Frag,PySem.W.kitOne K (.type "NoneType") (.type T)=some (f "NoneType")/\PySem.W.kitOne K (.type "bool") (.type T)=some (f "bool")/\PySem.W.kitOne K (.type "int") (.type T)=some (f "int")/\
 PySem.W.kitOne K (.type "str") (.type T)=some (f "str")/\PySem.W.kitOne K (.type "tuple") (.type T)=some (f "tuple")/\PySem.W.kitOne K (.type "list") (.type T)=some (f "list")) :
  ∀ K:PySem.W.Frag,∀ t ∈ ["NoneType","bool","int","str","tuple","list"],PySem.W.kitOne K (.type t) (.type T)=some (f t):=fun K t ht=>by
 obtain ⟨h1,h2,h3,h4,h5,h6⟩:=h K
 simp only [List.mem_cons,List.mem_nil_iff,or_false] at ht
 rcases ht with rfl | rfl | rfl | rfl | rfl | rfl <;> assumption
noncomputable def isInt (t:String):Bool:=t=="int" || t=="bool"
section
variable {X:Cx} {e:Expr} {ga:Ev->R D} {p p2 pos:Pos}
theorem uv (hm:X.mg "isinstance"=none) (ha:QF X e ga) (hm2:X.mg "int"=none) (hg2:Gl X "int":=by rfl) (hg:Gl X "isinstance":=by rfl) (hs1:starEach [e,.Name "int" p2] X.env=(false,eval e X.env)::starEach [.Name "int" p2] X.env:=by rfl):QF X (.Call (.Name "isinstance" p) [e,.Name "int" p2] [] pos) (fun ρ=>ga ρ>>=iI isInt):=
 fB (T:="int") isInt (fI fun K=>⟨rfl,rfl,rfl,rfl,rfl,rfl⟩) hg hm hg2 hm2 PyProof.Rows.Boot.«int» ha hs1
theorem rC (hm:X.mg "isinstance"=none) (ha:QF X e ga) (hm2:X.mg "bool"=none) (hg2:Gl X "bool":=by rfl) (hg:Gl X "isinstance":=by rfl) (hs1:starEach [e,.Name "bool" p2] X.env=(false,eval e X.env)::starEach [.Name "bool" p2] X.env:=by rfl):QF X (.Call (.Name "isinstance" p) [e,.Name "bool" p2] [] pos) (fun ρ=>ga ρ>>=iI (·=="bool")):=
 fB (T:="bool") (·=="bool") (fI fun K=>⟨rfl,rfl,rfl,rfl,rfl,rfl⟩) hg hm hg2 hm2 PyProof.Rows.Boot.«bool» ha hs1
theorem uF (hm:X.mg "isinstance"=none) (ha:QF X e ga) (hm2:X.mg "str"=none) (hg2:Gl X "str":=by rfl) (hg:Gl X "isinstance":=by rfl) (hs1:starEach [e,.Name "str" p2] X.env=(false,eval e X.env)::starEach [.Name "str" p2] X.env:=by rfl):QF X (.Call (.Name "isinstance" p) [e,.Name "str" p2] [] pos) (fun ρ=>ga ρ>>=iI (·=="str")):=
 fB (T:="str") (·=="str") (fI fun K=>⟨rfl,rfl,rfl,rfl,rfl,rfl⟩) hg hm hg2 hm2 PyProof.Rows.Boot.«str» ha hs1
theorem qx (hm:X.mg "isinstance"=none) (ha:QF X e ga) (hm2:X.mg "tuple"=none) (hg2:Gl X "tuple":=by rfl) (hg:Gl X "isinstance":=by rfl) (hs1:starEach [e,.Name "tuple" p2] X.env=(false,eval e X.env)::starEach [.Name "tuple" p2] X.env:=by rfl):QF X (.Call (.Name "isinstance" p) [e,.Name "tuple" p2] [] pos) (fun ρ=>ga ρ>>=iI (·=="tuple")):=
 fB (T:="tuple") (·=="tuple") (fI fun K=>⟨rfl,rfl,rfl,rfl,rfl,rfl⟩) hg hm hg2 hm2 PyProof.Rows.Boot.«tuple» ha hs1
theorem qM (hm:X.mg "isinstance"=none) (ha:QF X e ga) (hm2:X.mg "list"=none) (hg2:Gl X "list":=by rfl) (hg:Gl X "isinstance":=by rfl) (hs1:starEach [e,.Name "list" p2] X.env=(false,eval e X.env)::starEach [.Name "list" p2] X.env:=by rfl):QF X (.Call (.Name "isinstance" p) [e,.Name "list" p2] [] pos) (fun ρ=>ga ρ>>=iI (·=="list")):=
 fB (T:="list") (·=="list") (fI fun K=>⟨rfl,rfl,rfl,rfl,rfl,rfl⟩) hg hm hg2 hm2 PyProof.Rows.Boot.«list» ha hs1
end
end L2
namespace L2
open PySem PySem.Spec PyProof.Rows
noncomputable def cw (ga:Ev->R D):Ev->O:=fun ρ=>(ga ρ).out ρ .rt
noncomputable def aW (g1 g2:Ev->O):Ev->O:=fun ρ=>(g1 ρ).seq g2
noncomputable def oIf (gt:Ev->R Bool) (g1 g2:Ev->O):Ev->O:=fun ρ=>(gt ρ).out ρ fun k=>if k=true then g1 ρ else g2 ρ
noncomputable def oNx:Ev->O:=fun ρ=>.nx ρ
noncomputable def iH (i:Nat) (ga:Ev->R D):Ev->O:=fun ρ=>(ga ρ).out ρ fun d=>.nx (ρ.set i (some (.val d)))
noncomputable def xA (i:Nat) (gl:Ev->R (List D)):Ev->O:=fun ρ=>(gl ρ).out ρ fun ds=>.nx (ρ.set i (some (.own ds)))
noncomputable def kP (ga:Ev->R D):Ev->O:=fun ρ=>(ga ρ).out ρ fun _=>.nx ρ
noncomputable def Eb (asg:D->Ev->R Ev) (gi:Ev->R (List D)) (g:Ev->O):Ev->O:=fun ρ=>(gi ρ).out ρ fun items=>fv asg g items ρ
noncomputable def fk (C:Addr) (gl:Ev->R (List D)):Ev->O:=fun ρ=>(gl ρ).out ρ fun _=>.ex C ρ
noncomputable def Hk (asg:D->Ev->R Ev) (ga:Ev->R D):Ev->O:=fun ρ=>(ga ρ).out ρ fun d=>(asg d ρ).out ρ .nx
noncomputable def BJ (i:Nat) (g:Ev->O):Ev->O:=fun ρ=>g (frz i ρ)
noncomputable def aP {α β:Type} (f:α->R β) (ga:Ev->R α):Ev->R β:=fun ρ=>ga ρ>>=f
noncomputable def gOf (f:List D->Option D) (gl:Ev->R (List D)):Ev->R D:=fun ρ=>gl ρ>>=fun ds=>ofO (f ds)
noncomputable def ac (ga:Ev->R D) (gl:Ev->R (List D)):Ev->R (List D):=fun ρ=>ga ρ>>=fun x=>gl ρ>>=fun xs=>.ok (x::xs)
noncomputable def bh (n:Nat) (g:List D->R D) (gl:Ev->R (List D)):Ev->R D:=fun ρ=>gl ρ>>=fun ds=>if ds.length=n then g ds else .no
noncomputable def bA (gl:Ev->R (List D)):Ev->R D:=fun ρ=>gl ρ>>=fun ds=>.ok (.lst false ds)
noncomputable def gS (gl:Ev->R (List D)):Ev->R (List D):=fun ρ=>gl ρ>>=fun ds=>if ds.length<=sizeLine then .ok ds else .no
noncomputable def gB2 (f:D->D->Option D) (ga gb:Ev->R D):Ev->R Bool:=fun ρ=>g2 f ga gb ρ>>=asB
noncomputable def gB3 (f f':D->D->Option D) (ga gb gc:Ev->R D):Ev->R Bool:=fun ρ=>g3 f f' ga gb gc ρ>>=asB
noncomputable def gBn (gt:Ev->R Bool):Ev->R Bool:=fun ρ=>gt ρ>>=fun k=>.ok (!k)
noncomputable def rf (ga:Ev->R D):Ev->R (Option Int):=fun ρ=>ga ρ>>=fun x=>asI x>>=fun i=>.ok (some i)
noncomputable def ma (T:String) (f:D->List D->Option D) (ga:Ev->R D) (gl:Ev->R (List D)):Ev->R D:=fun ρ=>ga ρ>>=fun x=>if gK T x=true then gl ρ>>=fun ds=>ofO (f x ds) else .no
theorem Callee.mono {w:World} {K:PySem.W.Frag} {mg:Str->Option Value} {base:Heap} (c:Callee P w K mg base x k n g) (k':Nat) (h:k<=k':=by decide):Callee P w K mg base x k' n g:=by
 obtain ⟨f,fd,ps,F,hm,hk,hb,e⟩:=c.ex
 exact ⟨f,fd,ps,{ F with run:=fun A outer s H args us vs Q E hr=>F.run A outer s H args us vs Q E (hr.mono h) },hm,hk,hb,e⟩
section
variable {X:Cx} {st:Stmt} {cZ body sa sb:List Stmt} {e a b c o tg:Expr} {es:List Expr} {g gs1 gs2:Ev->O} {ga gb gc:Ev->R D} {gt:Ev->R Bool} {gl:Ev->R (List D)} {pos p p2:Pos} {x:Str}
theorem wr (i:Nat) (hN:X.N.Nodup) (he:QF X e ga) (hi:X.N[i]?=some x:=by rfl) (hx:Loc X.env.scope x:=by first | exact Or.inl rfl | exact Or.inr rfl)
 (hs:swapsWithSole [.Name x p] e pos.line X.env=pure false:=by rfl) (hw:swappedStores [.Name x p] e X.env=pure none:=by rfl) (hf:X.fn x=true\/X.env.scope.names.lookup x=some .local:=by first | exact .inl rfl | exact .inr rfl) :
  QSF X (.Assign [.Name x p] e pos) (iH i ga):=uV i hN he hi hx hs hw hf
theorem oY (ha:QF X e ga) (hr:QFA X es gl) (hs:starEach (e::es) X.env=(false,eval e X.env)::starEach es X.env:=by rfl):QFA X (e::es) (ac ga gl):=vi ha hr hs
end
end L2
namespace L2
open PySem PySem.Spec PyProof.Rows
@[simp] theorem R.ok_out {α:Type} (a:α) (ρ:Ev) (k:α->O):(R.ok a).out ρ k=k a:=rfl
@[simp] theorem R.ex_out {α:Type} (C:Addr) (ρ:Ev) (k:α->O):(R.ex C:R α).out ρ k=.ex C ρ:=rfl
@[simp] theorem rQ {α:Type} (a:α):fq (R.ok a)=R.ok a:=rfl
theorem qH {gt:Ev->R Bool} {ge:Ev->R D} (p:D->Bool) (h:D->D) (tl:Ev):∀ (ds:List D) (a:Option Sl),(∀ d ∈ ds,gt (some (.val d)::tl)=.ok (p d)/\(p d=true->ge (some (.val d)::tl)=.ok (h d)))->jD gt ge ds (a::tl)=.ok ((ds.filter p).map h)
 | [],a,_=>rfl
 | d::ds,a,H=>by
  have ih:=qH p h tl ds (some (.val d)) fun x m=>H x (List.mem_cons_of_mem _ m)
  obtain ⟨e1,e2⟩:=H d (List.mem_cons_self ..)
  show (fq (gt (some (.val d)::tl))>>=fun k=>if k=true then fq (ge (some (.val d)::tl))>>=fun x=>jD gt ge ds (some (.val d)::tl)>>=fun xs=>.ok (x::xs) else jD gt ge ds (some (.val d)::tl))=_
  rw [e1,rQ,R.ok_bind,ih]
  cases q:p d with
  | true=>rw [if_pos rfl,e2 q,rQ,R.ok_bind,R.ok_bind,List.filter_cons_of_pos q]; rfl
  | false=>rw [if_neg Bool.false_ne_true,List.filter_cons_of_neg (by rw [q]; exact Bool.false_ne_true)]
theorem lh {gt:Ev->R Bool} {ge:Ev->R D} (h:D->D) (tl:Ev) (ds:List D) (a:Option Sl) (H:∀ d ∈ ds,gt (some (.val d)::tl)=.ok true/\ge (some (.val d)::tl)=.ok (h d)):jD gt ge ds (a::tl)=.ok (ds.map h):=by
 rw [qH (fun _=>true) h tl ds a fun d m=>⟨(H d m).1,fun _=>(H d m).2⟩,List.filter_eq_self.2 fun _ _=>rfl]
theorem ue (f:D->Bool):∀ ds:List D,tH (ds.map fun d=>.bl (f d))=some (ds.map f)
 | []=>rfl
 | d::ds=>by
  have ih:=ue f ds
  rw [List.map_cons,List.map_cons]
  unfold tH
  first | (rw [ih]; rfl) | (simp only [ih]; rfl) | simp [ih]
theorem nu (f:D->Bool) (k:Bool) (ds:List D):Ar [.lst k (ds.map fun d=>.bl (f d))]=some (.bl (ds.all f)):=by
 show (tH (ds.map fun d=>.bl (f d))).map _=_
 rw [ue]
 show some (D.bl ((ds.map f).all id))=_
 rw [List.all_map]; rfl
theorem wg (a b:Nat):(!decide (([b]:List Nat) < [a]))=decide (a<=b):=by
 have:(([b]:List Nat) < [a]) ↔ b < a:=by
  constructor
  ·intro h
   cases h with
   | rel h=>exact h
   | cons h=>cases h
  ·intro h; exact .rel h
 by_cases h:a<=b
 ·have h2 : ¬ ([b]:List Nat) < [a]:=fun q=>by have:=this.1 q; omega
  simp [h,h2]
 ·have h2:([b]:List Nat) < [a]:=this.2 (by omega)
  simp [h,h2]
theorem gO {N':List Str} (hk:scope.kind=.function:=by rfl)
 (h1:(∀ y ∈ scope.names,y.2 ≠ .cell)/\(∀ y ∈ scope.names,y.2=.local->scope.names.lookup y.1=some .local)/\scope.names.lookup x=some .local/\(∀ y ∈ scope.names,y.2=.free->y.1 ∈ N'.tail)/\N'.Nodup/\N'[0]?=some x/\
 ∀ y ∈ N'.tail,scope.names.lookup y=some .free/\(y,NameKind.free) ∈ scope.names:=by decide +kernel)
 (h2:N'.tail.map X.env.kindOf=N'.tail.map fun _=>some NameKind.cell:=by rfl) (h3:N'.tail=ix.map (fun (i:Nat)=>X.N.getD i Str.empty):=by rfl) (h4:ix.all (fun i=>decide (i < X.N.length))=true:=by rfl):CompOk X scope x N' ix:=by
 obtain ⟨a,b,c,d,e,f,g⟩:=h1
 refine ⟨hk,a,b,c,fun y hy h=>?_,e,f,h3,fun i hi=>?_,g⟩
 ·exact List.map_inj_left.1 h2 _ (d y hy h)
 ·exact of_decide_eq_true (List.all_eq_true.1 h4 i hi)
theorem rd0 (d:D) (ρ:Ev):rdV (some (.val d)::ρ) 0=.ok d:=rfl
theorem rd1 (a0:Option Sl) (d:D) (ρ:Ev):rdV (a0::some (.val d)::ρ) 1=.ok d:=rfl
theorem rd2 (a0 a1:Option Sl) (d:D) (ρ:Ev):rdV (a0::a1::some (.val d)::ρ) 2=.ok d:=rfl
theorem rd3 (a0 a1 a2:Option Sl) (d:D) (ρ:Ev):rdV (a0::a1::a2::some (.val d)::ρ) 3=.ok d:=rfl
theorem rd4 (a0 a1 a2 a3:Option Sl) (d:D) (ρ:Ev):rdV (a0::a1::a2::a3::some (.val d)::ρ) 4=.ok d:=rfl
theorem rd5 (a0 a1 a2 a3 a4:Option Sl) (d:D) (ρ:Ev):rdV (a0::a1::a2::a3::a4::some (.val d)::ρ) 5=.ok d:=rfl
theorem rd6 (a0 a1 a2 a3 a4 a5:Option Sl) (d:D) (ρ:Ev):rdV (a0::a1::a2::a3::a4::a5::some (.val d)::ρ) 6=.ok d:=rfl
section
variable {f:List D->R D} {ga gb gc gd:Ev->R D} {ρ:Ev}
theorem zl:bh 1 f (ac ga fun _=>.ok []) ρ=ga ρ>>=fun x=>f [x]:=by
 unfold bh ac
 cases ga ρ <;> rfl
theorem xg:bh 2 f (ac ga (ac gb fun _=>.ok [])) ρ=ga ρ>>=fun x=>gb ρ>>=fun y=>f [x,y]:=by
 unfold bh ac
 cases ga ρ <;> try rfl
 simp only [ac,R.ok_bind]
 cases gb ρ <;> rfl
theorem zf:bh 3 f (ac ga (ac gb (ac gc fun _=>.ok []))) ρ=ga ρ>>=fun x=>gb ρ>>=fun y=>gc ρ>>=fun z=>f [x,y,z]:=by
 unfold bh ac
 cases ga ρ <;> try rfl
 simp only [ac,R.ok_bind]
 cases gb ρ <;> try rfl
 simp only [R.ok_bind]
 cases gc ρ <;> rfl
end
noncomputable def At (N:List Str) (i:Nat) (x:Str):Prop:=N[i]?=some x
theorem at0 {l:List Str}:At (x::l) 0 x:=rfl
theorem at1 {l:List Str}:At (y0::x::l) 1 x:=rfl
theorem at2 {l:List Str}:At (y0::y1::x::l) 2 x:=rfl
theorem at3 {l:List Str}:At (y0::y1::y2::x::l) 3 x:=rfl
theorem at4 {l:List Str} {y3:Str}:At (y0::y1::y2::y3::x::l) 4 x:=rfl
theorem at6 {l:List Str} {y3 y4 y5:Str}:At (y0::y1::y2::y3::y4::y5::x::l) 6 x:=rfl
theorem at7 {l:List Str} {y3 y4 y5 y6:Str}:At (y0::y1::y2::y3::y4::y5::y6::x::l) 7 x:=rfl
theorem at8 {l:List Str} {y3 y4 y5 y6 y7:Str}:At (y0::y1::y2::y3::y4::y5::y6::y7::x::l) 8 x:=rfl
theorem at9 {l:List Str} {y3 y4 y5 y6 y7 y8:Str}:At (y0::y1::y2::y3::y4::y5::y6::y7::y8::x::l) 9 x:=rfl
theorem Gn {l:List Str} {y3 y4 y5 y6 y7 y8 y9:Str}:At (y0::y1::y2::y3::y4::y5::y6::y7::y8::y9::x::l) 10 x:=rfl
theorem GG {l:List Str} {y3 y4 y5 y6 y7 y8 y9 y10:Str}:At (y0::y1::y2::y3::y4::y5::y6::y7::y8::y9::y10::x::l) 11 x:=rfl
section
variable {X:Cx} {N:List Str} {i:Nat} {x:Str} {pos:Pos}
end
end L2
namespace L2
open PySem PySem.Spec PyProof.Rows
theorem A7 {ga:Ev->R D} (h:ac ga (fun _=>.ok []) ρ=.ok ds):ds.length<=1:=by
 unfold ac at h
 cases e:ga ρ with
 | ok x=>rw [e] at h; cases h; exact Nat.le_refl _
 | ex C=>rw [e] at h; cases h
 | no=>rw [e] at h; cases h
structure Ref (x:Str) (C:Addr) (mg:Str->Option Value) (base:Heap):Prop where
 ex:∃ bm B newId initId,OwnCls x C bm newId mg base/\ExcBaseFacts B newId initId bm
theorem Un.but {fs:List Addr} (hs:Heap.SameBut C h h'):Un fs [C] H H h h':=by
 have ne:∀ b,b ∉ [C]->b ≠ C:=fun b hb z=>hb (by rw [z]; exact List.mem_singleton.2 rfl)
 exact ⟨fun b o e _ _ hx=>(hs.2 b (ne b hx)).trans e,fun b o e _ _ hx=>⟨o.slots,(hs.2 b (ne b hx)).trans e⟩,fun _ _ _ n _=>n,fun b o e hx=>⟨o,(hs.2 b (ne b hx)).trans e⟩,fun _ _ e=>e,fun _ _ _ e=>e,fun _ ps e=>⟨#[],by rw [Array.append_empty]; exact e⟩⟩
section
variable {X:Cx} {elt iter:Expr} {ifs:List Expr} {x:Str} {px pos:Pos} {scope:Scope} {N':List Str} {ix:List Nat} {gi:Ev->R (List D)} {gt:Ev->R Bool} {ge:Ev->R D}
theorem rB (i:Nat) {spos:Pos} (hN:X.N.Nodup) (ok:CompOkT X scope n N' ix) (hcalm:X.calm=true) (hg:∀ C s₂ H₂ fp,PGF (bI X N' scope C s₂ H₂ fp) tgt asg) (hown:∀ d ρ ρ',asg d ρ=.ok ρ'->(NoOwn ρ)->NoOwn ρ') (hi:QIF X tgt iter gi) (he:∀ C s₂ H₂ fp,QF (bI X N' scope C s₂ H₂ fp) elt ge) (ht:∀ C s₂ H₂ fp,PTs (bI X N' scope C s₂ H₂ fp) ifs gt)
 (hni:X.N[i]?=some y:=by rfl) (hy:X.env.scope.names.lookup y=some .local:=by rfl) (hs:∀ x,foldedSetIterable iter X.env x=pure x:=by intro _; rfl)
 (hsw:swapsWith (.ListComp elt [⟨tgt,iter,ifs,0⟩] scope pos) (some (.Name y py)) spos.line X.env=pure true:=by rfl)
 {D:Ends} (I:Inv X pins σ H s) (sE:StE X.K G H σ ρ) (hq:(ml n asg gi ix gt ge ρ).post (vL X.K G H fun v H1=>D.nx (σ.set i (some v)) H1) (Exx X σ G H)) :
  wpAny (model X.prog X.w) X.A (exec (.Assign [.Name y py] (.ListComp elt [⟨tgt,iter,ifs,0⟩] scope pos) spos) X.env) (SP X pins D) X.xe s:=by
 rw [exec_Assign_Name_used _ _ _ _ hsw]
 refine wpAny_bind (wpAny_standAt (wpAny_bind ?_))
 show wpAny _ X.A (do let _ <- comprehension (.ListComp elt [⟨tgt,iter,ifs,0⟩] scope pos) scope X.env _ (newList []) false (eval iter X.env) (some (assign (.Name y py) X.env))) _ _ s
 refine wpAny_bind (wpAny_mono (wpAny_comprehension_free (use:=some (assign (.Name y py) X.env)) (Q:=fun _ s'=>SP X pins D .next s') rfl hs (fh fun z hz hz2=>I.ok.has z.1 (.inl (ok.fr z hz hz2))) ok.kind ok.names ?_) (fun _ s' hq=>wpAny_pure (wpAny_pure hq)) fun _ _ e=>e)
 have t:tG X (fun G J items=>ItOk X.K G J items) gi σ H (fun J H1=>∃ G1 items,Up G H G1 H1/\StE X.K G1 H1 σ ρ/\ItOk X.K G1 J items/\(fD asg gt ge items (bK n ix ρ)>>=fun ds=>if ds.length<=sizeLine then R.ok ds else .no).post (vL X.K G H fun v H1=>D.nx (σ.set i (some v)) H1) (Exx X σ G H)):=by
  refine ⟨G,ρ,sE,?_⟩
  unfold ml at hq
  cases e:gi ρ with
  | ok items=>rw [e] at hq; exact fun J G1 H1 u r=>⟨G1,items,u,sE.up u,r,hq⟩
  | ex C=>rw [e] at hq; exact hq
  | no=>rw [e] at hq; exact hq
 refine thn (hi pins s σ H _ I t) fun v s1 h1=>thn h1 fun itv s2 h2=>?_
 obtain ⟨it,fp,tn,J,H2,e,I2,T,st2,f2,G2,items,u2,sE2,iok,h2⟩:=h2
 subst e
 have h2':(fD asg gt ge items (bK n ix ρ)>>=fun ds=>if ds.length<=sizeLine then R.ok ds else .no).post (vL X.K G2 H2 fun v H1=>D.nx (σ.set i (some v)) H1) (Exx X σ G2 H2):=
  h2.mono (fun ds q l vs G' H' u hl r=>q l vs G' H' (u2.trans u) hl r) fun C q=>q.up u2
 refine ik (iter:=iter) (pos:=pos) (RR:=fun acc C=>compPost (model X.prog X.w) X.A X.xe (some (assign (.Name y py) X.env)) (fun _ s'=>SP X pins D .next s') acc C) ok hcalm hg hown he ht I2 T st2 f2 sE2 iok h2' ?_
 intro Dd C s' m vs G' H' up hd hCD _ q hm hos hb hC hCl un hok
 have I3:Inv X pins σ (upd H' Dd (.lst vs)) s':=I2.call' (ch:=fp) hos un hok hb fun b hb'=>by
  obtain ⟨f0,f1,f2',f3,f4,f5⟩:=f2 b hb'
  exact ⟨f3,f1,f4,f5⟩
 have lc:X.env.locals ≠ C:=Nat.ne_of_lt (Nat.lt_of_lt_of_le I2.lt hCl)
 have cc:∀ z c,X.env.cells.lookup z=some c->c ≠ C:=fun z c e=>by
  obtain ⟨v,q⟩:=I2.cell z c e
  exact Nat.ne_of_lt (Nat.lt_of_lt_of_le q.lt hCl)
 show wpAny (model X.prog X.w) X.A (assign (.Name y py) X.env (.ref Dd)) _ X.xe s'
 refine wpAny_assign_Name (gX I3 hN hni (.inl hy) (v:=.ref Dd) rfl (fun s'' I4 ⟨a,hsb,ha⟩=>?_) (.inr hy))
 have na:C ≠ a:=by
  rcases ha with rfl | ha
  ·exact lc.symm
  ·exact (cc _ _ ha).symm
 refine ⟨m,hm.sameBut hsb na,fun h' hs'=>?_⟩
 have I5:=I4.call' (s':={ s'' with heap:=h' }) (H':=upd H' Dd (.lst vs)) (ch:=[C]) rfl (Un.but hs') (I4.hok.sameBut (fun b o hbc e=>(hs'.2 b hbc).trans e) (by rw [aR hCD]; exact hC)) I4.bare fun b hb'=>by
  rw [List.mem_singleton.1 hb']
  exact ⟨.inr (Nat.le_trans I2.sz hCl),lc.symm,cc,fun p hp z=>Nat.lt_irrefl _ (Nat.lt_of_lt_of_le (z ▸ Heap.lt_size (I2.pin p hp).1) hCl)⟩
 exact ⟨_,_,I5,q⟩
theorem uB (i:Nat) {spos:Pos} (hN:X.N.Nodup) (ok:CompOkT X scope n N' ix) (hcalm:X.calm=true) (hg:∀ C s₂ H₂ fp,PGF (bI X N' scope C s₂ H₂ fp) tgt asg) (hown:∀ d ρ ρ',asg d ρ=.ok ρ'->(NoOwn ρ)->NoOwn ρ') (hi:QIF X tgt iter gi) (he:∀ C s₂ H₂ fp,QF (bI X N' scope C s₂ H₂ fp) elt ge) (ht:∀ C s₂ H₂ fp,PTs (bI X N' scope C s₂ H₂ fp) ifs gt)
 (hni:X.N[i]?=some y:=by rfl) (hy:X.env.scope.names.lookup y=some .local:=by rfl) (hs:∀ x,foldedSetIterable iter X.env x=pure x:=by intro _; rfl)
 (hsw:swapsWith (.ListComp elt [⟨tgt,iter,ifs,0⟩] scope pos) (some (.Name y py)) spos.line X.env=pure true:=by rfl) :
  QSF X (.Assign [.Name y py] (.ListComp elt [⟨tgt,iter,ifs,0⟩] scope pos) spos) (xA i (ml n asg gi ix gt ge)):=fun G₀ H₀ pins s σ H D I h=>by
 obtain ⟨G,ρ,sr,h⟩:=h
 have h:mq X G₀ H₀ D ((ml n asg gi ix gt ge ρ).out ρ fun ds=>.nx (ρ.set i (some (.own ds)))):=h
 refine rB i hN ok hcalm hg hown hi he ht hni hy hs hsw I sr.e ?_
 cases q:ml n asg gi ix gt ge ρ with
 | ok ds=>rw [q] at h; exact fun l vs G' H' u hl r=>h _ G' _ ((sr.ups u).setOwn hl r i)
 | ex C=>rw [q] at h; exact Exx.of sr h
 | no=>rw [q] at h; exact h
end
noncomputable def CQ (i:Nat) (ga:Ev->R D):Ev->O:=fun ρ=>(ownAt ρ i).out ρ fun ds=>(ga ρ).out ρ fun d=>(asL d).out ρ fun es=>if ds.length+es.length<=sizeLine then .nx (ρ.set i (some (.own (ds++es)))) else .no
noncomputable def DY (i:Nat) (ga:Ev->R D):Ev->O:=fun ρ=>(ownAt ρ i).out ρ fun ds=>(ga ρ).out ρ fun d=>if ds.length < sizeLine then .nx (ρ.set i (some (.own (ds++[d])))) else .no
noncomputable def FD (i j:Nat) (gl:Ev->R (List D)):Ev->O:=fun ρ=>(gl ρ).out ρ fun ds=>(wI [i,j] ds ρ).out ρ .nx
section
variable {X:Cx} {st:Stmt} {cZ body:List Stmt} {e c o:Expr} {es:List Expr} {g:Ev->O} {ga:Ev->R D} {gl:Ev->R (List D)} {pos p p2:Pos}
end
structure Errs (K:PySem.W.Frag) (mg:Str->Option Value) (rs:List Addr) (ts:List (Str × Addr)):Prop where
 na:∀ t ∈ ts,mg t.1=some (.ref t.2)
 ec:∀ r ∈ rs,ExcCls K r
 kit:∀ r ∈ rs,∀ t ∈ ts,PySem.W.kitOne K (.ref r) (.ref t.2)=some (r==t.2)
 ve:∀ r ∈ rs,PySem.W.kitOne K (.ref r) (.type "ValueError")=some true
 le:∃ L,mg "LineError"=some (.ref L)/\∀ r ∈ rs,PySem.W.exmOne K (.ref r) (.ref L)=some true
noncomputable def nB (rs:List Addr) (T C:Addr):Option Bool:=if C ∈ rs then some (C==T) else none
noncomputable def oC (rs:List Addr) (C:Addr):Option Bool:=if C ∈ rs then some true else none
section
variable {X:Cx} {e:Expr} {ga:Ev->R D} {p p2 pos:Pos} {rs:List Addr} {ts:List (Str × Addr)}
end
section
variable {X:Cx} {e:Expr} {ga:Ev->R D} {p p2 pos:Pos} {rs:List Addr} {ts:List (Str × Addr)}
end
section
variable {CX:CXT} {P:Program} {w:World} {K:PySem.W.Frag} {mg:Str->Option Value} {base:Heap} {N:List Str} {i:Nat} {x:Str} {qual:Str} {scope:Scope} {f a:Addr} {cdv:Value} {A:Around} {outer:List Env} {s:Shared} {H:Hp} {E:XK} {pn:List (Addr × Obj)} {xe:Value->Shared->Prop} {pos p:Pos} {e:Expr} {ga:Ev->R D}
end
section
variable {X:Cx} {body suite:List Stmt} {b₀:Stmt} {gb gs:Ev->O} {pos hp tp:Pos} {nm:Str} {rs:List Addr} {ts:List (Str × Addr)}
end
end L2
namespace L2
open PySem PySem.Spec PyProof.Rows
noncomputable def fl:Nat->D->Bool
 | 0,_=>false
 | n+1,.tup xs=>xs.all (fl n)
 | _+1,.lst _ _=>false
 | _+1,.exc _=>false
 | _+1,_=>true
theorem StR.peek {K:PySem.W.Frag} {H₀:Hp} (s:StR K G₀ H₀ G H σ ρ) (i:Nat):∃ G1,StE K G1 H σ (L2.frz i ρ)/\
  ∀ G' H',Up G1 H G' H'->∃ G2,Up G H G2 H'/\∀ a o,G' a=some o->(∀ vs,o ≠ HO.lst vs)->G2 a=some o:=by
 obtain ⟨G1,sr,e | ⟨l,vs,hl,e⟩⟩:=s.frzTo i
 ·subst e
  exact ⟨G1,sr.e,fun G' H' u=>⟨G',u,fun a o q _=>q⟩⟩
 ·subst e
  refine ⟨_,sr.e,fun G' H' u=>⟨fun a=>if a=l then none else G' a,⟨fun a o q=>?_,fun a o q=>?_,u.hh,fun a o q=>?_⟩,fun a o q hq=>?_⟩⟩
  ·have q:(if a=l then none else G' a)=some o:=q
   split at q
   ·cases q
   ·exact u.sub a o q
  ·have ne:a ≠ l:=fun z=>by subst z; rw [hl] at q; cases q
   show (if a=l then none else G' a)=some o
   rw [if_neg ne]
   exact u.gg a o (by rw [aR ne]; exact q)
  ·have q:(if a=l then none else G' a)=some o:=q
   split at q
   ·cases q
   ·rename_i ne
    rcases u.fr a o q with z | z
    ·rw [aR ne] at z; exact .inl z
    ·exact .inr z
  ·have ne:a ≠ l:=fun z=>by
    subst z
    have:=u.gg a _ bf
    rw [q] at this
    cases this
    exact hq vs rfl
   show (if a=l then none else G' a)=some o
   rw [if_neg ne]; exact q
section
variable {X:Cx} {st:Stmt} {cZ body a b:List Stmt} {e c tg:Expr} {g g1 g2:Ev->O} {ga gb:Ev->R D} {gt:Ev->R Bool} {gl:Ev->R (List D)} {pos:Pos}
noncomputable def ES (i:Nat) (gt:Ev->R Bool) (g1 g2:Ev->O):Ev->O:=fun ρ=>(fq (gt (frz i ρ))).out ρ fun k=>if k=true then g1 ρ else g2 ρ
noncomputable def FI (j i:Nat) (ga:Ev->R D):Ev->O:=fun ρ=>(fq (ga (frz j ρ))).out ρ fun d=>if fl 10 d=true then .nx (ρ.set i (some (.val d))) else .no
noncomputable def EV (j i:Nat) (ga:Ev->R D):Ev->O:=fun ρ=>(ownAt ρ i).out ρ fun ds=>(fq (ga (frz j ρ))).out ρ fun d=>if ds.length < sizeLine/\fl 10 d=true then .nx (ρ.set i (some (.own (ds++[d])))) else .no
noncomputable def FQ (i:Nat) (gk ga:Ev->R D):Ev->O:=fun ρ=>(ownAt ρ i).out ρ fun ds=>(fq (ga (frz i ρ))).out ρ fun d=>(fq (gk (frz i ρ)>>=asI)).out ρ fun k=>match ixN ds.length k with
 | some n=>if fl 10 d=true then .nx (ρ.set i (some (.own (ds.set n d)))) else .no
 | none=>.no
noncomputable def Hf:D->R (List D)
 | .lst _ xs=>.ok xs
 | .tup xs=>.ok xs
 | _=>.no
noncomputable def Ea:List D->R (List D)
 | [d]=>Hf d
 | _=>.no
noncomputable def Ep (gl:Ev->R (List D)):Ev->R (List D):=fun ρ=>gl ρ>>=Ea
end
end L2
namespace L2
open PySem PySem.Spec PyProof.Rows PySem.W
section
variable {X:Cx} {pins:List (Addr × Obj)} {σ:St} {G H:Hp} {s:Shared} {A:Around} {E:Value->Shared->Prop} {Q:Value->Shared->Prop}
end
section
variable {X:Cx} {e:Expr} {ga:Ev->R D} {p p2 p3 p4 pos:Pos} {k:Nat}
end
noncomputable def fu:List D->Option (List (List Nat))
 | []=>some []
 | .str x::ds=>(fu ds).map (x::·)
 | _=>none
noncomputable def rl (sep:List Nat):List (List Nat)->List Nat
 | []=>[]
 | [x]=>x
 | x::y::r=>x++sep++rl sep (y::r)
noncomputable def xB:D->List D->Option D
 | .str s,[.lst _ ds]=>match fu ds with
  | some xs=>if (xs.map List.length).sum+xs.length * s.length<=sizeLine then some (.str (rl s xs)) else none
  | none=>none
 | _,_=>none
theorem Reps.strs {K:PySem.W.Frag}:∀ {vs:List V} {ds:List D} {xs:List (List Nat)},Reps K G vs ds->fu ds=some xs->∃ ys:List Str,vs=ys.map V.str/\ys.map (fun y=>y.cps.toList)=xs
 | _,_,_,.nil,h=>by cases h; exact ⟨[],rfl,rfl⟩
 | _,_,xs,.cons (d:=d) r t,h=>by
  cases d <;> first | (cases h; done) | skip
  rename_i x
  rename_i ds'
  cases q:fu ds' with
  | none=>simp [fu,q] at h
  | some zs=>
   simp [fu,q] at h
   obtain ⟨ys,e1,e2⟩:=Reps.strs t q
   obtain ⟨y,rfl,ey,_⟩:=r.str_inv
   exact ⟨y::ys,by rw [e1]; rfl,by rw [List.map_cons,e2,ey]; exact h⟩
theorem Vals.strs:∀ {ys:List Str} {us:List Value},Vals (ys.map V.str) us->StrsAre us ys
 | [],_,h=>by cases h; exact .nil
 | y::ys,_,h=>by
  cases h with
  | cons a b=>
   obtain ⟨t,rfl⟩:=a
   exact .cons y t (Vals.strs b)
theorem oW (s:Str):∀ ys:List Str,(Txt.join s ys).cps.toList=rl s.cps.toList (ys.map fun y=>y.cps.toList):=by
 intro ys
 show (Builtin.Str.glued s ys).cps.toList=_
 rw [StrLaws.glued_eq_join]
 induction ys with
 | nil=>rfl
 | cons y r ih=>
  cases r with
  | nil=>rfl
  | cons z r=>
   show (y++s++Str.join s (z::r)).cps.toList=_
   rw [Str.app_list,Str.app_list,ih]; rfl
theorem jt (s:List Nat):∀ xs:List (List Nat),(rl s xs).length<=(xs.map List.length).sum+xs.length * s.length
 | []=>by simp [rl]
 | [x]=>by simp [rl]
 | x::y::r=>by
  have:=jt s (y::r)
  simp only [rl,List.length_append,List.map_cons,List.sum_cons,List.length_cons,Nat.succ_mul] at this ⊢
  omega
noncomputable def D5 (K:PySem.W.Frag):V->List V->Hp->VK->Prop:=fun x vs H Q=>∃ (y:Str) (p:Addr) (ys:List Str),x=.str y/\vs=[.ref p]/\SqL K H p (ys.map V.str)/\(ys.map (·.length)).sum+ys.length * y.length<=16777216/\Q (.str (Txt.join y ys)) H
theorem Af:MtR X "str.join" (D5 X.K):=by
 intro pins s σ H x xs v us Q I rx rv ⟨y,p,ys,ex,exs,hl,hz,q⟩
 subst ex exs
 obtain ⟨t,rfl⟩:=rx
 obtain ⟨u,rfl,r1⟩:=rv.one
 cases r1
 obtain ⟨its,rvs,pl,_⟩:=I.list hl
 exact join_list pl.isList (Vals.strs (by simpa using rvs)) hz fun t' k=>⟨.str _,H,I.tok _,⟨_,rfl⟩,q⟩
theorem Bn (K:PySem.W.Frag):BG K "str" (D5 K) xB:=by
 intro G H x xs dx ds d Q s rx rs e q
 unfold xB at e
 split at e
 ·split at e
  ·rename_i zs hz
   split at e
   ·rename_i hle
    cases e
    obtain ⟨v,rfl,r1⟩:=rs.one
    obtain ⟨y,rfl,ey,hy⟩:=rx.str_inv
    obtain ⟨a,vs,rfl,hs,rr⟩:=r1.seq_inv
    obtain ⟨ys,e1,e2⟩:=rr.strs hz
    subst e1
    subst e2
    subst ey
    have hle':(ys.map (·.length)).sum+ys.length * y.length<=16777216:=by
     have e3:(ys.map fun y=>y.cps.toList).map List.length=ys.map (·.length):=by
      rw [List.map_map]; exact List.map_congr_left fun z _=>Str.len_list z
     rw [e3,List.length_map,Str.len_list] at hle
     exact hle
    refine ⟨y,a,ys,rfl,rfl,hs.mono s,hle',q _ G H (.refl s) (.strL (oW y ys) ?_)⟩
    exact Nat.le_trans (jt _ _) hle
   ·cases e
  ·cases e
 ·cases e
noncomputable def nH:List D->Option (List Int)
 | []=>some []
 | .int i::ds=>(nH ds).map (i::·)
 | _=>none
theorem Reps.nums {K:PySem.W.Frag}:∀ {vs:List V} {ds:List D} {ns:List Int},Reps K G vs ds->nH ds=some ns->vs=ns.map V.int
 | _,_,_,.nil,h=>by cases h; rfl
 | _,_,ns,.cons (d:=d) r t,h=>by
  cases d <;> first | (cases h; done) | skip
  rename_i x
  rename_i ds'
  cases q:nH ds' with
  | none=>simp [nH,q] at h
  | some zs=>
   simp [nH,q] at h
   subst h
   rw [Reps.nums t q,r.int_inv]; rfl
section
variable {X:Cx}
end
end L2
namespace L2
open PySem PySem.Spec PyProof.Rows
open Sem (wp)
open AutoSeq1 (wpAny_loadPart')
section
variable {prog:Program} {w:World} {A:Around} {E:Value->Shared->Prop} {s:Shared}
end
section
variable {prog:Program} {w:World} {A:Around} {E:Value->Shared->Prop} {s:Shared}
end
section
variable {P:Program} {w:World} {K:PySem.W.Frag} {elts:List Expr} {kt:Nat} {tp:Pos}
structure Inner (P:Program) (w:World) (K:PySem.W.Frag) (sq:Hp->List V->Prop) (a it:Addr) (iter:Nat->Heap->Prop):Prop where
 obj:∀ i h,iter i h->∃ o,h.get? it=some o/\∀ v,o.data ≠ .cell v
 at_:∀ i h h',iter i h->(∀ o,h.get? it=some o->h'.get? it=some o)->iter i h'
 inj:∀ (X:Cx),X.K=K->∀ (pins:List (Addr × Obj)) (σ:St) (H:Hp) (s:Shared) xs ys,Inv X pins σ H s->sq H xs->sq H ys->xs=ys
 dr:∀ (X:Cx),X.prog=P->X.w=w->X.K=K->X.calm=true->∀ (pins:List (Addr × Obj)) (σ:St) (H:Hp) (s:Shared) (xs:List V) (c:Nat),Inv X pins σ H s->sq H xs->(∀ i,iter i s.heap->a ≠ it)->
  ∃ its:List Value,Vals xs its/\xs.length<=sizeLine/\∃ (Pd:Nat->Value->Prop) (St:Nat->Heap->Prop),Draws P w X.A.in1 it [it,a] (c+its.length) Pd St/\(∀ k v,Pd (c+k) v->its[k]?=some v)/\
   (∀ k h,iter k h->(∀ o,s.heap.get? a=some o->h.get? a=some o)->a ≠ it->St (c+k) h)/\∀ k h,St (c+k) h->iter k h
 fin:∀ (X:Cx),X.prog=P->X.w=w->X.K=K->X.calm=true->∀ (pins:List (Addr × Obj)) (σ:St) (H:Hp) (s:Shared) (xs:List V) (i:Nat) (Q:Value->Shared->Prop) (E:Value->Shared->Prop),Inv X pins σ H s->sq H xs->xs.length<=i->iter i s.heap->
  (∀ h' x,Heap.ExtBut it s.heap h'->(∃ o,h'.get? x=some o/\o.cls=.type "StopIteration")->E (.ref x) { s with heap:=h' })->wpAny (model P w) X.A.in1 (Builtin.SmallTypes.nextOf (.ref it)) Q E s
end
end L2
namespace L2
open PySem PySem.Spec PyProof.Rows
noncomputable def yO (c:Nat) (xs:List D):List D:=(List.range xs.length).map fun i=>.tup [.int ((c+i:Nat):Int),xs.getD i .non]
section
variable {X:Cx} {pins:List (Addr × Obj)} {σ:St} {H:Hp} {s:Shared} {elts:List Expr} {kt:Nat} {tp:Pos} {Rr:It->Hp->Prop}
end
noncomputable def zg:D->D->R (List D)
 | .tup xs,.int c=>if 0<=c/\c < 1073741824 then .ok (yO c.toNat xs) else .no
 | _,_=>.no
section
variable {X:Cx} {a b:Expr} {ga gb:Ev->R D} {elts:List Expr} {kt:Nat} {p pos tp kp:Pos}
noncomputable def Cd (ga gb:Ev->R D):Ev->R (List D):=fun ρ=>ga ρ>>=fun x=>gb ρ>>=fun c=>zg x c
end
end L2
namespace L2
open PySem PySem.Spec PyProof.Rows
section
variable {X:Cx} {elt iter tgt:Expr} {ifs:List Expr} {pos:Pos} {scope:Scope} {n:Nat} {N':List Str} {ix:List Nat} {asg:D->Ev->R Ev} {gi:Ev->R (List D)} {gt:Ev->R Bool} {ge:Ev->R D}
end
noncomputable def BM:List D->Option D
 | [.lst _ ds]=>match nH ds with
  | some ns=>some (.int ns.sum)
  | none=>none
 | [.tup ds]=>match nH ds with
  | some ns=>some (.int ns.sum)
  | none=>none
 | _=>none
theorem Vals.ints:∀ {ns:List Int} {its:List Value},Vals (ns.map V.int) its->IntsAre its ns
 | [],_,.nil=>.nil
 | n::ns,_,.cons r t=>by
  obtain ⟨tk,rfl⟩:=r
  exact .cons n tk (Vals.ints t)
section
variable {X:Cx}
theorem pi {ns:List Int} (rv:Vals (ns.map V.int) its):∃ xs:Array (Int × Tok),its.toArray=intItems xs/\preSum (numAt xs) xs.size=ns.sum:=by
 have hi:=Vals.ints rv
 obtain ⟨xs,hx⟩:=hi.allInts.items
 have e1:ns=xs.toList.map (·.1):=by
  rw [<- nums_intItems,<- hx]
  exact (show numsOf its.toArray.toList=ns from hi.numsOf).symm
 exact ⟨xs,hx,by rw [preSum_eq,List.take_of_length_le (by simp),e1]⟩
theorem wx (hc:X.calm=true):kK X (.builtin "sum") (fun xs H Q=>∃ p,∃ ns:List Int,xs=[.ref p]/\(SqL X.K H p (ns.map V.int)\/SqT X.K H p (ns.map V.int))/\Q (.int ns.sum) H):=by
 intro pins s σ H xs us Q I r ⟨p,ns,ex,hs,q⟩
 subst ex
 obtain ⟨u,rfl,r1⟩:=r.one
 cases r1
 rcases hs with hs | hs
 ·obtain ⟨its,rv,pl,hz⟩:=I.list hs
  obtain ⟨xs,hx,e2⟩:=pi rv
  refine sum_intListG (I.ok.hd hc) (hx ▸ pl.isList) fun h' tk t' hk=>?_
  rw [e2]
  exact ⟨.int _,H,I.kept (t':=tk) hk,⟨_,rfl⟩,q⟩
 ·obtain ⟨its,rv,pl,hz⟩:=I.tuple hs
  obtain ⟨xs,hx,e2⟩:=pi rv
  have ht:s.heap.IsTuple p its.toArray:=pl
  refine PySem.W.ktm_sumG (I.ok.hd hc) (hx ▸ ht) fun h' tk t' hk=>?_
  rw [e2]
  exact ⟨.int _,H,I.kept (t':=tk) hk,⟨_,rfl⟩,q⟩
theorem Aq (K:PySem.W.Frag):Ed K (fun xs H Q=>∃ p,∃ ns:List Int,xs=[.ref p]/\(SqL K H p (ns.map V.int)\/SqT K H p (ns.map V.int))/\Q (.int ns.sum) H) BM:=by
 intro G H xs ds d Q s r e q
 unfold BM at e
 split at e
 ·split at e
  ·rename_i ns hn
   cases e
   obtain ⟨v,rfl,r1⟩:=r.one
   obtain ⟨a,vs,rfl,hs,rr⟩:=r1.seq_inv
   obtain rfl:=rr.nums hn
   exact ⟨a,ns,rfl,.inl (hs.mono s),q _ G H (.refl s) (.int _)⟩
  ·cases e
 ·split at e
  ·rename_i ns hn
   cases e
   obtain ⟨v,rfl,r1⟩:=r.one
   obtain ⟨a,vs,rfl,hs,rr⟩:=r1.tup_inv
   obtain rfl:=rr.nums hn
   exact ⟨a,ns,rfl,.inr (hs.mono s),q _ G H (.refl s) (.int _)⟩
  ·cases e
 ·cases e
end
noncomputable def Eu (i j:Nat) (ga:Ev->R D) (gl:Ev->R (List D)):Ev->O:=fun ρ=>(ga ρ).out ρ fun d=>(gl ρ).out ρ fun ds=>.nx ((ρ.set i (some (.val d))).set j (some (.own ds)))
section
variable {X:Cx} {ga:Ev->R D} {gl:Ev->R (List D)} {pos:Pos}
end
end L2
namespace L2
open PySem PySem.Spec PyProof.Rows
section
variable {P:Program} {w:World} {K:PySem.W.Frag} {elts:List Expr} {kt:Nat} {tp:Pos}
end
section
variable {X:Cx} {a b:Expr} {gl:Ev->R (List D)} {elts:List Expr} {kt:Nat} {p pos tp:Pos}
end
end L2
namespace L2
open PySem PySem.Spec PyProof.Rows
noncomputable def Ec:D->D->R D
 | .str x,.int k=>if k = -1 then .ok (.str x.reverse) else .no
 | .lst _ xs,.int k=>if k = -1 then .ok (.lst false xs.reverse) else .no
 | _,_=>.no
noncomputable def Gr (ga gs:Ev->R D):Ev->R D:=fun ρ=>ga ρ>>=fun x=>gs ρ>>=fun k=>Ec x k
section
variable {X:Cx} {a st:Expr} {ga gs:Ev->R D} {pos p2:Pos}
end
end L2
namespace L2
open PySem PySem.Spec PyProof.Rows
noncomputable def ud (gt:Ev->R Bool) (g:Ev->O):Nat->Ev->O
 | 0,_=>.no
 | n+1,ρ=>(gt ρ).out ρ fun k=>if k=true then (match g ρ with
  | .nx ρ2=>ud gt g n ρ2
  | .ct ρ2=>ud gt g n ρ2
  | .bk ρ2=>.nx ρ2
  | .rt d=>.rt d
  | .re d ρ2=>.re d ρ2
  | .ex C ρ2=>.ex C ρ2
  | .no=>.no) else .nx ρ
noncomputable def Cv (n:Nat) (gt:Ev->R Bool) (g:Ev->O):Ev->O:=fun ρ=>ud gt g n ρ
section
variable {X:Cx} {c e:Expr} {body:List Stmt} {gt:Ev->R Bool} {g:Ev->O} {ga:Ev->R D} {pos:Pos}
end
end L2
namespace L2
open PySem PySem.Spec PyProof.Rows
noncomputable def wf (gs:List (Ev->R D)) (ρ:Ev):D->R D
 | .int i=>if 0<=i then (match gs[i.toNat]? with
  | some g=>g ρ
  | none=>.no) else .no
 | _=>.no
noncomputable def E0 (gs:List (Ev->R D)) (gi:Ev->R D):Ev->R D:=fun ρ=>gi ρ>>=wf gs ρ
theorem DK {gi:Ev->R D}:E0 gs gi ρ=gi ρ>>=wf gs ρ:=rfl
theorem C9 {g:Ev->R D}:wf (g::gs) ρ (.int 0)=g ρ:=rfl
theorem DS {f g:Ev->R D}:wf (f::g::gs) ρ (.int 1)=g ρ:=rfl
noncomputable def inD (x:D):List D->Option Bool
 | []=>some false
 | y::ys=>(eqD 40 y x).bind fun k=>if k=true then some true else inD x ys
noncomputable def inF:D->D->Option D
 | x,.lst _ ys=>if inD x ys=some false then some (.bl false) else none
 | _,_=>none
section
variable {X:Cx} {a b ix e:Expr} {es:List Expr} {ga gb gi:Ev->R D} {gl:Ev->R (List D)} {pos p1 p2 pl sp:Pos}
end
end L2
namespace L2
open PySem PySem.Spec PyProof.Rows
section
variable {X:Cx} {a b:Expr} {ga gb:Ev->R D} {pos:Pos}
structure KTup (K:PySem.W.Frag) (c:Addr) (ls:List (List Nat)):Prop where
 ex:∃ (o:Obj) (its:Array Value) (n:Nat) (vs:List V),K.lookup c=some o/\o.cls=.type "tuple"/\o.data=.seq its n/\its.size<=sizeLine/\Vals vs its.toList/\∀ G,Reps K G vs (ls.map .str)
end
end L2
namespace L2
open PySem PySem.Spec PyProof.Rows
noncomputable def FN (n:Nat):List Nat:=(Nat.toDigits 10 n).map Char.toNat
theorem oE {i:Int} (h0:0<=i) (h1:i < 10000000000):i.natAbs.log2 < 1920:=by
 by_cases h:i.natAbs=0
 ·rw [h]; decide
 ·refine (Nat.log2_lt h).2 (Nat.lt_of_lt_of_le (show i.natAbs < 2 ^ 34 by omega) (Nat.pow_le_pow_right (by decide) (by decide)))
theorem tB {i:Int} (h0:0<=i):(Str.ofString (toString i)).cps.toList=FN i.toNat:=by
 obtain ⟨m,rfl⟩:=Int.eq_ofNat_of_zero_le h0
 exact PySem.W.KIN.signs_num m
theorem Ab {i:Int} (h0:0<=i) (h1:i < 10000000000):(FN i.toNat).length<=sizeLine:=by
 rw [<- tB h0,Str.len_list]; exact int_text_fits (oE h0 h1)
section
variable {X:Cx} {a b c e e1 e2 e3 e4 e5:Expr} {ga gb gc g1 g2' g3' g4 g5:Ev->R D} {gl:Ev->R (List D)} {pos p:Pos}
noncomputable def AK:D->R D
 | .int i=>if 0<=i/\i < 10000000000 then .ok (.str (FN i.toNat)) else .no
 | .str x=>.ok (.str x)
 | _=>.no
noncomputable def ky:List (Ev->R D)->List Nat->Ev->R D
 | [],out=>fun _=>.ok (.str out)
 | g::gs,out=>fun ρ=>g ρ>>=fun d=>match d with
  | .str x=>if (out++x).length<=sizeLine then ky gs (out++x) ρ else .no
  | _=>.no
noncomputable def yI (gs:List (Ev->R D)):Ev->R D:=ky gs []
theorem wA {out:Str} {Q:VK} (I:Inv X pins σ H s) (st:StE X.K G H σ ρ) (hz:out.length<=sizeLine)
 (h:(ky [] out.cps.toList ρ).post (Fin G H (Rep X.K) Q) (Exx X σ G H)):wpAny (model X.prog X.w) X.A (joinParts out []) (EP X pins σ Q) X.xe s:=
 joinParts_nil ⟨.str _,H,I.tok _,⟨_,rfl⟩,h _ G H (.refl st.sub) (.str out hz)⟩ hz
theorem fK {out:Str} {Q:VK} {cZ:List (Sem Value)} (he:QF X e ga) (I:Inv X pins σ H s) (st:StE X.K G H σ ρ)
 (h:(ky (ga::gs) out.cps.toList ρ).post (Fin G H (Rep X.K) Q) (Exx X σ G H))
 (k:∀ (out':Str) (s1:Shared) (H1 G1:Hp),Inv X pins σ H1 s1->StE X.K G1 H1 σ ρ->out'.length<=sizeLine->(ky gs out'.cps.toList ρ).post (Fin G1 H1 (Rep X.K) Q) (Exx X σ G1 H1)->wpAny (model X.prog X.w) X.A (joinParts out' cZ) (EP X pins σ Q) X.xe s1) :
  wpAny (model X.prog X.w) X.A (joinParts out (eval e X.env::cZ)) (EP X pins σ Q) X.xe s:=by
 refine joinParts_cons (thn (he pins s σ H (fun v H1=>∃ G1 d,StE X.K G1 H1 σ ρ/\Rep X.K G1 v d/\(match d with
  | .str x=>if (out.cps.toList++x).length<=sizeLine then ky gs (out.cps.toList++x) ρ else .no
  | _=>.no:R D).post (Fin G1 H1 (Rep X.K) Q) (Exx X σ G1 H1)) I ?_) fun u s1 ⟨v,H1,I1,r1,q1⟩=>?_)
 ·exact tG.intro st h fun d v G1 H1 u1 st1 r1 h1=>⟨G1,d,st1,r1,h1⟩
 ·obtain ⟨G1,d,st1,rr,h1⟩:=q1
  split at h1
  ·split at h1
   ·rename_i hc
    obtain ⟨y,rfl,ey,hy⟩:=rr.str_inv
    obtain ⟨t,rfl⟩:=r1
    subst ey
    have e1:(out++y).cps.toList=out.cps.toList++y.cps.toList:=Str.app_list ..
    have e2:(out++y).length<=sizeLine:=by rw [<- Str.len_list,e1]; exact hc
    exact ⟨e2,k _ s1 H1 G1 I1 st1 e2 (by rw [e1]; exact h1)⟩
   ·exact h1.elim
  ·exact h1.elim
end
end L2
namespace L2
open PySem PySem.Spec PyProof.Rows
section
variable {X:Cx} {a b c e:Expr} {ga:Ev->R D} {gl:Ev->R (List D)} {pos p:Pos} {tg:Expr}
end
end L2
namespace L2
open PySem PySem.Spec PyProof.Rows
noncomputable def FG (j i:Nat) (gl:Ev->R (List D)):Ev->O:=fun ρ=>(fq (gl (frz j ρ))).out ρ fun ds=>if ds.all (fl 10)=true then .nx (ρ.set i (some (.own ds))) else .no
section
variable {X:Cx} {elt iter:Expr} {ifs:List Expr} {x:Str} {px pos:Pos} {scope:Scope} {N':List Str} {ix:List Nat} {gi:Ev->R (List D)} {gt:Ev->R Bool} {ge:Ev->R D}
end
end L2
namespace L2
open PySem PySem.Spec PyProof.Rows
section
variable {prog:Program} {w:World} {A:Around} {E:Value->Shared->Prop} {s:Shared}
structure Z3 (z TI TO i1 i2 i3 l1 l2 l3:Addr):Prop where
 nd:[z,TI,TO,i1,i2,i3].Nodup
 ap:∀ l ∈ [l1,l2,l3],l ∉ [z,TO,i1,i2,i3]
end
section
variable {P:Program} {w:World} {K:PySem.W.Frag} {elts:List Expr} {kt:Nat} {tp:Pos}
end
section
variable {X:Cx} {a b c:Expr} {gl:Ev->R (List D)} {elts:List Expr} {kt:Nat} {p pos tp:Pos}
end
end L2
namespace L2
open PySem PySem.Spec PyProof.Rows
section
variable {X:Cx} {a b e:Expr} {ga gb:Ev->R D} {gl:Ev->R (List D)} {pos p:Pos}
end
end L2
namespace L2
open PySem PySem.Spec PyProof.Rows
noncomputable def ti (asg:D->Ev->R Ev) (gt:Ev->R Bool) (ge:Ev->R D):List D->Ev->R (List D)
 | [],_=>.ok []
 | d::ds,ρ=>fq (asg d ρ)>>=fun ρ1=>fq (gt ρ1)>>=fun k=>if k=true then ge ρ1>>=fun x=>ti asg gt ge ds ρ1>>=fun xs=>.ok (x::xs) else ti asg gt ge ds ρ1
noncomputable def D9 (gi:Ev->R (List D)) (ix:List Nat) (gt:Ev->R Bool) (ge:Ev->R D):Ev->R (List D):=fun ρ=>gi ρ>>=fun items=>if items.length<=sizeLine then ti (vt 0) gt ge items (lF ix ρ) else .no
section
variable {X:Cx} {elt iter:Expr} {ifs:List Expr} {x:Str} {px pos:Pos} {scope:Scope} {N':List Str} {ix:List Nat} {gi:Ev->R (List D)} {gt:Ev->R Bool} {ge:Ev->R D}
end
end L2
namespace L2
open PySem PySem.Spec PyProof.Rows
section
variable {X:Cx} {a b c e ix:Expr} {es:List Expr} {ga gb gi:Ev->R D} {gl:Ev->R (List D)} {pos p p1 p2 p3 pl sp:Pos}
noncomputable def Dl (c:Nat):List Nat->Option (List Nat × List Nat)
 | []=>none
 | d::r=>if d=c then some ([],r) else (Dl c r).map fun p=>(d::p.1,p.2)
noncomputable def AR (c:Nat) (x:List Nat):List Nat × List Nat × List Nat:=match Dl c x with
 | some (p,q)=>(p,[c],q)
 | none=>(x,[],[])
noncomputable def EG:D->List D->Option D
 | .str x,[.str [c]]=>if x.length<=10000 then some (.tup [.str (AR c x).1,.str (AR c x).2.1,.str (AR c x).2.2]) else none
 | _,_=>none
theorem DP {f g h:Ev->R D}:wf (f::g::h::gs) ρ (.int 2)=h ρ:=rfl
end
end L2
namespace L2
open PySem PySem.Spec PyProof.Rows
theorem Fe {w:World} {K:PySem.W.Frag} {mg:Str->Option Value} {base:Heap} {dV kV ct:Value}
 {N:List Str} {A:Around} {outer:List Env} {args:Args} {Q:VK} {E:XK} {t:TS} (lk:K.lookup f=some ⟨oc,od,.func (PySem.W.fnOf name qual params body scope dV kV doc pm an cdv ct),osl⟩) (hcd:PySem.W.codeIn K cdv qual=true) (S:FnScope N ps scope)
 (hl:vs.length=ps.length) (hr:Room (k+1) A) (e0:Env0 P w K mg base A outer s H) (hb:BindsTo s (PySem.W.fnOf name qual params body scope dV kV doc pm an cdv ct) args (ps.zip us)) (r:Vals vs us)
 (ht:PSs (cD CX P w K mg base N qual scope f cdv A outer s H E) body t) (hq:t { nx:=fun _ H'=>Q .non H',rt:=Q } (eF N vs) H) :
  codeAny (model P w) A (.call (.ref f) args) (CR CX outer P w H s Q E) s:=by
 have KX:K.In s.heap:=e0.mod.kin.keeps fun b o e=>(e0.bs b o e).1
 have lim:s.heap.NoLimit:=e0.mod.nolimit.keeps fun b o e=>(e0.bs b o e).1
 have hkind:∀ y ∈ ps.zip us,scope.names.lookup y.1=some .local\/(scope.names.lookup y.1=some .cell/\((cellsFrom (s.heap.objs.size+1) scope.names []).lookup y.1).isSome=true):=fun ⟨n,v⟩ hy=>by
  rcases S.par n (List.of_mem_zip hy).1 with q | q
  ·exact .inl q
  ·exact .inr ⟨q,PySem.W.cellsFrom_some _ _ _ (.inl q)⟩
 refine codeAny_call_function hr.depth (KX _ _ lk) rfl S.co S.gen rfl (PySem.W.codeRec_of KX hcd) (hb _ _ _ _ ?_)
 refine wpAny_newFunctionEnv_cells S.kind hkind fun env he s1 x=>?_
 subst he
 refine ⟨lim.keeps x.toInCall.keep,codeAny_func ?_⟩
 have I:Inv (cD CX P w K mg base N qual scope f cdv A outer s H E) [] (eF N vs) H s1:=lm S hr.hd e0 hl r x
 refine wpAny_mono (ht [] s1 (eF N vs) H _ I hq) (fun fl s' hs=>?_) fun e s' hs=>hs
 have fin:∀ {σ':St} {H':Hp} {v:V} {u:Value},Inv (cD CX P w K mg base N qual scope f cdv A outer s H E) [] σ' H' s'->RelV v u->Q v H'->CE outer P w H s Q u s':=
  fun {σ' H' v u} J rv q=>⟨v,H',J.os,J.bare,J.base,J.hok,rv,q⟩
 cases fl with
 | ret u=>
  obtain ⟨v,σ',H',J,rv,q⟩:=hs
  exact fin J rv q
 | next=>
  obtain ⟨σ',H',J,q⟩:=hs
  exact fin (v:=V.non) (u:=Value.none) J rfl q
 | brk=>
  obtain ⟨_,_,_,q⟩:=hs
  exact False.elim q
 | cont=>
  obtain ⟨_,_,_,q⟩:=hs
  exact False.elim q
noncomputable abbrev pB (P:Program) (w:World) (K:PySem.W.Frag) (mg:Str->Option Value) (base:Heap) (N:List Str) (qual:Str) (scope:Scope) (cl:List (Str × Addr)) (f:Addr) (cd:Value) (A:Around) (outer:List Env) (s:Shared) (H:Hp) (E:XK):Cx:=
 gCx P w K mg base N (PySem.W.envX qual scope s.heap.objs.size f cd cl) (fun _=>false) A outer s H E
structure ClOk (N:List Str) (scope:Scope) (cl:List (Str × Addr)) (σ:St) (H:Hp) (h:Heap):Prop where
 kind:scope.kind=.function
 nocell:∀ y ∈ scope.names,y.2 ≠ .cell
 inj:∀ y z c,cl.lookup y=some c->cl.lookup z=some c->y=z
 has:∀ y,scope.names.lookup y=some .free->∃ c,cl.lookup y=some c
 cell:∀ y c,cl.lookup y=some c->H c=none/\∃ v,h.IsCell c v
 val:∀ (i:Nat) y v,N[i]?=some y->σ[i]?=some (some v)->∃ u c,RelV v u/\scope.names.lookup y=some .free/\cl.lookup y=some c/\h.IsCell c (some u)
 len:σ.length=N.length
theorem AU {w:World} {K:PySem.W.Frag} {mg:Str->Option Value} {base:Heap} {N:List Str} {cl:List (Str × Addr)} {A:Around} {outer:List Env} {E:XK} {tk:Nat}
 (C:ClOk N scope cl σ H s.heap) (hd:A.handled=none) (e0:Env0 P w K mg base A outer s H) (hns:h'.Ns s.heap.objs.size fun x=>List.lookup x ([]:List (Str × Value)).reverse)
 (hk:∀ b o,s.heap.get? b=some o->h'.get? b=some o) :
  Inv (pB P w K mg base N qual scope cl f cd A outer s H E) [] σ H { s with heap:=h',toks:=tk }:=by
 have noA:∀ b:Addr,b ∉ (pB P w K mg base N qual scope cl f cd A outer s H E).ex:=fun b z=>absurd (show b ∈ ([]:List Addr) from z) (by simp)
 refine ⟨⟨e0.mod,C.kind,rfl,rfl,Nat.le_refl _,C.inj,fun y hy=>?_,fun y c z _=>?_,fun _=>hd,Around.frames_deeper e0.frames,.inr ⟨rfl,rfl⟩,fun b z=>absurd z (noA b),e0.bs,e0.bsz,fun b _ _=>noA b,fun b z=>absurd z (noA b),e0.funs,e0.frf,e0.tabs⟩,
  rfl,e0.bare,Un.kept hk,⟨_,hns,fun i y v h1 h2 h3=>?_⟩,fun y c h=>?_,e0.hok.fresh (Nat.le_refl _),fun y c h=>(C.cell y c h).1,fun p hp=>absurd (show p ∈ ([]:List (Addr × Obj)) from hp) (by simp),e0.hok.kept hk,C.len⟩
 ·have hy:scope.names.lookup y=some .cell\/scope.names.lookup y=some .free:=hy
  rcases hy with hy | hy
  ·exact absurd rfl (C.nocell _ (PySem.mem_of_lookup hy))
  ·exact C.has y hy
 ·cases z
 ·obtain ⟨u,c,r,k,e,q⟩:=C.val i y v h1 h2
  exact ⟨u,r,.inr ⟨.inr k,c,e,q.keeps hk⟩⟩
 ·obtain ⟨_,v,q⟩:=C.cell y c h
  exact ⟨v,q.keeps hk⟩
section
variable {Y:Cx} {pins:List (Addr × Obj)} {σY σ:St} {H:Hp} {s:Shared} {f:Addr} {o:Obj} {N:List Str} {qual:Str} {params:Arguments} {body:Expr} {scope:Scope} {cl:List (Str × Addr)} {pm cd ctv:Value} {k:Nat} {te:TE} {Q:VK} {E:XK}
theorem ua (J:Inv Y pins σY H s) (hr:Room (k+1) Y.A) (hf:s.heap.get? f=some o) (hfd:o.data=.func (PySem.W.kla_fn "<lambda>" qual params body scope cl pm cd ctv)) (hcd:s.heap.CodeRec cd qual)
 (hp:bindArgs (PySem.W.kla_fn "<lambda>" qual params body scope cl pm cd ctv) ⟨[],[]⟩=pure []) (hco:scope.isCoroutine=false) (hge:scope.isGenerator=false) (C:ClOk N scope cl σ H s.heap)
 (hb:PE (pB Y.prog Y.w Y.K Y.mg Y.base N qual scope cl f cd Y.A Y.stack s H E) body te) (h:te σ H Q) :
  wpAny (model Y.prog Y.w) Y.A (call (.ref f) []) (EP Y pins σY Q) (fun e s'=>CXo Y.prog Y.w Y.stack H s E e s') s:=by
 have lim:s.heap.NoLimit:=J.nolimit
 refine wpAny_call (codeAny_mono (R:=CR (CXo Y.prog Y.w) Y.stack Y.prog Y.w H s Q E) ?_ fun r s' hq=>?_)
 ·refine PySem.W.kla_callFunE hr.depth hf hfd hco hge rfl hcd (wpAny_of_eq hp ?_)
  refine wpAny_newFunctionEnv C.nocell (by intro y hy; simp at hy) (fun h₁ hns₁ hsb₁=>?_) C.kind
  have old:∀ b ob,s.heap.get? b=some ob->h₁.get? b=some ob:=fun b ob e=>hsb₁.extBut b ob (Nat.ne_of_lt (Heap.lt_size e)) (Heap.get?_push_of_some _ e)
  refine ⟨lim.keeps old,PySem.W.kla_codeExpr ?_⟩
  refine wpAny_mono (hb [] _ σ H Q (AU C hr.hd J.env0 hns₁ old) h) (fun u s' hs=>?_) fun e s' hs=>hs
  obtain ⟨v,H',I',rv,q⟩:=hs
  exact ⟨v,H',I'.os,I'.bare,I'.base,I'.hok,rv,q⟩
 ·cases r with
  | error e=>exact hq
  | ok fl=>
   cases fl with
   | ret u=>exact J.after hq
   | _=>exact False.elim hq
end
theorem uU {a b c cv:Value}:∀ {l:List Value},TriplesOk l->codeAmong pos (l++[a,b,c])=some cv->cv=c\/codeAmong pos l=some cv:=fun {l}=>by
 induction l using TriplesOk.induct with
 | case1=>
  intro _ h
  left
  rw [List.nil_append,codeAmong.eq_def] at h
  repeat' split at h
  all_goals simp_all [codeAmong]
 | case2 i t j u v r ih=>
  intro ht h
  rw [TriplesOk.eq_2] at ht
  simp only [List.cons_append] at h
  rw [codeAmong.eq_1] at h ⊢
  split at h
  ·rename_i q; rw [if_pos q]; exact .inr h
  ·rename_i q; rw [if_neg q]; exact ih ht h
 | case3 x h1 h2=>
  intro ht
  rw [TriplesOk.eq_3 x h1 h2] at ht
  exact ht.elim
section
variable {X:Cx} {pins:List (Addr × Obj)} {σ:St} {H:Hp} {s:Shared} {params:Arguments} {body:Expr} {scope:Scope} {pos:Pos} {c P:Addr} {ps:Array Value} {Q:Value->Shared->Prop}
structure Lam (X:Cx) (pins:List (Addr × Obj)) (σ:St) (H:Hp) (s:Shared) (params:Arguments) (body:Expr) (scope:Scope) (f:Addr) (cd ctv pm:Value) (H1:Hp) (s1:Shared):Prop where
 inv:Inv X pins σ H1 s1
 hh:Same H H1
 new:∀ a,H a=none->H1 a=none\/s.heap.objs.size<=a
 free:H1 f=none
 fn:s1.heap.get? f=some { cls:=.type "function",data:=.func (PySem.W.kla_fn "<lambda>" (X.env.qual++"<lambda>") params body scope (oA X.env scope.names []) pm cd ctv) }
 codeH:∃ c o vs t u,cd=.ref c/\H1 c=some (.frz o u)/\o.data=.fields vs/\vs[1]?=some (.str (X.env.qual++"<lambda>") t)
theorem tU (I:Inv X pins σ H s) (hdef:defaultsOf params X.env=([],[])) (hc:X.env.code=.ref c) (hcd:PySem.W.CodeHd s.heap c P) (hT:H P=some (.tbl ps)) (hq:sW ps=X.env.qual++"<lambda>") (hbm:s.heap.BuiltinsAt X.mg P)
 (hfr:∀ y ∈ scope.names,y.2=.free->X.env.kindOf y.1=some .cell) (hgP:mainGlobals ≠ P) (h:∀ f cd ctv pm H1 s1,Lam X pins σ H s params body scope f cd ctv pm H1 s1->Q (.ref f) s1) :
  wpAny (model X.prog X.w) X.A (eval (.Lambda params body scope pos) X.env) Q X.xe s:=by
 have clos:closureFor scope X.env=pure (oA X.env scope.names []):=fh fun y hy hk=>I.ok.has y.1 (.inl (hfr y hy hk))
 have hns:s.heap.Ns mainGlobals X.mg:=by
  obtain ⟨o,es,ep,e,r⟩:=I.ok.mod.glob
  exact ⟨o,es,ep,I.bk _ _ e,r⟩
 obtain ⟨qs,hP,tr,co⟩:=I.hok P _ hT
 have neP:∀ {b:Addr},H b=none->b ≠ P:=fun e z=>by rw [z,hT] at e; cases e
 refine PySem.W.kla_eval hdef ?_
 cases q:codeAmong pos qs.toList with
 | some cv=>
  obtain ⟨c',o',vs',t',e1,e2,e3,e4⟩:=co pos cv q
  refine PySem.W.kla_makeFunctionHit clos I.ok.glob hns hc hcd hP tr q hbm fun ctv h' tk old sz=>?_
  have old2:∀ b o,s.heap.get? b=some o->∀ ob,(h'.push ob).get? b=some o:=fun b o e ob=>Heap.get?_push_of_some _ (old b o e)
  refine h _ cv ctv _ H _ ⟨I.kept (t':=tk) fun b o e=>old2 b o e _,.refl _,fun a e=>.inl e,I.hok.fresh sz,Heap.get?_push_size _ rfl,⟨c',o',vs',t',_,e1,e2,e3,?_⟩⟩
  rw [<- hq]; exact e4
 | none=>
  refine PySem.W.kla_makeFunction clos I.ok.glob hns hc hcd hP tr q hgP hbm fun c' ctv h' tk ext lo hi cr tab=>?_
  have fr:H c'=none:=I.hok.fresh lo
  obtain ⟨c2,oc,vs,t,z1,z2,z3,z4⟩:=cr
  cases z1
  have old:∀ b o,b ≠ P->s.heap.get? b=some o->∀ ob,(h'.push ob).get? b=some o:=fun b o n e ob=>Heap.get?_push_of_some _ (ext b o n e)
  have neU:∀ {b:Addr} {o:HO},H b=some o->upd H c' (.frz oc (.own P)) b=some o:=fun e=>by rw [aR (aU e fr)]; exact e
  have un:∀ ob,Un (frs X.stack) [] H (upd H c' (.frz oc (.own P))) s.heap (h'.push ob):=fun ob=>by
   refine ⟨fun b o e n _ _=>old b o (neP n) e ob,fun b o e n _ _=>⟨o.slots,old b o (neP n) e ob⟩,fun b o e n _=>?_,fun b o e _=>?_,fun b xs e=>neU e,fun b o u e=>neU e,fun b ps e=>⟨#[],by rw [neU e]; simp⟩⟩
   ·rw [aR (fun z=>by have:=Heap.lt_size e; rw [z] at this; exact absurd this (Nat.not_lt.mpr lo))]; exact n
   ·by_cases z:b=P
    ·rw [z]; exact ⟨_,Heap.get?_push_of_some _ tab⟩
    ·exact ⟨o,old b o z e ob⟩
  have hok:∀ ob,HOk X.prog X.w (upd H c' (.frz oc (.own P))) (h'.push ob):=fun ob b o e=>by
   by_cases z:b=c'
   ·subst z
    rw [bf] at e
    cases e
    exact ⟨Heap.get?_push_of_some _ z2,oc,Heap.get?_push_of_some _ z2⟩
   ·rw [aR z] at e
    by_cases zP:b=P
    ·subst zP
     rw [hT] at e
     cases e
     refine ⟨_,Heap.get?_push_of_some _ tab,?_,fun pos' cv q'=>?_⟩
     ·rw [Array.toList_append]; exact TriplesOk_snoc _ _ _ _ tr
     ·rw [Array.toList_append] at q'
      rcases uU tr q' with y | y
      ·subst y
       refine ⟨c',oc,vs,t,rfl,bf,z3,?_⟩
       rw [hq]; exact z4
      ·obtain ⟨c2,o3,vs3,t3,y1,y2,y3⟩:=co pos' cv y
       exact ⟨c2,o3,vs3,t3,y1,neU y2,y3⟩
    ·refine (I.hok b o e).stay (fun b' u hb' q'=>old b' u (fun z=>?_) q' ob) (fun b' e'=>neU e') (fun b' xs e'=>neU e') (fun b' ob' u' e'=>neU e')
     rcases hb' with hb' | hb'
     ·exact zP (hb' ▸ z)
     ·rw [z,hT] at hb'; cases hb'
  refine h _ (.ref c') ctv _ (upd H c' (.frz oc (.own P))) _ ⟨I.call' (s':={ s with heap:=_,toks:=tk }) (ch:=[]) rfl (un _) (hok _) I.bare (fun b z=>absurd z (by simp)),fun b o e=>neU e,fun a e=>?_,?_,Heap.get?_push_size _ rfl,⟨c',oc,vs,t,_,rfl,bf,z3,z4⟩⟩
  ·by_cases z:a=c'
   ·exact .inr (z ▸ lo)
   ·exact .inl (by rw [aR z]; exact e)
  ·rw [aR (Nat.ne_of_gt hi)]
   refine I.hok.fresh (Nat.le_trans lo (Nat.le_of_lt hi))
end
end L2
namespace L2
open PySem PySem.Spec PyProof.Rows
structure FnFH (P:Program) (w:World) (K:PySem.W.Frag) (mg:Str->Option Value) (base:Heap) (k:Nat) (f:Addr) (fd:FuncData) (ps:List Str) (g:List D->R D):Prop where
 run:∀ (A:Around) (x:Addr) (outer:List Env) (s:Shared) (H:Hp) (args:Args) (us:List Value) (vs:List V) (Q:VK) (E:XK),Room k A->Env0 P w K mg base A outer s H->BindsTo s fd args (ps.zip us)->Vals vs us->(vs.length=ps.length/\spF K g vs H Q E)->
  codeAny (model P w) (A.mark (some (.ref x))) (.call (.ref f) args) (CR (CXo P w) outer P w H s Q E) s
theorem FnFH.to {w:World} {K:PySem.W.Frag} {mg:Str->Option Value} {base:Heap} {g':List D->R D} (F:FnFH P w K mg base k f fd ps g) (h:∀ ds,ds.length=ps.length->g' ds=.no\/g ds=g' ds):FnFH P w K mg base k f fd ps g':=by
 refine ⟨fun A x outer s H args us vs Q E hr e0 hb hv ⟨hl,G,ds,sub,r,q⟩=>F.run A x outer s H args us vs Q E hr e0 hb hv ⟨hl,G,ds,sub,r,?_⟩⟩
 rcases h ds (by rw [<- r.length]; exact hl) with z | z
 ·rw [z] at q; exact q.elim
 ·rw [z]; exact q
structure CalleeH (P:Program) (w:World) (K:PySem.W.Frag) (mg:Str->Option Value) (base:Heap) (x:Str) (k n:Nat) (g:List D->R D):Prop where
 ex:∃ f fd ps,FnFH P w K mg base k f fd ps g/\mg x=some (.ref f)/\PySem.W.keepIn K (.ref f)=true/\Binds K fd ps []/\ps.length=n
theorem CalleeH.mono {w:World} {K:PySem.W.Frag} {mg:Str->Option Value} {base:Heap} (c:CalleeH P w K mg base x k n g) (k':Nat) (h:k<=k':=by decide):CalleeH P w K mg base x k' n g:=by
 obtain ⟨f,fd,ps,F,hm,hk,hb,e⟩:=c.ex
 exact ⟨f,fd,ps,⟨fun A a outer s H args us vs Q E hr=>F.run A a outer s H args us vs Q E (hr.mono h)⟩,hm,hk,hb,e⟩
theorem Fun.calleeH {w:World} {K:PySem.W.Frag} {mg:Str->Option Value} {base:Heap} (F:Fun K x x st f fd) (hm:mg x=some (.ref f)) (ok:FnFH P w K mg base k f fd ps g)
 (h:∀ (kV doc pm:Value) (an:Option Addr) (cdv ct:Value) (us:List Value),us.length=ps.length->bindArgs (PySem.W.fnOf x x (cN st) (bi st) (av st) .none kV doc pm an cdv ct) ⟨us,[]⟩=pure (ps.zip us)):CalleeH P w K mg base x k ps.length g:=
 ⟨f,fd,ps,ok,hm,F.kp,F.binds h,rfl⟩
section
variable {Y:Cx} {a:Addr} {xe:Value->Shared->Prop} {k n:Nat} {x:Str} {p pos:Pos} {e:Expr} {es:List Expr} {gl:Ev->R (List D)} {g:List D->R D}
end
noncomputable def td (P:Program) (w:World) (K:PySem.W.Frag) (mg:Str->Option Value) (base:Heap) (k:Nat) (s1:Shared) (G1 H1:Hp) (f:Addr) (m:R D):Prop:=
 ∀ (Y:Cx) (pins:List (Addr × Obj)) (σY:St) (G2 H2:Hp) (s2:Shared) (fs:List Addr) (Q:VK),Y.prog=P->Y.w=w->Y.K=K->Y.mg=mg->Y.base=base->Inv Y pins σY H2 s2->Room k Y.A->Un fs [] H1 H2 s1.heap s2.heap->Up G1 H1 G2 H2->
  m.post (Fin G2 H2 (Rep Y.K) Q) (Exx Y σY G2 H2)->(∃ o fd,s2.heap.get? f=some o/\o.data=.func fd)/\wpAny (model Y.prog Y.w) Y.A (call (.ref f) []) (EP Y pins σY Q) Y.xe s2
theorem IsCell.un {fs:List Addr} {H2:Hp} {h1 h2:Heap} {c:Addr} {v:Option Value} (u:Un fs [] H1 H2 h1 h2) (hn:H1 c=none) (h:h1.IsCell c v):h2.IsCell c v:=by
 obtain ⟨o,e,d⟩:=h
 obtain ⟨sl,q⟩:=u.any e hn (by simp)
 exact ⟨_,q,d⟩
theorem ClOk.un {fs:List Addr} {N:List Str} {cl:List (Str × Addr)} {H2:Hp} {h1 h2:Heap} (C:ClOk N scope cl σ H1 h1) (u:Un fs [] H1 H2 h1 h2):ClOk N scope cl σ H2 h2:=
 ⟨C.kind,C.nocell,C.inj,C.has,fun y c e=>by
  obtain ⟨n,v,q⟩:=C.cell y c e
  obtain ⟨o,e1,d⟩:=id q
  exact ⟨u.free c o e1 n (by simp),v,IsCell.un u n q⟩,fun i y v e1 e2=>by
  obtain ⟨x,c,r,k,e,q⟩:=C.val i y v e1 e2
  exact ⟨x,c,r,k,e,IsCell.un u (C.cell y c e).1 q⟩,C.len⟩
theorem StE.r {K:PySem.W.Frag} (st:StE K G H σ ρ) (h:NoOwn ρ):StR K G H G H σ ρ:=
 ⟨st,st.sub,.refl st.sub,fun i ds e=>absurd e (h.own i ds),fun i j ds es l e=>absurd e (h.own i ds),h.ob⟩
theorem uz {w:World} {K:PySem.W.Frag} {mg:Str->Option Value} {base:Heap} {s1:Shared} {G1:Hp} {o:Obj} {N:List Str} {body:Expr} {cl:List (Str × Addr)} {ctv:Value}
 (hfn:H1 f=none) (hf:s1.heap.get? f=some o) (hfd:o.data=.func (PySem.W.kla_fn "<lambda>" qual params body scope cl pm cd ctv)) (hcd:∃ c o vs t u,cd=.ref c/\H1 c=some (.frz o u)/\o.data=.fields vs/\vs[1]?=some (.str qual t))
 (hp:bindArgs (PySem.W.kla_fn "<lambda>" qual params body scope cl pm cd ctv) ⟨[],[]⟩=pure []) (hco:scope.isCoroutine=false) (hge:scope.isGenerator=false) (C:ClOk N scope cl σ H1 s1.heap) (st:StE K G1 H1 σ ρ) (hno:NoOwn ρ)
 (hb:∀ (A:Around) (outer:List Env) (s:Shared) (H:Hp) (E:XK),Room k (A.deeper (PySem.W.envX qual scope s.heap.objs.size f cd cl))->QF (pB P w K mg base N qual scope cl f cd A outer s H E) body gb) :
  td P w K mg base (k+1) s1 G1 H1 f (gb ρ):=by
 rintro Y pins σY G2 H2 s2 fs Q rfl rfl rfl rfl rfl J hr un up h
 obtain ⟨sl,hf2⟩:=un.any hf hfn (by simp)
 refine ⟨⟨_,_,hf2,hfd⟩,?_⟩
 have code:s2.heap.CodeRec cd qual:=by
  obtain ⟨c,oc,vs,t,u,rfl,e,d,q⟩:=hcd
  obtain ⟨e2,_⟩:=J.hok c _ (up.hh _ _ e)
  exact ⟨c,oc,vs,t,rfl,e2,d,q⟩
 have st2:StE Y.K G2 H2 σ ρ:=st.up up
 refine wpAny_mono (ua (E:=fun c _ H'=>∃ C G',c=.ref C/\Up G2 H2 G' H'/\Exx Y σY G2 H2 C) J hr hf2 hfd code hp hco hge (C.un un) (hb Y.A Y.stack s2 H2 _ (hr.deeper _)) ⟨G2,ρ,st2,h.mono (fun _ q=>q) fun Cx q e s' fl=>?_⟩) (fun _ _ q=>q) fun e s' hq=>?_
 ·obtain ⟨Ga,Ha,u,fr⟩:=fl
  exact ss rfl rfl (.of ((st2.r hno).ups u) fr) fun G' H' u'=>⟨Cx,G',rfl,u',q⟩
 ·obtain ⟨a,C,H',rfl,fl,C',G',ec,u,q⟩:=hq
  cases ec
  exact q _ _ ⟨G2,H2,.refl up.sub,pins,s2,a,rfl,J,.inr (.inl ⟨G',H',fl,u⟩)⟩
structure Told (P:Program) (w:World) (K:PySem.W.Frag) (mg:Str->Option Value) (base:Heap) (x:Str) (k j:Nat) (g:R D->R D):Prop where
 ex:∃ ft,mg x=some (.ref ft)/\PySem.W.keepIn K (.ref ft)=true/\∀ (A:Around) (outer:List Env) (s1:Shared) (G1 H1:Hp) (f:Addr) (m:R D) (Q:VK) (E:XK),Room k A->Env0 P w K mg base A outer s1 H1->Same G1 H1->td P w K mg base j s1 G1 H1 f m->
  (g m).post (Fin G1 H1 (Rep K) Q) (fun C=>∀ G' H',Up G1 H1 G' H'->E (.ref C) none H')->codeAny (model P w) A (.call (.ref ft) ⟨[.ref f],[]⟩) (CR (CXo P w) outer P w H1 s1 Q E) s1
section
variable {P:Program} {w:World} {K:PySem.W.Frag} {mg:Str->Option Value} {base:Heap} {x y:Str} {st:Stmt} {ft:Addr} {fd:FuncData} {k:Nat} {b₀:Stmt} {suite:List Stmt} {p1 p2 p3 tp hp tpos:Pos} {nm tn:Str} {gs:Ev->O} {fe:Addr->Option Bool} {Ct:Addr}
theorem za {M:Model} {o:Obj} (e:h.get? f=some o) (d:o.data=.func fd):PySem.W.Looks M h (keeperOf (.ref f)) .frame:=by
 unfold keeperOf
 exact (PySem.W.Looks.ld e).andThen (by rw [d]; exact .now)
end
end L2
namespace L2
open PySem PySem.Spec PyProof.Rows
structure LamAt (X:Cx):Prop where
 ex:∃ c P q,X.env.code=.ref c/\(∀ h,X.K.In h->PySem.W.CodeHd h c P)/\vo X.base P q/\q=X.env.qual++"<lambda>"/\X.base.BuiltinsAt X.mg P/\mainGlobals ≠ P
structure LamOk (X:Cx) (scope:Scope) (N':List Str) (ix:List Nat):Prop where
 kind:scope.kind=.function
 co:scope.isCoroutine=false
 gen:scope.isGenerator=false
 cell:∀ y ∈ scope.names,y.2 ≠ .cell
 fr:∀ y ∈ scope.names,y.2=.free->X.env.kindOf y.1=some .cell
 tl:N'=ix.map fun (i:Nat)=>X.N.getD i Str.empty
 lt:∀ i ∈ ix,i < X.N.length
 fre:∀ y ∈ N',scope.names.lookup y=some .free/\(y,NameKind.free) ∈ scope.names
theorem mx {N':List Str} (hk:scope.kind=.function:=by rfl) (hc:scope.isCoroutine=false:=by rfl) (hg:scope.isGenerator=false:=by rfl)
 (h1:(∀ y ∈ scope.names,y.2 ≠ .cell)/\(∀ y ∈ scope.names,y.2=.free->y.1 ∈ N')/\∀ y ∈ N',scope.names.lookup y=some .free/\(y,NameKind.free) ∈ scope.names:=by decide +kernel)
 (h2:N'.map X.env.kindOf=N'.map fun _=>some NameKind.cell:=by rfl) (h3:N'=ix.map (fun (i:Nat)=>X.N.getD i Str.empty):=by rfl) (h4:ix.all (fun i=>decide (i < X.N.length))=true:=by rfl):LamOk X scope N' ix:=by
 obtain ⟨a,b,c⟩:=h1
 exact ⟨hk,hc,hg,a,fun y hy h=>List.map_inj_left.1 h2 _ (b y hy h),h3,fun i hi=>of_decide_eq_true (List.all_eq_true.1 h4 i hi),c⟩
section
variable {X:Cx} {scope:Scope} {N':List Str} {ix:List Nat} {params:Arguments} {body:Expr} {lp p pos:Pos} {x:Str} {k j:Nat} {gb:Ev->R D} {g:R D->R D}
theorem xn (ok:LamOk X scope N' ix) (I:Inv X pins σ H s):ClOk N' scope (oA X.env scope.names []) (cq 0 ix σ) H s.heap:=by
 have cl:∀ y c,(oA X.env scope.names []).lookup y=some c->X.env.cells.lookup y=some c:=nT scope.names [] (fun y c h=>by simp at h)
 have hasf:∀ y,(y,NameKind.free) ∈ scope.names->∃ c,(oA X.env scope.names []).lookup y=some c:=fun y hy=>jL scope.names [] y (.inr ⟨hy,I.ok.has y (.inl (ok.fr _ hy rfl))⟩)
 refine ⟨ok.kind,ok.cell,fun y z c h1 h2=>I.ok.inj y z c (cl y c h1) (cl z c h2),fun y hy=>hasf y (PySem.mem_of_lookup hy),fun y c h=>⟨I.freeC y c (cl y c h),I.cell y c (cl y c h)⟩,fun i y v h1 h2=>?_,?_⟩
 ·unfold cq at h2
  rw [List.replicate_zero,List.nil_append,List.getElem?_map] at h2
  cases e:ix[i]? with
  | none=>rw [e] at h2; cases h2
  | some i0=>
   rw [e] at h2
   have h2':σ[i0]?=some (some v):=by
    cases q:σ[i0]? with
    | none=>rw [Option.map_some,q] at h2; cases h2
    | some z=>rw [Option.map_some,q] at h2; have:=Option.some.inj h2; rw [<- this]; rfl
   have hy:X.N[i0]?=some y:=by
    have ht2:=h1
    rw [ok.tl,List.getElem?_map,e] at ht2
    have hl:=ok.lt i0 (List.mem_of_getElem? e)
    have q:=Option.some.inj ht2
    rw [List.getElem?_eq_getElem hl,<- q]
    show some X.N[i0]=some (X.N.getD i0 Str.empty)
    rw [List.getD_eq_getElem?_getD,List.getElem?_eq_getElem hl]
    rfl
   obtain ⟨fr1,fr2⟩:=ok.fre y (List.mem_of_getElem? h1)
   have kc:=ok.fr _ fr2 rfl
   obtain ⟨m0,hn0,hl⟩:=I.loc
   obtain ⟨u,ru,lk⟩:=hl i0 y v hy h2' (.inr (.inl kc))
   rcases lk with ⟨z,_⟩ | ⟨_,c,hc,hcell⟩
   ·rw [kc] at z; cases z
   ·obtain ⟨c',hc'⟩:=hasf y fr2
    have:=cl y c' hc'
    rw [hc] at this
    cases this
    exact ⟨u,c,ru,fr1,hc',hcell⟩
 ·unfold cq
  rw [ok.tl]; simp
noncomputable def xu (g:R D->R D) (ix:List Nat) (gb:Ev->R D):Ev->R D:=fun ρ=>g (gb (bK 0 ix ρ))
end
structure LamDef (K:PySem.W.Frag) (mg:Str->Option Value) (fd:FuncData) (Pt:Addr):Prop where
 ex:∃ c,fd.code=.ref c/\∀ h,K.In h->PySem.W.CodeHd h c Pt
 ne:mainGlobals ≠ Pt
structure LamB (K:PySem.W.Frag) (mg:Str->Option Value) (base:Heap) (qual:Str) (fd:FuncData) (Pt:Addr):Prop where
 ld:LamDef K mg fd Pt
 tb:vo base Pt (qual++".<locals>."++"<lambda>")
 bm:base.BuiltinsAt mg Pt
end L2
namespace L2
open PySem PySem.Spec PyProof.Rows
noncomputable def hid (H:Hp) (ow:jP):Hp:=fun a=>if (ow a).isSome=true then none else H a
theorem xR (h:hid H ow a=some o):H a=some o/\ow a=none:=by
 unfold hid at h
 split at h
 ·cases h
 ·rename_i q; exact ⟨h,by cases e:ow a with | none=>rfl | some t=>rw [e] at q; exact absurd rfl q⟩
theorem jS {t:Nat × Nat} (h:ow a=some t):hid H ow a=none:=by
 unfold hid; rw [h]; exact if_pos rfl
theorem fw (h:ow a=none):hid H ow a=H a:=by
 unfold hid; rw [h]; exact if_neg (by simp)
theorem Bv (H:Hp) (ow:jP):Same (hid H ow) H:=fun a o e=>(xR e).1
noncomputable def sL (i j:Nat) (ow:jP):jP:=fun a=>match ow a with
 | some (i',t)=>if i'=i then some (j,t) else none
 | none=>none
theorem nW {t:Nat} (h:ow a=some (i,t)):sL i j ow a=some (j,t):=by
 unfold sL; rw [h]; exact if_pos rfl
theorem yg {t:Nat × Nat} (h:sL i j ow a=some t):ow a=some (i,t.2)/\t.1=j:=by
 unfold sL at h
 split at h
 ·rename_i i' t' e
  split at h
  ·rename_i z; subst z; cases h; exact ⟨e,rfl⟩
  ·cases h
 ·cases h
section
variable {K:PySem.W.Frag} {H₀ G H:Hp} {ow:jP} {i j:Nat} {m:Bool} {C p:Addr} {fs:List (Nat × Fd)}
theorem FdAt.hid {m':Bool}:∀ {fd:Fd} {v:V},FdAt K H₀ G H ow i m k fd v->FdAt K (L2.hid H ow) G H ow i m' k fd v
 | .val d,v,r=>r
 | .own ds,v,⟨l,ws,e,h1,h2,h3,h4,h5⟩=>⟨l,ws,e,h1,h2,fun _=>jS h5,h4,h5⟩
theorem FdsAt.hid {m':Bool}:∀ {fs:List (Nat × Fd)} {vs:List (Str × V)},FdsAt K H₀ G H ow i m fs vs->FdsAt K (L2.hid H ow) G H ow i m' fs vs
 | _,_,.nil=>.nil
 | _,_,.cons h nk r t=>.cons h nk (FdAt.hid r) (FdsAt.hid t)
theorem ObjAt.hid (h:ObjAt K H₀ G H ow i m C p fs) (m':Bool):ObjAt K (L2.hid H ow) G H ow i m' C p fs:=by
 obtain ⟨dx,vs,h1,h2,h3,h4,h5,h6,h7,h8⟩:=h
 exact ⟨dx,vs,h1,h2,h3,h4,fun _=>⟨jS h6,jS h7⟩,h6,h7,h8.hid⟩
theorem FdAt.ro {H₀':Hp}:∀ {fd:Fd} {v:V},FdAt K H₀ G H ow i m k fd v->FdAt K H₀' G H ow i false k fd v
 | .val d,v,r=>r
 | .own ds,v,⟨l,ws,e,h1,h2,h3,h4,h5⟩=>⟨l,ws,e,h1,h2,fun z=>absurd z (by decide),h4,h5⟩
theorem FdsAt.ro {H₀':Hp}:∀ {fs:List (Nat × Fd)} {vs:List (Str × V)},FdsAt K H₀ G H ow i m fs vs->FdsAt K H₀' G H ow i false fs vs
 | _,_,.nil=>.nil
 | _,_,.cons h nk r t=>.cons h nk (FdAt.ro r) (FdsAt.ro t)
theorem ObjAt.ro (h:ObjAt K H₀ G H ow i m C p fs) (H₀':Hp):ObjAt K H₀' G H ow i false C p fs:=by
 obtain ⟨dx,vs,h1,h2,h3,h4,h5,h6,h7,h8⟩:=h
 exact ⟨dx,vs,h1,h2,h3,h4,fun z=>absurd z (by decide),h6,h7,h8.ro⟩
end
noncomputable def di (m:Bool) (C p:Addr) (fs:List (Nat × Fd)) (n:Nat) (ds:List D):Ev:=some (.obj m C p fs)::(ds.map (fun d=>some (.val d))++List.replicate (n - (ds.length+1)) none)
theorem pF {K:PySem.W.Frag} {H₀:Hp} {m:Bool} {fs:List (Nat × Fd)} {N:List Str} {us:List V} (sub0:Same G H₀) (up:Up G H₀ G H) (r:Reps K G us ds) (ob:ObjAt K H₀ G H ow 0 m C p fs) :
  StR K G H₀ G H (eF N (.ref p::us)) (di m C p fs N.length ds):=by
 have hl:=r.length
 have get:∀ (i:Nat) x,(di m C p fs N.length ds)[i]?=some (some x)->(i=0/\x=.obj m C p fs)\/∃ k d,i=k+1/\ds[k]?=some d/\x=.val d:=fun i x e=>by
  cases i with
  | zero=>left; cases e; exact ⟨rfl,rfl⟩
  | succ k=>
   right
   unfold di at e
   rw [List.getElem?_cons_succ] at e
   by_cases hi:k < ds.length
   ·rw [List.getElem?_append_left (by simpa using hi),List.getElem?_map] at e
    cases q:ds[k]? with
    | none=>rw [q] at e; cases e
    | some d=>rw [q] at e; cases e; exact ⟨k,d,rfl,q,rfl⟩
   ·rw [List.getElem?_append_right (by simpa using hi),List.getElem?_replicate] at e
    split at e <;> cases e
 have obs:ObSt K H₀ G H (eF N (.ref p::us)) (di m C p fs N.length ds):=by
  refine ⟨ow,fun i es l e=>?_,fun i m' C' p' fs' e=>?_⟩
  ·rcases get i _ e with ⟨_,z⟩ | ⟨k,d,_,_,z⟩ <;> cases z
  ·rcases get i _ e with ⟨rfl,z⟩ | ⟨k,d,_,_,z⟩
   ·cases z; exact ⟨rfl,ob⟩
   ·cases z
 refine ⟨⟨up.sub,?_,fun i d e=>?_,obs.rd⟩,sub0,up,fun i es e=>?_,fun i j es fs l e=>?_,obs⟩
 ·simp [eF,di,hl]
 ·rcases get i _ e with ⟨_,z⟩ | ⟨k,d',rfl,e',z⟩
  ·cases z
  ·cases z
   obtain ⟨v,ev,rv⟩:=r.get e'
   refine ⟨v,?_,rv⟩
   unfold eF
   rw [List.map_cons,List.cons_append,List.getElem?_cons_succ,List.getElem?_append_left (by have:=(List.getElem?_eq_some_iff.mp ev).1; simpa using this),List.getElem?_map,ev]
   rfl
 ·rcases get i _ e with ⟨_,z⟩ | ⟨k,d,_,_,z⟩ <;> cases z
 ·rcases get i _ e with ⟨_,z⟩ | ⟨k,d,_,_,z⟩ <;> cases z
inductive RM where
 | ok (d:D) (fs:List (Nat × Fd)) | rd (d:D) | ex (C:Addr) | no
noncomputable abbrev MF:=List (Nat × Fd)->List D->RM
noncomputable def bX (C:Addr) (g:Ev->O) (n:Nat) (F:MF):Prop:=∀ p fs ds,match F fs ds with
 | .ok d fs'=>∃ ρ',ρ'[0]?=some (some (.obj true C p fs'))/\(g (di true C p fs n ds)=.re d ρ'\/(g (di true C p fs n ds)=.nx ρ'/\d=.non))
 | .rd d=>g (di false C p fs n ds)=.rt d
 | .ex E=>∃ ρ',g (di false C p fs n ds)=.ex E ρ'
 | .no=>True
noncomputable def spM (K:PySem.W.Frag) (C:Addr) (F:MF):Sp:=fun vs H Q E=>∃ G p us ds fs ow,vs=.ref p::us/\Reps K G us ds/\Same G H/\(∀ a t,ow a=some t->G a=none)/\ObjAt K (fun _=>none) G H ow 0 true C p fs/\match F fs ds with
 | .ok d fs'=>∀ v G' H' ow',Up G (hid H ow) G' H'->ObjAt K (hid H ow) G' H' ow' 0 true C p fs'->Rep K G' v d->Q v H'
 | .rd d=>∀ v G' H',Up G H G' H'->Rep K G' v d->Q v H'
 | .ex C'=>∀ G' H',Up G H G' H'->E (.ref C') none H'
 | .no=>False
noncomputable abbrev FnM (P:Program) (w:World) (K:PySem.W.Frag) (mg:Str->Option Value) (base:Heap) (k:Nat) (f:Addr) (fd:FuncData) (ps:List Str) (C:Addr) (F:MF):Prop:=FnOk P w K mg base (CXo P w) k f fd ps (fun vs H Q E=>vs.length=ps.length/\spM K C F vs H Q E)
theorem DW (sub:Same G H) (hg:∀ a t,ow a=some t->G a=none):Same G (hid H ow)/\Up G (hid H ow) G H:=by
 have s:Same G (hid H ow):=fun a o e=>by
  cases q:ow a with
  | none=>rw [fw q]; exact sub a o e
  | some t=>rw [hg a t q] at e; cases e
 exact ⟨s,sub,.refl _,Bv H ow,fun _ _ e=>.inl e⟩
noncomputable def mI (i:Nat) (m:Bool) (H₀ G H:Hp) (ow:jP):jP:=fun a=>open Classical in if (∃ o,H a=some o)/\G a=none/\(m=true->H₀ a=none) then sL i 0 ow a else none
section
variable {K:PySem.W.Frag} {H₀ G H:Hp} {ow:jP} {i:Nat} {m:Bool} {C p:Addr} {fs:List (Nat × Fd)}
theorem qY {t:Nat} (h:ow a=some (i,t)) (e:H a=some o) (g:G a=none) (z:m=true->H₀ a=none):mI i m H₀ G H ow a=some (0,t):=by
 unfold mI; rw [if_pos ⟨⟨o,e⟩,g,z⟩]; exact nW h
theorem fV {t:Nat × Nat} (h:mI i m H₀ G H ow a=some t):ow a=some (i,t.2)/\(∃ o,H a=some o)/\G a=none/\(m=true->H₀ a=none):=by
 unfold mI at h
 split at h
 ·rename_i q; exact ⟨(yg h).1,q⟩
 ·cases h
theorem FdAt.cut:∀ {fd:Fd} {v:V},FdAt K H₀ G H ow i m k fd v->FdAt K (fun _=>none) G H (mI i m H₀ G H ow) 0 true k fd v
 | .val d,v,r=>r
 | .own ds,v,⟨l,ws,e,h1,h2,h3,h4,h5⟩=>⟨l,ws,e,h1,h2,fun _=>rfl,h4,qY h5 h1 h2 h3⟩
theorem FdsAt.cut:∀ {fs:List (Nat × Fd)} {vs:List (Str × V)},FdsAt K H₀ G H ow i m fs vs->FdsAt K (fun _=>none) G H (mI i m H₀ G H ow) 0 true fs vs
 | _,_,.nil=>.nil
 | _,_,.cons h nk r t=>.cons h nk (FdAt.cut r) (FdsAt.cut t)
theorem ObjAt.cut (h:ObjAt K H₀ G H ow i m C p fs):ObjAt K (fun _=>none) G H (mI i m H₀ G H ow) 0 true C p fs:=by
 obtain ⟨dx,vs,h1,h2,h3,h4,h5,h6,h7,h8⟩:=h
 exact ⟨dx,vs,h1,h2,h3,h4,fun _=>⟨rfl,rfl⟩,qY h6 h1 h3 fun z=>(h5 z).1,qY h7 h2 h4 fun z=>(h5 z).2,h8.cut⟩
end
section
variable {K:PySem.W.Frag} {H₀ H₀' G H:Hp} {ow ow2:jP} {i:Nat} {C p:Addr}
theorem FdAt.newtag (h:∀ a t,ow a=some (0,t)->H₀ a=none->ow2 a=some (i,t)) (z:∀ a,H₀ a=none->H₀' a=none):∀ {fd:Fd} {v:V},FdAt K H₀ G H ow 0 true k fd v->FdAt K H₀' G H ow2 i true k fd v
 | .val d,v,r=>r
 | .own ds,v,⟨l,ws,e,h1,h2,h3,h4,h5⟩=>⟨l,ws,e,h1,h2,fun _=>z l (h3 rfl),h4,h l _ h5 (h3 rfl)⟩
theorem FdsAt.newtag (h:∀ a t,ow a=some (0,t)->H₀ a=none->ow2 a=some (i,t)) (z:∀ a,H₀ a=none->H₀' a=none):∀ {fs:List (Nat × Fd)} {vs:List (Str × V)},FdsAt K H₀ G H ow 0 true fs vs->FdsAt K H₀' G H ow2 i true fs vs
 | _,_,.nil=>.nil
 | _,_,.cons k nk r t=>.cons k nk (FdAt.newtag h z r) (FdsAt.newtag h z t)
theorem ObjAt.newtag {fs:List (Nat × Fd)} (h:∀ a t,ow a=some (0,t)->H₀ a=none->ow2 a=some (i,t)) (z:∀ a,H₀ a=none->H₀' a=none) (o:ObjAt K H₀ G H ow 0 true C p fs):ObjAt K H₀' G H ow2 i true C p fs:=by
 obtain ⟨dx,vs,h1,h2,h3,h4,h5,h6,h7,h8⟩:=o
 exact ⟨dx,vs,h1,h2,h3,h4,fun _=>⟨z p (h5 rfl).1,z dx (h5 rfl).2⟩,h p _ h6 (h5 rfl).1,h dx _ h7 (h5 rfl).2,h8.newtag h z⟩
end
theorem StR.meth {K:PySem.W.Frag} {H₀ G':Hp} {fs fs':List (Nat × Fd)} {ow':jP} (s:StR K G₀ H₀ G H σ ρ) (e:ρ[i]?=some (some (.obj true C p fs))) (o1:∀ (j:Nat) ds l,ρ[j]?=some (some (.own ds))->σ[j]?=some (some (.ref l))->ow l=some (j,0))
 (o2:∀ (j:Nat) m C p fs,ρ[j]?=some (some (.obj m C p fs))->σ[j]?=some (some (.ref p))/\ObjAt K H₀ G H ow j m C p fs)
 (u:Up G (hid H (mI i true H₀ G H ow)) G' H') (ob:ObjAt K (hid H (mI i true H₀ G H ow)) G' H' ow' 0 true C p fs'):StR K G₀ H₀ G' H' σ (ρ.set i (some (.obj true C p fs'))):=by
 have hl:i < ρ.length:=(List.getElem?_eq_some_iff.mp e).1
 have get:∀ (j:Nat) x,(ρ.set i (some (.obj true C p fs')))[j]?=some (some x)->(j=i/\x=.obj true C p fs')\/(j ≠ i/\ρ[j]?=some (some x)):=fun j x h=>by
  by_cases z:i=j
  ·subst z
   rw [List.getElem?_set_self hl] at h
   exact .inl ⟨rfl,by injection (Option.some.inj h) with q; exact q.symm⟩
  ·rw [List.getElem?_set_ne z] at h
   exact .inr ⟨fun q=>z q.symm,h⟩
 have keep:∀ a o,H a=some o->mI i true H₀ G H ow a=none->H' a=some o:=fun a o q n=>u.hh a o (by rw [fw n]; exact q)
 have out0:∀ a,H₀ a ≠ none->mI i true H₀ G H ow a=none:=fun a q=>by
  cases z:mI i true H₀ G H ow a with
  | none=>rfl
  | some t=>exact absurd ((fV z).2.2.2 rfl) q
 have outT:∀ a j t,j ≠ i->ow a=some (j,t)->mI i true H₀ G H ow a=none:=fun a j t nj q=>by
  cases z:mI i true H₀ G H ow a with
  | none=>rfl
  | some t'=>have:=(fV z).1; rw [q] at this; cases this; exact absurd rfl nj
 have gn:∀ a o,H a=some o->G a=none->mI i true H₀ G H ow a=none->G' a=none:=fun a o q g n=>by
  cases z:G' a with
  | none=>rfl
  | some o'=>
   rcases u.fr a o' z with z | z
   ·rw [g] at z; cases z
   ·rw [fw n,q] at z; cases z
 have up:Up G₀ H₀ G' H':=by
  refine ⟨u.sub,s.up.gg.trans u.gg,fun a o q=>keep a o (s.up.hh a o q) (out0 a (by rw [q]; simp)),fun a o q=>?_⟩
  rcases u.fr a o q with z | z
  ·exact s.up.fr a o z
  ·by_cases n:mI i true H₀ G H ow a=none
   ·rw [fw n] at z; exact .inr (s.up.hh.free z)
   ·cases y:mI i true H₀ G H ow a with
    | none=>exact absurd y n
    | some t=>exact .inr ((fV y).2.2.2 rfl)
 have ob':ObSt K H₀ G' H' σ (ρ.set i (some (.obj true C p fs'))):=by
  refine ⟨fun a=>open Classical in if hid H (mI i true H₀ G H ow) a=none then sL 0 i ow' a else ow a,fun j ds l h1 h2=>?_,fun j m' C' p' fs'' h1=>?_⟩
  ·rcases get j _ h1 with ⟨_,z⟩ | ⟨nj,f1⟩
   ·cases z
   ·have ol:=o1 j ds l f1 h2
    obtain ⟨l2,vs,q1,q2,_⟩:=s.own j ds f1
    rw [h2] at q1; cases q1
    have n:=outT l j 0 nj ol
    refine (if_neg ?_).trans ol
    rw [fw n,q2]; simp
  ·rcases get j _ h1 with ⟨rfl,z⟩ | ⟨nj,f1⟩
   ·cases z
    refine ⟨(o2 j true C p fs e).1,?_⟩
    refine ob.newtag (fun a t q n=>(if_pos n).trans (nW q)) fun a n=>?_
    by_cases y:mI j true H₀ G H ow a=none
    ·rw [fw y] at n; exact s.up.hh.free n
    ·cases y':mI j true H₀ G H ow a with
     | none=>exact absurd y' y
     | some t=>exact (fV y').2.2.2 rfl
   ·refine ⟨(o2 j m' C' p' fs'' f1).1,(o2 j m' C' p' fs'' f1).2.keep ⟨fun a t o q1 q=>keep a o q (outT a j t nj q1),u.gg,fun a t o q1 q n=>gn a o q n (outT a j t nj q1),fun a t o q1 q=>?_,fun a o _ _ n=>n⟩⟩
    refine (if_neg ?_).trans q1
    rw [fw (outT a j t nj q1),q]; simp
 refine ⟨⟨u.sub,by simp [s.e.len],fun j d h=>?_,ob'.rd⟩,s.sub0,up,fun j ds h=>?_,fun j k ds es l q1 q2 q3 q4=>?_,ob'⟩
 ·rcases get j _ h with ⟨_,z⟩ | ⟨_,f1⟩
  ·cases z
  ·obtain ⟨v,p1,p2⟩:=s.e.val j d f1
   exact ⟨v,p1,p2.mono u.gg⟩
 ·rcases get j _ h with ⟨_,z⟩ | ⟨nj,f1⟩
  ·cases z
  ·obtain ⟨l,vs,p1,p2,p3,p4,p5⟩:=s.own j ds f1
   have n:=outT l j 0 nj (o1 j ds l f1 p1)
   exact ⟨l,vs,p1,keep l _ p2 n,gn l _ p2 p3 n,p4,p5.mono u.gg⟩
 ·rcases get j _ q1 with ⟨_,z⟩ | ⟨nj,f1⟩
  ·cases z
  ·rcases get k _ q2 with ⟨_,z⟩ | ⟨nk,f2⟩
   ·cases z
   ·exact s.inj j k ds es l f1 f2 q3 q4
end L2
variable {F aj af aK:L2.MF}
namespace L2
open PySem PySem.Spec PyProof.Rows
theorem kS:∀ j,j < fnames.length->∀ k,k < fnames.length->cm j=cm k->j=k:=by decide +kernel
noncomputable def lS (k:Nat) (fd:Fd):List (Nat × Fd)->List (Nat × Fd)
 | []=>[(k,fd)]
 | (j,x)::r=>if j=k then (j,fd)::r else (j,x)::lS k fd r
theorem lf {k j:Nat} {fd:Fd} (h:j ≠ k):∀ {fs:List (Nat × Fd)},fs.lookup j=none->(lS k fd fs).lookup j=none
 | [],_=>by
  have z:(j==k)=false:=by simp [h]
  simp only [lS,List.lookup_cons,z,List.lookup_nil]
 | (a,x)::r,e=>by
  have ha:(j==a)=false:=by
   cases q:j==a with
   | false=>rfl
   | true=>simp only [List.lookup_cons,q] at e; cases e
  have er:r.lookup j=none:=by simpa only [List.lookup_cons,ha] using e
  unfold lS
  by_cases z:a=k
  ·rw [if_pos z]; simpa only [List.lookup_cons,ha] using er
  ·rw [if_neg z]; simp only [List.lookup_cons,ha]; exact lf h er
section
variable {K:PySem.W.Frag} {H₀ G H:Hp} {ow:jP} {i:Nat} {m:Bool} {k:Nat}
theorem FdsAt.keys:∀ {fs:List (Nat × Fd)} {vs:List (Str × V)},FdsAt K H₀ G H ow i m fs vs->∀ j fd,fs.lookup j=some fd->j < fnames.length
 | _,_,.nil,j,fd,e=>by simp at e
 | _,_,.cons (k:=a) h nk r t,j,fd,e=>by
  cases q:j==a with
  | true=>rw [beq_iff_eq.mp q]; exact h
  | false=>simp only [List.lookup_cons,q] at e; exact FdsAt.keys t j fd e
theorem FdsAt.get:∀ {fs:List (Nat × Fd)} {vs:List (Str × V)} {fd:Fd},FdsAt K H₀ G H ow i m fs vs->fs.lookup k=some fd->∃ v,vs.lookup (cm k)=some v/\FdAt K H₀ G H ow i m k fd v
 | _,_,_,.nil,e=>by simp at e
 | _,_,fd,.cons (k:=a) h nk r t,e=>by
  cases q:k==a with
  | true=>
   have z:=beq_iff_eq.mp q
   subst z
   simp only [List.lookup_cons,q] at e
   cases e
   exact ⟨_,by simp [List.lookup_cons],r⟩
  | false=>
   simp only [List.lookup_cons,q] at e
   obtain ⟨v,e1,e2⟩:=FdsAt.get t e
   have hk:=t.keys k fd e
   have ne:(cm k==cm a)=false:=by
    cases z:cm k==cm a with
    | false=>rfl
    | true=>have:=kS k hk a h (eq_of_beq z); rw [this] at q; simp at q
   exact ⟨v,by simp only [List.lookup_cons,ne]; exact e1,e2⟩
theorem FdsAt.put {fd:Fd} (hk:k < fnames.length) (r:FdAt K H₀ G H ow i m k fd v):∀ {fs:List (Nat × Fd)} {vs:List (Str × V)},FdsAt K H₀ G H ow i m fs vs->FdsAt K H₀ G H ow i m (lS k fd fs) (mB (cm k) v vs)
 | _,_,.nil=>.cons hk rfl r .nil
 | _,_,.cons (k:=a) h nk r' t=>by
  unfold lS mB
  by_cases z:a=k
  ·subst z
   rw [if_pos rfl,if_pos rfl]
   exact .cons h nk r t
  ·rw [if_neg z,if_neg (fun q=>z (kS a h k hk q))]
   exact .cons h (lf (fun q=>z q) nk) r' (FdsAt.put hk r t)
theorem FdsAt.len:∀ {fs:List (Nat × Fd)} {vs:List (Str × V)},FdsAt K H₀ G H ow i m fs vs->vs.length=fs.length
 | _,_,.nil=>rfl
 | _,_,.cons h nk r t=>by simp [FdsAt.len t]
theorem FdsAt.keepL {ow2:jP} (h:∀ l ws,H l=some (.lst ws)->H' l=some (.lst ws)/\ow2 l=ow l):∀ {fs:List (Nat × Fd)} {vs:List (Str × V)},FdsAt K H₀ G H ow i m fs vs->FdsAt K H₀ G H' ow2 i m fs vs
 | _,_,.nil=>.nil
 | _,_,.cons (fd:=fd) hk nk r t=>.cons hk nk (by
   cases fd with
   | val d=>exact r
   | own ds=>
    obtain ⟨l,ws,e,h1,h2,h3,h4,h5⟩:=r
    exact ⟨l,ws,e,(h l ws h1).1,h2,h3,h4,by rw [(h l ws h1).2]; exact h5⟩) (FdsAt.keepL h t)
theorem FdsAt.mutL {l:Addr} {us:List V} {es:List D} (re:Reps K G us es) (ol:ow l=some (i,k+1)) (gl:G l=none) (hl:m=true->H₀ l=none):∀ {fs:List (Nat × Fd)} {vs:List (Str × V)} {ds:List D},FdsAt K H₀ G H ow i m fs vs->fs.lookup k=some (.own ds)->vs.lookup (cm k)=some (.ref l)->
  FdsAt K H₀ G (upd H l (.lst us)) ow i m (lS k (.own es) fs) vs
 | _,_,_,.nil,e,_=>by simp at e
 | _,_,ds,.cons (k:=a) (fd:=fd) (v:=v) (fs:=fs) (vs:=vs) h nk r t,e,e2=>by
  have stay:∀ {j:Nat} {fd:Fd} {v:V},j ≠ k->FdAt K H₀ G H ow i m j fd v->FdAt K H₀ G (upd H l (.lst us)) ow i m j fd v:=fun {j fd v} nj q=>by
   cases fd with
   | val d=>exact q
   | own ds=>
    obtain ⟨l',ws,e,h1,h2,h3,h4,h5⟩:=q
    refine ⟨l',ws,e,?_,h2,h3,h4,h5⟩
    rw [aR]; exact h1
    intro z; rw [z,ol] at h5; cases h5; exact nj rfl
  have stays:∀ {fs:List (Nat × Fd)} {vs:List (Str × V)},fs.lookup k=none->FdsAt K H₀ G H ow i m fs vs->FdsAt K H₀ G (upd H l (.lst us)) ow i m fs vs:=by
   intro fs vs n q
   induction q with
   | nil=>exact .nil
   | @cons b fd' v' fs' vs' h' nk' r' t' ih=>
    have nb:(k==b)=false:=by
     cases z:k==b with
     | false=>rfl
     | true=>simp only [List.lookup_cons,z] at n; cases n
    have nt:fs'.lookup k=none:=by simpa only [List.lookup_cons,nb] using n
    exact .cons h' nk' (stay (fun z=>by rw [z] at nb; simp at nb) r') (ih nt)
  unfold lS
  by_cases z:a=k
  ·subst z
   rw [if_pos rfl]
   have ev:v=.ref l:=by simpa [List.lookup_cons] using e2
   subst ev
   exact .cons h nk ⟨l,us,rfl,bf,gl,hl,re,ol⟩ (stays nk t)
  ·rw [if_neg z]
   have q1:(k==a)=false:=by simp; exact fun q=>z q.symm
   have e':fs.lookup k=some (.own ds):=by simpa only [List.lookup_cons,q1] using e
   have hk:=t.keys k _ e'
   have q2:(cm k==cm a)=false:=by
    cases y:cm k==cm a with
    | false=>rfl
    | true=>exact absurd (kS k hk a h (eq_of_beq y)) fun q=>z q.symm
   have e2':vs.lookup (cm k)=some (.ref l):=by simpa only [List.lookup_cons,q2] using e2
   exact .cons h (lf z nk) (stay z r) (FdsAt.mutL re ol gl hl t e' e2')
end
theorem StR.objTo {K:PySem.W.Frag} {H₀:Hp} {fs fs':List (Nat × Fd)} {ow2:jP} (s:StR K G₀ H₀ G H σ ρ) (e:ρ[i]?=some (some (.obj true C p fs))) (o1:∀ (j:Nat) ds l,ρ[j]?=some (some (.own ds))->σ[j]?=some (some (.ref l))->ow l=some (j,0))
 (o2:∀ (j:Nat) m C p fs,ρ[j]?=some (some (.obj m C p fs))->σ[j]?=some (some (.ref p))/\ObjAt K H₀ G H ow j m C p fs)
 (hh:∀ a o,H a=some o->(∀ t,ow a ≠ some (i,t))->H' a=some o) (h0:Same H₀ H') (sub:Same G H') (oo:∀ a j t o,j ≠ i->ow a=some (j,t)->H a=some o->ow2 a=some (j,t)) (ob:ObjAt K H₀ G H' ow2 i true C p fs'):StR K G₀ H₀ G H' σ (ρ.set i (some (.obj true C p fs'))):=by
 have hl:i < ρ.length:=(List.getElem?_eq_some_iff.mp e).1
 have get:∀ (j:Nat) x,(ρ.set i (some (.obj true C p fs')))[j]?=some (some x)->(j=i/\x=.obj true C p fs')\/(j ≠ i/\ρ[j]?=some (some x)):=fun j x h=>by
  by_cases z:i=j
  ·subst z
   rw [List.getElem?_set_self hl] at h
   exact .inl ⟨rfl,by injection (Option.some.inj h) with q; exact q.symm⟩
  ·rw [List.getElem?_set_ne z] at h
   exact .inr ⟨fun q=>z q.symm,h⟩
 have ob':ObSt K H₀ G H' σ (ρ.set i (some (.obj true C p fs'))):=by
  refine ⟨ow2,fun j ds l h1 h2=>?_,fun j m' C' p' fs'' h1=>?_⟩
  ·rcases get j _ h1 with ⟨_,z⟩ | ⟨nj,f1⟩
   ·cases z
   ·obtain ⟨l2,vs,q1,q2,_⟩:=s.own j ds f1
    rw [h2] at q1; cases q1
    exact oo l j 0 _ nj (o1 j ds l f1 h2) q2
  ·rcases get j _ h1 with ⟨rfl,z⟩ | ⟨nj,f1⟩
   ·cases z; exact ⟨(o2 j true C p fs e).1,ob⟩
   ·exact ⟨(o2 j m' C' p' fs'' f1).1,(o2 j m' C' p' fs'' f1).2.keep ⟨fun a t o q1 q=>hh a o q (fun t' z=>by rw [q1] at z; cases z; exact nj rfl),.refl _,fun a t o _ _ n=>n,fun a t o q1 q=>oo a j t o nj q1 q,fun a o _ _ n=>n⟩⟩
 refine ⟨⟨sub,by simp [s.e.len],fun j d h=>?_,ob'.rd⟩,s.sub0,⟨sub,s.up.gg,h0,s.up.fr⟩,fun j ds h=>?_,fun j k ds es l q1 q2 q3 q4=>?_,ob'⟩
 ·rcases get j _ h with ⟨_,z⟩ | ⟨_,f1⟩
  ·cases z
  ·exact s.e.val j d f1
 ·rcases get j _ h with ⟨_,z⟩ | ⟨nj,f1⟩
  ·cases z
  ·obtain ⟨l,vs,p1,p2,p3,p4,p5⟩:=s.own j ds f1
   exact ⟨l,vs,p1,hh l _ p2 (fun t z=>by rw [o1 j ds l f1 p1] at z; cases z; exact nj rfl),p3,p4,p5⟩
 ·rcases get j _ q1 with ⟨_,z⟩ | ⟨nj,f1⟩
  ·cases z
  ·rcases get k _ q2 with ⟨_,z⟩ | ⟨nk,f2⟩
   ·cases z
   ·exact s.inj j k ds es l f1 f2 q3 q4
section
variable {K:PySem.W.Frag} {G₀ H₀ G H:Hp} {σ:St} {ρ:Ev} {i k:Nat} {C p dx:Addr} {fs:List (Nat × Fd)} {vs:List (Str × V)}
theorem StR.fmut (s:StR K G₀ H₀ G H σ ρ) (e:ρ[i]?=some (some (.obj true C p fs))) {es:List D} {us:List V} (ek:fs.lookup k=some (.own ds)) (re:Reps K G us es) {l:Addr} (hp:H p=some (.ins C dx vs)) (el:vs.lookup (cm k)=some (.ref l)) :
  StR K G₀ H₀ G (upd H l (.lst us)) σ (ρ.set i (some (.obj true C p (lS k (.own es) fs)))):=by
 obtain ⟨ow,o1,o2⟩:=s.ob
 obtain ⟨_,dx',vs',h1,h2,h3,h4,h5,h6,h7,h8⟩:=o2 i true C p fs e
 rw [hp] at h1; cases h1
 obtain ⟨v,e1,l',ws,ev,g1,g2,g3,g4,g5⟩:=h8.get ek
 rw [el] at e1; cases e1; cases ev
 have np:∀ {a:Addr} {o:HO},H a=some o->(∀ xs,o ≠ .lst xs)->a ≠ l:=fun q n z=>by rw [z,g1] at q; cases q; exact n _ rfl
 refine s.objTo e o1 o2 (ow2:=ow) (fun a o q n=>?_) (fun a o q=>?_) (fun a o q=>?_) (fun a j t o _ q _=>q) ?_
 ·rw [aR (fun z=>n _ (z ▸ g5))]; exact q
 ·rw [aR (fun z=>by rw [z,g3 rfl] at q; cases q)]; exact s.up.hh a o q
 ·rw [aR (fun z=>by rw [z,g2] at q; cases q)]; exact s.e.sub a o q
 ·refine ⟨dx,vs,?_,?_,h3,h4,h5,h6,h7,h8.mutL re g5 g2 g3 ek el⟩
  ·rw [aR (np hp fun _ z=>by cases z)]; exact hp
  ·rw [aR (np h2 fun _ z=>by cases z)]; exact h2
theorem StR.fputL (s:StR K G₀ H₀ G H σ ρ) (e:ρ[i]?=some (some (.obj true C p fs))) (hk:k < fnames.length) {l:Addr} {us:List V} (hl:H l=none) (r:Reps K G us ds) (hp:H p=some (.ins C dx vs)) :
  StR K G₀ H₀ G (upd (upd H l (.lst us)) p (.ins C dx (mB (cm k) (.ref l) vs))) σ (ρ.set i (some (.obj true C p (lS k (.own ds) fs)))):=by
 obtain ⟨ow,o1,o2⟩:=s.ob
 obtain ⟨_,dx',vs',h1,h2,h3,h4,h5,h6,h7,h8⟩:=o2 i true C p fs e
 rw [hp] at h1; cases h1
 have nl:∀ {a:Addr} {o:HO},H a=some o->a ≠ l:=fun q z=>by rw [z,hl] at q; cases q
 have gl:G l=none:=s.e.sub.free hl
 have h0l:H₀ l=none:=s.up.hh.free hl
 refine s.objTo e o1 o2 (ow2:=fun a=>if a=l then some (i,k+1) else ow a) (fun a o q n=>?_) (fun a o q=>?_) (fun a o q=>?_) (fun a j t o _ q q2=>(if_neg (nl q2)).trans q) ?_
 ·rw [aR (fun z=>n _ (z ▸ h6)),aR (nl q)]; exact q
 ·rw [aR (fun z=>by rw [z,(h5 rfl).1] at q; cases q),aR (nl (s.up.hh a o q))]; exact s.up.hh a o q
 ·rw [aR (fun z=>by rw [z,h3] at q; cases q),aR (nl (s.e.sub a o q))]; exact s.e.sub a o q
 ·refine ⟨dx,_,bf,?_,h3,h4,h5,(if_neg (nl hp)).trans h6,(if_neg (nl h2)).trans h7,?_⟩
  ·rw [aR (fun z=>by rw [z,hp] at h2; cases h2),aR (nl h2)]; exact h2
  ·refine FdsAt.put (fd:=.own ds) hk ⟨l,us,rfl,?_,gl,fun _=>h0l,r,if_pos rfl⟩ (h8.keepL fun l' ws q=>⟨?_,if_neg (nl q)⟩)
   ·rw [aR (fun z=>nl hp z.symm),bf]
   ·rw [aR (fun z=>by rw [z,hp] at q; cases q),aR (nl q)]; exact q
end
end L2
namespace L2
open PySem PySem.Spec PyProof.Rows
noncomputable def ly (C:Addr) (ρ:Ev) (i:Nat):R (List (Nat × Fd)):=match ρ[i]? with
 | some (some (.obj _ C' _ fs))=>if C'=C then .ok fs else .no
 | _=>.no
noncomputable def nD (C:Addr) (ρ:Ev) (i:Nat):R (Addr × List (Nat × Fd)):=match ρ[i]? with
 | some (some (.obj true C' p fs))=>if C'=C then .ok (p,fs) else .no
 | _=>.no
noncomputable def fldL (fs:List (Nat × Fd)) (k:Nat):R (List D):=match fs.lookup k with
 | some (.own ds)=>.ok ds
 | _=>.no
noncomputable def tW (C:Addr) (i k:Nat) (gb:Ev->R D):Ev->R D:=fun ρ=>ly C ρ i>>=fun fs=>fldL fs k>>=fun ds=>gb ρ>>=fun d=>ofO (ixD (.lst false ds) d)
noncomputable def iW (C:Addr) (i k:Nat):Ev->R D:=fun ρ=>ly C ρ i>>=fun fs=>fldL fs k>>=fun ds=>.ok (.int ds.length)
noncomputable def wU (C:Addr) (i k:Nat) (ga:Ev->R D):Ev->O:=fun ρ=>(nD C ρ i).out ρ fun o=>(fldL o.2 k).out ρ fun ds=>(ga ρ).out ρ fun d=>if ds.length < sizeLine then .nx (ρ.set i (some (.obj true C o.1 (lS k (.own (ds++[d])) o.2)))) else .no
noncomputable def qP (C:Addr) (i k j:Nat):Ev->O:=fun ρ=>(nD C ρ i).out ρ fun o=>(fldL o.2 k).out ρ fun ds=>match ds.getLast? with
 | some d=>if i ≠ j then .nx ((ρ.set i (some (.obj true C o.1 (lS k (.own ds.dropLast) o.2)))).set j (some (.val d))) else .no
 | none=>.no
noncomputable def wF (C:Addr) (i k:Nat) (gl:Ev->R (List D)):Ev->O:=fun ρ=>(nD C ρ i).out ρ fun o=>(gl ρ).out ρ fun ds=>if o.2.length < 900 then .nx (ρ.set i (some (.obj true C o.1 (lS k (.own ds) o.2)))) else .no
noncomputable def vn (ga:Ev->R D):Ev->O:=fun ρ=>(ga ρ).out ρ fun d=>.re d ρ
structure CF (K:PySem.W.Frag) (C:Addr) (ks:List Nat):Prop where
 cl:Cls K C
 na:∀ k ∈ ks,k < fnames.length/\NoAttr K C (cm k)
theorem rY {α:Type} {k:List (Nat × Fd)->R α} {P:α->Prop} {E:Addr->Prop} (h:(ly C ρ i>>=k).post P E):∃ m p fs,ρ[i]?=some (some (.obj m C p fs))/\(k fs).post P E:=by
 unfold ly at h
 split at h
 ·rename_i m C' p fs e
  by_cases z:C'=C
  ·subst z; rw [if_pos rfl] at h; exact ⟨m,p,fs,e,h⟩
  ·rw [if_neg z] at h; exact h.elim
 ·exact h.elim
theorem vy {fs:List (Nat × Fd)} {α:Type} {k:List D->R α} {P:α->Prop} {E:Addr->Prop} (h:(fldL fs n>>=k).post P E):∃ ds,fs.lookup n=some (.own ds)/\(k ds).post P E:=by
 unfold fldL at h
 split at h
 ·rename_i ds e; exact ⟨ds,e,h⟩
 ·exact h.elim
theorem kX {H₀:Hp} {D:Ends} {k:Addr × List (Nat × Fd)->O} (h:mq X G₀ H₀ D ((nD C ρ i).out ρ k)):∃ p fs,ρ[i]?=some (some (.obj true C p fs))/\mq X G₀ H₀ D (k (p,fs)):=by
 unfold nD at h
 split at h
 ·rename_i C' p fs e
  by_cases z:C'=C
  ·subst z; rw [if_pos rfl] at h; exact ⟨p,fs,e,h⟩
  ·rw [if_neg z] at h; exact h.elim
 ·exact h.elim
theorem tP {H₀:Hp} {D:Ends} {fs:List (Nat × Fd)} {k:List L2.D->O} (h:mq X G₀ H₀ D ((fldL fs n).out ρ k)):∃ ds,fs.lookup n=some (.own ds)/\mq X G₀ H₀ D (k ds):=by
 unfold fldL at h
 split at h
 ·rename_i ds e; exact ⟨ds,e,h⟩
 ·exact h.elim
section
variable {X:Cx} {e b:Expr} {es:List Expr} {ga gb:Ev->R D} {gl:Ev->R (List D)} {x f:Str} {i k:Nat} {C:Addr} {ks:List Nat} {p1 p2 p3 pos ap cp:Pos}
theorem StE.fldL {K:PySem.W.Frag} {m:Bool} {fs:List (Nat × Fd)} (st:StE K G H σ ρ) (e:ρ[i]?=some (some (.obj m C p fs))) (ek:fs.lookup k=some (.own ds)) :
  ∃ dx vs l ws,σ[i]?=some (some (.ref p))/\H p=some (.ins C dx vs)/\vs.lookup (cm k)=some (.ref l)/\H l=some (.lst ws)/\Reps K G ws ds:=by
 obtain ⟨es,ow,dx,vs,h1,h2,h3,h4,h5,h6,h7,h8⟩:=st.obs i m C p fs e
 obtain ⟨v,e1,l,ws,rfl,g1,g2,g3,g4,g5⟩:=h8.get ek
 exact ⟨dx,vs,l,ws,es,h1,e1,g1,g4⟩
end
end L2
namespace L2
open PySem PySem.Spec PyProof.Rows
structure MCallee (P:Program) (w:World) (K:PySem.W.Frag) (mg:Str->Option Value) (base:Heap) (C:Addr) (mn:Str) (k n:Nat) (F:MF):Prop where
 ex:∃ f fd ps,FnM P w K mg base k f fd ps C F/\Meth K C mn f/\Binds K fd ps []/\ps.length=n+1
theorem MCallee.mono {w:World} {K:PySem.W.Frag} {mg:Str->Option Value} {base:Heap} {mn:Str} (c:MCallee P w K mg base C mn k n F) (k':Nat) (h:k<=k':=by decide):MCallee P w K mg base C mn k' n F:=by
 obtain ⟨f,fd,ps,M,hm,hb,e⟩:=c.ex
 exact ⟨f,fd,ps,{ M with run:=fun A outer s H args us vs Q E hr=>M.run A outer s H args us vs Q E (hr.mono h) },hm,hb,e⟩
theorem FdsAt.none {K:PySem.W.Frag} {H₀:Hp} {m:Bool} {mn:Str} (hn:∀ k,k < fnames.length->(mn==cm k)=false):∀ {fs:List (Nat × Fd)} {vs:List (Str × V)},FdsAt K H₀ G H ow i m fs vs->vs.lookup mn=Option.none
 | _,_,.nil=>rfl
 | _,_,.cons (k:=a) h nk r t=>by simp only [List.lookup_cons,hn a h]; exact FdsAt.none hn t
section
variable {X:Cx} {pins:List (Addr × Obj)} {σ:St} {G H:Hp} {s:Shared} {k n:Nat} {f:Addr} {fd:FuncData} {ps:List Str} {C p:Addr} {F:MF} {us:List Value} {vs:List V} {ds:List D} {fs:List (Nat × Fd)} {ow:jP} {Q:VK}
theorem jN (M:FnM X.prog X.w X.K X.mg X.base k f fd ps C F) (hr:Room k X.A) (hb:Binds X.K fd ps []) (hl:ps.length=n+1) (I:Inv X pins σ H s) (r:Vals vs us) (rp:Reps X.K G vs ds) (hn:ds.length=n) (sub:Same G H) (og:∀ a t,ow a=some t->G a=none)
 (ob:ObjAt X.K (fun _=>none) G H ow 0 true C p fs) (h:match F fs ds with
 | .ok d fs'=>∀ v G' H' ow',Up G (hid H ow) G' H'->ObjAt X.K (hid H ow) G' H' ow' 0 true C p fs'->Rep X.K G' v d->Q v H'
 | .rd d=>∀ v G' H',Up G H G' H'->Rep X.K G' v d->Q v H'
 | .ex C'=>Exx X σ G H C'
 | .no=>False):wpAny (model X.prog X.w) X.A (call (.ref f) (.ref p::us)) (EP X pins σ Q) X.xe s:=by
 have hvl:(V.ref p::vs).length=ps.length:=by rw [hl,List.length_cons,rp.length,hn]
 have hul:(Value.ref p::us++[]).length=ps.length:=by rw [List.append_nil,List.length_cons,<- r.length,<- List.length_cons (a:=V.ref p)]; exact hvl
 have hbb:=hb s (.ref p::us) I.kIn hul
 rw [List.append_nil] at hbb
 refine wpAny_call (codeAny_mono (M.run X.A X.stack s H ⟨.ref p::us,[]⟩ (.ref p::us) (.ref p::vs) Q (fun c _ H'=>∃ C G',c=.ref C/\Up G H G' H'/\Exx X σ G H C) hr I.env0 hbb (.cons rfl r) ⟨hvl,G,p,vs,ds,fs,ow,rfl,rp,sub,og,ob,?_⟩) fun r' s' hq=>?_)
 ·cases q:F fs ds with
  | ok d fs'=>rw [q] at h; exact h
  | rd d=>rw [q] at h; exact h
  | ex C'=>rw [q] at h; exact fun G' H' u=>⟨C',G',rfl,u,h⟩
  | no=>rw [q] at h; exact h.elim
 ·cases r' with
  | error e'=>
   obtain ⟨a,C,H',rfl,fl,C',G',ec,u,q⟩:=hq
   cases ec
   exact q _ _ ⟨G,H,.refl sub,pins,s,a,rfl,I,.inr (.inl ⟨G',H',fl,u⟩)⟩
  | ok fl=>
   cases fl with
   | ret u=>exact I.after hq
   | _=>exact False.elim hq
end
noncomputable def RM.read:RM->R D
 | .rd d=>.ok d
 | .ex C=>.ex C
 | _=>.no
noncomputable def CI (C:Addr) (i n:Nat) (F:MF) (gl:Ev->R (List D)):Ev->R D:=fun ρ=>ly C ρ i>>=fun fs=>gl ρ>>=fun ds=>if ds.length=n then (F fs ds).read else .no
noncomputable def ci (C:Addr) (i:Nat) (F:MF):Ev->R D:=fun ρ=>ly C ρ i>>=fun fs=>(F fs []).read
noncomputable def RM.out (r:RM) (C p:Addr) (i:Nat) (ρ:Ev):O:=match r with
 | .ok _ fs'=>.nx (ρ.set i (some (.obj true C p fs')))
 | .rd _=>.nx ρ
 | .ex E=>.ex E ρ
 | .no=>.no
noncomputable def qT (C:Addr) (i n:Nat) (F:MF) (gl:Ev->R (List D)):Ev->O:=fun ρ=>(nD C ρ i).out ρ fun o=>(gl ρ).out ρ fun ds=>if ds.length=n then (F o.2 ds).out C o.1 i ρ else .no
noncomputable def ww (C:Addr) (i:Nat) (F:MF):Ev->O:=fun ρ=>(nD C ρ i).out ρ fun o=>(F o.2 []).out C o.1 i ρ
section
variable {X:Cx} {e:Expr} {es:List Expr} {gl:Ev->R (List D)} {x mn:Str} {i k n:Nat} {C:Addr} {ks:List Nat} {F:MF} {p1 ap pos ep:Pos}
end
end L2
namespace L2
open PySem PySem.Spec PyProof.Rows
structure MkC (P:Program) (w:World) (K:PySem.W.Frag) (mg:Str->Option Value) (base:Heap) (C:Addr) (cn:Str) (k n:Nat) (F:MF):Prop where
 ex:∃ f fd ps,FnM P w K mg base k f fd ps C F/\Mk K C f/\mg cn=some (.ref C)/\Binds K fd ps []/\ps.length=n+1
section
variable {X:Cx} {pins:List (Addr × Obj)} {σ:St} {G H:Hp} {s:Shared} {k n:Nat} {f:Addr} {fd:FuncData} {ps:List Str} {C:Addr} {F:MF} {us:List Value} {vs:List V} {ds:List D} {Q:VK}
theorem yR (M:Mk X.K C f) (Fi:FnM X.prog X.w X.K X.mg X.base k f fd ps C F) (hr:Room (k+1) X.A) (hb:Binds X.K fd ps []) (hl:ps.length=n+1) (I:Inv X pins σ H s) (r:Vals vs us) (rp:Reps X.K G vs ds) (hn:ds.length=n) (sub:Same G H)
 (h:match F [] ds with
 | .ok d fs'=>d=.non/\∀ x G' H' ow',Up G H G' H'->ObjAt X.K H G' H' ow' 0 true C x fs'->Q (.ref x) H'
 | .ex C'=>Exx X σ G H C'
 | _=>False):wpAny (model X.prog X.w) X.A (call (.ref C) us) (EP X pins σ Q) X.xe s:=by
 have I2:=Inv.made (C:=C) I
 generalize hx:s.heap.objs.size+1=x at I2
 generalize hd:s.heap.objs.size=dx at I2
 have fx:H x=none:=I.hok.fresh (by rw [<- hx]; exact Nat.le_succ _)
 have fd':H dx=none:=I.hok.fresh (by rw [<- hd]; exact Nat.le_refl _)
 have ne:dx ≠ x:=by rw [<- hx,<- hd]; exact Nat.ne_of_lt (Nat.lt_succ_self _)
 have gx:G x=none:=sub.free fx
 have gd:G dx=none:=sub.free fd'
 have hh:Same H (upd (upd H dx (.own x)) x (.ins C dx [])):=fun a o e=>by rw [aR (aU e fx),aR (aU e fd')]; exact e
 have sub2:Same G (upd (upd H dx (.own x)) x (.ins C dx [])):=sub.trans hh
 have up2:Up G H G (upd (upd H dx (.own x)) x (.ins C dx [])):=⟨sub2,.refl _,hh,fun _ _ e=>.inl e⟩
 let ow:jP:=fun a=>if a=x\/a=dx then some (0,0) else none
 have og:∀ a t,ow a=some t->G a=none:=fun a t q=>by
  by_cases z:a=x\/a=dx
  ·rcases z with z | z
   ·rw [z]; exact gx
   ·rw [z]; exact gd
  ·have:ow a=none:=if_neg z
   rw [this] at q; cases q
 have ob:ObjAt X.K (fun _=>none) G (upd (upd H dx (.own x)) x (.ins C dx [])) ow 0 true C x []:=
  ⟨dx,[],bf,by rw [aR ne,bf],gx,gd,fun _=>⟨rfl,rfl⟩,if_pos (.inl rfl),if_pos (.inr rfl),.nil⟩
 have eh:hid (upd (upd H dx (.own x)) x (.ins C dx [])) ow=H:=by
  funext a
  by_cases z:a=x\/a=dx
  ·rw [jS (t:=(0,0)) (if_pos z)]
   rcases z with z | z
   ·rw [z]; exact fx.symm
   ·rw [z]; exact fd'.symm
  ·rw [fw (if_neg z),aR (fun q=>z (.inl q)),aR (fun q=>z (.inr q))]
 have hvl:(V.ref x::vs).length=ps.length:=by rw [hl,List.length_cons,rp.length,hn]
 have hul:(Value.ref x::us++[]).length=ps.length:=by rw [List.append_nil,List.length_cons,<- r.length,<- List.length_cons (a:=V.ref x)]; exact hvl
 refine wpAny_call (xF (f:=f) I.kIn M.makes M.init (beq_iff_eq.mp M.fn) ?_)
 rw [hx,hd]
 have hbb:=hb _ (.ref x::us) I2.kIn hul
 rw [List.append_nil] at hbb
 refine codeAny_mono (Fi.run _ X.stack _ _ ⟨Value.ref x::us,[]⟩ (Value.ref x::us) (V.ref x::vs) (fun v H2=>v=.non/\Q (.ref x) H2) (fun c _ H'=>∃ C' G',c=.ref C'/\Up G (upd (upd H dx (.own x)) x (.ins C dx [])) G' H'/\Exx X σ G H C') (hr.make C us [])
  (I2.env0.make C us []) hbb (.cons rfl r) ⟨hvl,G,x,vs,ds,[],ow,rfl,rp,sub2,og,ob,?_⟩) fun r' s' hq=>?_
 ·cases q:F [] ds with
  | ok d fs'=>
   rw [q] at h
   intro v G' H' ow' u o rv
   rw [eh] at u o
   obtain ⟨rfl,h⟩:=h
   exact ⟨rv.non_inv,h x G' H' ow' u o⟩
  | rd d=>rw [q] at h; exact h.elim
  | ex C'=>rw [q] at h; exact fun G' H' u=>⟨C',G',rfl,u,h⟩
  | no=>rw [q] at h; exact h.elim
 ·cases r' with
  | error e'=>
   obtain ⟨a,C',H',rfl,fl,C'',G',ec,u,q⟩:=hq
   cases ec
   exact q _ _ ⟨G,_,up2,pins,_,a,rfl,I2,.inr (.inl ⟨G',H',fl,u⟩)⟩
  | ok fl=>
   cases fl with
   | ret u=>
    obtain ⟨v,H',I3,rv,ev,q3⟩:=I2.after hq
    subst ev
    exact ⟨rv,⟨V.ref x,H',I3,rfl,q3⟩⟩
   | _=>exact False.elim hq
end
noncomputable def xx (F:MF) (n:Nat) (ds:List D):R (List (Nat × Fd)):=if ds.length=n then (match F [] ds with
 | .ok .non fs'=>.ok fs'
 | .ex C=>.ex C
 | _=>.no) else .no
noncomputable def Hu (X:Cx) (C:Addr) (F:MF) (n:Nat) (gl:Ev->R (List D)):TE:=fun σ H Q=>∃ G ρ,StE X.K G H σ ρ/\(gl ρ>>=xx F n).post (fun fs'=>∀ x G' H' ow',Up G H G' H'->ObjAt X.K H G' H' ow' 0 true C x fs'->Q (.ref x) H') (Exx X σ G H)
section
variable {X:Cx} {e:Expr} {es:List Expr} {gl:Ev->R (List D)} {cn:Str} {k n:Nat} {C:Addr} {F:MF} {p pos:Pos}
theorem tY (c:MkC X.prog X.w X.K X.mg X.base C cn k n F) (hr:Room (k+1) X.A) (ha:QFA X (e::es) gl) (hg:Gl X cn:=by rfl) (hdb:(cn==("__debug__":Str))=false:=by decide)
 (he:starEach (e::es) X.env=(false,eval e X.env)::starEach es X.env:=by rfl) (hpl:(backTo pos (starEach es X.env)).any (·.1)=false:=by rfl):PE X (.Call (.Name cn p) (e::es) [] pos) (Hu X C F n gl):=by
 intro pins s σ H Q I h
 obtain ⟨f,fd,ps,M,mk,hm,hb,hl⟩:=c.ex
 obtain ⟨G,ρ,st,h⟩:=h
 refine wpAny_Call_Name_kw (fO I hg hm ?_ hdb)
 have t:tAF X gl σ H (fun vs H1=>∃ G1 ds,Up G H G1 H1/\Reps X.K G1 vs ds/\(xx F n ds).post (fun fs'=>∀ x G' H' ow',Up G H G' H'->ObjAt X.K H G' H' ow' 0 true C x fs'->Q (.ref x) H') (Exx X σ G H)):=by
  refine ⟨G,ρ,st,?_⟩
  cases q:gl ρ with
  | ok ds=>rw [q] at h; exact fun vs G1 H1 u r=>⟨G1,ds,u,r,h⟩
  | ex C=>rw [q] at h; exact h
  | no=>rw [q] at h; exact h
 refine PySem.W.callWith_K (h₀:=X.base) I.ok.mod.kin mk.kp (thn (ha pos pins s σ H _ I t) fun us s1 q=>⟨?_,?_⟩) he hpl
 ·obtain ⟨vs,H1,I1,r,_⟩:=q; exact I1.kIn
 obtain ⟨vs,H1,I1,r,G1,ds,u1,rp,h1⟩:=q
 unfold xx at h1
 by_cases hz:ds.length=n
 ·rw [if_pos hz] at h1
  refine yR mk M hr hb hl I1 r rp hz u1.sub ?_
  cases q:F [] ds with
  | ok d fs'=>
   rw [q] at h1
   cases d with
   | non=>
    refine ⟨rfl,fun x G' H' ow' u o=>h1 x G' H' ow' (u1.trans u) (o.keep ⟨fun _ _ _ _ e=>e,.refl _,fun _ _ _ _ _ n=>n,fun _ _ _ e _=>e,fun a o _ _ z=>u1.hh.free z⟩)⟩
   | _=>exact h1.elim
  | rd d=>rw [q] at h1; exact h1.elim
  | ex C'=>rw [q] at h1; exact Exx.up u1 h1
  | no=>rw [q] at h1; exact h1.elim
 ·rw [if_neg hz] at h1; exact h1.elim
noncomputable def yX (F:MF) (n:Nat) (gl:Ev->R (List D)):Ev->R D:=fun ρ=>match (gl ρ>>=xx F n) with
 | .ex C=>.ex C
 | _=>.no
end
theorem StR.setObj {K:PySem.W.Frag} {H₀ G':Hp} {x:Addr} {fs:List (Nat × Fd)} {ow':jP} (s:StR K G₀ H₀ G H σ ρ) (u:Up G H G' H') (ob:ObjAt K H G' H' ow' 0 true C x fs) (i:Nat):StR K G₀ H₀ G' H' (σ.set i (some (.ref x))) (ρ.set i (some (.obj true C x fs))):=by
 have get:∀ (j:Nat) y,(ρ.set i (some (.obj true C x fs)))[j]?=some (some y)->(j=i/\y=.obj true C x fs/\i < σ.length)\/(j ≠ i/\ρ[j]?=some (some y)/\(σ.set i (some (.ref x)))[j]?=σ[j]?):=fun j y h=>by
  by_cases e:i=j
  ·subst e
   have hl:i < ρ.length:=by
    have:=(List.getElem?_eq_some_iff.mp h).1
    simpa using this
   rw [List.getElem?_set_self hl] at h
   exact .inl ⟨rfl,by injection (Option.some.inj h) with q; exact q.symm,by rw [s.e.len]; exact hl⟩
  ·rw [List.getElem?_set_ne e] at h
   exact .inr ⟨fun z=>e z.symm,h,List.getElem?_set_ne e⟩
 have s1:=s.ups u
 have ob':ObSt K H₀ G' H' (σ.set i (some (.ref x))) (ρ.set i (some (.obj true C x fs))):=by
  obtain ⟨ow,o1,o2⟩:=s.ob
  refine ⟨fun a=>open Classical in if H a=none then sL 0 i ow' a else ow a,fun j ds l h1 h2=>?_,fun j m' C' p' fs' h1=>?_⟩
  ·rcases get j _ h1 with ⟨_,z,_⟩ | ⟨nj,f1,f2⟩
   ·cases z
   ·rw [f2] at h2
    obtain ⟨l2,vs,q1,q2,_⟩:=s.own j ds f1
    rw [h2] at q1; cases q1
    exact (if_neg (by rw [q2]; simp)).trans (o1 j ds l f1 h2)
  ·rcases get j _ h1 with ⟨rfl,z,hj⟩ | ⟨nj,f1,f2⟩
   ·cases z
    exact ⟨List.getElem?_set_self hj,ob.newtag (fun a t q n=>(if_pos n).trans (nW q)) fun a n=>s.up.hh.free n⟩
   ·rw [f2]
    have ku:ObKeep H₀ H₀ G H G' H' ow ow j:=.up u
    exact ⟨(o2 j m' C' p' fs' f1).1,(o2 j m' C' p' fs' f1).2.keep ⟨ku.hh,ku.gg,ku.gn,fun a t o q1 q2=>(if_neg (by rw [q2]; simp)).trans q1,ku.h0⟩⟩
 refine ⟨⟨s1.e.sub,by simp [s1.e.len],fun j d h=>?_,ob'.rd⟩,s1.sub0,s1.up,fun j ds h=>?_,fun j k ds es l q1 q2 q3 q4=>?_,ob'⟩
 ·rcases get j _ h with ⟨_,z,_⟩ | ⟨_,f1,f2⟩
  ·cases z
  ·rw [f2]; exact s1.e.val j d f1
 ·rcases get j _ h with ⟨_,z,_⟩ | ⟨nj,f1,f2⟩
  ·cases z
  ·rw [f2]; exact s1.own j ds f1
 ·rcases get j _ q1 with ⟨_,z,_⟩ | ⟨nj,f1,f2⟩
  ·cases z
  ·rcases get k _ q2 with ⟨_,z,_⟩ | ⟨nk,f3,f4⟩
   ·cases z
   ·exact s1.inj j k ds es l f1 f3 (f2 ▸ q3) (f4 ▸ q4)
noncomputable def Hw {α:Type} (X:Cx) (sts:List Stmt) (g:α->Ev->O):Prop:=∀ G₀ H₀,PSs X sts (fun D σ H=>∃ G ρ,StR X.K G₀ H₀ G H σ ρ/\∀ q,mq X G₀ H₀ D (g q ρ))
section
variable {X:Cx} {st:Stmt} {cZ:List Stmt} {g1:Ev->O} {gs:Ev->O} {α:Type} {g2:α->Ev->O} {e:Expr} {es:List Expr} {gl gl':Ev->R (List D)} {cn:Str} {k n:Nat} {C:Addr} {F:MF} {p pos:Pos}
noncomputable def Ai (g:Ev->O):Unit->Ev->O:=fun _=>g
noncomputable def lC (g1:Ev->O) (g2:α->Ev->O):α->Ev->O:=fun q ρ=>(g1 ρ).seq (g2 q)
noncomputable def zS (i:Nat) (g:α->Ev->O):α->Ev->O:=fun q ρ=>g q (frz i ρ)
noncomputable def Az (C:Addr) (i:Nat) (F:MF) (n:Nat) (gl:Ev->R (List D)) (g2:α->Ev->O):Addr × α->Ev->O:=fun q ρ=>(gl ρ>>=xx F n).out ρ fun fs=>g2 q.2 (ρ.set i (some (.obj true C q.1 fs)))
end
end L2
namespace L2
open PySem PySem.Spec PyProof.Rows
noncomputable def wv (X:Cx) (G₀ H₀:Hp) (σ:St) (Q:VK) (o:O):Prop:=match o with
 | .re d ρ=>∀ v G H,StR X.K G₀ H₀ G H σ ρ->Rep X.K G v d->Q v H
 | .ex C ρ=>∀ e s',FlyS X G₀ H₀ ρ C e s'->X.xe e s'
 | _=>False
noncomputable def tX (X:Cx) (G₀ H₀:Hp) (g:Ev->O):TE:=fun σ H Q=>∃ G ρ,StR X.K G₀ H₀ G H σ ρ/\wv X G₀ H₀ σ Q (g ρ)
noncomputable def QFX (X:Cx) (e:Expr) (g:Ev->O):Prop:=∀ G₀ H₀,PE X e (tX X G₀ H₀ g)
noncomputable def O.thenX (o:O) (k:D->Ev->O):O:=match o with
 | .re d ρ=>k d ρ
 | .ex C ρ=>.ex C ρ
 | _=>.no
noncomputable def xUp (g:Ev->R D):Ev->O:=fun ρ=>(g ρ).out ρ fun d=>.re d ρ
noncomputable def zZ (f:D->D->Option D) (g:Ev->O) (gb:Ev->R D):Ev->O:=fun ρ=>(g ρ).thenX fun x ρ'=>(gb ρ').out ρ' fun y=>(ofO (f x y)).out ρ' fun d=>.re d ρ'
noncomputable def xD (g:Ev->O):Ev->O:=fun ρ=>(g ρ).thenX fun d ρ'=>.re d ρ'
section
variable {X:Cx} {e a b c:Expr} {cZ:List Expr} {g g1 g2:Ev->O} {ga gb:Ev->R D} {gt:Ev->R Bool} {pos:Pos} {s1 s2:List Stmt} {h1 h2:Ev->O}
theorem Exx.fly {H₀:Hp} (sr:StR X.K G₀ H₀ G H σ ρ) (h:∀ e s',FlyS X G₀ H₀ ρ C e s'->X.xe e s'):Exx X σ G H C:=fun e s' ⟨G1,H1,u,f⟩=>h e s' (.of (sr.ups u) f)
theorem tX.read {α β:Type} {rep:Hp->β->α->Prop} {H₀:Hp} {m:Ev->R α} {Q:β->Hp->Prop} (sr:StR X.K G₀ H₀ G H σ ρ) (hk:∀ a,m ρ=.ok a->∀ v G1 H1,Up G H G1 H1->StR X.K G₀ H₀ G1 H1 σ ρ->rep G1 v a->Q v H1) (he:∀ C,m ρ=.ex C->∀ e s',FlyS X G₀ H₀ ρ C e s'->X.xe e s') (hn:m ρ ≠ .no):tG X rep m σ H Q:=by
 refine ⟨G,ρ,sr.e,?_⟩
 cases q:m ρ with
 | ok a=>exact fun v G' H' u r=>hk a q v G' H' u (sr.ups u) r
 | ex C=>exact Exx.fly sr (he C q)
 | no=>exact absurd q hn
end
noncomputable def vr (C:Addr) (ρ:Ev) (i:Nat):R (Bool × Addr × List (Nat × Fd)):=match ρ[i]? with
 | some (some (.obj m C' p fs))=>if C'=C then .ok (m,p,fs) else .no
 | _=>.no
noncomputable def RM.outX (r:RM) (m:Bool) (C p:Addr) (i:Nat) (ρ:Ev):O:=match r with
 | .ok d fs'=>if m=true then .re d (ρ.set i (some (.obj true C p fs'))) else .no
 | .rd d=>.re d ρ
 | .ex E=>.ex E ρ
 | .no=>.no
noncomputable def dJ (C:Addr) (i n:Nat) (F:MF) (gl:Ev->R (List D)):Ev->O:=fun ρ=>(vr C ρ i).out ρ fun o=>(gl ρ).out ρ fun ds=>if ds.length=n then (F o.2.2 ds).outX o.1 C o.2.1 i ρ else .no
theorem vW {H₀:Hp} {Q:VK} {k:Bool × Addr × List (Nat × Fd)->O} (h:wv X G₀ H₀ σ Q ((vr C ρ i).out ρ k)):∃ m p fs,ρ[i]?=some (some (.obj m C p fs))/\wv X G₀ H₀ σ Q (k (m,p,fs)):=by
 unfold vr at h
 split at h
 ·rename_i m C' p fs e
  by_cases z:C'=C
  ·subst z; rw [if_pos rfl] at h; exact ⟨m,p,fs,e,h⟩
  ·rw [if_neg z] at h; exact h.elim
 ·exact h.elim
section
variable {X:Cx} {e:Expr} {es:List Expr} {gl:Ev->R (List D)} {x y mn:Str} {i k n:Nat} {C:Addr} {ks:List Nat} {F:MF} {p1 ap pos ep:Pos}
theorem CL {H₀:Hp} {Q:VK} {Q':List V->Hp->Prop} {r:List D->O} (sr:StR X.K G₀ H₀ G H σ ρ) (h:wv X G₀ H₀ σ Q ((gl ρ).out ρ fun ds=>if ds.length=n then r ds else .no))
 (hk:∀ vs G1 H1 ds,StR X.K G₀ H₀ G1 H1 σ ρ->Reps X.K G1 vs ds->ds.length=n->wv X G₀ H₀ σ Q (r ds)->Q' vs H1):tAF X gl σ H Q':=by
 refine tX.read sr (fun ds e vs G1 H1 u s1 rr=>?_) (fun C e=>?_) fun e=>?_
 ·rw [e] at h
  have h:wv X G₀ H₀ σ Q (if ds.length=n then r ds else .no):=h
  by_cases hz:ds.length=n
  ·rw [if_pos hz] at h; exact hk vs G1 H1 ds s1 rr hz h
  ·rw [if_neg hz] at h; exact h.elim
 ·rw [e] at h; exact h
 ·rw [e] at h; exact h
theorem mF {H₀:Hp} {fs:List (Nat × Fd)} {Q:VK} {mm:Bool}
 (M:FnM X.prog X.w X.K X.mg X.base k f fd ps C F) (hr:Room k X.A) (hb:Binds X.K fd ps []) (hl:ps.length=n+1) (I:Inv X pins σ H s) (r:Vals vs us) (rp:Reps X.K G vs ds) (hz:ds.length=n) (sr:StR X.K G₀ H₀ G H σ ρ) (e1:ρ[i]?=some (some (.obj mm C p fs)))
 (h:wv X G₀ H₀ σ Q ((F fs ds).outX mm C p i ρ)):wpAny (model X.prog X.w) X.A (call (.ref f) (.ref p::us)) (EP X pins σ Q) X.xe s:=by
 obtain ⟨ow1,o1,o2⟩:=sr.ob
 obtain ⟨_,ob1⟩:=o2 i mm C p fs e1
 refine jN M hr hb hl I r rp hz sr.e.sub (fun a t q=>(fV q).2.2.1) ob1.cut ?_
 cases q:F fs ds with
 | ok d fs'=>
  rw [q] at h
  cases mm with
  | false=>exact h.elim
  | true=>exact fun v G' H' ow' u ob rv=>h v G' H' (sr.meth e1 o1 o2 u ob) rv
 | rd d=>rw [q] at h; exact fun v G' H' u rv=>h v G' H' (sr.ups u) rv
 | ex C'=>rw [q] at h; exact Exx.fly sr h
 | no=>rw [q] at h; exact h.elim
end
structure CalleeM (P:Program) (w:World) (K:PySem.W.Frag) (mg:Str->Option Value) (base:Heap) (C:Addr) (x:Str) (k n:Nat) (F:MF):Prop where
 ex:∃ f fd ps,FnM P w K mg base k f fd ps C F/\mg x=some (.ref f)/\PySem.W.keepIn K (.ref f)=true/\Binds K fd ps []/\ps.length=n+1
section
variable {X:Cx} {es:List Expr} {gl:Ev->R (List D)} {x y:Str} {i k n:Nat} {C:Addr} {F:MF} {p1 py pos:Pos}
end
section
variable {X:Cx} {es:List Expr} {gl:Ev->R (List D)} {x y:Str} {i k n:Nat} {C:Addr} {F:MF} {p1 py pos:Pos}
end
noncomputable def CV (P:Program) (w:World) (K:PySem.W.Frag) (mg:Str->Option Value) (base:Heap) (k:Nat) (s1:Shared) (G1 H1:Hp) (f:Addr) (Q:VK):Prop:=
 ∀ (Y:Cx) (pins:List (Addr × Obj)) (σY:St) (G2 H2:Hp) (s2:Shared) (fs:List Addr),Y.prog=P->Y.w=w->Y.K=K->Y.mg=mg->Y.base=base->Inv Y pins σY H2 s2->Room k Y.A->Un fs [] H1 H2 s1.heap s2.heap->Up G1 H1 G2 H2->
  (∃ o fd,s2.heap.get? f=some o/\o.data=.func fd)/\wpAny (model Y.prog Y.w) Y.A (call (.ref f) []) (EP Y pins σY Q) Y.xe s2
structure ToldOk (P:Program) (w:World) (K:PySem.W.Frag) (mg:Str->Option Value) (base:Heap) (x:Str) (k j:Nat):Prop where
 ex:∃ ft,mg x=some (.ref ft)/\PySem.W.keepIn K (.ref ft)=true/\∀ (A:Around) (outer:List Env) (s1:Shared) (G1 H1:Hp) (f:Addr) (Q:VK) (E:XK),Room k A->Env0 P w K mg base A outer s1 H1->Same G1 H1->CV P w K mg base j s1 G1 H1 f Q->
  codeAny (model P w) A (.call (.ref ft) ⟨[.ref f],[]⟩) (CR (CXo P w) outer P w H1 s1 Q E) s1
section
variable {P:Program} {w:World} {K:PySem.W.Frag} {mg:Str->Option Value} {base:Heap} {x y:Str} {st:Stmt} {ft:Addr} {fd:FuncData} {k:Nat} {h₀:ExceptHandler} {p1 p2 p3 tpos:Pos} {nm:Str}
end
theorem vJ {K:PySem.W.Frag} {H₀:Hp} {m:Bool} {fs:List (Nat × Fd)} (st:StE K G H σ ρ) (ix:List Nat) (e0:σ[i]?=some (some (.ref p))) (sub0:Same G H₀) (up:Up G H₀ G H) (ob:ObjAt K H₀ G H ow 0 m C p fs) :
  StR K G H₀ G H (cq 0 (i::ix) σ) (some (.obj m C p fs)::bK 0 ix ρ):=by
 have b:=jR st 0 ix
 have eS:cq 0 (i::ix) σ=some (.ref p)::cq 0 ix σ:=by
  unfold cq
  rw [List.replicate_zero,List.nil_append,List.nil_append,List.map_cons,e0]; rfl
 rw [eS]
 have get:∀ (j:Nat) x,(some (Sl.obj m C p fs)::bK 0 ix ρ)[j]?=some (some x)->(j=0/\x=.obj m C p fs)\/∃ k d,j=k+1/\(bK 0 ix ρ)[k]?=some (some (.val d))/\x=.val d:=fun j x e=>by
  cases j with
  | zero=>left; cases e; exact ⟨rfl,rfl⟩
  | succ k=>
   rw [List.getElem?_cons_succ] at e
   obtain ⟨d,rfl⟩:=fS k x e
   exact .inr ⟨k,d,rfl,e,rfl⟩
 have obs:ObSt K H₀ G H (some (V.ref p)::cq 0 ix σ) (some (.obj m C p fs)::bK 0 ix ρ):=by
  refine ⟨ow,fun j es l e=>?_,fun j m' C' p' fs' e=>?_⟩
  ·rcases get j _ e with ⟨_,z⟩ | ⟨k,d,_,_,z⟩ <;> cases z
  ·rcases get j _ e with ⟨rfl,z⟩ | ⟨k,d,_,_,z⟩
   ·cases z; exact ⟨rfl,ob⟩
   ·cases z
 refine ⟨⟨st.sub,?_,fun j d e=>?_,obs.rd⟩,sub0,up,fun j es e=>?_,fun i j es fs l e=>?_,obs⟩
 ·have:=b.len; simp only [List.length_cons,this]
 ·rcases get j _ e with ⟨_,z⟩ | ⟨k,d',rfl,e',z⟩
  ·cases z
  ·cases z
   obtain ⟨v,ev,rv⟩:=b.val k d e'
   exact ⟨v,by rw [List.getElem?_cons_succ]; exact ev,rv⟩
 ·rcases get j _ e with ⟨_,z⟩ | ⟨k,d,_,_,z⟩ <;> cases z
 ·rcases get i _ e with ⟨_,z⟩ | ⟨k,d,_,_,z⟩ <;> cases z
section
variable {X:Cx} {scope:Scope} {N':List Str} {ix:List Nat} {params:Arguments} {body:Expr} {lp p pos:Pos} {x:Str} {k j i:Nat} {C:Addr} {gb:Ev->O} {g:R D->R D}
end
noncomputable def kz (g:R D->R D) (C:Addr) (i:Nat) (ix:List Nat) (gb:Ev->O):Ev->R D:=fun ρ=>vr C ρ i>>=fun o=>match gb (some (.obj false C o.2.1 o.2.2)::bK 0 ix ρ) with
 | .re d _=>g (.ok d)
 | .ex E _=>g (.ex E)
 | _=>.no
theorem yi {α:Type} {k:Bool × Addr × List (Nat × Fd)->R α} {P:α->Prop} {E:Addr->Prop} (h:(vr C ρ i>>=k).post P E):∃ m p fs,ρ[i]?=some (some (.obj m C p fs))/\(k (m,p,fs)).post P E:=by
 unfold vr at h
 split at h
 ·rename_i m C' p fs e
  by_cases z:C'=C
  ·subst z; rw [if_pos rfl] at h; exact ⟨m,p,fs,e,h⟩
  ·rw [if_neg z] at h; exact h.elim
 ·exact h.elim
section
variable {X:Cx} {scope:Scope} {N':List Str} {ix:List Nat} {params:Arguments} {body:Expr} {lp p pos:Pos} {x:Str} {k j i:Nat} {C:Addr} {gb:Ev->O} {g:R D->R D}
end
noncomputable def Cy (g1 g2:Ev->O):Ev->O:=fun ρ=>(g1 ρ).thenX fun d ρ'=>match d with
 | .bl true=>g2 ρ'
 | .bl false=>.re (.bl false) ρ'
 | _=>.no
section
variable {X:Cx} {a b:Expr} {cZ:List Expr} {g g1 g2:Ev->O} {gb:Ev->R D} {pos:Pos}
theorem AY {op:CmpOp} {r:R2} {f:D->D->Option D} (ho:OpR X (compareOp op) r) (hf:ROk X.K r f) (ha:QFX X a g) (hb:QF X b gb) (hm:behindInMarks op b=false):QFX X (.Compare a [op] [b] pos) (zZ f g gb):=fun G₀ H₀ pins s σ H Q I ⟨G,ρ,sr,q⟩=>by
 refine vS ho (ha G₀ H₀) hb hm pins s σ H Q I ⟨G,ρ,sr,?_⟩
 unfold zZ at q
 cases e:g ρ with
 | re x ρ'=>
  rw [e] at q
  intro v G1 H1 s1 r1
  have q:wv X G₀ H₀ σ Q ((gb ρ').out ρ' fun y=>(ofO (f x y)).out ρ' fun d=>.re d ρ'):=q
  refine tX.read s1 (fun y e2 w G2 H2 u2 s2 r2=>?_) (fun C e2=>?_) fun e2=>?_
  ·rw [e2] at q
   have q:wv X G₀ H₀ σ Q ((ofO (f x y)).out ρ' fun d=>.re d ρ'):=q
   cases e3:f x y with
   | none=>rw [e3] at q; exact q.elim
   | some d=>
    rw [e3] at q
    exact hf G2 H2 v w x y d _ s2.e.sub (r1.mono u2.gg) r2 e3 fun z G3 H3 u3 r3=>q z G3 H3 (s2.ups u3) r3
  ·rw [e2] at q; exact q
  ·rw [e2] at q; exact q
 | ex C ρ'=>rw [e] at q; exact q
 | _=>rw [e] at q; exact q.elim
end
end L2
namespace L2
open PySem PySem.Spec PyProof.Rows
section
variable {X:Cx} {pos:Pos}
end
section
variable {X:Cx} {cZ:List Stmt} {α:Type} {g2:α->Ev->O} {e e3:Expr} {es:List Expr} {gl gl':Ev->R (List D)} {ga:Ev->R D} {cn:Str} {k n:Nat} {C:Addr} {F:MF} {pos:Pos}
end
end L2
namespace L2
open PySem PySem.Spec PyProof.Rows
noncomputable def oNo:Ev->O:=fun _=>.no
noncomputable def vI (g:Ev->O):Ev->O:=fun ρ=>(g ρ).thenX fun _ ρ'=>.nx ρ'
end L2
namespace L2
open PySem PySem.Spec PyProof.Rows
@[irreducible] noncomputable def yr {α:Type} (X:Cx) (e:List Stmt) (g:α->Ev->O):Prop:=Hw X e g
@[irreducible] noncomputable def PFX (X:Cx) (e:Expr) (g:Ev->O):Prop:=QFX X e g
@[irreducible] noncomputable def PF (X:Cx) (e:Expr) (g:Ev->R D):Prop:=QF X e g
@[irreducible] noncomputable def PFA (X:Cx) (e:List Expr) (g:Ev->R (List D)):Prop:=QFA X e g
@[irreducible] noncomputable def PB (X:Cx) (e:Expr) (g:Ev->R Bool):Prop:=QB X e g
@[irreducible] noncomputable def PBW (X:Cx) (e:Expr) (g:Ev->R Bool):Prop:=QBW X e g
@[irreducible] noncomputable def PSF (X:Cx) (e:Stmt) (g:Ev->O):Prop:=QSF X e g
@[irreducible] noncomputable def oK (X:Cx) (e:List Stmt) (g:Ev->O):Prop:=xz X e g
@[irreducible] noncomputable def PFL (X:Cx) (e:Expr) (g:Ev->R (List D)):Prop:=QFL X e g
@[irreducible] noncomputable def PIF (X:Cx) (tg e:Expr) (g:Ev->R (List D)):Prop:=QIF X tg e g
@[irreducible] noncomputable def PFO (X:Cx) (e:Option Expr) (g:Ev->R (Option Int)):Prop:=QFO X e g
local macro_rules | `(tactic| walk_at "u")=>`(tactic| ((try unfold yr at *); (try unfold PFX at *); (try unfold PBX at *); (try unfold PBXW at *); (try unfold PF at *); (try unfold PFA at *); (try unfold PB at *); (try unfold PBW at *); (try unfold PSF at *); (try unfold oK at *); (try unfold PFL at *); (try unfold PIF at *); (try unfold PFO at *)))
section
variable {X:Cx} {e a b c:Expr} {ga gb gc:Ev->R D} {pos:Pos}
theorem ay {i:Int}:PF X (.Constant (.int i) j pos) (fun _=>.ok (.int i)):=by
 with_unfolding_all exact dD Dp fun _ _=>.int i
theorem hU {k:Bool}:PF X (.Constant (.bool k) j pos) (fun _=>.ok (.bl k)):=by
 with_unfolding_all exact dD Es fun _ _=>.bl k
theorem pC:PF X (.Constant .none j pos) (fun _=>.ok .non):=by
 with_unfolding_all exact dD Dk fun _ _=>.non
theorem aQ {l:List Nat} (hl:x.cps.toList=l:=by rfl) (hz:l.length<=1000:=by decide):PF X (.Constant (.str x) j pos) (fun _=>.ok (.str l)):=by
 with_unfolding_all exact dD Dy fun _ _=>.strL hl (Nat.le_trans hz (by decide))
theorem du {i:Int} {t:Tok} (hg:Gl X x) (hm:X.mg x=some (.int i t)) (hd:(x==("__debug__":Str))=false:=by decide):PF X (.Name x pos) (fun _=>.ok (.int i)):=by
 with_unfolding_all exact dD (rH (v:=.int i) hg hm ⟨t,rfl⟩ hd) fun _ _=>.int i
end
section
variable {X:Cx}
theorem cu {a b:Expr} {ga:Ev->R D} (ha:PF X a ga) (hb:PF X b gb):PF X (.BinOp a .Add b pos) (g2 eE ga gb):=by
 with_unfolding_all exact hG AO (Cq _) ha hb
theorem sZ {a b:Expr} {ga:Ev->R D} (ha:PF X a ga) (hb:PF X b gb):PF X (.BinOp a .Sub b pos) (g2 zA ga gb):=by
 walk_at "u"
 exact hG DC (by
  intro G H x y dx dy d Q s rx ry e q
  unfold zA at e
  split at e
  ·cases e
   exact ⟨_,_,rx.int_inv,ry.int_inv,q _ G H (.refl s) (.int _)⟩
  ·cases e) ha hb
theorem AE {a b:Expr} {ga:Ev->R D} (ha:PF X a ga) (hb:PF X b gb):PF X (.BinOp a .FloorDiv b pos) (g2 yZ ga gb):=by
 walk_at "u"
 exact hG zJ (by
  intro G H x y dx dy d Q s rx ry e q
  unfold yZ at e
  split at e
  ·split at e
   ·rename_i hc
    cases e
    exact ⟨_,_,rx.int_inv,ry.int_inv,hc,q _ G H (.refl s) (.int _)⟩
   ·cases e
  ·cases e) ha hb
theorem kg {a b:Expr} {ga:Ev->R D} (ha:PF X a ga) (hb:PF X b gb):PF X (.BinOp a .Mod b pos) (g2 qk ga gb):=by
 walk_at "u"
 exact hG Cm (by
  intro G H x y dx dy d Q s rx ry e q
  unfold qk at e
  split at e
  ·split at e
   ·rename_i hc
    cases e
    exact ⟨_,_,rx.int_inv,ry.int_inv,hc,q _ G H (.refl s) (.int _)⟩
   ·cases e
  ·cases e) ha hb
end
section
variable {X:Cx} {a b c e:Expr} {ga gb gc:Ev->R D} {pos:Pos}
theorem Ek (ha:PF X a ga) (hb:PF X b gb):PF X (.Compare a [.LtE] [b] pos) (g2 leD ga gb):=by
 with_unfolding_all exact tM mw (uW _) ha hb (jb _)
theorem rG (ha:PF X a ga) (hb:PF X b gb) (hc:PF X c gc) (hm:lastMarks [.LtE,.LtE] [b,c]=false:=by with_unfolding_all rfl):PF X (.Compare a [.LtE,.LtE] [b,c] pos) (g3 leD leD ga gb gc):=by
 with_unfolding_all exact vk mw mw (uW _) (uW _) ha hb hc hm
end
section
variable {X:Cx} {a b:Expr} {ga gb:Ev->R D} {pos:Pos}
theorem wz (hu:X.A.units+64 < cLine) (ha:PF X a ga) (hb:PF X b gb):PF X (.Compare a [.Eq] [b] pos) (g2 eqF ga gb):=by
 walk_at "u"
 exact tM (wu hu) (by
  intro G H x y dx dy d Q s rx ry e q
  unfold eqF at e
  cases e1:eqD 40 dx dy with
  | none=>rw [e1] at e; cases e
  | some k=>rw [e1] at e; cases e; exact ⟨G,dx,dy,k,s,rx,ry,e1,q _ G H (.refl s) (.bl k)⟩) ha hb (jb _)
end
section
variable {X:Cx} {a b c e:Expr} {es cZ:List Expr} {ga gb gc:Ev->R D} {gt gu:Ev->R Bool} {gl:Ev->R (List D)} {pos:Pos}
theorem hW {op:BoolOp} (h:PF X a ga):PF X (.BoolOp op [a] pos) ga:=by
 with_unfolding_all exact zv h
theorem gG (ha:PF X a ga) (hb:PF X (.BoolOp .And (b::cZ) pos) gb):PF X (.BoolOp .And (a::b::cZ) pos) (oz ga gb):=by
 walk_at "u"
 intro pins s σ H Q I h
 refine zh ha hb pins s σ H Q I ?_
 obtain ⟨G,ρ,st,h⟩:=h
 refine tG.intro st h fun x v G1 H1 u1 st1 r1 h1=>?_
 obtain ⟨c,ec,ed,h2⟩:=asB.ok r1 h1
 subst ec ed
 refine ⟨c,rfl,?_⟩
 cases c with
 | true=>rw [if_pos rfl] at h2 ⊢; exact tG.last st1 h2
 | false=>rw [if_neg Bool.false_ne_true] at h2 ⊢; exact h2 _ G1 H1 (.refl st1.sub) (.bl false)
theorem Df (ha:PF X a ga) (hb:PF X (.BoolOp .Or (b::cZ) pos) gb):PF X (.BoolOp .Or (a::b::cZ) pos) (gOr ga gb):=by
 walk_at "u"
 intro pins s σ H Q I h
 refine E5 ha hb pins s σ H Q I ?_
 obtain ⟨G,ρ,st,h⟩:=h
 refine tG.intro st h fun x v G1 H1 u1 st1 r1 h1=>?_
 obtain ⟨c,ec,ed,h2⟩:=asB.ok r1 h1
 subst ec ed
 refine ⟨c,rfl,?_⟩
 cases c with
 | true=>rw [if_pos rfl] at h2 ⊢; exact h2 _ G1 H1 (.refl st1.sub) (.bl true)
 | false=>rw [if_neg Bool.false_ne_true] at h2 ⊢; exact tG.last st1 h2
theorem Cw (ha:PF X a ga):PF X (.UnaryOp .Not a pos) (E2 ga):=by
 walk_at "u"
 intro pins s σ H Q I h
 refine CK ha pins s σ H Q I ?_
 obtain ⟨G,ρ,st,h⟩:=h
 refine tG.intro st h fun x v G1 H1 u1 st1 r1 h1=>?_
 obtain ⟨c,ec,ed,h2⟩:=asB.ok r1 h1
 subst ec ed
 exact ⟨c,rfl,h2 _ G1 H1 (.refl st1.sub) (.bl _)⟩
theorem Fc (ha:PF X a ga) (hb:PF X b gb):PB X (.Compare a [.GtE] [b] pos) (fun ρ=>g2 geD ga gb ρ>>=asB):=by
 with_unfolding_all exact iy Fb (ET _) ha hb (jb _)
theorem eB (ha:PB X a gt):PBW X (.BoolOp .Or [a] pos) gt:=by
 with_unfolding_all exact CW ha
theorem fU (ha:PB X a gt) (hb:PBW X (.BoolOp .Or (b::cZ) pos) gu):PBW X (.BoolOp .Or (a::b::cZ) pos) (oB gt gu):=by
 walk_at "u"
 intro whole pins s σ H Q I h
 refine EN ha hb whole pins s σ H Q I ?_
 obtain ⟨G,ρ,st,h⟩:=h
 refine tG.intro st h fun x v G1 H1 u1 st1 r1 h1=>?_
 subst r1
 cases v with
 | true=>rw [if_pos rfl] at h1 ⊢; exact h1 _ G1 H1 (.refl st1.sub) rfl
 | false=>rw [if_neg Bool.false_ne_true] at h1 ⊢; exact tG.last st1 h1
theorem ae:PFA X [] (fun _=>.ok []):=by
 with_unfolding_all exact pz
theorem bg (ha:PF X a ga) (hb:PF X b gb) (hs:rM b:=by exact fun _ _=>rfl):PF X (.Subscript a b pos) (g2 ixD ga gb):=by
 walk_at "u"
 exact fun pins s σ H Q I h=>DI BO ha hb hs pins s σ H Q I (yq (EJ _) h)
end
section
variable {X:Cx} {a b c e:Expr} {es cZ:List Expr} {lo hi:Option Expr} {ga gb gc:Ev->R D} {go gp:Ev->R (Option Int)} {gl:Ev->R (List D)} {pos p2:Pos}
theorem hV:PFO X none (fun _=>.ok none):=by
 walk_at "u"
 intro pins s σ H Q I h
 obtain ⟨G,ρ,st,h⟩:=h
 exact A5 pins s σ H Q I (h none G H (.refl st.sub) rfl)
theorem ig (ha:PF X a ga) (hl:PFO X lo go) (hu:PFO X hi gp):PF X (.Subscript a (.Slice lo hi none p2) pos) (gSl ga go gp):=by
 walk_at "u"
 intro pins s σ H Q I h
 refine yM D8 ha hl hu pins s σ H Q I ?_
 obtain ⟨G,ρ,st,h⟩:=h
 refine tG.intro st h fun x v G1 H1 u1 st1 r1 h1=>?_
 refine tG.intro st1 h1 fun l l' G2 H2 u2 st2 r2 h2=>?_
 subst r2
 refine tG.intro st2 h2 fun u u' G3 H3 u3 st3 r3 h3=>?_
 subst r3
 obtain ⟨d,e,q⟩:=ofO.ok h3
 have r:=(r1.mono u2.gg).mono u3.gg
 unfold BH at e
 split at e
 ·cases e
  obtain ⟨y,rfl,ey,hy⟩:=r.str_inv
  subst ey
  exact .inl ⟨y,rfl,hy,q _ G3 H3 (.refl st3.sub) (.strL (wt y _ _) (Nat.le_trans (Ac _ _ _) (by rw [Str.len_list]; exact hy)))⟩
 ·rename_i xs0
  cases e
  obtain ⟨a,vs,rfl,h,t⟩:=r.tup_inv
  by_cases hw:HT.sIx vs.length 0 l'=0/\HT.sIx vs.length vs.length u'=vs.length
  ·refine .inr (.inl ⟨a,vs,rfl,h.mono st3.sub,hw,q _ G3 H3 (.refl st3.sub) ?_⟩)
   have e1:oj xs0 l' u'=xs0:=by
    unfold oj
    rw [<- t.length,hw.1,hw.2,List.drop_zero,Nat.sub_zero,t.length,List.take_length]
   rw [e1]
   exact .tup h t
  ·exact .inr (.inr (.inl ⟨a,vs,rfl,h.mono st3.sub,hw,fun p hp=>q _ _ _ (.new st3.sub hp) (.tup (.of bf) ((t.cut _ _).mono (.into (st3.sub.free hp))))⟩))
 ·cases e
  obtain ⟨a,vs,rfl,h,t⟩:=r.seq_inv
  exact .inr (.inr (.inr ⟨a,vs,rfl,h.mono st3.sub,fun p hp=>q _ _ _ (.new st3.sub hp) (.lst bf ((t.cut _ _).mono (.into (st3.sub.free hp))))⟩))
 ·cases e
theorem vF {T:String} {p:Pos} {r:List V->Hp->VK->Prop} {f:List D->Option D} (hc:kK X (.type T) r) (hf:Ed X.K r f) (hg:Gl X x) (hm:X.mg x=none) (hv:bootBuiltins x=some (.type T)) (ha:PFA X (e::es) gl)
 (hn:x ≠ "__name__":=by decide) (hdb:(x==("__debug__":Str))=false:=by decide)
 (he:starEach (e::es) X.env=(false,eval e X.env)::starEach es X.env:=by rfl) (hpl:(backTo pos (starEach es X.env)).any (·.1)=false:=by rfl):PF X (.Call (.Name x p) (e::es) [] pos) (fun ρ=>gl ρ>>=fun ds=>ofO (f ds)):=by
 walk_at "u"
 intro pins s σ H Q I h
 refine wK hc hg hm hv ha hn hdb he hpl pins s σ H Q I ?_
 obtain ⟨G,ρ,st,h⟩:=h
 refine tG.intro st h fun ds vs G1 H1 u1 st1 r1 h1=>?_
 obtain ⟨d,e,q⟩:=ofO.ok h1
 exact hf G1 H1 vs ds d Q st1.sub r1 e q
end
section
variable {X:Cx} {tg a e:Expr} {ga:Ev->R D} {gl:Ev->R (List D)} {pos:Pos}
end
section
end
section
variable {X:Cx} {elt iter:Expr} {ifs:List Expr} {x:Str} {px pos:Pos} {scope:Scope} {N':List Str} {ix:List Nat} {gi:Ev->R (List D)} {gt:Ev->R Bool} {ge:Ev->R D}
theorem iB (ok:CompOk X scope x N' ix) (hcalm:X.calm=true) (hi:PIF X (.Name x px) iter gi) (he:∀ C s₂ H₂ fp,PF (bI X N' scope C s₂ H₂ fp) elt ge) (ht:∀ C s₂ H₂ fp,PTs (bI X N' scope C s₂ H₂ fp) ifs gt)
 (hs:∀ x,foldedSetIterable iter X.env x=pure x:=by intro _; rfl):PFL X (.ListComp elt [⟨.Name x px,iter,ifs,0⟩] scope pos) (im gi ix gt ge):=by
 walk_at "u"
 intro pins s σ H Q I h
 obtain ⟨G,ρ,st,h⟩:=h
 rw [eval_ListComp]
 refine wpAny_comprehension_free (use:=none) rfl hs (fh fun y hy hy2=>I.ok.has y.1 (.inl (ok.fr y hy hy2))) ok.kind ok.names ?_
 have t:tG X (fun G J items=>ItOk X.K G J items) gi σ H (fun J H1=>∃ G1 items,Up G H G1 H1/\StE X.K G1 H1 σ ρ/\ItOk X.K G1 J items/\(jD gt ge items (lF ix ρ)>>=fun ds=>if ds.length<=sizeLine then R.ok ds else .no).post (vL X.K G H Q) (Exx X σ G H)):=by
  refine ⟨G,ρ,st,?_⟩
  unfold im at h
  cases e:gi ρ with
  | ok items=>rw [e] at h; exact fun J G1 H1 u r=>⟨G1,items,u,st.up u,r,h⟩
  | ex C=>rw [e] at h; exact h
  | no=>rw [e] at h; exact h
 refine thn (hi pins s σ H _ I t) fun v s1 h1=>thn h1 fun itv s2 h2=>?_
 obtain ⟨it,fp,tn,J,H2,e,I2,T,st2,f2,G2,items,u2,sE2,iok,h2⟩:=h2
 subst e
 have h2':(jD gt ge items (lF ix ρ)>>=fun ds=>if ds.length<=sizeLine then R.ok ds else .no).post (vL X.K G2 H2 Q) (Exx X σ G2 H2):=
  h2.mono (fun ds q l vs G' H' u hl r=>q l vs G' H' (u2.trans u) hl r) fun C q=>q.up u2
 refine qu (iter:=iter) (pos:=pos) (RR:=fun acc C=>compPost (model X.prog X.w) X.A X.xe none (EP X pins σ Q) acc C) ok hcalm he ht I2 T st2 f2 sE2 iok h2' ?_
 intro Dd C s' m vs G' H' up hd hCD _ q hm hos hb hC hCl un hok
 refine ⟨m,hm,fun h' hs'=>?_⟩
 have I3:=I2.call' (H':=upd H' Dd (.lst vs)) (s':={ s' with heap:=h' }) (ch:=fp) hos (un.sameBut (fun b o hbc e=>hs'.extBut b o hbc e) hCl) (hok.sameBut (fun b o hbc e=>hs'.extBut b o hbc e) (by rw [aR hCD]; exact hC)) hb fun b hb'=>by
  obtain ⟨f0,f1,f2',f3,f4,f5⟩:=f2 b hb'
  exact ⟨f3,f1,f4,f5⟩
 exact ⟨.ref Dd,_,I3,rfl,q⟩
end
section
variable {X:Cx} {st:Stmt} {cZ body a b:List Stmt} {e c tg:Expr} {g g1 g2:Ev->O} {ga:Ev->R D} {gt:Ev->R Bool} {gl:Ev->R (List D)} {pos:Pos}
end
section
variable {X:Cx} {k:Nat} {f:Addr} {fd:FuncData} {ps:List Str} {x:Str} {p pos:Pos} {e:Expr} {es:List Expr} {gl:Ev->R (List D)} {g:List D->R D}
end
section
theorem Fun.okF {w:World} {K:PySem.W.Frag} {mg:Str->Option Value} {base:Heap} {N:List Str} (F:Fun K x qual st f fd) (S:FnScope N ps (av st)) {g:Ev->O}
 (hbody:∀ (cdv:Value) (A:Around) (outer:List Env) (s:Shared) (H:Hp) (E:XK),Room k (A.deeper (envOfC qual (av st) s.heap.objs.size f cdv))->oK (cD (CXo P w) P w K mg base N qual (av st) f cdv A outer s H E) (bi st) g):FnF P w K mg base (k+1) f fd ps (fun ds=>aM (g (aL N.length ds))):=by
 walk_at "u"
 obtain ⟨oc,od,kV,doc,pm,an,cdv,ct,osl,rfl,lk,hcd⟩:=F.ex
 refine Ae lk hcd S (fun vs H Q E h=>h.1) fun A outer s H vs Q E hr hsp=>?_
 obtain ⟨hl,G,ds,sub,r,h⟩:=hsp
 refine ⟨_,hbody cdv A outer s H E hr G H,G,aL N.length ds,mJ sub r,?_⟩
 dsimp only at h
 cases q:g (aL N.length ds) with
 | nx ρ=>rw [q] at h; exact fun σ G' H' sr=>h .non G' H' sr.up .non
 | rt d=>rw [q] at h; exact fun v G' H' u rv=>h v G' H' u rv
 | re d ρ=>rw [q] at h; exact fun v σ G' H' sr rv=>h v G' H' sr.up rv
 | bk ρ=>rw [q] at h; exact h.elim
 | ct ρ=>rw [q] at h; exact h.elim
 | ex C ρ=>rw [q] at h; exact fun e s' fl=>jJ fl h
 | no=>rw [q] at h; exact h.elim
end
section
variable {X:Cx}
theorem gC {a b:Expr} {ga:Ev->R D} (ha:PF X a ga) (hb:PF X b gb):PF X (.BinOp a .Mult b pos) (g2 lB ga gb):=by
 with_unfolding_all exact hG AA (CD _) ha hb
end
section
variable {X:Cx} {e o:Expr} {es:List Expr} {ga gb:Ev->R D} {gl:Ev->R (List D)} {pos:Pos}
theorem Ay {T id:String} {ap cp:Pos} {r:V->List V->Hp->VK->Prop} {f:D->List D->Option D} (pa:PlainAttrs T) (slot:PySem.Slot T name id) (hty:typeOf (.builtin id)=pure (.type "method_descriptor")) (hm:MtR X id r) (hf:BG X.K T r f) (ho:PF X o ga) (ha:PFA X (e::es) gl)
 (hbase:attributeBase o name X.env (eval o X.env)=eval o X.env:=by rfl)
 (hfew:((backTo cp (starEach (e::es) X.env)).all (fun x=>!x.1) && (backToKw cp (keywordEach [] X.env)).all (fun x=>x.1.isSome)
 && decide ((e::es).length+([]:List Keyword).length+(if ([]:List Keyword).isEmpty then 0 else 1) < 30))=true:=by rfl)
 (hline:(ap.endLine==cp.line)=true:=by rfl) (hs:starEach (e::es) X.env=(false,eval e X.env)::starEach es X.env:=by rfl) (hplain:(backTo cp (starEach es X.env)).any (·.1)=false:=by rfl):PF X (.Call (.Attribute o name ap) (e::es) [] cp) (fun ρ=>ga ρ>>=fun x=>if gK T x=true then gl ρ>>=fun ds=>ofO (f x ds) else .no):=by
 with_unfolding_all exact ip pa slot hty hm hf ho ha hbase hfew hline hs hplain
end
section
variable {X:Cx} {e:Expr} {es:List Expr} {ga:Ev->R D} {gl:Ev->R (List D)} {pos:Pos}
end
section
variable {X:Cx} {body suite:List Stmt} {b₀:Stmt} {gb gs:Ev->O} {pos hp tp:Pos} {tn nm:Str} {Ct:Addr}
end
section
end
section
variable {X:Cx} {e:Expr} {ga:Ev->R D} {p p2 pos:Pos}
end
section
variable {X:Cx} {st:Stmt} {cZ body sa sb:List Stmt} {e a b c o tg:Expr} {es:List Expr} {g gs1 gs2:Ev->O} {ga gb gc:Ev->R D} {gt:Ev->R Bool} {gl:Ev->R (List D)} {pos p p2:Pos} {x:Str}
theorem aB (h1:PSF X st gs1) (h2:oK X cZ gs2):oK X (st::cZ) (aW gs1 gs2):=by
 with_unfolding_all exact qq h1 h2
theorem aV:oK X [] oNx:=by
 with_unfolding_all exact sP
theorem bx (he:PF X e ga):PSF X (.Return (some e) pos) (cw ga):=by
 with_unfolding_all exact uE he
theorem iS (hc:PB X c gt) (ha:oK X sa gs1) (hb:oK X sb gs2):PSF X (.If c sa sb pos) (oIf gt gs1 gs2):=by
 with_unfolding_all exact vE hc ha hb
theorem xN (i:Nat) (hN:X.N.Nodup) (he:PFL X e gl) (hi:X.N[i]?=some x:=by rfl) (hx:Loc X.env.scope x:=by first | exact Or.inl rfl | exact Or.inr rfl)
 (hs:swapsWithSole [.Name x p] e pos.line X.env=pure false:=by rfl) (hw:swappedStores [.Name x p] e X.env=pure none:=by rfl) (hf:X.fn x=true\/X.env.scope.names.lookup x=some .local:=by first | exact .inl rfl | exact .inr rfl):PSF X (.Assign [.Name x p] e pos) (xA i gl):=by
 with_unfolding_all exact va i hN he hi hx hs hw hf
theorem ii (he:PF X e ga) (hs:swapsWith e none pos.line X.env=pure false:=by rfl):PSF X (.Expr e pos) (kP ga):=by
 with_unfolding_all exact rL he hs
theorem CY (hp:PassesOwn (model X.prog X.w) X.A X.env X.xe) (hcalm:X.calm=true) (hi:PIF X tg iter gi) (hg:PGF X tg asg) (hb:oK X body g)
 (hs:∀ x,foldedSetIterable iter X.env x=pure x:=by intro _; rfl) (hn:∀ d ρ C,asg d ρ ≠ .ex C:=by intro _ _ _ z; cases z):PSF X (.For tg iter body [] pos) (Eb asg gi g):=by
 with_unfolding_all exact uX hp hcalm hi hg hb hs hn
theorem eG (hg:Gl X "len") (hm:X.mg "len"=none) (ha:PFA X [e] gl) (he:starEach [e] X.env=[(false,eval e X.env)]:=by rfl):PF X (.Call (.Name "len" p) [e] [] pos) (gOf gm gl):=by
 with_unfolding_all exact yJ hg hm ha he
theorem AS (hc:X.calm=true) (hg:Gl X "all") (hm:X.mg "all"=none) (ha:PFA X [e] gl) (he:starEach [e] X.env=[(false,eval e X.env)]:=by rfl):PF X (.Call (.Name "all" p) [e] [] pos) (gOf Ar gl):=by
 with_unfolding_all exact xQ hc hg hm ha he
theorem aa (ha:PF X e ga) (hr:PFA X es gl) (hs:starEach (e::es) X.env=(false,eval e X.env)::starEach es X.env:=by rfl):PFA X (e::es) (ac ga gl):=by
 with_unfolding_all exact oY ha hr hs
theorem bd {f:List D->R D} (c:Callee X.prog X.w X.K X.mg X.base x k n f) (hr:Room k X.A) (ha:PFA X (e::es) gl) (hg:Gl X x:=by rfl)
 (hdb:(x==("__debug__":Str))=false:=by decide) (he:starEach (e::es) X.env=(false,eval e X.env)::starEach es X.env:=by rfl) (hpl:(backTo pos (starEach es X.env)).any (·.1)=false:=by rfl):PF X (.Call (.Name x p) (e::es) [] pos) (bh n f gl):=by
 with_unfolding_all exact uG c hr ha hg hdb he hpl
theorem pG {gens:List Comprehension} {sc:Scope} (h:PFL X (.ListComp e gens sc pos) gl):PF X (.ListComp e gens sc pos) (bA gl):=by
 with_unfolding_all exact mC h
theorem cz (h:PFL X (.List es pos) gl):PF X (.List es pos) (bA gl):=by
 with_unfolding_all exact mC h
theorem cY (h:PFA X es gl):PFL X (.List es pos) (gS gl):=by
 with_unfolding_all exact wR h
theorem bq (h:PFA X es gl):PF X (.Tuple es k pos) (aP mkT gl):=by
 with_unfolding_all exact xW h
theorem yD (ha:PF X a ga):PF X (.UnaryOp .USub a pos) (aP yw ga):=by
 with_unfolding_all exact yK ha
theorem Bk (hm:X.mg "isinstance"=none) (ha:PF X e ga) (hm2:X.mg "int"=none) (hg2:Gl X "int":=by rfl) (hg:Gl X "isinstance":=by rfl) (hs1:starEach [e,.Name "int" p2] X.env=(false,eval e X.env)::starEach [.Name "int" p2] X.env:=by rfl):PF X (.Call (.Name "isinstance" p) [e,.Name "int" p2] [] pos) (aP (iI isInt) ga):=by
 with_unfolding_all exact uv hm ha hm2 hg2 hg hs1
theorem yo (hm:X.mg "isinstance"=none) (ha:PF X e ga) (hm2:X.mg "bool"=none) (hg2:Gl X "bool":=by rfl) (hg:Gl X "isinstance":=by rfl) (hs1:starEach [e,.Name "bool" p2] X.env=(false,eval e X.env)::starEach [.Name "bool" p2] X.env:=by rfl):PF X (.Call (.Name "isinstance" p) [e,.Name "bool" p2] [] pos) (aP (iI (·=="bool")) ga):=by
 with_unfolding_all exact rC hm ha hm2 hg2 hg hs1
theorem AM (hm:X.mg "isinstance"=none) (ha:PF X e ga) (hm2:X.mg "str"=none) (hg2:Gl X "str":=by rfl) (hg:Gl X "isinstance":=by rfl) (hs1:starEach [e,.Name "str" p2] X.env=(false,eval e X.env)::starEach [.Name "str" p2] X.env:=by rfl):PF X (.Call (.Name "isinstance" p) [e,.Name "str" p2] [] pos) (aP (iI (·=="str")) ga):=by
 with_unfolding_all exact uF hm ha hm2 hg2 hg hs1
theorem ic (hm:X.mg "isinstance"=none) (ha:PF X e ga) (hm2:X.mg "tuple"=none) (hg2:Gl X "tuple":=by rfl) (hg:Gl X "isinstance":=by rfl) (hs1:starEach [e,.Name "tuple" p2] X.env=(false,eval e X.env)::starEach [.Name "tuple" p2] X.env:=by rfl):PF X (.Call (.Name "isinstance" p) [e,.Name "tuple" p2] [] pos) (aP (iI (·=="tuple")) ga):=by
 with_unfolding_all exact qx hm ha hm2 hg2 hg hs1
theorem pZ (h:PF X e ga):PFO X (some e) (rf ga):=by
 with_unfolding_all exact uM h
theorem E7 (ha:PF X a ga) (hb:PF X b gb):PB X (.Compare a [.Lt] [b] pos) (gB2 ltD ga gb):=by
 with_unfolding_all exact A0 ha hb
theorem A6 (ha:PF X a ga) (hb:PF X b gb):PB X (.Compare a [.Gt] [b] pos) (gB2 gtD ga gb):=by
 with_unfolding_all exact BA ha hb
theorem rT (hu:X.A.units+64 < cLine) (ha:PF X a ga) (hb:PF X b gb):PB X (.Compare a [.Eq] [b] pos) (gB2 eqF ga gb):=by
 with_unfolding_all exact AG hu ha hb
theorem jz (hu:X.A.units+64 < cLine) (ha:PF X a ga) (hb:PF X b gb):PB X (.Compare a [.NotEq] [b] pos) (gB2 neF ga gb):=by
 with_unfolding_all exact AD hu ha hb
theorem zK (ha:PF X a ga) (hb:PF X b gb) (hc:PF X c gc) (hm:lastMarks [.LtE,.LtE] [b,c]=false:=by with_unfolding_all rfl):PB X (.Compare a [.LtE,.LtE] [b,c] pos) (gB3 leD leD ga gb gc):=by
 with_unfolding_all exact vz ha hb hc hm
theorem dN (ha:PB X a gt):PB X (.UnaryOp .Not a pos) (gBn gt):=by
 with_unfolding_all exact xH ha
theorem eN (h:PF X (.Call a es [] pos) ga):PB X (.Call a es [] pos) (aP kf ga):=by
 with_unfolding_all exact yt h
theorem lV {op:BoolOp} (h:PBW X (.BoolOp op es pos) gt):PB X (.BoolOp op es pos) gt:=by
 walk_at "u"
 exact fun pins s σ H Q I q=>h _ pins s σ H Q I q
theorem kF (ha:PF X a ga):PIF X tg a (aP dH ga):=by
 with_unfolding_all exact vQ ha
theorem tN (hg:Gl X "range") (hm:X.mg "range"=none) (ha:PFA X [a] gl) (hs:starEach [a] X.env=[(false,eval a X.env)]:=by rfl):PIF X tg (.Call (.Name "range" p) [a] [] pos) (aP fg gl):=by
 with_unfolding_all exact qp hg hm ha hs
end
section
variable {X:Cx} {N:List Str} {i:Nat} {x:Str} {pos:Pos}
theorem aF {w:World} {K:PySem.W.Frag} {mg:Str->Option Value} {base:Heap} {A:Around} {outer:List Env} {E:XK} (h:At N i x)
 (hv:Vis (cD CX P w K mg base N qual scope f cdv A outer s H E).env.scope x:=by first | exact Or.inl rfl | exact Or.inr (Or.inl rfl) | exact Or.inr (Or.inr rfl)) (hd:(x==("__debug__":Str))=false:=by decide)
 (hcd:(x==("__classdict__":Str))=false:=by decide):PF (cD CX P w K mg base N qual scope f cdv A outer s H E) (.Name x pos) (fun ρ=>rdV ρ i):=by
 with_unfolding_all exact jG i h hv hd hcd
theorem dU {s₂:Shared} {H₂:Hp} (h:At N i x)
 (hv:Vis (bI X N scope C s₂ H₂ fp).env.scope x:=by first | exact Or.inl rfl | exact Or.inr (Or.inl rfl) | exact Or.inr (Or.inr rfl)) (hd:(x==("__debug__":Str))=false:=by decide)
 (hcd:(x==("__classdict__":Str))=false:=by decide):PF (bI X N scope C s₂ H₂ fp) (.Name x pos) (fun ρ=>rdV ρ i):=by
 with_unfolding_all exact jG i h hv hd hcd
theorem fi {w:World} {K:PySem.W.Frag} {mg:Str->Option Value} {base:Heap} {A:Around} {outer:List Env} {E:XK} {e:Expr} {p:Pos} {ga:Ev->R D} (h:At N i x) (hN:N.Nodup)
 (he:PF (cD CX P w K mg base N qual scope f cdv A outer s H E) e ga) (hx:Loc (cD CX P w K mg base N qual scope f cdv A outer s H E).env.scope x:=by first | exact Or.inl rfl | exact Or.inr rfl)
 (hs:swapsWithSole [.Name x p] e pos.line (cD CX P w K mg base N qual scope f cdv A outer s H E).env=pure false:=by rfl) (hw:swappedStores [.Name x p] e (cD CX P w K mg base N qual scope f cdv A outer s H E).env=pure none:=by rfl)
 (hf:(cD CX P w K mg base N qual scope f cdv A outer s H E).fn x=true\/(cD CX P w K mg base N qual scope f cdv A outer s H E).env.scope.names.lookup x=some .local:=by first | exact .inl rfl | exact .inr rfl):PSF (cD CX P w K mg base N qual scope f cdv A outer s H E) (.Assign [.Name x p] e pos) (iH i ga):=by
 with_unfolding_all exact wr i hN he h hx hs hw hf
end
section
theorem eR {e:Expr} {ga:Ev->R D} {np cp:Pos} (r:Ref x C X.mg X.base) (hh:X.A.handled=none) (ha:PF X e ga) (hg:Gl X x:=by rfl)
 (hdb:(x==("__debug__":Str))=false:=by decide) (hs:starEach [e] X.env=(false,eval e X.env)::starEach [] X.env:=by rfl):PSF X (.Raise (some (.Call (.Name x np) [e] [] cp)) none pos) (fk C (ac ga fun _=>.ok [])):=by
 walk_at "u"
 obtain ⟨bm,B,newId,initId,Oc,FB⟩:=r.ex
 exact pb Oc FB hh hg (oY ha pz hs) hdb hs (fun ρ ds h=>A7 h)
end
section
variable {X:Cx} {elt iter:Expr} {ifs:List Expr} {x:Str} {px pos:Pos} {scope:Scope} {N':List Str} {ix:List Nat} {gi:Ev->R (List D)} {gt:Ev->R Bool} {ge:Ev->R D}
theorem wa (i:Nat) {spos:Pos} (hN:X.N.Nodup) (ok:CompOk X scope x N' ix) (hcalm:X.calm=true) (hi:PIF X (.Name x px) iter gi) (he:∀ C s₂ H₂ fp,PF (bI X N' scope C s₂ H₂ fp) elt ge) (ht:∀ C s₂ H₂ fp,PTs (bI X N' scope C s₂ H₂ fp) ifs gt)
 (hni:X.N[i]?=some y:=by rfl) (hy:X.env.scope.names.lookup y=some .local:=by rfl) (hs:∀ x,foldedSetIterable iter X.env x=pure x:=by intro _; rfl)
 (hsw:swapsWith (.ListComp elt [⟨.Name x px,iter,ifs,0⟩] scope pos) (some (.Name y py)) spos.line X.env=pure true:=by rfl):PSF X (.Assign [.Name y py] (.ListComp elt [⟨.Name x px,iter,ifs,0⟩] scope pos) spos) (xA i (im gi ix gt ge)):=by
 with_unfolding_all exact uB (n:=1) (asg:=vt 0) i hN ok.t hcalm (fun C s₂ H₂ fp=>iq (X:=bI X N' scope C s₂ H₂ fp) (pos:=px) 0 ok.nd ok.hd (.inl (lookup_relabel_local ok.loc)) (.inr (lookup_relabel_local ok.loc))) tK hi he ht hni hy hs hsw
end
section
variable {X:Cx} {st:Stmt} {cZ body:List Stmt} {e c o:Expr} {es:List Expr} {g:Ev->O} {ga:Ev->R D} {gl:Ev->R (List D)} {pos p p2:Pos}
theorem nR (i:Nat) {p ap cp:Pos} (he:PF X e ga) (hi:X.N[i]?=some x:=by rfl) (hv:Vis X.env.scope x:=by first | exact Or.inl rfl | exact Or.inr (Or.inl rfl))
 (hd:(x==("__debug__":Str))=false:=by decide) (hcd:(x==("__classdict__":Str))=false:=by decide) (hs1:starEach [e] X.env=(false,eval e X.env)::starEach [] X.env:=by rfl)
 (hbase:attributeBase (.Name x p) "extend" X.env (eval (.Name x p) X.env)=eval (.Name x p) X.env:=by rfl)
 (hfew:((backTo cp (starEach [e] X.env)).all (fun x=>!x.1) && (backToKw cp (keywordEach [] X.env)).all (fun x=>x.1.isSome)
 && decide ([e].length+([]:List Keyword).length+(if ([]:List Keyword).isEmpty then 0 else 1) < 30))=true:=by rfl)
 (hline:(ap.endLine==cp.line)=true:=by rfl)
 (hs:swapsWith (.Call (.Attribute (.Name x p) "extend" ap) [e] [] cp) none pos.line X.env=pure false:=by rfl):PSF X (.Expr (.Call (.Attribute (.Name x p) "extend" ap) [e] [] cp) pos) (CQ i ga):=by
 with_unfolding_all exact nK i he hi hv hd hcd hs1 hbase hfew hline hs
theorem mM (i:Nat) {p ap cp:Pos} (he:PF X e ga) (hi:X.N[i]?=some x:=by rfl) (hv:Vis X.env.scope x:=by first | exact Or.inl rfl | exact Or.inr (Or.inl rfl))
 (hd:(x==("__debug__":Str))=false:=by decide) (hcd:(x==("__classdict__":Str))=false:=by decide) (hs1:starEach [e] X.env=(false,eval e X.env)::starEach [] X.env:=by rfl)
 (hbase:attributeBase (.Name x p) "append" X.env (eval (.Name x p) X.env)=eval (.Name x p) X.env:=by rfl)
 (hfew:((backTo cp (starEach [e] X.env)).all (fun x=>!x.1) && (backToKw cp (keywordEach [] X.env)).all (fun x=>x.1.isSome)
 && decide ([e].length+([]:List Keyword).length+(if ([]:List Keyword).isEmpty then 0 else 1) < 30))=true:=by rfl)
 (hline:(ap.endLine==cp.line)=true:=by rfl)
 (hs:swapsWith (.Call (.Attribute (.Name x p) "append" ap) [e] [] cp) none pos.line X.env=pure false:=by rfl):PSF X (.Expr (.Call (.Attribute (.Name x p) "append" ap) [e] [] cp) pos) (DY i ga):=by
 with_unfolding_all exact mZ i he hi hv hd hcd hs1 hbase hfew hline hs
theorem El (i j:Nat) {a b:Expr} {px pt pt2:Pos} {kt k2:Nat} (hc:X.calm=true) (hN:X.N.Nodup) (ha:PFA X [a,b] gl) (hij:i ≠ j:=by decide) (hi:X.N[i]?=some x:=by rfl) (hj:X.N[j]?=some y:=by rfl)
 (hx:X.env.scope.names.lookup x=some .local:=by rfl) (hy:X.env.scope.names.lookup y=some .local:=by rfl)
 (hw:swappedStores [.Tuple [.Name x px,.Name y py] kt pt] (.Tuple [a,b] k2 pt2) X.env=pure (some [x,y]):=by rfl)
 (hs:swapsWithSole [.Tuple [.Name x px,.Name y py] kt pt] (.Tuple [a,b] k2 pt2) pos.line X.env=pure false:=by rfl):PSF X (.Assign [.Tuple [.Name x px,.Name y py] kt pt] (.Tuple [a,b] k2 pt2) pos) (FD i j gl):=by
 with_unfolding_all exact vc i j hc hN ha hij hi hj hx hy hw hs
theorem yE (i:Nat) (h:oK X sts g):oK X sts (BJ i g):=by
 with_unfolding_all exact sv i h
theorem BF {ap cp:Pos} (ho:PF X o ga) (ha:PFA X [e] gl) (hbase:attributeBase o "count" X.env (eval o X.env)=eval o X.env:=by rfl)
 (hfew:((backTo cp (starEach [e] X.env)).all (fun x=>!x.1) && (backToKw cp (keywordEach [] X.env)).all (fun x=>x.1.isSome)
 && decide ([e].length+([]:List Keyword).length+(if ([]:List Keyword).isEmpty then 0 else 1) < 30))=true:=by rfl)
 (hline:(ap.endLine==cp.line)=true:=by rfl) (hs:starEach [e] X.env=(false,eval e X.env)::starEach [] X.env:=by rfl):PF X (.Call (.Attribute o "count" ap) [e] [] cp) (ma "list" hJ ga gl):=by
 with_unfolding_all exact uN ho ha hbase hfew hline hs
theorem AF {ap cp:Pos} (ho:PF X o ga) (ha:PFA X [e] gl) (hbase:attributeBase o "index" X.env (eval o X.env)=eval o X.env:=by rfl)
 (hfew:((backTo cp (starEach [e] X.env)).all (fun x=>!x.1) && (backToKw cp (keywordEach [] X.env)).all (fun x=>x.1.isSome)
 && decide ([e].length+([]:List Keyword).length+(if ([]:List Keyword).isEmpty then 0 else 1) < 30))=true:=by rfl)
 (hline:(ap.endLine==cp.line)=true:=by rfl) (hs:starEach [e] X.env=(false,eval e X.env)::starEach [] X.env:=by rfl):PF X (.Call (.Attribute o "index" ap) [e] [] cp) (ma "list" gY ga gl):=by
 with_unfolding_all exact uL ho ha hbase hfew hline hs
end
section
variable {X:Cx} {e:Expr} {ga:Ev->R D} {p p2 pos:Pos} {rs:List Addr} {ts:List (Str × Addr)}
theorem fH {T:Addr} (Er:Errs X.K X.mg rs ts) (hy:(y,T) ∈ ts) (hm:X.mg "isinstance"=none) (ha:PF X e ga) (hg:Gl X "isinstance":=by rfl) (hg2:Gl X y:=by rfl) (hd:(y==("__debug__":Str))=false:=by decide)
 (hs1:starEach [e,.Name y p2] X.env=(false,eval e X.env)::starEach [.Name y p2] X.env:=by rfl):PF X (.Call (.Name "isinstance" p) [e,.Name y p2] [] pos) (aP (gT (nB rs T)) ga):=by
 walk_at "u"
 refine qr (v2:=.ref T) (u2:=.ref T) (nB rs T) (fun C b h=>?_) hg hm (rH hg2 (Er.na _ hy) rfl hd) rfl (fun u h=>h) ha hs1
 unfold nB at h
 split at h
 ·rename_i hC
  cases h
  exact ⟨Er.ec _ hC,Er.kit _ hC _ hy⟩
 ·cases h
theorem CC (Er:Errs X.K X.mg rs ts) (hm:X.mg "isinstance"=none) (hm2:X.mg "ValueError"=none) (ha:PF X e ga) (hg:Gl X "isinstance":=by rfl) (hg2:Gl X "ValueError":=by rfl)
 (hs1:starEach [e,.Name "ValueError" p2] X.env=(false,eval e X.env)::starEach [.Name "ValueError" p2] X.env:=by rfl):PF X (.Call (.Name "isinstance" p) [e,.Name "ValueError" p2] [] pos) (aP (gT (oC rs)) ga):=by
 walk_at "u"
 refine qr (v2:=.ty "ValueError") (u2:=.type "ValueError") (oC rs) (fun C b h=>?_) hg hm (wc hg2 hm2 rfl rfl) rfl (fun u h=>h) ha hs1
 unfold oC at h
 split at h
 ·rename_i hC
  cases h
  exact ⟨Er.ec _ hC,Er.ve _ hC⟩
 ·cases h
end
section
variable {CX:CXT} {P:Program} {w:World} {K:PySem.W.Frag} {mg:Str->Option Value} {base:Heap} {N:List Str} {i:Nat} {x:Str} {qual:Str} {scope:Scope} {f a:Addr} {cdv:Value} {A:Around} {outer:List Env} {s:Shared} {H:Hp} {E:XK} {pn:List (Addr × Obj)} {xe:Value->Shared->Prop} {pos p:Pos} {e:Expr} {ga:Ev->R D}
theorem dI (h:At N i x) (hv:Vis (cD CX P w K mg base N qual scope f cdv A outer s H E).env.scope x:=by first | exact Or.inl rfl | exact Or.inr (Or.inl rfl) | exact Or.inr (Or.inr rfl)) (hd:(x==("__debug__":Str))=false:=by decide)
 (hcd:(x==("__classdict__":Str))=false:=by decide):PF (eU (cD CX P w K mg base N qual scope f cdv A outer s H E) a xe) (.Name x pos) (fun ρ=>rdV ρ i):=by
 with_unfolding_all exact jG i h hv hd hcd
theorem vx (h:At N i x) (hN:N.Nodup) (he:PF (eU (cD CX P w K mg base N qual scope f cdv A outer s H E) a xe) e ga) (hx:Loc (cD CX P w K mg base N qual scope f cdv A outer s H E).env.scope x:=by first | exact Or.inl rfl | exact Or.inr rfl)
 (hs:swapsWithSole [.Name x p] e pos.line (cD CX P w K mg base N qual scope f cdv A outer s H E).env=pure false:=by rfl) (hw:swappedStores [.Name x p] e (cD CX P w K mg base N qual scope f cdv A outer s H E).env=pure none:=by rfl)
 (hf:(cD CX P w K mg base N qual scope f cdv A outer s H E).fn x=true\/(cD CX P w K mg base N qual scope f cdv A outer s H E).env.scope.names.lookup x=some .local:=by first | exact .inl rfl | exact .inr rfl):PSF (eU (cD CX P w K mg base N qual scope f cdv A outer s H E) a xe) (.Assign [.Name x p] e pos) (iH i ga):=by
 with_unfolding_all exact wr i hN he h hx hs hw hf
end
section
variable {X:Cx} {body suite:List Stmt} {b₀:Stmt} {gb gs:Ev->O} {pos hp tp:Pos} {nm:Str} {rs:List Addr} {ts:List (Str × Addr)}
end
section
variable {X:Cx} {st:Stmt} {cZ body a b:List Stmt} {e c tg:Expr} {g g1 g2:Ev->O} {ga gb:Ev->R D} {gt:Ev->R Bool} {gl:Ev->R (List D)} {pos:Pos}
theorem Fs (i:Nat) (hc:PB X c gt) (ha:oK X a g1) (hb:oK X b g2):PSF X (.If c a b pos) (ES i gt g1 g2):=by
 walk_at "u"
 exact fun G₀ H₀ pins s σ H D I h=>by
  refine Dt hc (ha G₀ H₀) (hb G₀ H₀) pins s σ H D I ?_
  obtain ⟨G,ρ,sr,h⟩:=h
  have h:mq X G₀ H₀ D ((fq (gt (frz i ρ))).out ρ fun k=>if k=true then g1 ρ else g2 ρ):=h
  obtain ⟨G1,st1,pk⟩:=sr.peek i
  refine ⟨G1,_,st1,?_⟩
  cases q:gt (frz i ρ) with
  | ok k=>
   rw [q] at h
   intro b' G' H' u r
   subst r
   obtain ⟨G2,u2,_⟩:=pk G' H' u
   cases b' with
   | true=>rw [if_pos rfl]; exact ⟨G2,ρ,sr.ups u2,by simpa [R.out,fq] using h⟩
   | false=>rw [if_neg Bool.false_ne_true]; exact ⟨G2,ρ,sr.ups u2,by simpa [R.out,fq] using h⟩
  | _=>rw [q] at h; exact h.elim
theorem Ap {a b c:Expr} {ga gc:Ev->R D} (ha:PF X a ga) (hb:PF X b gb) (hc:PF X c gc) (hm:lastMarks [.LtE,.Lt] [b,c]=false:=by with_unfolding_all rfl):PB X (.Compare a [.LtE,.Lt] [b,c] pos) (gB3 leD ltD ga gb gc):=by
 with_unfolding_all exact mj mw zH (uW _) (DD _) ha hb hc hm
end
section
variable {X:Cx} {e:Expr} {ga:Ev->R D} {p p2 p3 p4 pos:Pos} {k:Nat}
end
section
theorem D4 {o e:Expr} {ga:Ev->R D} {ap cp:Pos} (ho:PF X o ga) (ha:PFA X [e] gl) (hbase:attributeBase o "join" X.env (eval o X.env)=eval o X.env:=by rfl)
 (hfew:((backTo cp (starEach [e] X.env)).all (fun x=>!x.1) && (backToKw cp (keywordEach [] X.env)).all (fun x=>x.1.isSome)
 && decide ([e].length+([]:List Keyword).length+(if ([]:List Keyword).isEmpty then 0 else 1) < 30))=true:=by rfl)
 (hline:(ap.endLine==cp.line)=true:=by rfl) (hs:starEach [e] X.env=(false,eval e X.env)::starEach [] X.env:=by rfl):PF X (.Call (.Attribute o "join" ap) [e] [] cp) (ma "str" xB ga gl):=by
 with_unfolding_all exact ip PySem.F.plainAttrs_str PySem.F.slot_str_join PySem.F.type_str_join Af (Bn _) ho ha hbase hfew hline hs rfl
end
section
variable {X:Cx}
theorem ug {e:Expr} {ga:Ev->R D} {p p2:Pos} (hm:X.mg "isinstance"=none) (ha:PF X e ga) (hm2:X.mg "list"=none) (hg2:Gl X "list":=by rfl) (hg:Gl X "isinstance":=by rfl) (hs1:starEach [e,.Name "list" p2] X.env=(false,eval e X.env)::starEach [.Name "list" p2] X.env:=by rfl):PF X (.Call (.Name "isinstance" p) [e,.Name "list" p2] [] pos) (aP (iI (·=="list")) ga):=by
 with_unfolding_all exact qM hm ha hm2 hg2 hg hs1
end
section
variable {X:Cx} {a b:Expr} {ga gb:Ev->R D} {elts:List Expr} {kt:Nat} {p pos tp kp:Pos}
end
section
variable {X:Cx} {elt iter tgt:Expr} {ifs:List Expr} {pos:Pos} {scope:Scope} {n:Nat} {N':List Str} {ix:List Nat} {asg:D->Ev->R Ev} {gi:Ev->R (List D)} {gt:Ev->R Bool} {ge:Ev->R D}
end
section
variable {X:Cx}
theorem Fj {e:Expr} {p:Pos} (hc:X.calm=true) (hg:Gl X "sum") (hm:X.mg "sum"=none) (ha:PFA X [e] gl) (he:starEach [e] X.env=(false,eval e X.env)::starEach [] X.env:=by rfl):PF X (.Call (.Name "sum" p) [e] [] pos) (gOf BM gl):=by
 with_unfolding_all exact iT (wx hc) (Aq _) hg hm PyProof.Rows.Boot.«sum» ha (by decide) (by decide) he rfl
end
section
variable {X:Cx} {ga:Ev->R D} {gl:Ev->R (List D)} {pos:Pos}
end
section
variable {X:Cx} {a b:Expr} {gl:Ev->R (List D)} {elts:List Expr} {kt:Nat} {p pos tp:Pos}
end
section
variable {X:Cx} {a st:Expr} {ga gs:Ev->R D} {pos p2:Pos}
end
section
variable {X:Cx} {c e:Expr} {body:List Stmt} {gt:Ev->R Bool} {g:Ev->O} {ga:Ev->R D} {pos:Pos}
end
section
variable {X:Cx} {a b ix e:Expr} {es:List Expr} {ga gb gi:Ev->R D} {gl:Ev->R (List D)} {pos p1 p2 pl sp:Pos}
end
section
variable {X:Cx} {a b:Expr} {ga gb:Ev->R D} {pos:Pos}
theorem xJ {z:Str} {l:List Nat} {t:Tok} (hg:Gl X x) (hm:X.mg x=some (.str z t)) (hl:z.cps.toList=l:=by rfl) (hz:l.length<=1000:=by decide) (hd:(x==("__debug__":Str))=false:=by decide):PF X (.Name x pos) (fun _=>.ok (.str l)):=by
 with_unfolding_all exact dD (rH (v:=.str z) hg hm ⟨t,rfl⟩ hd) fun _ _=>.strL hl (Nat.le_trans hz (by decide))
end
section
variable {X:Cx} {a b c e e1 e2 e3 e4 e5:Expr} {ga gb gc g1 g2' g3' g4 g5:Ev->R D} {gl:Ev->R (List D)} {pos p:Pos}
theorem Bw (h:PF X e ga):PF X (.FormattedValue e (-1) none pos) (aP AK ga):=by
 walk_at "u"
 intro pins s σ H Q I q
 obtain ⟨G,ρ,st,q⟩:=q
 refine FormattedValue_plain (thn (h pins s σ H (fun v H1=>∃ G1 d,Up G H G1 H1/\Rep X.K G1 v d/\StE X.K G1 H1 σ ρ/\(AK d).post (Fin G1 H1 (Rep X.K) Q) (Exx X σ G1 H1)) I ?_) fun u s1 ⟨v,H1,I1,r1,q1⟩=>?_)
 ·exact tG.intro st q fun d v G1 H1 u1 st1 r1 h1=>⟨G1,d,u1,r1,st1,h1⟩
 ·obtain ⟨G1,d,u1,rr,st1,h1⟩:=q1
  unfold AK at h1
  split at h1
  ·split at h1
   ·rename_i hc
    obtain rfl:=rr.int_inv
    obtain ⟨t,rfl⟩:=r1
    exact wpAny_formatField_int (oE hc.1 hc.2) ⟨.str _,H1,I1.tok _,⟨_,rfl⟩,h1 _ G1 H1 (.refl st1.sub) (.strL (tB hc.1) (Ab hc.1 hc.2))⟩
   ·exact h1.elim
  ·obtain ⟨y,rfl,ey,hy⟩:=rr.str_inv
   obtain ⟨t,rfl⟩:=r1
   exact formatField_str (fun t' tk=>⟨.str _,H1,I1.tok _,⟨_,rfl⟩,h1 _ G1 H1 (.refl st1.sub) rr⟩) hy
  ·exact h1.elim
theorem wO (h1:PF X e1 g1) (h2:PF X e2 g2') (h3:PF X e3 g3'):PF X (.JoinedStr [e1,e2,e3] pos) (yI [g1,g2',g3']):=by
 walk_at "u"
 intro pins s σ H Q I q
 obtain ⟨G,ρ,st,q⟩:=q
 refine JoinedStr_many ?_
 show wpAny _ _ (joinParts Str.empty [eval e1 X.env,eval e2 X.env,eval e3 X.env]) _ _ _
 refine fK h1 I st (out:=Str.empty) q fun o1 s1 H1 G1 I1 st1 z1 q1=>fK h2 I1 st1 q1 fun o2 s2 H2 G2 I2 st2 z2 q2=>fK h3 I2 st2 q2 fun o3 s3 H3 G3 I3 st3 z3 q3=>wA I3 st3 z3 q3
end
section
variable {X:Cx} {a b c e:Expr} {ga:Ev->R D} {gl:Ev->R (List D)} {pos p:Pos} {tg:Expr}
end
section
variable {X:Cx} {elt iter:Expr} {ifs:List Expr} {x:Str} {px pos:Pos} {scope:Scope} {N':List Str} {ix:List Nat} {gi:Ev->R (List D)} {gt:Ev->R Bool} {ge:Ev->R D}
end
section
variable {X:Cx} {a b c:Expr} {gl:Ev->R (List D)} {elts:List Expr} {kt:Nat} {p pos tp:Pos}
end
section
variable {X:Cx} {a b e:Expr} {ga gb:Ev->R D} {gl:Ev->R (List D)} {pos p:Pos}
end
section
end
section
variable {X:Cx} {elt iter:Expr} {ifs:List Expr} {x:Str} {px pos:Pos} {scope:Scope} {N':List Str} {ix:List Nat} {gi:Ev->R (List D)} {gt:Ev->R Bool} {ge:Ev->R D}
end
section
variable {X:Cx} {a b c e ix:Expr} {es:List Expr} {ga gb gi:Ev->R D} {gl:Ev->R (List D)} {pos p p1 p2 p3 pl sp:Pos}
end
section
theorem Fun.okFH {w:World} {K:PySem.W.Frag} {mg:Str->Option Value} {base:Heap} {N:List Str} (F:Fun K x qual st f fd) (S:FnScope N ps (av st)) {g:Ev->O}
 (hbody:∀ (cdv:Value) (A:Around) (outer:List Env) (s:Shared) (H:Hp) (E:XK) (a:Addr) (xe:Value->Shared->Prop),Room k (A.deeper (envOfC qual (av st) s.heap.objs.size f cdv))->oK (eU (cD (CXo P w) P w K mg base N qual (av st) f cdv A outer s H E) a xe) (bi st) g):FnFH P w K mg base (k+1) f fd ps (fun ds=>fq (aM (g (aL N.length ds)))):=by
 walk_at "u"
 obtain ⟨oc,od,kV,doc,pm,an,cdv,ct,osl,rfl,lk,hcd⟩:=F.ex
 refine ⟨fun A a outer s H args us vs Q E hr e0 hb r ⟨hl,G,ds,sub,rp,h⟩=>?_⟩
 have KX:K.In s.heap:=e0.mod.kin.keeps fun b o e=>(e0.bs b o e).1
 have lim:s.heap.NoLimit:=e0.mod.nolimit.keeps fun b o e=>(e0.bs b o e).1
 have hkind:∀ y ∈ ps.zip us,(av st).names.lookup y.1=some .local\/((av st).names.lookup y.1=some .cell/\((cellsFrom (s.heap.objs.size+1) (av st).names []).lookup y.1).isSome=true):=fun ⟨n,v⟩ hy=>by
  rcases S.par n (List.of_mem_zip hy).1 with q | q
  ·exact .inl q
  ·exact .inr ⟨q,PySem.W.cellsFrom_some _ _ _ (.inl q)⟩
 refine codeAny_call_function (A:=A.mark (some (.ref a))) hr.depth (KX _ _ lk) rfl S.co S.gen rfl (PySem.W.codeRec_of KX hcd) (hb _ _ _ _ ?_)
 refine wpAny_newFunctionEnv_cells S.kind hkind fun env he s1 x=>?_
 subst he
 refine ⟨lim.keeps x.toInCall.keep,codeAny_func ?_⟩
 have I:Inv (cD (CXo P w) P w K mg base N qual (av st) f cdv A outer s H E) [] (eF N vs) H s1:=lm S hr.hd e0 hl r x
 have J:Inv (eU (cD (CXo P w) P w K mg base N qual (av st) f cdv A outer s H E) a fun _ _=>False) [] (eF N vs) H s1:=I.cx (fun p q=>q) rfl (fun z=>by cases z)
 refine wpAny_mono (hbody cdv A outer s H E a (fun _ _=>False) (hr.deeper _) G H [] s1 (eF N vs) H { nx:=fun _ H'=>Q .non H',rt:=Q } J ⟨G,aL N.length ds,mJ sub rp,?_⟩) (fun fl s' hs=>?_) fun e s' hs=>hs.elim
 ·dsimp only at h
  cases q:g (aL N.length ds) with
  | nx ρ=>rw [q] at h; exact fun σ G' H' sr=>h .non G' H' sr.up .non
  | rt d=>rw [q] at h; exact fun v G' H' u rv=>h v G' H' u rv
  | re d ρ=>rw [q] at h; exact fun v σ G' H' sr rv=>h v G' H' sr.up rv
  | _=>rw [q] at h; exact h.elim
 ·have fin:∀ {σ':St} {H':Hp} {v:V} {u:Value},Inv (eU (cD (CXo P w) P w K mg base N qual (av st) f cdv A outer s H E) a fun _ _=>False) [] σ' H' s'->RelV v u->Q v H'->CE outer P w H s Q u s':=
   fun {σ' H' v u} J rv q=>⟨v,H',J.os,J.bare,J.base,J.hok,rv,q⟩
  cases fl with
  | ret u=>
   obtain ⟨v,σ',H',J,rv,q⟩:=hs
   exact fin J rv q
  | next=>
   obtain ⟨σ',H',J,q⟩:=hs
   exact fin (v:=V.non) (u:=Value.none) J rfl q
  | brk=>
   obtain ⟨_,_,_,q⟩:=hs
   exact False.elim q
  | cont=>
   obtain ⟨_,_,_,q⟩:=hs
   exact False.elim q
end
section
variable {Y:Cx} {a:Addr} {xe:Value->Shared->Prop} {k n:Nat} {x:Str} {p pos:Pos} {e:Expr} {es:List Expr} {gl:Ev->R (List D)} {g:List D->R D}
theorem xG (c:CalleeH Y.prog Y.w Y.K Y.mg Y.base x k n g) (hr:Room k Y.A) (ha:PFA (eU Y a xe) (e::es) gl) (hg:Gl Y x:=by rfl)
 (hdb:(x==("__debug__":Str))=false:=by decide) (he:starEach (e::es) Y.env=(false,eval e Y.env)::starEach es Y.env:=by rfl) (hpl:(backTo pos (starEach es Y.env)).any (·.1)=false:=by rfl):PF (eU Y a xe) (.Call (.Name x p) (e::es) [] pos) (bh n g gl):=by
 walk_at "u"
 obtain ⟨f,fd,ps,F,hm,hk,hb,rfl⟩:=c.ex
 intro pins s σ H Q I h
 obtain ⟨G,ρ,st,h⟩:=h
 have t:tAF (eU Y a xe) gl σ H (fun vs H1=>∃ G1 ds,Up G H G1 H1/\Same G1 H1/\Reps Y.K G1 vs ds/\ds.length=ps.length/\(g ds).post (Fin G1 H1 (Rep Y.K) Q) (Exx (eU Y a xe) σ G1 H1)):=by
  have h:(gl ρ>>=fun ds=>if ds.length=ps.length then g ds else .no).post (Fin G H (Rep Y.K) Q) (Exx (eU Y a xe) σ G H):=h
  refine tG.intro st h fun ds vs G1 H1 u1 st1 r1 h1=>?_
  by_cases hl:ds.length=ps.length
  ·rw [if_pos hl] at h1; exact ⟨G1,ds,u1,st1.sub,r1,hl,h1⟩
  ·rw [if_neg hl] at h1; exact h1.elim
 refine wpAny_Call_Name_kw (fO I hg hm ?_ hdb)
 refine PySem.W.callWith_K (h₀:=Y.base) I.ok.mod.kin hk (thn (ha pos pins s σ H _ I t) fun us s1 q=>⟨?_,?_⟩) he hpl
 ·obtain ⟨vs,H1,I1,r,_⟩:=q; exact I1.kIn
 obtain ⟨vs,H1,I1,r,G1,ds,u1,sub1,rp,hl,h1⟩:=q
 have hvl:vs.length=ps.length:=by rw [rp.length]; exact hl
 have hul:(us++[]).length=ps.length:=by rw [List.append_nil,<- r.length]; exact hvl
 have hbb:=hb s1 us I1.kIn hul
 rw [List.append_nil] at hbb
 have e0:Env0 Y.prog Y.w Y.K Y.mg Y.base Y.A Y.stack s1 H1:=let z:=I1.env0; ⟨z.frames,z.mod,z.bs,z.bsz,z.funs,z.frf,z.hok,z.bare,z.tabs⟩
 refine wpAny_call (codeAny_mono (F.run Y.A a Y.stack s1 H1 ⟨us,[]⟩ us vs Q (fun c _ H'=>∃ C G',c=.ref C/\Up G1 H1 G' H'/\Exx (eU Y a xe) σ G1 H1 C) hr e0 hbb r ⟨hvl,G1,ds,sub1,rp,h1.mono (fun _ q=>q) fun C q G' H' u=>⟨C,G',rfl,u,q⟩⟩) fun r' s' hq=>?_)
 cases r' with
 | error e'=>
  obtain ⟨a',C,H',rfl,fl,C',G',ec,u,q⟩:=hq
  cases ec
  exact q _ _ ⟨G1,H1,.refl sub1,pins,s1,a',rfl,I1,.inr (.inl ⟨G',H',fl,u⟩)⟩
 | ok fl=>
  cases fl with
  | ret u=>exact I1.after hq
  | _=>exact False.elim hq
end
section
end
section
variable {P:Program} {w:World} {K:PySem.W.Frag} {mg:Str->Option Value} {base:Heap} {x y:Str} {st:Stmt} {ft:Addr} {fd:FuncData} {k:Nat} {b₀:Stmt} {suite:List Stmt} {p1 p2 p3 tp hp tpos:Pos} {nm tn:Str} {gs:Ev->O} {fe:Addr->Option Bool} {Ct:Addr}
theorem Ag (F:Fun K x x st ft fd) (hm:mg x=some (.ref ft)) (S:FnScope [y,nm] [y] (av st)) (hbd:bi st=[.Try [.Return (some (.Call (.Name y p1) [] [] p2)) p3] [.ExceptHandler (some (.Name tn tp)) (some nm) (b₀::suite) hp] [] [] tpos])
 (hbind:∀ (kV doc pm:Value) (an:Option Addr) (cdv ct:Value) (u:Value),bindArgs (PySem.W.fnOf x x (cN st) (bi st) (av st) .none kV doc pm an cdv ct) ⟨[u],[]⟩=pure [(y,u)])
 (hh:∀ (cdv:Value) (A:Around) (outer:List Env) (s:Shared) (H:Hp) (E:XK) (a:Addr) (xe:Value->Shared->Prop),Room k (A.deeper (envOfC x (av st) s.heap.objs.size ft cdv))->oK (eU (cD (CXo P w) P w K mg base [y,nm] x (av st) ft cdv A outer s H E) a xe) (b₀::suite) gs)
 (hf:∀ C,fe C=some true->PySem.W.exmOne K (.ref C) (.ref Ct)=some true) (hg:(av st).names.lookup tn=some .globalImplicit) (hmt:mg tn=some (.ref Ct)) (hy:(av st).names.lookup y=some .local) (hx:(av st).names.lookup nm=some .local)
 (hdb:(tn==("__debug__":Str))=false:=by decide) (hdy:(y==("__debug__":Str))=false:=by decide) (hcy:(y==("__classdict__":Str))=false:=by decide):Told P w K mg base x (k+1) k (fun m=>aM (zC (fun ρ=>m.out ρ .rt) gs fe 1 [none,none])):=by
 walk_at "u"
 obtain ⟨oc,od,kV,doc,pm,an,cdv,ct,osl,rfl,lk,hcd⟩:=F.ex
 refine ⟨ft,hm,F.kp,fun A outer s1 G1 H1 f m Q E hr e0 sub dd h=>?_⟩
 refine Fe (us:=[.ref f]) (vs:=[.ref f]) lk hcd S rfl hr e0 (.of_eq (hbind ..)) (.cons rfl .nil) (t:=fun D σ H=>σ[0]?=some (some (.ref f))/\tS (cD (CXo P w) P w K mg base [y,nm] x (av st) ft cdv A outer s1 H1 E) G1 H1 (zC (fun ρ=>m.out ρ .rt) gs fe 1) D σ H) ?_ ⟨rfl,G1,[none,none],⟨⟨sub,rfl,fun i d e=>?_,fun i m C p fs e=>?_⟩,sub,.refl sub,fun i ds e=>?_,fun i j ds es l e=>?_,NoOwn.ob fun i x e=>?_⟩,?_⟩
 ·rw [hbd]
  have hr':=hr.deeper (envOfC x (av st) s1.heap.objs.size ft cdv)
  refine wo (uQ (X:=cD (CXo P w) P w K mg base [y,nm] x (av st) ft cdv A outer s1 H1 E) (fun σ=>σ[0]?=some (some (.ref f))) 1 fe S.nd rfl rfl rfl S.kind G1 H1 (fun pn xe=>?_) (fun a xe=>hh cdv A outer s1 H1 E a xe hr') hf hg hmt rfl hx hdb)
  refine wo fun pins s σ H D I hq=>?_
  obtain ⟨h0,G,ρ,sr,hq⟩:=hq
  have pe:PE (qo (cD (CXo P w) P w K mg base [y,nm] x (av st) ft cdv A outer s1 H1 E) pn xe) (.Call (.Name y p1) [] [] p2) (fun σ H Q=>σ[0]?=some (some (.ref f))/\∃ G,Up G1 H1 G H/\m.post (Fin G H (Rep K) Q) (Exx (qo (cD (CXo P w) P w K mg base [y,nm] x (av st) ft cdv A outer s1 H1 E) pn xe) σ G H)):=by
   intro pins s σ H Q I ⟨h0,G,up,hm⟩
   have v:PE (qo (cD (CXo P w) P w K mg base [y,nm] x (av st) ft cdv A outer s1 H1 E) pn xe) (.Name y p1) (AJ 0):=eu rfl (.inl hy) hdy hcy
   refine wpAny_Call_Name_kw (thn (v pins s σ H (fun u H'=>u=.ref f/\H'=H) I ⟨_,h0,rfl,rfl⟩) fun u s' ⟨v',H',I',rv,ev,eh⟩=>?_)
   subst ev eh
   obtain rfl:u=Value.ref f:=rv
   obtain ⟨ob,run⟩:=dd _ pins σ G H' s' _ Q rfl rfl rfl rfl rfl I' hr' I'.base up hm
   exact PySem.W.callWith_of rfl (P:=fun h=>∃ o fd,h.get? f=some o/\o.data=.func fd) (fun h ⟨o,fd,e,d⟩=>⟨.frame,.inl rfl,za e d⟩) (PyProof.Rows.evalArgs_nil3 ⟨ob,run⟩)
  refine uf pe pins s σ H D I ⟨h0,G,sr.up,?_⟩
  cases q:m with
  | ok d=>rw [q] at hq; exact fun v G' H' u r=>hq v G' H' (sr.up.trans u) r
  | ex C=>rw [q] at hq; exact Exx.of sr hq
  | no=>rw [q] at hq; exact hq
 ·match i,e with
  | 0,e=>cases e
  | 1,e=>cases e
 ·match i,e with
  | 0,e=>cases e
  | 1,e=>cases e
 ·match i,e with
  | 0,e=>cases e
  | 1,e=>cases e
 ·match i,e with
  | 0,e=>cases e
  | 1,e=>cases e
 ·match i,e with
  | 0,e=>cases e
  | 1,e=>cases e
 ·cases q:zC (fun ρ=>m.out ρ .rt) gs fe 1 [none,none] with
  | nx ρ=>rw [q] at h; exact fun σ G' H' sr=>h .non G' H' sr.up .non
  | rt d=>rw [q] at h; exact fun v G' H' u rv=>h v G' H' u rv
  | re d ρ=>rw [q] at h; exact fun v σ G' H' sr rv=>h v G' H' sr.up rv
  | bk ρ=>rw [q] at h; exact h.elim
  | ct ρ=>rw [q] at h; exact h.elim
  | ex C ρ=>rw [q] at h; exact fun e s' fl=>jJ fl h
  | no=>rw [q] at h; exact h.elim
end
section
variable {X:Cx} {scope:Scope} {N':List Str} {ix:List Nat} {params:Arguments} {body:Expr} {lp p pos:Pos} {x:Str} {k j:Nat} {gb:Ev->R D} {g:R D->R D}
theorem zt (T:Told X.prog X.w X.K X.mg X.base x k (j+1) g) (hr:Room k X.A) (L:LamAt X) (ok:LamOk X scope N' ix)
 (hb:∀ (cl:List (Str × Addr)) (f:Addr) (cd:Value) (A:Around) (outer:List Env) (s:Shared) (H:Hp) (E:XK),Room j (A.deeper (PySem.W.envX (X.env.qual++"<lambda>") scope s.heap.objs.size f cd cl))->PF (pB X.prog X.w X.K X.mg X.base N' (X.env.qual++"<lambda>") scope cl f cd A outer s H E) body gb)
 (hp:∀ cl pm cd ctv,bindArgs (PySem.W.kla_fn "<lambda>" (X.env.qual++"<lambda>") params body scope cl pm cd ctv) ⟨[],[]⟩=pure []:=by intros; rfl) (hdef:defaultsOf params X.env=([],[]):=by rfl)
 (hg:Gl X x:=by rfl) (hdb:(x==("__debug__":Str))=false:=by decide) (he:starEach [.Lambda params body scope lp] X.env=(false,eval (.Lambda params body scope lp) X.env)::starEach [] X.env:=by rfl):PF X (.Call (.Name x p) [.Lambda params body scope lp] [] pos) (xu g ix gb):=by
 walk_at "u"
 obtain ⟨ft,hm,hk,run⟩:=T.ex
 obtain ⟨c,P,q,hc,hcd,hT,rfl,hbm,hgP⟩:=L.ex
 intro pins s σ H Q I h
 obtain ⟨G,ρ,st,h⟩:=h
 refine wpAny_Call_Name_kw (fO I hg hm ?_ hdb)
 refine PySem.W.callWith_K (h₀:=X.base) I.ok.mod.kin hk ?_ he rfl
 rw [he]
 show wpAny _ _ (spliced ((false,eval (.Lambda params body scope lp) X.env)::backTo pos (starEach [] X.env))) _ _ s
 obtain ⟨more,hTH⟩:=I.ok.tabs.un I.base P _ hT
 refine Calls.spliced_cons (tU I hdef hc (hcd _ I.kIn) hTH ?_ (hbm.keeps I.bk) ok.fr hgP fun f cd ctv pm H1 s1 L=>Calls.spliced_nil ⟨L.inv.kIn,?_⟩)
 ·unfold sW
  rw [Array.toList_append]
  rfl
 have sub:Same G H1:=st.sub.trans L.hh
 have up:Up G H G H1:=⟨sub,.refl _,L.hh,fun a o h=>.inl h⟩
 have st1:=jR (st.up up) 0 ix
 have dd:td X.prog X.w X.K X.mg X.base (j+1) s1 G H1 f (gb (bK 0 ix ρ)):=
  uz L.free L.fn rfl L.codeH (hp _ _ _ _) ok.co ok.gen (xn ok L.inv) st1 fS fun A outer s H E hr=>hb _ f cd A outer s H E hr
 have h1:(g (gb (bK 0 ix ρ))).post (Fin G H1 (Rep X.K) Q) (Exx X σ G H1):=iQ up h
 refine wpAny_call (codeAny_mono (run X.A X.stack s1 G H1 f _ Q (fun c _ H'=>∃ C G',c=.ref C/\Up G H1 G' H'/\Exx X σ G H1 C) hr L.inv.env0 sub dd (h1.mono (fun _ q=>q) fun C q G' H' u=>⟨C,G',rfl,u,q⟩)) fun r' s' hq=>?_)
 cases r' with
 | error e'=>
  obtain ⟨a,C,H',rfl,fl,C',G',ec,u,q⟩:=hq
  cases ec
  exact q _ _ ⟨G,H1,.refl sub,pins,s1,a,rfl,L.inv,.inr (.inl ⟨G',H',fl,u⟩)⟩
 | ok fl=>
  cases fl with
  | ret u=>exact L.inv.after hq
  | _=>exact False.elim hq
end
section
theorem mv {w:World} {K:PySem.W.Frag} {mg:Str->Option Value} {base:Heap} {N:List Str} {cl:List (Str × Addr)} {A:Around} {outer:List Env} {E:XK} (h:At N i x)
 (hv:Vis (pB P w K mg base N qual scope cl f cd A outer s H E).env.scope x:=by first | exact Or.inl rfl | exact Or.inr (Or.inl rfl) | exact Or.inr (Or.inr rfl)) (hd:(x==("__debug__":Str))=false:=by decide)
 (hcd:(x==("__classdict__":Str))=false:=by decide):PF (pB P w K mg base N qual scope cl f cd A outer s H E) (.Name x pos) (fun ρ=>rdV ρ i):=by
 with_unfolding_all exact jG i h hv hd hcd
theorem Fun.okM {w:World} {K:PySem.W.Frag} {mg:Str->Option Value} {base:Heap} {N:List Str} (Fn:Fun K x qual st f fd) (S:FnScope N ps (av st)) {g:Ev->O} (ok:bX C g N.length F)
 (hbody:∀ (cdv:Value) (A:Around) (outer:List Env) (s:Shared) (H:Hp) (E:XK),Room k (A.deeper (envOfC qual (av st) s.heap.objs.size f cdv))->oK (cD (CXo P w) P w K mg base N qual (av st) f cdv A outer s H E) (bi st) g):FnM P w K mg base (k+1) f fd ps C F:=by
 walk_at "u"
 obtain ⟨oc,od,kV,doc,pm,an,cdv,ct,osl,rfl,lk,hcd⟩:=Fn.ex
 refine Ae lk hcd S (fun vs H Q E h=>h.1) fun A outer s H vs Q E hr hsp=>?_
 obtain ⟨hl,G,p,us,ds,fs,ow,rfl,r,sub,og,ob,h⟩:=hsp
 have o:=ok p fs ds
 have rdo:StR K G H G H (eF N (.ref p::us)) (di false C p fs N.length ds):=pF sub (.refl sub) r (ob.ro H)
 cases q:F fs ds with
 | no=>rw [q] at h; exact h.elim
 | rd d=>
  rw [q] at h o
  refine ⟨_,hbody cdv A outer s H E hr G H,G,_,rdo,?_⟩
  have o:g (di false C p fs N.length ds)=.rt d:=o
  rw [o]
  exact fun v G' H' u rv=>h v G' H' u rv
 | ex C'=>
  rw [q] at h o
  obtain ⟨ρ',o⟩:=o
  refine ⟨_,hbody cdv A outer s H E hr G H,G,_,rdo,?_⟩
  rw [o]
  exact fun e s' fl=>jJ fl h
 | ok d fs'=>
  rw [q] at h o
  obtain ⟨ρ',e0,o⟩:=o
  obtain ⟨s0,u0⟩:=DW sub og
  refine ⟨_,hbody cdv A outer s H E hr G (hid H ow),G,di true C p fs N.length ds,pF s0 u0 r (ob.hid true),?_⟩
  have fin:∀ σ G' H',StR K G (hid H ow) G' H' σ ρ'->∃ ow',ObjAt K (hid H ow) G' H' ow' 0 true C p fs':=fun σ G' H' sr=>by
   obtain ⟨ow',_,o2⟩:=sr.ob
   exact ⟨ow',(o2 0 true C p fs' e0).2⟩
  rcases o with o | ⟨o,rfl⟩
  ·rw [o]
   intro v σ G' H' sr rv
   obtain ⟨ow',z⟩:=fin σ G' H' sr
   exact h v G' H' ow' sr.up z rv
  ·rw [o]
   intro σ G' H' sr
   obtain ⟨ow',z⟩:=fin σ G' H' sr
   exact h .non G' H' ow' sr.up z .non
end
section
variable {X:Cx} {e b:Expr} {es:List Expr} {ga gb:Ev->R D} {gl:Ev->R (List D)} {x f:Str} {i k:Nat} {C:Addr} {ks:List Nat} {p1 p2 p3 pos ap cp:Pos}
theorem xo (i k:Nat) (c:CF X.K C ks) (hk:k ∈ ks) (hb:PF X b gb) (hi:X.N[i]?=some x:=by rfl) (hv:Vis X.env.scope x:=by first | exact Or.inl rfl | exact Or.inr (Or.inl rfl) | exact Or.inr (Or.inr rfl)) (hf:f=cm k:=by rfl)
 (hd:(x==("__debug__":Str))=false:=by decide) (hcd:(x==("__classdict__":Str))=false:=by decide) (hba:attributeBase (.Name x p1) f X.env (eval (.Name x p1) X.env)=eval (.Name x p1) X.env:=by rfl) (hs:rM b:=by exact fun _ _=>rfl):PF X (.Subscript (.Attribute (.Name x p1) f p2) b pos) (tW C i k gb):=by
 walk_at "u"
 exact fun pins s σ H Q I h=>by
  subst hf
  refine DI ix_list (sX (eu hi hv hd hcd) hba) hb hs pins s σ H Q I ?_
  obtain ⟨G,ρ,st,h⟩:=h
  obtain ⟨m,p,fs,e1,h⟩:=rY h
  obtain ⟨ds,e2,h⟩:=vy h
  obtain ⟨dx,vs,l,ws,h1,h2,h3,h4,h5⟩:=st.fldL e1 e2
  refine ⟨.ref p,h1,p,C,dx,vs,.ref l,rfl,h2,c.cl,(c.na k hk).2,h3,?_⟩
  refine tG.intro st h fun d v G1 H1 u1 st1 r1 h'=>?_
  obtain ⟨d',e3,q⟩:=ofO.ok h'
  cases d with
  | int j=>
   have e3:atI ds j=some d':=e3
   obtain ⟨v',e4,r4⟩:=(h5.mono u1.gg).atI e3
   exact ⟨l,ws,j,v',rfl,r1.int_inv,.of (u1.hh _ _ h4),e4,q v' G1 H1 (.refl st1.sub) r4⟩
  | _=>cases e3
theorem jQ (i k:Nat) (c:CF X.K C ks) (hk:k ∈ ks) (hg:Gl X "len") (hm:X.mg "len"=none) (hi:X.N[i]?=some x:=by rfl) (hv:Vis X.env.scope x:=by first | exact Or.inl rfl | exact Or.inr (Or.inl rfl) | exact Or.inr (Or.inr rfl)) (hf:f=cm k:=by rfl)
 (hd:(x==("__debug__":Str))=false:=by decide) (hcd:(x==("__classdict__":Str))=false:=by decide) (hba:attributeBase (.Name x p1) f X.env (eval (.Name x p1) X.env)=eval (.Name x p1) X.env:=by rfl)
 (he:starEach [.Attribute (.Name x p1) f p2] X.env=(false,eval (.Attribute (.Name x p1) f p2) X.env)::starEach [] X.env:=by rfl):PF X (.Call (.Name "len" p3) [.Attribute (.Name x p1) f p2] [] pos) (iW C i k):=by
 walk_at "u"
 exact fun pins s σ H Q I h=>by
  subst hf
  refine jK qt hg hm PySem.boot_len (eX (sX (eu hi hv hd hcd) hba) ll he) (by decide) (by decide) he rfl pins s σ H Q I ?_
  obtain ⟨G,ρ,st,h⟩:=h
  obtain ⟨m,p,fs,e1,h⟩:=rY h
  obtain ⟨ds,e2,h⟩:=vy h
  obtain ⟨dx,vs,l,ws,h1,h2,h3,h4,h5⟩:=st.fldL e1 e2
  refine ⟨.ref p,h1,p,C,dx,vs,.ref l,rfl,h2,c.cl,(c.na k hk).2,h3,l,ws,rfl,.inl (.of h4),?_⟩
  rw [h5.length]
  exact h _ G H (.refl st.sub) (.int _)
theorem wq (i k:Nat) (c:CF X.K C ks) (hk:k ∈ ks) (he:PF X e ga) (hi:X.N[i]?=some x:=by rfl) (hv:Vis X.env.scope x:=by first | exact Or.inl rfl | exact Or.inr (Or.inl rfl) | exact Or.inr (Or.inr rfl)) (hf:f=cm k:=by rfl)
 (hd:(x==("__debug__":Str))=false:=by decide) (hcd:(x==("__classdict__":Str))=false:=by decide) (hba:attributeBase (.Name x p1) f X.env (eval (.Name x p1) X.env)=eval (.Name x p1) X.env:=by rfl)
 (hs1:starEach [e] X.env=(false,eval e X.env)::starEach [] X.env:=by rfl)
 (hbase:attributeBase (.Attribute (.Name x p1) f p2) "append" X.env (eval (.Attribute (.Name x p1) f p2) X.env)=eval (.Attribute (.Name x p1) f p2) X.env:=by rfl)
 (hfew:((backTo cp (starEach [e] X.env)).all (fun x=>!x.1) && (backToKw cp (keywordEach [] X.env)).all (fun x=>x.1.isSome)
 && decide ([e].length+([]:List Keyword).length+(if ([]:List Keyword).isEmpty then 0 else 1) < 30))=true:=by rfl)
 (hline:(ap.endLine==cp.line)=true:=by rfl)
 (hs:swapsWith (.Call (.Attribute (.Attribute (.Name x p1) f p2) "append" ap) [e] [] cp) none pos.line X.env=pure false:=by rfl):PSF X (.Expr (.Call (.Attribute (.Attribute (.Name x p1) f p2) "append" ap) [e] [] cp) pos) (wU C i k ga):=by
 walk_at "u"
 exact fun G₀ H₀ pins s σ H D I h=>by
  subst hf
  refine gR (xL PySem.F.plainAttrs_list PySem.F.slot_list_append PySem.F.type_list_append kB (sX (eu hi hv hd hcd) hba) (eX he ll hs1) hbase hfew hline hs1 rfl) hs pins s σ H D I ?_
  obtain ⟨G,ρ,sr,h⟩:=h
  obtain ⟨p,fs,e1,h⟩:=kX h
  obtain ⟨ds,e2,h⟩:=tP h
  obtain ⟨dx,vs,l,ws,h1,h2,h3,h4,h5⟩:=sr.e.fldL e1 e2
  refine ⟨.ref p,h1,p,C,dx,vs,.ref l,rfl,h2,c.cl,(c.na k hk).2,h3,.inl ⟨rfl,ws,.of h4⟩,G,ρ,sr.e,?_⟩
  cases q:ga ρ with
  | ok d=>
   rw [q] at h
   simp only [R.out] at h
   intro v G' H' u r
   by_cases hz:ds.length < sizeLine
   ·rw [if_pos hz] at h
    refine ⟨l,ws,v,rfl,rfl,u.hh _ _ h4,by rw [h5.length]; exact hz,h _ G' _ ?_⟩
    exact (sr.ups u).fmut e1 e2 ((h5.mono u.gg).append (.cons r .nil)) (u.hh _ _ h2) h3
   ·rw [if_neg hz] at h; exact h.elim
  | ex C=>rw [q] at h; exact Exx.of sr h
  | no=>rw [q] at h; exact h
theorem zr (i k j:Nat) (c:CF X.K C ks) (hk:k ∈ ks) (hN:X.N.Nodup) (hi:X.N[i]?=some x:=by rfl) (hj:X.N[j]?=some y:=by rfl) (hv:Vis X.env.scope x:=by first | exact Or.inl rfl | exact Or.inr (Or.inl rfl) | exact Or.inr (Or.inr rfl)) (hf:f=cm k:=by rfl)
 (hx:Loc X.env.scope y:=by first | exact Or.inl rfl | exact Or.inr rfl) (hfn:X.fn y=true\/X.env.scope.names.lookup y=some .local:=by first | exact .inl rfl | exact .inr rfl)
 (hd:(x==("__debug__":Str))=false:=by decide) (hcd:(x==("__classdict__":Str))=false:=by decide) (hba:attributeBase (.Name x p1) f X.env (eval (.Name x p1) X.env)=eval (.Name x p1) X.env:=by rfl)
 (hbase:attributeBase (.Attribute (.Name x p1) f p2) "pop" X.env (eval (.Attribute (.Name x p1) f p2) X.env)=eval (.Attribute (.Name x p1) f p2) X.env:=by rfl) (hline:(ap.endLine==cp.line)=true:=by rfl)
 (hs:swapsWithSole [.Name y py] (.Call (.Attribute (.Attribute (.Name x p1) f p2) "pop" ap) [] [] cp) pos.line X.env=pure false:=by rfl) (hw:swappedStores [.Name y py] (.Call (.Attribute (.Attribute (.Name x p1) f p2) "pop" ap) [] [] cp) X.env=pure none:=by rfl):PSF X (.Assign [.Name y py] (.Call (.Attribute (.Attribute (.Name x p1) f p2) "pop" ap) [] [] cp) pos) (qP C i k j):=by
 walk_at "u"
 exact fun G₀ H₀ pins s σ H D I h=>by
  subst hf
  refine tZ (D7 PySem.F.plainAttrs_list PySem.F.slot_list_pop PySem.F.type_list_pop Dw (sX (eu hi hv hd hcd) hba) hbase hline) (nV (i:=j) hN hj hx hfn) hs hw rfl pins s σ H D I ?_
  obtain ⟨G,ρ,sr,h⟩:=h
  obtain ⟨p,fs,e1,h⟩:=kX h
  obtain ⟨ds,e2,h⟩:=tP h
  obtain ⟨dx,vs,l,ws,h1,h2,h3,h4,h5⟩:=sr.e.fldL e1 e2
  cases q:ds.getLast? with
  | none=>rw [q] at h; exact h.elim
  | some d=>
   rw [q] at h
   dsimp only at h
   by_cases nij:i ≠ j
   ·rw [if_pos nij] at h
    rw [List.getLast?_eq_getElem?] at q
    obtain ⟨v,ev,rv⟩:=h5.get q
    have hl:=h5.length
    refine ⟨.ref p,h1,p,C,dx,vs,.ref l,rfl,h2,c.cl,(c.na k hk).2,h3,.inl ⟨rfl,ws,.of h4⟩,l,ws,v,rfl,rfl,h4,by rw [hl]; exact ev,?_⟩
    have rd:Reps X.K G ws.dropLast ds.dropLast:=by
     rw [List.dropLast_eq_take,List.dropLast_eq_take,hl]; exact h5.take _
    exact h _ G _ ((sr.fmut e1 e2 rd h2 h3).set rv j)
   ·rw [if_neg nij] at h; exact h.elim
theorem xj (i k:Nat) (c:CF X.K C ks) (hk:k ∈ ks) (he:PFL X e gl) (hi:X.N[i]?=some x:=by rfl) (hv:Vis X.env.scope x:=by first | exact Or.inl rfl | exact Or.inr (Or.inl rfl) | exact Or.inr (Or.inr rfl)) (hf:f=cm k:=by rfl)
 (hd:(x==("__debug__":Str))=false:=by decide) (hcd:(x==("__classdict__":Str))=false:=by decide) (hs:swapsWith e (some (.Attribute (.Name x p1) f p2)) pos.line X.env=pure false:=by rfl):PSF X (.Assign [.Attribute (.Name x p1) f p2] e pos) (wF C i k gl):=by
 walk_at "u"
 exact fun G₀ H₀ pins s σ H D I h=>by
  subst hf
  refine C5 (eu hi hv hd hcd) he hs pins s σ H D I ?_
  obtain ⟨G,ρ,sr,h⟩:=h
  obtain ⟨p,fs,e1,h⟩:=kX h
  refine ⟨G,ρ,sr.e,?_⟩
  cases q:gl ρ with
  | ok ds=>
   rw [q] at h
   simp only [R.out] at h
   intro l us G' H' u hl r
   obtain ⟨h1,ow,dx,vs,g1,g2,g3,g4,g5,g6,g7,g8⟩:=sr.e.obs i true C p fs e1
   by_cases hz:fs.length < 900
   ·rw [if_pos hz] at h
    have hp:=u.hh _ _ g1
    refine ⟨.ref p,h1,p,C,dx,vs,rfl,?_,c.cl,(c.na k hk).2,by rw [g8.len]; omega,h _ G' _ ((sr.ups u).fputL e1 (c.na k hk).1 hl r hp)⟩
    rw [aR (fun z=>by rw [z,hl] at hp; cases hp)]; exact hp
   ·rw [if_neg hz] at h; exact h.elim
  | ex C=>rw [q] at h; exact Exx.of sr h
  | no=>rw [q] at h; exact h
theorem tO (he:PF X e ga):PSF X (.Return (some e) pos) (vn ga):=by
 walk_at "u"
 exact fun G₀ H₀ pins s σ H D I h=>by
  refine uf he pins s σ H D I ?_
  obtain ⟨G,ρ,sr,h⟩:=h
  have h:mq X G₀ H₀ D ((ga ρ).out ρ fun d=>.re d ρ):=h
  refine ⟨G,ρ,sr.e,?_⟩
  cases q:ga ρ with
  | ok d=>rw [q] at h; exact fun v G' H' u r=>h v σ G' H' (sr.ups u) r
  | ex C=>rw [q] at h; exact Exx.of sr h
  | no=>rw [q] at h; exact h
end
section
variable {X:Cx} {e:Expr} {es:List Expr} {gl:Ev->R (List D)} {x mn:Str} {i k n:Nat} {C:Addr} {ks:List Nat} {F:MF} {p1 ap pos ep:Pos}
theorem cy {pl:Sem Bool} (i:Nat) (c:CF X.K C ks) (m:MCallee X.prog X.w X.K X.mg X.base C mn k 0 F) (hr:Room k X.A) (hi:X.N[i]?=some x:=by rfl) (hv:Vis X.env.scope x:=by first | exact Or.inl rfl | exact Or.inr (Or.inl rfl) | exact Or.inr (Or.inr rfl))
 (hd:(x==("__debug__":Str))=false:=by decide) (hcd:(x==("__classdict__":Str))=false:=by decide) (hmn:∀ k,k < fnames.length->(mn==cm k)=false:=by decide)
 (ht:eval (.Call (.Attribute (.Name x p1) mn ap) [] [] pos) X.env=(do
 let ov <- eval (.Name x p1) X.env
 standAt ap.atName
 let (f,first) <- holding [ov] (getMethod ov mn pl)
 callWith pos f first (backTo pos (starEach [] X.env)) (backToKw pos (keywordEach [] X.env))):=by rfl):PF X (.Call (.Attribute (.Name x p1) mn ap) [] [] pos) (ci C i F):=by
 walk_at "u"
 exact fun pins s σ H Q I h=>by
  obtain ⟨f,fd,ps,M,hm,hb,hl⟩:=m.ex
  obtain ⟨G,ρ,st,h⟩:=h
  obtain ⟨mm,p,fs,e1,h⟩:=rY h
  obtain ⟨h1,ow1,ob1⟩:=st.obs i mm C p fs e1
  have v:PE X (.Name x p1) (AJ i):=eu hi hv hd hcd
  refine PySem.W.methodCall_KW (pl:=pl) (thn (v pins s σ H (fun u H'=>u=.ref p/\H'=H) I ⟨_,h1,rfl,rfl⟩) fun u s1 ⟨v',H',I',rv,ev,eh⟩=>?_) ht
  subst ev eh
  obtain rfl:u=Value.ref p:=rv
  obtain ⟨dx,vs,g1,g2,g3,g4,g5,g6,g7,g8⟩:=id ob1
  refine eO I' g1 c.cl hm (g8.none hmn) ?_
  refine PySem.W.callWith_K0 (first:=[.ref p]) I'.kIn hm.kp (jN (us:=[]) M hr hb hl I' .nil .nil rfl st.sub (fun a t q=>(fV q).2.2.1) ob1.cut ?_)
  cases q:F fs [] with
  | ok d fs'=>rw [q] at h; exact h.elim
  | rd d=>rw [q] at h; exact h
  | ex C'=>rw [q] at h; exact h
  | no=>rw [q] at h; exact h.elim
theorem kE {pl:Sem Bool} (i:Nat) (c:CF X.K C ks) (m:MCallee X.prog X.w X.K X.mg X.base C mn k n F) (hr:Room k X.A) (ha:PFA X (e::es) gl) (hi:X.N[i]?=some x:=by rfl) (hv:Vis X.env.scope x:=by first | exact Or.inl rfl | exact Or.inr (Or.inl rfl) | exact Or.inr (Or.inr rfl))
 (hd:(x==("__debug__":Str))=false:=by decide) (hcd:(x==("__classdict__":Str))=false:=by decide) (hmn:∀ k,k < fnames.length->(mn==cm k)=false:=by decide)
 (hst:starEach (e::es) X.env=(false,eval e X.env)::starEach es X.env:=by rfl) (hpl:(backTo pos (starEach es X.env)).any (·.1)=false:=by rfl)
 (hs:swapsWith (.Call (.Attribute (.Name x p1) mn ap) (e::es) [] pos) none ep.line X.env=pure false:=by rfl)
 (ht:eval (.Call (.Attribute (.Name x p1) mn ap) (e::es) [] pos) X.env=(do
 let ov <- eval (.Name x p1) X.env
 standAt ap.atName
 let (f,first) <- holding [ov] (getMethod ov mn pl)
 callWith pos f first (backTo pos (starEach (e::es) X.env)) (backToKw pos (keywordEach [] X.env))):=by rfl):PSF X (.Expr (.Call (.Attribute (.Name x p1) mn ap) (e::es) [] pos) ep) (qT C i n F gl):=by
 walk_at "u"
 exact fun G₀ H₀ pins s σ H D I h=>by
  obtain ⟨f,fd,ps,M,hm,hb,hl⟩:=m.ex
  obtain ⟨G,ρ,sr,h⟩:=h
  obtain ⟨p,fs,e1,h⟩:=kX h
  obtain ⟨h1,_,_⟩:=sr.e.obs i true C p fs e1
  have v:PE X (.Name x p1) (AJ i):=eu hi hv hd hcd
  have pe:PE X (.Call (.Attribute (.Name x p1) mn ap) (e::es) [] pos) (fun σ' H' Q=>σ'=σ/\H'=H/\∀ v H2,D.nx σ H2->Q v H2):=by
   rintro pn2 sh2 σ' H' Q J ⟨rfl,rfl,hQ⟩
   refine PySem.W.methodCall_KW (pl:=pl) (thn (v pn2 sh2 σ' H' (fun u H2=>u=.ref p/\H2=H') J ⟨_,h1,rfl,rfl⟩) fun u s1 ⟨v',H2,I',rv,ev,eh⟩=>?_) ht
   subst ev eh
   obtain rfl:u=Value.ref p:=rv
   obtain ⟨_,ow,dx,vs,g1,g2,g3,g4,g5,g6,g7,g8⟩:=sr.e.obs i true C p fs e1
   refine eO I' g1 c.cl hm (g8.none hmn) ?_
   have t:tAF X gl σ' H2 (fun vs H1=>∃ G1 ds,Up G H2 G1 H1/\Reps X.K G1 vs ds/\ds.length=n/\mq X G₀ H₀ D ((F fs ds).out C p i ρ)):=by
    refine ⟨G,ρ,sr.e,?_⟩
    cases q:gl ρ with
    | ok ds=>
     rw [q] at h
     simp only [R.out] at h
     intro vs G1 H1 u r
     by_cases hz:ds.length=n
     ·rw [if_pos hz] at h; exact ⟨G1,ds,u,r,hz,h⟩
     ·rw [if_neg hz] at h; exact h.elim
    | ex C=>rw [q] at h; exact Exx.of sr h
    | no=>rw [q] at h; exact h
   refine PySem.W.callWith_K (first:=[.ref p]) (h₀:=X.base) J.ok.mod.kin hm.kp (thn (ha pos pn2 s1 σ' H2 _ I' t) fun us s2 q=>⟨?_,?_⟩) hst hpl
   ·obtain ⟨vs,H1,I1,r,_⟩:=q; exact I1.kIn
   obtain ⟨vs,H1,I1,r,G1,ds,u1,rp,hz,h2⟩:=q
   have sr1:=sr.ups u1
   obtain ⟨ow1,o1,o2⟩:=sr1.ob
   refine jN M hr hb hl I1 r rp hz sr1.e.sub (fun a t q=>(fV q).2.2.1) (o2 i true C p fs e1).2.cut ?_
   cases q:F fs ds with
   | ok d fs'=>rw [q] at h2; exact fun v G' H' ow' u ob _=>hQ v H' (h2 _ G' H' (sr1.meth e1 o1 o2 u ob))
   | rd d=>rw [q] at h2; exact fun v G' H' u _=>hQ v H' (h2 _ G' H' (sr1.ups u))
   | ex C'=>rw [q] at h2; exact Exx.of sr1 h2
   | no=>rw [q] at h2; exact h2.elim
  exact gR pe hs pins s σ H D I ⟨rfl,rfl,fun v H2 q=>q⟩
theorem xV {pl:Sem Bool} (i:Nat) (c:CF X.K C ks) (m:MCallee X.prog X.w X.K X.mg X.base C mn k 0 F) (hr:Room k X.A) (hi:X.N[i]?=some x:=by rfl) (hv:Vis X.env.scope x:=by first | exact Or.inl rfl | exact Or.inr (Or.inl rfl) | exact Or.inr (Or.inr rfl))
 (hd:(x==("__debug__":Str))=false:=by decide) (hcd:(x==("__classdict__":Str))=false:=by decide) (hmn:∀ k,k < fnames.length->(mn==cm k)=false:=by decide)
 (hs:swapsWith (.Call (.Attribute (.Name x p1) mn ap) [] [] pos) none ep.line X.env=pure false:=by rfl)
 (ht:eval (.Call (.Attribute (.Name x p1) mn ap) [] [] pos) X.env=(do
 let ov <- eval (.Name x p1) X.env
 standAt ap.atName
 let (f,first) <- holding [ov] (getMethod ov mn pl)
 callWith pos f first (backTo pos (starEach [] X.env)) (backToKw pos (keywordEach [] X.env))):=by rfl):PSF X (.Expr (.Call (.Attribute (.Name x p1) mn ap) [] [] pos) ep) (ww C i F):=by
 walk_at "u"
 exact fun G₀ H₀ pins s σ H D I h=>by
  obtain ⟨f,fd,ps,M,hm,hb,hl⟩:=m.ex
  obtain ⟨G,ρ,sr,h⟩:=h
  obtain ⟨p,fs,e1,h⟩:=kX h
  have h:mq X G₀ H₀ D ((F fs []).out C p i ρ):=h
  obtain ⟨h1,_,_⟩:=sr.e.obs i true C p fs e1
  have v:PE X (.Name x p1) (AJ i):=eu hi hv hd hcd
  have pe:PE X (.Call (.Attribute (.Name x p1) mn ap) [] [] pos) (fun σ' H' Q=>σ'=σ/\H'=H/\∀ v H2,D.nx σ H2->Q v H2):=by
   rintro pn2 sh2 σ' H' Q J ⟨rfl,rfl,hQ⟩
   refine PySem.W.methodCall_KW (pl:=pl) (thn (v pn2 sh2 σ' H' (fun u H2=>u=.ref p/\H2=H') J ⟨_,h1,rfl,rfl⟩) fun u s1 ⟨v',H2,I',rv,ev,eh⟩=>?_) ht
   subst ev eh
   obtain rfl:u=Value.ref p:=rv
   obtain ⟨ow1,o1,o2⟩:=sr.ob
   obtain ⟨dx,vs,g1,g2,g3,g4,g5,g6,g7,g8⟩:=(o2 i true C p fs e1).2
   refine eO I' g1 c.cl hm (g8.none hmn) ?_
   refine PySem.W.callWith_K0 (first:=[.ref p]) I'.kIn hm.kp (jN (us:=[]) M hr hb hl I' .nil .nil rfl sr.e.sub (fun a t q=>(fV q).2.2.1) (o2 i true C p fs e1).2.cut ?_)
   cases q:F fs [] with
   | ok d fs'=>rw [q] at h; exact fun v G' H' ow' u ob _=>hQ v H' (h _ G' H' (sr.meth e1 o1 o2 u ob))
   | rd d=>rw [q] at h; exact fun v G' H' u _=>hQ v H' (h _ G' H' (sr.ups u))
   | ex C'=>rw [q] at h; exact Exx.of sr h
   | no=>rw [q] at h; exact h.elim
  exact gR pe hs pins s σ H D I ⟨rfl,rfl,fun v H2 q=>q⟩
end
section
variable {X:Cx} {e:Expr} {es:List Expr} {gl:Ev->R (List D)} {cn:Str} {k n:Nat} {C:Addr} {F:MF} {p pos:Pos}
theorem DT (c:MkC X.prog X.w X.K X.mg X.base C cn k n F) (hr:Room (k+1) X.A) (ha:PFA X (e::es) gl) (hg:Gl X cn:=by rfl) (hdb:(cn==("__debug__":Str))=false:=by decide)
 (he:starEach (e::es) X.env=(false,eval e X.env)::starEach es X.env:=by rfl) (hpl:(backTo pos (starEach es X.env)).any (·.1)=false:=by rfl):PF X (.Call (.Name cn p) (e::es) [] pos) (yX F n gl):=by
 walk_at "u"
 exact fun pins s σ H Q I h=>by
  refine tY c hr ha hg hdb he hpl pins s σ H Q I ?_
  obtain ⟨G,ρ,st,h⟩:=h
  refine ⟨G,ρ,st,?_⟩
  unfold yX at h
  cases q:gl ρ>>=xx F n with
  | ok fs=>rw [q] at h; exact h.elim
  | ex C=>rw [q] at h; exact h
  | no=>rw [q] at h; exact h
end
section
variable {X:Cx} {st:Stmt} {cZ:List Stmt} {g1:Ev->O} {gs:Ev->O} {α:Type} {g2:α->Ev->O} {e:Expr} {es:List Expr} {gl gl':Ev->R (List D)} {cn:Str} {k n:Nat} {C:Addr} {F:MF} {p pos:Pos}
theorem Be (h:oK X cZ gs):yr X cZ (Ai gs):=by
 walk_at "u"
 exact fun G₀ H₀ pins s σ H D I ⟨G,ρ,sr,q⟩=>h G₀ H₀ pins s σ H D I ⟨G,ρ,sr,q ()⟩
theorem fF [Inhabited α] (h1:PSF X st g1) (h2:yr X cZ g2):yr X (st::cZ) (lC g1 g2):=by
 walk_at "u"
 exact fun G₀ H₀ pins s σ H D I h=>by
  refine mW (h1 G₀ H₀) (h2 G₀ H₀) pins s σ H D I ?_
  obtain ⟨G,ρ,sr,h⟩:=h
  have h:∀ q,mq X G₀ H₀ D ((g1 ρ).seq (g2 q)):=h
  refine ⟨G,ρ,sr,?_⟩
  cases q:g1 ρ with
  | nx ρ'=>rw [q] at h; exact fun σ' G' H' sr'=>⟨G',ρ',sr',h⟩
  | rt d=>rw [q] at h; exact h default
  | re d ρ'=>rw [q] at h; exact h default
  | bk ρ'=>rw [q] at h; exact h default
  | ct ρ'=>rw [q] at h; exact h default
  | ex C ρ'=>rw [q] at h; exact h default
  | no=>rw [q] at h; exact h default
theorem B7 (i:Nat) (h:yr X cZ g2):yr X cZ (zS i g2):=by
 walk_at "u"
 exact fun G₀ H₀ pins s σ H D I ⟨G,ρ,sr,q⟩=>by
  obtain ⟨G',sr'⟩:=sr.frz i
  exact h G₀ H₀ pins s σ H D I ⟨G',_,sr',q⟩
theorem BZ [Inhabited α] (i:Nat) (c:MkC X.prog X.w X.K X.mg X.base C cn k n F) (hr:Room (k+1) X.A) (hN:X.N.Nodup) (ha:PFA X (e::es) gl) (h2:yr X cZ g2) (hi:X.N[i]?=some y:=by rfl) (hx:Loc X.env.scope y:=by first | exact Or.inl rfl | exact Or.inr rfl)
 (hg:Gl X cn:=by rfl) (hdb:(cn==("__debug__":Str))=false:=by decide) (he:starEach (e::es) X.env=(false,eval e X.env)::starEach es X.env:=by rfl) (hpl:(backTo p (starEach es X.env)).any (·.1)=false:=by rfl)
 (hs:swapsWithSole [.Name y py] (.Call (.Name cn pos) (e::es) [] p) pos.line X.env=pure false:=by rfl) (hw:swappedStores [.Name y py] (.Call (.Name cn pos) (e::es) [] p) X.env=pure none:=by rfl) (hf:X.fn y=true\/X.env.scope.names.lookup y=some .local:=by first | exact .inl rfl | exact .inr rfl) {pos':Pos}
 (hs':swapsWithSole [.Name y py] (.Call (.Name cn pos) (e::es) [] p) pos'.line X.env=pure false:=by rfl):yr X (.Assign [.Name y py] (.Call (.Name cn pos) (e::es) [] p) pos'::cZ) (Az C i F n gl g2):=by
 walk_at "u"
 exact fun G₀ H₀ pins s σ H D I h=>by
  refine mW (tZ (tY c hr ha hg hdb he hpl) (nV (i:=i) hN hi hx hf) hs' hw rfl) (h2 G₀ H₀) pins s σ H D I ?_
  obtain ⟨G,ρ,sr,h⟩:=h
  have h:∀ q:Addr × α,mq X G₀ H₀ D ((gl ρ>>=xx F n).out ρ fun fs=>g2 q.2 (ρ.set i (some (.obj true C q.1 fs)))):=h
  refine ⟨G,ρ,sr.e,?_⟩
  cases q:gl ρ>>=xx F n with
  | ok fs=>
   rw [q] at h
   exact fun x G' H' ow' u ob=>⟨G',_,sr.setObj u ob i,fun q2=>h (x,q2)⟩
  | ex C'=>rw [q] at h; exact Exx.of sr (h (0,default))
  | no=>rw [q] at h; exact (h (0,default)).elim
end
section
end
section
variable {X:Cx} {e a b c:Expr} {cZ:List Expr} {g g1 g2:Ev->O} {ga gb:Ev->R D} {gt:Ev->R Bool} {pos:Pos} {s1 s2:List Stmt} {h1 h2:Ev->O}
theorem Gb (h:PF X e ga):PFX X e (xUp ga):=by
 walk_at "u"
 exact fun G₀ H₀ pins s σ H Q I ⟨G,ρ,sr,q⟩=>by
  refine h pins s σ H Q I (tX.read sr (fun d e v G1 H1 u s1 r=>?_) (fun C e=>?_) fun e=>?_)
  ·unfold xUp at q; rw [e] at q; exact q v G1 H1 s1 r
  ·unfold xUp at q; rw [e] at q; exact q
  ·unfold xUp at q; rw [e] at q; exact q
theorem FM (h:PFX X e g):PSF X (.Return (some e) pos) (xD g):=by
 walk_at "u"
 exact fun G₀ H₀ pins s σ H D I ⟨G,ρ,sr,q⟩=>by
  refine uf (h G₀ H₀) pins s σ H D I ⟨G,ρ,sr,?_⟩
  unfold xD at q
  cases e:g ρ with
  | re d ρ'=>rw [e] at q; exact fun v G' H' s' r=>q v σ G' H' s' r
  | ex C ρ'=>rw [e] at q; exact q
  | _=>rw [e] at q; exact q.elim
end
section
variable {X:Cx} {e:Expr} {es:List Expr} {gl:Ev->R (List D)} {x y mn:Str} {i k n:Nat} {C:Addr} {ks:List Nat} {F:MF} {p1 ap pos ep:Pos}
theorem qK {pl:Sem Bool} (i:Nat) (c:CF X.K C ks) (m:MCallee X.prog X.w X.K X.mg X.base C mn k n F) (hr:Room k X.A) (ha:PFA X (e::es) gl) (hi:X.N[i]?=some x:=by rfl) (hv:Vis X.env.scope x:=by first | exact Or.inl rfl | exact Or.inr (Or.inl rfl) | exact Or.inr (Or.inr rfl))
 (hd:(x==("__debug__":Str))=false:=by decide) (hcd:(x==("__classdict__":Str))=false:=by decide) (hmn:∀ k,k < fnames.length->(mn==cm k)=false:=by decide)
 (hst:starEach (e::es) X.env=(false,eval e X.env)::starEach es X.env:=by rfl) (hpl:(backTo pos (starEach es X.env)).any (·.1)=false:=by rfl)
 (ht:eval (.Call (.Attribute (.Name x p1) mn ap) (e::es) [] pos) X.env=(do
 let ov <- eval (.Name x p1) X.env
 standAt ap.atName
 let (f,first) <- holding [ov] (getMethod ov mn pl)
 callWith pos f first (backTo pos (starEach (e::es) X.env)) (backToKw pos (keywordEach [] X.env))):=by rfl):PFX X (.Call (.Attribute (.Name x p1) mn ap) (e::es) [] pos) (dJ C i n F gl):=by
 walk_at "u"
 exact fun G₀ H₀ pins s σ H Q I h=>by
  obtain ⟨f,fd,ps,M,hm,hb,hl⟩:=m.ex
  obtain ⟨G,ρ,sr,h⟩:=h
  obtain ⟨mm,p,fs,e1,h⟩:=vW h
  obtain ⟨h1,_⟩:=sr.e.obs i mm C p fs e1
  have v:PE X (.Name x p1) (AJ i):=eu hi hv hd hcd
  refine PySem.W.methodCall_KW (pl:=pl) (thn (v pins s σ H (fun u H'=>u=.ref p/\H'=H) I ⟨_,h1,rfl,rfl⟩) fun u s1 ⟨v',H',I',rv,ev,eh⟩=>?_) ht
  subst ev eh
  obtain rfl:u=Value.ref p:=rv
  obtain ⟨_,ow,dx,vs,g1,g2,g3,g4,g5,g6,g7,g8⟩:=sr.e.obs i mm C p fs e1
  refine eO I' g1 c.cl hm (g8.none hmn) ?_
  have t:tAF X gl σ H' (fun vs H1=>∃ G1 ds,StR X.K G₀ H₀ G1 H1 σ ρ/\Reps X.K G1 vs ds/\ds.length=n/\wv X G₀ H₀ σ Q ((F fs ds).outX mm C p i ρ)):=
   CL sr h fun vs G1 H1 ds s1 r hz h=>⟨G1,ds,s1,r,hz,h⟩
  refine PySem.W.callWith_K (first:=[.ref p]) (h₀:=X.base) I.ok.mod.kin hm.kp (thn (ha pos pins s1 σ H' _ I' t) fun us s2 q=>⟨?_,?_⟩) hst hpl
  ·obtain ⟨vs,H1,I1,r,_⟩:=q; exact I1.kIn
  obtain ⟨vs,H1,I1,r,G1,ds,s2,rp,hz,h2⟩:=q
  exact mF M hr hb hl I1 r rp hz s2 e1 h2
theorem wJ {pl:Sem Bool} (i:Nat) (c:CF X.K C ks) (m:MCallee X.prog X.w X.K X.mg X.base C mn k 0 F) (hr:Room k X.A) (hi:X.N[i]?=some x:=by rfl) (hv:Vis X.env.scope x:=by first | exact Or.inl rfl | exact Or.inr (Or.inl rfl) | exact Or.inr (Or.inr rfl))
 (hd:(x==("__debug__":Str))=false:=by decide) (hcd:(x==("__classdict__":Str))=false:=by decide) (hmn:∀ k,k < fnames.length->(mn==cm k)=false:=by decide)
 (ht:eval (.Call (.Attribute (.Name x p1) mn ap) [] [] pos) X.env=(do
 let ov <- eval (.Name x p1) X.env
 standAt ap.atName
 let (f,first) <- holding [ov] (getMethod ov mn pl)
 callWith pos f first (backTo pos (starEach [] X.env)) (backToKw pos (keywordEach [] X.env))):=by rfl):PFX X (.Call (.Attribute (.Name x p1) mn ap) [] [] pos) (dJ C i 0 F fun _=>.ok []):=by
 walk_at "u"
 exact fun G₀ H₀ pins s σ H Q I h=>by
  obtain ⟨f,fd,ps,M,hm,hb,hl⟩:=m.ex
  obtain ⟨G,ρ,sr,h⟩:=h
  obtain ⟨mm,p,fs,e1,h⟩:=vW h
  have h:wv X G₀ H₀ σ Q ((F fs []).outX mm C p i ρ):=h
  obtain ⟨h1,_⟩:=sr.e.obs i mm C p fs e1
  have v:PE X (.Name x p1) (AJ i):=eu hi hv hd hcd
  refine PySem.W.methodCall_KW (pl:=pl) (thn (v pins s σ H (fun u H'=>u=.ref p/\H'=H) I ⟨_,h1,rfl,rfl⟩) fun u s1 ⟨v',H',I',rv,ev,eh⟩=>?_) ht
  subst ev eh
  obtain rfl:u=Value.ref p:=rv
  obtain ⟨_,ow,dx,vs,g1,g2,g3,g4,g5,g6,g7,g8⟩:=sr.e.obs i mm C p fs e1
  refine eO I' g1 c.cl hm (g8.none hmn) ?_
  exact PySem.W.callWith_K0 (first:=[.ref p]) I'.kIn hm.kp (mF (us:=[]) M hr hb hl I' .nil .nil rfl sr e1 h)
end
section
variable {X:Cx} {es:List Expr} {gl:Ev->R (List D)} {x y:Str} {i k n:Nat} {C:Addr} {F:MF} {p1 py pos:Pos}
end
section
variable {X:Cx} {scope:Scope} {N':List Str} {ix:List Nat} {params:Arguments} {body:Expr} {lp p pos:Pos} {x:Str} {k j i:Nat} {C:Addr} {gb:Ev->O} {g:R D->R D}
theorem mS (i:Nat) (T:Told X.prog X.w X.K X.mg X.base x k (j+1) g) (hr:Room k X.A) (L:LamAt X) (ok:LamOk X scope N' (i::ix))
 (hb:∀ (cl:List (Str × Addr)) (f:Addr) (cd:Value) (A:Around) (outer:List Env) (s:Shared) (H:Hp) (E:XK),Room j (A.deeper (PySem.W.envX (X.env.qual++"<lambda>") scope s.heap.objs.size f cd cl))->PFX (pB X.prog X.w X.K X.mg X.base N' (X.env.qual++"<lambda>") scope cl f cd A outer s H E) body gb)
 (hp:∀ cl pm cd ctv,bindArgs (PySem.W.kla_fn "<lambda>" (X.env.qual++"<lambda>") params body scope cl pm cd ctv) ⟨[],[]⟩=pure []:=by intros; rfl) (hdef:defaultsOf params X.env=([],[]):=by rfl)
 (hg:Gl X x:=by rfl) (hdb:(x==("__debug__":Str))=false:=by decide) (he:starEach [.Lambda params body scope lp] X.env=(false,eval (.Lambda params body scope lp) X.env)::starEach [] X.env:=by rfl):PF X (.Call (.Name x p) [.Lambda params body scope lp] [] pos) (kz g C i ix gb):=by
 walk_at "u"
 obtain ⟨ft,hm,hk,run⟩:=T.ex
 obtain ⟨c,P,q,hc,hcd,hT,rfl,hbm,hgP⟩:=L.ex
 intro pins s σ H Q I h
 obtain ⟨G,ρ,st,h⟩:=h
 obtain ⟨mm,p0,fs,e1,h⟩:=yi h
 obtain ⟨m,em,hgm,h⟩:∃ m:R D,m ≠ .no/\((∃ d ρ',m=.ok d/\gb (some (.obj false C p0 fs)::bK 0 ix ρ)=.re d ρ')\/∃ E ρ',m=.ex E/\gb (some (.obj false C p0 fs)::bK 0 ix ρ)=.ex E ρ')/\(g m).post (Fin G H (Rep X.K) Q) (Exx X σ G H):=by
  cases q:gb (some (.obj false C p0 fs)::bK 0 ix ρ) with
  | re d ρ'=>simp only [q] at h; exact ⟨.ok d,(by intro z; cases z),.inl ⟨d,ρ',rfl,rfl⟩,h⟩
  | ex E ρ'=>simp only [q] at h; exact ⟨.ex E,(by intro z; cases z),.inr ⟨E,ρ',rfl,rfl⟩,h⟩
  | _=>simp only [q] at h; exact h.elim
 refine wpAny_Call_Name_kw (fO I hg hm ?_ hdb)
 refine PySem.W.callWith_K (h₀:=X.base) I.ok.mod.kin hk ?_ he rfl
 rw [he]
 show wpAny _ _ (spliced ((false,eval (.Lambda params body scope lp) X.env)::backTo pos (starEach [] X.env))) _ _ s
 obtain ⟨more,hTH⟩:=I.ok.tabs.un I.base P _ hT
 refine Calls.spliced_cons (tU I hdef hc (hcd _ I.kIn) hTH ?_ (hbm.keeps I.bk) ok.fr hgP fun f cd ctv pm H1 s1 L=>Calls.spliced_nil ⟨L.inv.kIn,?_⟩)
 ·unfold sW
  rw [Array.toList_append]
  rfl
 have sub:Same G H1:=st.sub.trans L.hh
 have up:Up G H G H1:=⟨sub,.refl _,L.hh,fun a o h=>.inl h⟩
 have st1:=st.up up
 have dd:td X.prog X.w X.K X.mg X.base (j+1) s1 G H1 f m:=by
  intro Y pinsY σY G2 H2 s2 fs2 Q' e1' e2' e3' e4' e5' J hrY un up2 hpost
  have st2:=st1.up up2
  obtain ⟨es,ow2,ob2⟩:=st2.obs i mm C p0 fs e1
  obtain ⟨sl,hf2⟩:=un.any L.fn L.free (by simp)
  refine ⟨⟨_,_,hf2,rfl⟩,?_⟩
  have code:s2.heap.CodeRec cd (X.env.qual++"<lambda>"):=by
   obtain ⟨c,oc,vs,t,u,rfl,e,d,q⟩:=L.codeH
   obtain ⟨e2,_⟩:=J.hok c _ (up2.hh _ _ e)
   exact ⟨c,oc,vs,t,rfl,e2,d,q⟩
  have st3:StR X.K G2 H2 G2 H2 (cq 0 (i::ix) σ) (some (.obj false C p0 fs)::bK 0 ix ρ):=vJ st2 ix es up2.sub (.refl up2.sub) (ob2.cut.ro H2)
  have hbb:=hb (oA X.env scope.names []) f cd Y.A Y.stack s2 H2 (fun c _ H'=>∃ C G',c=.ref C/\Up G2 H2 G' H'/\Exx Y σY G2 H2 C) (hrY.deeper _)
  rw [<- e1',<- e2',<- e3',<- e4',<- e5'] at hbb
  rw [<- e3'] at st3
  refine wpAny_mono (ua (te:=tX _ G2 H2 gb) (Q:=Q') J hrY hf2 rfl code (hp _ _ _ _) ok.co ok.gen ((xn ok L.inv).un un) (hbb G2 H2) ⟨G2,_,st3,?_⟩) (fun _ _ q=>q) fun e s' hq=>?_
  ·rcases hgm with ⟨d,ρ',rfl,eg⟩ | ⟨E,ρ',rfl,eg⟩
   ·rw [eg]; exact fun v G' H' srl rv=>hpost v G' H' srl.up rv
   ·rw [eg]; exact fun e s' fl=>ss rfl rfl fl fun G' H' u'=>⟨E,G',rfl,u',hpost⟩
  ·obtain ⟨a,C,H',rfl,fl,C',G',ec,u,q⟩:=hq
   cases ec
   exact q _ _ ⟨G2,H2,.refl up2.sub,pinsY,s2,a,rfl,J,.inr (.inl ⟨G',H',fl,u⟩)⟩
 have h1:(g m).post (Fin G H1 (Rep X.K) Q) (Exx X σ G H1):=iQ up h
 refine wpAny_call (codeAny_mono (run X.A X.stack s1 G H1 f _ Q (fun c _ H'=>∃ C G',c=.ref C/\Up G H1 G' H'/\Exx X σ G H1 C) hr L.inv.env0 sub dd (h1.mono (fun _ q=>q) fun C q G' H' u=>⟨C,G',rfl,u,q⟩)) fun r' s' hq=>?_)
 cases r' with
 | error e'=>
  obtain ⟨a,C,H',rfl,fl,C',G',ec,u,q⟩:=hq
  cases ec
  exact q _ _ ⟨G,H1,.refl sub,pins,s1,a,rfl,L.inv,.inr (.inl ⟨G',H',fl,u⟩)⟩
 | ok fl=>
  cases fl with
  | ret u=>exact L.inv.after hq
  | _=>exact False.elim hq
end
section
variable {X:Cx} {a b:Expr} {cZ:List Expr} {g g1 g2:Ev->O} {gb:Ev->R D} {pos:Pos}
theorem Ez {op:BoolOp} (h:PFX X a g):PFX X (.BoolOp op [a] pos) g:=by
 walk_at "u"
 exact fun G₀ H₀=>zv (h G₀ H₀)
theorem Dj (ha:PFX X a g1) (hb:PFX X (.BoolOp .And (b::cZ) pos) g2):PFX X (.BoolOp .And (a::b::cZ) pos) (Cy g1 g2):=by
 walk_at "u"
 exact fun G₀ H₀ pins s σ H Q I ⟨G,ρ,sr,q⟩=>by
  refine zh (ha G₀ H₀) (hb G₀ H₀) pins s σ H Q I ⟨G,ρ,sr,?_⟩
  unfold Cy at q
  cases e:g1 ρ with
  | re d ρ'=>
   rw [e] at q
   cases d <;> first | exact q.elim | skip
   rename_i k
   intro v G1 H1 s1 r1
   obtain rfl:=r1.bl_inv
   refine ⟨k,rfl,?_⟩
   cases k with
   | true=>rw [if_pos rfl]; exact ⟨G1,ρ',s1,q⟩
   | false=>rw [if_neg Bool.false_ne_true]; exact q _ G1 H1 s1 (.bl false)
  | ex C ρ'=>rw [e] at q; exact q
  | _=>rw [e] at q; exact q.elim
theorem FU (hu:X.A.units+64 < cLine) (ha:PFX X a g) (hb:PF X b gb):PFX X (.Compare a [.Eq] [b] pos) (zZ eqF g gb):=by
 with_unfolding_all exact AY (wu hu) (wP _ false) ha hb (jb _)
end
section
theorem Fun.okAT {w:World} {K:PySem.W.Frag} {mg:Str->Option Value} {base:Heap} {N:List Str} {α:Type} (F:Fun K x qual st f fd) (LB:LamB K mg base qual fd Pt) (S:FnScope N ps (av st)) {g:α->Ev->O} {gr:List D->R D}
 (hg:∀ ds,ds.length=ps.length->gr ds=.no\/∀ q,aM (g q (aL N.length ds))=gr ds)
 (hbody:∀ (cdv:Value) (A:Around) (outer:List Env) (s:Shared) (H:Hp) (E:XK),Room k (A.deeper (envOfC qual (av st) s.heap.objs.size f cdv))->LamAt (cD (CXo P w) P w K mg base N qual (av st) f cdv A outer s H E)->yr (cD (CXo P w) P w K mg base N qual (av st) f cdv A outer s H E) (bi st) g):FnF P w K mg base (k+1) f fd ps gr:=by
 walk_at "u"
 obtain ⟨oc,od,kV,doc,pm,an,cdv,ct,osl,rfl,lk,hcd⟩:=F.ex
 refine Ae lk hcd S (fun vs H Q E h=>h.1) fun A outer s H vs Q E hr hsp=>?_
 obtain ⟨hl,G,ds,sub,r,h⟩:=hsp
 have la:LamAt (cD (CXo P w) P w K mg base N qual (av st) f cdv A outer s H E):=by
  obtain ⟨c,ec,hd⟩:=LB.ld.ex
  exact ⟨c,Pt,_,ec,hd,LB.tb,rfl,LB.bm,LB.ld.ne⟩
 refine ⟨_,hbody cdv A outer s H E hr la G H,G,aL N.length ds,mJ sub r,fun q0=>?_⟩
 rcases hg ds (by rw [<- r.length]; exact hl) with z | z
 ·rw [z] at h; exact h.elim
 ·rw [<- z q0] at h
  cases q:g q0 (aL N.length ds) with
  | nx ρ=>rw [q] at h; exact fun σ G' H' sr=>h .non G' H' sr.up .non
  | rt d=>rw [q] at h; exact fun v G' H' u rv=>h v G' H' u rv
  | re d ρ=>rw [q] at h; exact fun v σ G' H' sr rv=>h v G' H' sr.up rv
  | bk ρ=>rw [q] at h; exact h.elim
  | ct ρ=>rw [q] at h; exact h.elim
  | ex C ρ=>rw [q] at h; exact fun e s' fl=>jJ fl h
  | no=>rw [q] at h; exact h.elim
end
section
variable {X:Cx} {cZ:List Stmt} {α:Type} {g2:α->Ev->O} {e e3:Expr} {es:List Expr} {gl gl':Ev->R (List D)} {ga:Ev->R D} {cn:Str} {k n:Nat} {C:Addr} {F:MF} {pos:Pos}
end
section
theorem Hm:oK X sts oNo:=by
 walk_at "u"
 exact fun G₀ H₀ pins s σ H D I ⟨G,ρ,sr,h⟩=>h.elim
theorem CZ {e:Expr} {g:Ev->O} (h:PFX X e g) (hs:swapsWith e none pos.line X.env=pure false:=by rfl):PSF X (.Expr e pos) (vI g):=by
 walk_at "u"
 exact fun G₀ H₀ pins s σ H D I ⟨G,ρ,sr,q⟩=>by
  refine gR (h G₀ H₀) hs pins s σ H D I ⟨G,ρ,sr,?_⟩
  unfold vI at q
  cases e:g ρ with
  | re d ρ'=>rw [e] at q; exact fun v G' H' s' r=>q σ G' H' s'
  | ex C ρ'=>rw [e] at q; exact q
  | _=>rw [e] at q; exact q.elim
end
end L2
namespace L2
open PySem PySem.Spec PyProof.Rows
section
variable {ρ:Ev} {g g1 g2':Ev->O} {gt gu:Ev->R Bool} {ga gb gc:Ev->R D} {gl:Ev->R (List D)} {go gp:Ev->R (Option Int)} {i n:Nat} {f f':D->D->Option D} {asg:D->Ev->R Ev} {C:Addr}
theorem Fm:aW g1 g2' ρ=(g1 ρ).seq g2':=rfl
theorem Gf:oIf gt g1 g2' ρ=(gt ρ).out ρ fun k=>if k=true then g1 ρ else g2' ρ:=rfl
theorem FE:iH i ga ρ=(ga ρ).out ρ fun d=>.nx (ρ.set i (some (.val d))):=rfl
theorem Ex:cw ga ρ=(ga ρ).out ρ .rt:=rfl
theorem Gg:oNx ρ=.nx ρ:=rfl
theorem EC:xA i gl ρ=(gl ρ).out ρ fun ds=>.nx (ρ.set i (some (.own ds))):=rfl
theorem B2:kP ga ρ=(ga ρ).out ρ fun _=>.nx ρ:=rfl
theorem Fr:Eb asg gl g ρ=(gl ρ).out ρ fun items=>fv asg g items ρ:=rfl
theorem Bz:fk C gl ρ=(gl ρ).out ρ fun _=>.ex C ρ:=rfl
theorem Fk:Hk asg ga ρ=(ga ρ).out ρ fun d=>(asg d ρ).out ρ .nx:=rfl
theorem Fw:BJ i g ρ=g (frz i ρ):=rfl
theorem Da {α β:Type} {h:α->R β} {gx:Ev->R α}:aP h gx ρ=gx ρ>>=h:=rfl
theorem GE {h:List D->Option D}:gOf h gl ρ=gl ρ>>=fun ds=>ofO (h ds):=rfl
theorem zd:ac ga gl ρ=ga ρ>>=fun x=>gl ρ>>=fun xs=>.ok (x::xs):=rfl
theorem Ao:bA gl ρ=gl ρ>>=fun ds=>.ok (.lst false ds):=rfl
theorem EZ:gS gl ρ=gl ρ>>=fun ds=>if ds.length<=sizeLine then .ok ds else .no:=rfl
theorem Hg:gB2 f ga gb ρ=g2 f ga gb ρ>>=asB:=rfl
theorem Gm:gB3 f f' ga gb gc ρ=g3 f f' ga gb gc ρ>>=asB:=rfl
theorem GC:gBn gt ρ=gt ρ>>=fun k=>.ok (!k):=rfl
theorem C7:rf ga ρ=ga ρ>>=fun x=>asI x>>=fun i=>.ok (some i):=rfl
theorem B6 {T:String} {h:D->List D->Option D}:ma T h ga gl ρ=ga ρ>>=fun x=>if gK T x=true then gl ρ>>=fun ds=>ofO (h x ds) else .no:=rfl
theorem Hl:g2 f ga gb ρ=ga ρ>>=fun x=>gb ρ>>=fun y=>ofO (f x y):=rfl
theorem Fq:oz ga gb ρ=ga ρ>>=fun x=>asB x>>=fun k=>if k=true then gb ρ else .ok (.bl false):=rfl
theorem Hi:gOr ga gb ρ=ga ρ>>=fun x=>asB x>>=fun k=>if k=true then .ok (.bl true) else gb ρ:=rfl
theorem FF:E2 ga ρ=ga ρ>>=fun x=>asB x>>=fun k=>.ok (.bl (!k)):=rfl
theorem Dv:EK gt gu ρ=gt ρ>>=fun k=>if k=true then gu ρ else .ok false:=rfl
theorem FK:oB gt gu ρ=gt ρ>>=fun k=>if k=true then .ok true else gu ρ:=rfl
theorem FJ:gIf gt ga gb ρ=gt ρ>>=fun k=>if k=true then ga ρ else gb ρ:=rfl
theorem GW:gSl ga go gp ρ=ga ρ>>=fun x=>go ρ>>=fun l=>gp ρ>>=fun u=>ofO (BH l u x):=rfl
theorem Cf:im gl ix gt ga ρ=gl ρ>>=fun items=>jD gt ga items (lF ix ρ)>>=fun ds=>if ds.length<=sizeLine then .ok ds else .no:=rfl
theorem AN {h:List D->R D}:bh 1 h (ac ga fun _=>.ok []) ρ=ga ρ>>=fun x=>h [x]:=zl
theorem A2 {h:List D->R D}:bh 2 h (ac ga (ac gb fun _=>.ok [])) ρ=ga ρ>>=fun x=>gb ρ>>=fun y=>h [x,y]:=xg
theorem Bh {h:List D->R D}:bh 3 h (ac ga (ac gb (ac gc fun _=>.ok []))) ρ=ga ρ>>=fun x=>gb ρ>>=fun y=>gc ρ>>=fun z=>h [x,y,z]:=zf
theorem Bp {h:List D->R D} {gd:Ev->R D}:bh 4 h (ac ga (ac gb (ac gc (ac gd fun _=>.ok [])))) ρ=ga ρ>>=fun x=>gb ρ>>=fun y=>gc ρ>>=fun z=>gd ρ>>=fun u=>h [x,y,z,u]:=by
 unfold bh
 simp only [zd]
 cases ga ρ <;> try rfl
 simp only [R.ok_bind]
 cases gb ρ <;> try rfl
 simp only [R.ok_bind]
 cases gc ρ <;> try rfl
 simp only [R.ok_bind]
 cases gd ρ <;> rfl
end
theorem Et (i:Nat) (ga:Ev->R D) (ρ:Ev):CQ i ga ρ=(ownAt ρ i).out ρ fun ds=>(ga ρ).out ρ fun d=>(asL d).out ρ fun es=>if ds.length+es.length<=sizeLine then .nx (ρ.set i (some (.own (ds++es)))) else .no:=rfl
theorem Fa (i:Nat) (ga:Ev->R D) (ρ:Ev):DY i ga ρ=(ownAt ρ i).out ρ fun ds=>(ga ρ).out ρ fun d=>if ds.length < sizeLine then .nx (ρ.set i (some (.own (ds++[d])))) else .no:=rfl
theorem Fv (i j:Nat) (gl:Ev->R (List D)) (ρ:Ev):FD i j gl ρ=(gl ρ).out ρ fun ds=>(wI [i,j] ds ρ).out ρ .nx:=rfl
theorem Hs (ds:List D) (ρ:Ev):ownAt (some (.own ds)::ρ) 0=.ok ds:=rfl
theorem Gz (a0:Option Sl) (ds:List D) (ρ:Ev):ownAt (a0::some (.own ds)::ρ) 1=.ok ds:=rfl
theorem GM (a0 a1:Option Sl) (ds:List D) (ρ:Ev):ownAt (a0::a1::some (.own ds)::ρ) 2=.ok ds:=rfl
theorem asl (ds:List D):asL (.lst false ds)=.ok ds:=rfl
theorem GY (a0:Option Sl) (ds:List D) (ρ:Ev):frz 1 (a0::some (.own ds)::ρ)=a0::some (.val (.lst false ds))::ρ:=rfl
noncomputable def g3k (f':D->D->Option D) (r:R D) (y:D):D->R D
 | .bl true=>r>>=fun w=>ofO (f' y w)
 | .bl false=>.ok (.bl false)
 | _=>.no
theorem GL (f f':D->D->Option D) (ga gb gc:Ev->R D) (ρ:Ev):g3 f f' ga gb gc ρ=ga ρ>>=fun x=>gb ρ>>=fun y=>ofO (f x y)>>=g3k f' (gc ρ) y:=rfl
theorem Em (f':D->D->Option D) (r:R D) (y:D) (b:Bool):g3k f' r y (.bl b)=if b=true then (r>>=fun w=>ofO (f' y w)) else .ok (.bl false):=by cases b <;> rfl
theorem sv2 (i j:Nat) (x y:D) (ρ:Ev):wI [i,j] [x,y] ρ=.ok ((ρ.set i (some (.val x))).set j (some (.val y))):=rfl
theorem GB (a0 a1 a2 a3:Option Sl) (ds:List D) (ρ:Ev):frz 4 (a0::a1::a2::a3::some (.own ds)::ρ)=a0::a1::a2::a3::some (.val (.lst false ds))::ρ:=rfl
theorem yP (ρ:Ev) (k:Ev->O):(O.nx ρ).seq k=k ρ:=rfl
theorem GV (d:D) (k:Ev->O):(O.rt d).seq k=.rt d:=rfl
theorem GA (C:Addr) (ρ:Ev) (k:Ev->O):(O.ex C ρ).seq k=.ex C ρ:=rfl
theorem Gq (k:Ev->O):(O.no).seq k=.no:=rfl
theorem Hc (d:D):aM (.rt d)=.ok d:=rfl
theorem GI (ρ:Ev):aM (.nx ρ)=.ok .non:=rfl
theorem Gv (C:Addr) (ρ:Ev):aM (.ex C ρ)=.ex C:=rfl
theorem Hh (k:Bool):asB (.bl k)=.ok k:=rfl
theorem rm (i:Int):asI (.int i)=.ok i:=rfl
theorem GN (k:Bool):kf (.bl k)=.ok k:=rfl
theorem rd7 (a0 a1 a2 a3 a4 a5 a6:Option Sl) (d:D) (ρ:Ev):rdV (a0::a1::a2::a3::a4::a5::a6::some (.val d)::ρ) 7=.ok d:=rfl
theorem rd8 (a0 a1 a2 a3 a4 a5 a6 a7:Option Sl) (d:D) (ρ:Ev):rdV (a0::a1::a2::a3::a4::a5::a6::a7::some (.val d)::ρ) 8=.ok d:=rfl
theorem rd9 (a0 a1 a2 a3 a4 a5 a6 a7 a8:Option Sl) (d:D) (ρ:Ev):rdV (a0::a1::a2::a3::a4::a5::a6::a7::a8::some (.val d)::ρ) 9=.ok d:=rfl
theorem Hx (a0 a1 a2 a3 a4 a5 a6 a7 a8 a9:Option Sl) (d:D) (ρ:Ev):rdV (a0::a1::a2::a3::a4::a5::a6::a7::a8::a9::some (.val d)::ρ) 10=.ok d:=rfl
theorem Hj (a0 a1 a2 a3 a4 a5 a6 a7 a8 a9 a10:Option Sl) (d:D) (ρ:Ev):rdV (a0::a1::a2::a3::a4::a5::a6::a7::a8::a9::a10::some (.val d)::ρ) 11=.ok d:=rfl
theorem Gk (a0 a1 a2 a3 a4 a5 a6 a7 a8 a9 a10 a11:Option Sl) (d:D) (ρ:Ev):rdV (a0::a1::a2::a3::a4::a5::a6::a7::a8::a9::a10::a11::some (.val d)::ρ) 12=.ok d:=rfl
section
variable (i j:Int)
theorem Fy:eE (.int i) (.int j)=some (.int (i+j)):=by simp only [eE]
theorem E9:zA (.int i) (.int j)=some (.int (i - j)):=by simp only [zA]
theorem Gi:leD (.int i) (.int j)=some (.bl (decide (i<=j))):=by simp only [leD]
theorem Hv:ltD (.int i) (.int j)=some (.bl (decide (i < j))):=by simp only [ltD]
theorem GF:gtD (.int i) (.int j)=some (.bl (decide (j < i))):=by simp only [gtD]
theorem GJ:geD (.int i) (.int j)=some (.bl (decide (j<=i))):=by simp only [geD]
theorem Fl:eqF (.int i) (.int j)=some (.bl (i==j)):=by simp only [eqF,eqD,Option.map_some]
theorem GQ:neF (.int i) (.int j)=some (.bl (!(i==j))):=by simp only [neF,eqD,Option.map_some]
end
theorem Dm {x y:List Nat} (h:x.length+y.length<=sizeLine):eE (.str x) (.str y)=some (.str (x++y)):=by simp only [eE]; rw [if_pos h]
theorem Ds {x y:List D} (h:x.length+y.length<=sizeLine):eE (.tup x) (.tup y)=some (.tup (x++y)):=by simp only [eE]; rw [if_pos h]
theorem G9 (x y:List Nat):eqF (.str x) (.str y)=some (.bl (x==y)):=by simp only [eqF,eqD,Option.map_some]
theorem Hb (x y:List Nat):neF (.str x) (.str y)=some (.bl (!(x==y))):=by simp only [neF,eqD,Option.map_some]
theorem yU {α:Type} (n:Nat) (x:α):(List.replicate n [x]).flatten=List.replicate n x:=by
 induction n with
 | zero=>rfl
 | succ n ih=>rw [List.replicate_succ,List.flatten_cons,ih]; rfl
theorem cR:(1000:Nat)<=sizeLine:=by decide
theorem FA {c:Nat} (h:n<=1000):lB (.str [c]) (.int (n:Int))=some (.str (List.replicate n c)):=by
 have:=cR
 simp only [lB]
 rw [if_pos (by refine ⟨by omega,by omega,?_⟩; simp; omega),Int.toNat_natCast,yU]
theorem As {xs:List D} (h:xs[k]?=some d):ixD (.tup xs) (.int (k:Int))=some d:=by simp only [ixD]; exact BE h
theorem AX {α:Type} (xs:List α) (k:Nat):oj xs none (some (k:Int))=xs.take k:=by
 unfold oj
 rw [HT.sIx_none,HT.sIx_nat,List.drop_zero,Nat.sub_zero]
 by_cases h:k<=xs.length
 ·rw [Nat.min_eq_left h]
 ·rw [Nat.min_eq_right (by omega),List.take_length,List.take_of_length_le (by omega)]
theorem wD {α:Type} (xs:List α) (k:Nat):oj xs (some (k:Int)) none=xs.drop k:=by
 unfold oj
 rw [HT.sIx_none,HT.sIx_nat]
 by_cases h:k<=xs.length
 ·rw [Nat.min_eq_left h,List.take_of_length_le (by simp)]
 ·rw [Nat.min_eq_right (by omega),List.drop_length,List.take_nil,List.drop_of_length_le (by omega)]
theorem Fg (lo hi:Option Int) (x:List Nat):BH lo hi (.str x)=some (.str (oj x lo hi)):=rfl
theorem EX (lo hi:Option Int) (x:List D):BH lo hi (.tup x)=some (.tup (oj x lo hi)):=rfl
theorem FH (fz:Bool) (x:List D):gm [.lst fz x]=some (.int x.length):=rfl
theorem E3 (x:List D):gm [.tup x]=some (.int x.length):=rfl
theorem EM (x:List Nat):gm [.str x]=some (.int x.length):=rfl
theorem m_t (h:ds.length<=1000):mkT ds=.ok (.tup ds):=if_pos (Nat.le_trans h cR)
theorem yN (h:n<=1000):fg [.int (n:Int)]=.ok ((List.range n).map fun (i:Nat)=>D.int (i:Int)):=by
 have e:fg [.int (n:Int)]=if -(2 ^ 62)<=(n:Int)/\(n:Int) < 2 ^ 62 then .ok ((List.range (n:Int).toNat).map fun i=>D.int (0+(i:Nat))) else .no:=by simp only [fg]
 rw [e,if_pos (by constructor <;> omega),Int.toNat_natCast]
 simp only [Int.zero_add]
theorem He {α:Type} (a v:α) (l:List α):(a::l).set 0 v=v::l:=rfl
theorem sQ {g:Ev->O} {ρ1 ρ2:Ev} (h1:asg d ρ=.ok ρ1) (h2:g ρ1=.nx ρ2):fv asg g (d::ds) ρ=fv asg g ds ρ2:=by
 rw [fv,h1]
 show (match g ρ1 with
  | .nx ρ2=>fv asg g ds ρ2
  | .ct ρ2=>fv asg g ds ρ2
  | .bk ρ2=>O.nx ρ2
  | .rt d=>O.rt d
  | .re d ρ2=>.re d ρ2
  | .ex C ρ2=>O.ex C ρ2
  | .no=>O.no)=_
 rw [h2]
theorem oV {e:Expr} {p:Pos} (hg:Gl X "tuple") (hm:X.mg "tuple"=none) (ha:PFA X [e] gl) (he:starEach [e] X.env=(false,eval e X.env)::starEach [] X.env:=by rfl) :
  PF X (.Call (.Name "tuple" p) [e] [] pos) (gOf pK gl):=vF mO (yz _) hg hm PyProof.Rows.Boot.«tuple» ha (by decide) (by decide) he rfl
end L2
namespace L2
open PySem PySem.Spec PyProof.Rows
theorem EE {a b:Expr} {ga:Ev->R D} (ha:PF X a ga) (hb:PF X b gb):PB X (.Compare a [.GtE] [b] pos) (gB2 geD ga gb):=Fc ha hb
noncomputable def lA:D->List D->Option D
 | .str x,[.int i]=>if -1000<=i/\i<=1000 then some (.str (x++List.replicate (i.toNat - x.length) 32)) else none
 | _,_=>none
noncomputable def zi:V->List V->Hp->VK->Prop:=fun x vs H Q=>∃ (y:Str) (i:Int),x=.str y/\vs=[.int i]/\-1000<=i/\i<=1000/\Q (.str (Txt.ljust y i)) H
theorem yV:MtR X "str.ljust" zi:=by
 intro pins s σ H x xs v us Q I rx rv ⟨y,i,ex,exs,h1,h2,q⟩
 subst ex exs
 obtain ⟨t,rfl⟩:=rx
 obtain ⟨u,rfl,r1⟩:=rv.one
 obtain ⟨t',rfl⟩:=r1
 exact SC.ljust (padOk_of (by omega) (by omega)) (fun t'' k=>⟨.str _,H,I.tok _,⟨_,rfl⟩,q⟩)
theorem pN (y:Str) (i:Int):(Txt.ljust y i).cps.toList=y.cps.toList++List.replicate (i.toNat - y.cps.toList.length) 32:=by
 unfold Txt.ljust
 have hl:y.length=y.cps.toList.length:=by simp [Str.length]
 split
 ·rename_i h
  have:i.toNat - y.cps.toList.length=0:=by omega
  rw [this]; simp
 ·simp [Builtin.Str.padded,Str.length]
theorem yv (K:PySem.W.Frag):BG K "str" zi lA:=by
 intro G H x xs dx ds d Q s rx rs e q
 unfold lA at e
 split at e
 ·split at e
  ·rename_i hi
   cases e
   obtain ⟨v,rfl,r1⟩:=rs.one
   obtain ⟨y,rfl,ey,hy⟩:=rx.str_inv
   obtain rfl:=r1.int_inv
   refine ⟨y,_,rfl,rfl,hi.1,hi.2,q _ G H (.refl s) (.strL (by rw [pN,ey]) ?_)⟩
   have h1:y.length=y.cps.toList.length:=by simp [Str.length]
   have:=cR
   rw [h1,ey] at hy
   simp; omega
  ·cases e
 ·cases e
theorem vC {o e:Expr} {ga:Ev->R D} {ap cp:Pos} (ho:PF X o ga) (ha:PFA X [e] gl) (hbase:attributeBase o "ljust" X.env (eval o X.env)=eval o X.env:=by rfl)
 (hfew:((backTo cp (starEach [e] X.env)).all (fun x=>!x.1) && (backToKw cp (keywordEach [] X.env)).all (fun x=>x.1.isSome)
 && decide ([e].length+([]:List Keyword).length+(if ([]:List Keyword).isEmpty then 0 else 1) < 30))=true:=by rfl)
 (hline:(ap.endLine==cp.line)=true:=by rfl) (hs:starEach [e] X.env=(false,eval e X.env)::starEach [] X.env:=by rfl) :
  PF X (.Call (.Attribute o "ljust" ap) [e] [] cp) (ma "str" lA ga gl):=Ay PySem.F.plainAttrs_str PySem.F.slot_str_ljust PySem.F.type_str_ljust yV (yv _) ho ha hbase hfew hline hs rfl
end L2
namespace L2
open PySem PySem.Spec PyProof.Rows
theorem GD (a0 a1 a2 a3 a4 a5 a6 a7 a8 a9 a10 a11 a12:Option Sl) (d:D) (ρ:Ev):rdV (a0::a1::a2::a3::a4::a5::a6::a7::a8::a9::a10::a11::a12::some (.val d)::ρ) 13=.ok d:=rfl
theorem Gw (a0 a1 a2 a3 a4 a5 a6 a7 a8 a9 a10 a11 a12 a13:Option Sl) (d:D) (ρ:Ev):rdV (a0::a1::a2::a3::a4::a5::a6::a7::a8::a9::a10::a11::a12::a13::some (.val d)::ρ) 14=.ok d:=rfl
theorem EF (i:Nat) (gt:Ev->R Bool) (g1 g2:Ev->O) (ρ:Ev):ES i gt g1 g2 ρ=(fq (gt (frz i ρ))).out ρ fun k=>if k=true then g1 ρ else g2 ρ:=rfl
theorem Ce (j i:Nat) (ga:Ev->R D) (ρ:Ev):FI j i ga ρ=(fq (ga (frz j ρ))).out ρ fun d=>if fl 10 d=true then .nx (ρ.set i (some (.val d))) else .no:=rfl
theorem DH (j i:Nat) (ga:Ev->R D) (ρ:Ev):EV j i ga ρ=(ownAt ρ i).out ρ fun ds=>(fq (ga (frz j ρ))).out ρ fun d=>if ds.length < sizeLine/\fl 10 d=true then .nx (ρ.set i (some (.own (ds++[d])))) else .no:=rfl
noncomputable def DQ (i:Nat) (ρ:Ev) (ds:List D) (d:D):Option Nat->O
 | some n=>if fl 10 d=true then .nx (ρ.set i (some (.own (ds.set n d)))) else .no
 | none=>.no
theorem BX (i:Nat) (gk ga:Ev->R D) (ρ:Ev):FQ i gk ga ρ=(ownAt ρ i).out ρ fun ds=>(fq (ga (frz i ρ))).out ρ fun d=>(fq (gk (frz i ρ)>>=asI)).out ρ fun k=>DQ i ρ ds d (ixN ds.length k):=rfl
theorem uD (i:Nat) (ρ:Ev) (ds:List D) (d:D) (n:Nat):DQ i ρ ds d (some n)=if fl 10 d=true then .nx (ρ.set i (some (.own (ds.set n d)))) else .no:=rfl
theorem DV (gl:Ev->R (List D)) (ρ:Ev):Ep gl ρ=gl ρ>>=Ea:=rfl
theorem Ey (xs:List D):Ea [.tup xs]=.ok xs:=rfl
theorem Bq (ga gb:Ev->R D) (ρ:Ev):Cd ga gb ρ=ga ρ>>=fun x=>gb ρ>>=fun c=>zg x c:=rfl
theorem A4 (n:Nat) (asg:D->Ev->R Ev) (gl:Ev->R (List D)) (ix:List Nat) (gt:Ev->R Bool) (ga:Ev->R D) (ρ:Ev):ml n asg gl ix gt ga ρ=gl ρ>>=fun items=>fD asg gt ga items (bK n ix ρ)>>=fun ds=>if ds.length<=sizeLine then .ok ds else .no:=rfl
theorem D6 (i j:Nat) (ga:Ev->R D) (gl:Ev->R (List D)) (ρ:Ev):Eu i j ga gl ρ=(ga ρ).out ρ fun d=>(gl ρ).out ρ fun ds=>.nx ((ρ.set i (some (.val d))).set j (some (.own ds))):=rfl
theorem En (f:Bool) (lo hi:Option Int) (x:List D):BH lo hi (.lst f x)=some (.lst false (oj x lo hi)):=rfl
theorem EY (ga gs:Ev->R D) (ρ:Ev):Gr ga gs ρ=ga ρ>>=fun x=>gs ρ>>=fun k=>Ec x k:=rfl
theorem EO (x:List Nat):Ec (.str x) (.int (-1))=.ok (.str x.reverse):=rfl
theorem E4 (f:Bool) (x:List D):Ec (.lst f x) (.int (-1))=.ok (.lst false x.reverse):=rfl
theorem EH (f:Bool) (xs:List D):Ea [.lst f xs]=.ok xs:=rfl
noncomputable def Fo (i:Nat):O->O
 | .nx ρ=>.nx (ρ.set i none)
 | .rt d=>.rt d
 | _=>.no
noncomputable def DZ (gs:Ev->O) (f:Addr->Option Bool) (i:Nat):O->O
 | .ex C ρ=>(match f C with
  | some true=>Fo i (gs (ρ.set i (some (.val (.exc C)))))
  | _=>.no)
 | o=>o
theorem EW (gb gs:Ev->O) (f:Addr->Option Bool) (i:Nat) (ρ:Ev):zC gb gs f i ρ=DZ gs f i (gb ρ):=by
 unfold zC DZ
 cases gb ρ <;> rfl
theorem Bm (gs:Ev->O) (f:Addr->Option Bool) (i:Nat) (ρ:Ev):DZ gs f i (.nx ρ)=.nx ρ:=rfl
theorem Ba {gs:Ev->O} {f:Addr->Option Bool} (h:f C=some true):DZ gs f i (.ex C ρ)=Fo i (gs (ρ.set i (some (.val (.exc C))))):=by
 simp only [DZ,h]
theorem Au (i:Nat) (ρ:Ev):Fo i (.nx ρ)=.nx (ρ.set i none):=rfl
noncomputable def Cl (gs:List (Ev->R D)) (out:List Nat) (ρ:Ev):D->R D
 | .str x=>if (out++x).length<=sizeLine then ky gs (out++x) ρ else .no
 | _=>.no
theorem CA (gs:List (Ev->R D)) (ρ:Ev):yI gs ρ=ky gs [] ρ:=rfl
theorem Bc (out:List Nat) (ρ:Ev):ky [] out ρ=.ok (.str out):=rfl
theorem Ah (g:Ev->R D) (gs:List (Ev->R D)) (out:List Nat) (ρ:Ev):ky (g::gs) out ρ=g ρ>>=Cl gs out ρ:=rfl
theorem Aw (gs:List (Ev->R D)) (out:List Nat) (ρ:Ev) (x:List Nat):Cl gs out ρ (.str x)=if (out++x).length<=sizeLine then ky gs (out++x) ρ else .no:=rfl
theorem Fh (x:List Nat):AK (.str x)=.ok (.str x):=rfl
theorem B9 (j i:Nat) (gl:Ev->R (List D)) (ρ:Ev):FG j i gl ρ=(fq (gl (frz j ρ))).out ρ fun ds=>if ds.all (fl 10)=true then .nx (ρ.set i (some (.own ds))) else .no:=rfl
theorem Fz (n:Nat) (gt:Ev->R Bool) (g:Ev->O) (ρ:Ev):Cv n gt g ρ=ud gt g n ρ:=rfl
theorem zN (gi:Ev->R (List D)) (ix:List Nat) (gt:Ev->R Bool) (ge:Ev->R D) (ρ:Ev):D9 gi ix gt ge ρ=gi ρ>>=fun items=>if items.length<=sizeLine then ti (vt 0) gt ge items (lF ix ρ) else .no:=rfl
theorem AW (C:Addr) (i k:Nat) (gb:Ev->R D) (ρ:Ev):tW C i k gb ρ=(ly C ρ i>>=fun fs=>fldL fs k>>=fun ds=>gb ρ>>=fun d=>ofO (ixD (.lst false ds) d)):=rfl
theorem xY (C:Addr) (i k:Nat) (ρ:Ev):iW C i k ρ=(ly C ρ i>>=fun fs=>fldL fs k>>=fun ds=>.ok (.int ds.length)):=rfl
theorem CO (C:Addr) (i k:Nat) (ga:Ev->R D) (ρ:Ev):wU C i k ga ρ=(nD C ρ i).out ρ fun o=>(fldL o.2 k).out ρ fun ds=>(ga ρ).out ρ fun d=>if ds.length < sizeLine then .nx (ρ.set i (some (.obj true C o.1 (lS k (.own (ds++[d])) o.2)))) else .no:=rfl
theorem DL (C:Addr) (i k:Nat) (gl:Ev->R (List D)) (ρ:Ev):wF C i k gl ρ=(nD C ρ i).out ρ fun o=>(gl ρ).out ρ fun ds=>if o.2.length < 900 then .nx (ρ.set i (some (.obj true C o.1 (lS k (.own ds) o.2)))) else .no:=rfl
theorem DN (ga:Ev->R D) (ρ:Ev):vn ga ρ=(ga ρ).out ρ fun d=>.re d ρ:=rfl
theorem Ak (C:Addr) (i n:Nat) (F:MF) (gl:Ev->R (List D)) (ρ:Ev):CI C i n F gl ρ=(ly C ρ i>>=fun fs=>gl ρ>>=fun ds=>if ds.length=n then (F fs ds).read else .no):=rfl
theorem xE (C:Addr) (i:Nat) (F:MF) (ρ:Ev):ci C i F ρ=(ly C ρ i>>=fun fs=>(F fs []).read):=rfl
theorem Bg (C:Addr) (i n:Nat) (F:MF) (gl:Ev->R (List D)) (ρ:Ev):qT C i n F gl ρ=(nD C ρ i).out ρ fun o=>(gl ρ).out ρ fun ds=>if ds.length=n then (F o.2 ds).out C o.1 i ρ else .no:=rfl
theorem Bx (C:Addr) (i:Nat) (F:MF) (ρ:Ev):ww C i F ρ=(nD C ρ i).out ρ fun o=>(F o.2 []).out C o.1 i ρ:=rfl
theorem Gp (d:D) (ρ:Ev) (k:Ev->O):(O.re d ρ).seq k=.re d ρ:=rfl
theorem Fx (d:D):RM.read (.rd d)=.ok d:=rfl
theorem EU (C:Addr):RM.read (.ex C)=.ex C:=rfl
theorem DM (d:D) (fs:List (Nat × Fd)) (C p:Addr) (i:Nat) (ρ:Ev):RM.out (.ok d fs) C p i ρ=.nx (ρ.set i (some (.obj true C p fs))):=rfl
theorem D0 (d:D) (C p:Addr) (i:Nat) (ρ:Ev):RM.out (.rd d) C p i ρ=.nx ρ:=rfl
theorem Dn (E C p:Addr) (i:Nat) (ρ:Ev):RM.out (.ex E) C p i ρ=.ex E ρ:=rfl
end L2
section
open L2
set_option compiler.extract_closed false in
local macro_rules | `(tactic| walk_at "run")=>`(tactic| simp -implicitDefEqProofs only [DK,C9,DS,DP,zN,↓AN,↓A2,↓Bh,↓Bp,Fm,Gf,FE,Ex,Gg,EC,B2,Fr,Bz,Fk,Fw,Da,GE,zd,Ao,EZ,Hg,Gm,GC,C7,B6,Hl,Fq,Hi,FF,Dv,FK,FJ,GW,Cf,Et,Fa,DH,EF,Ce,BX,rQ,DV,Bq,A4,D6,En,EY,EO,E4,uD,Ey,EH,GD,Gw,and_self,Fv,Hs,Gz,GM,asl,GY,GB,GL,Em,sv2,yP,GV,GA,Gq,Hc,GI,Gv,Hh,rm,GN,rd0,rd1,rd2,rd3,rd4,rd5,rd6,rd7,rd8,rd9,Hx,Hj,Gk,R.ok_bind,R.ok_out,R.ex_bind,R.ex_out,cA,Fy,E9,Gi,Hv,GF,GJ,Fl,GQ,G9,Hb,FH,E3,EM,Fg,EX,He,List.set_cons_succ,List.length_nil,List.length_cons,List.cons_append,List.nil_append,Nat.reduceAdd,Nat.reduceBEq,Bool.not_true,Bool.not_false,Bool.false_eq_true,if_false,if_true,B9,Fz,EW,Bm,Ba,Au,CA,Bc,Ah,Aw,Fh,Int.reduceLT,Int.reduceLE,Int.reduceBEq,decide_true,decide_false,AW,xY,CO,DL,DN,Ak,xE,Bg,Bx,Gp,Fx,EU,DM,D0,Dn, *])
namespace Q
open L2
open PySem (sizeLine Addr)
noncomputable def F8:D->Bool
 | .int _=>true
 | _=>false
noncomputable def xI:List D->R D
 | [.exc _]=>.no
 | [d]=>.ok (.bl (F8 d))
 | _=>.no
noncomputable def ln:Ev->O:=(cw (oz (aP (iI isInt) (fun ρ=>rdV ρ 0)) (E2 (aP (iI (·=="bool")) (fun ρ=>rdV ρ 0)))))
noncomputable def dX:Ev->O:=(aW ln oNx)
theorem su:∀ ds:List D,ds.length=1->xI ds=.no\/aM (dX  (aL 1 ds))=xI ds:=by
 intro ds hl
 unfold dX ln
 match ds,hl with
 | [d],_=>cases d <;> first | exact Or.inr rfl | exact Or.inl rfl
noncomputable def inB (d:D) (lo hi:Int):Bool:=match d with
 | .int i=>decide (lo<=i) && decide (i<=hi)
 | _=>false
noncomputable def xy:List D->R D
 | [.exc _,_,_]=>.no
 | [d,.int lo,.int hi]=>.ok (.bl (inB d lo hi))
 | _=>.no
noncomputable def jw (cM:List D->R D):Ev->O:=(cw (oz (bh 1 cM (ac (fun ρ=>rdV ρ 0) (fun _=>R.ok []))) (g3 leD leD (fun ρ=>rdV ρ 1) (fun ρ=>rdV ρ 0) (fun ρ=>rdV ρ 2))))
noncomputable def dt (cM:List D->R D):Ev->O:=(aW (jw cM) oNx)
theorem qz:∀ ds:List D,ds.length=3->xy ds=.no\/aM (dt xI (aL 3 ds))=xy ds:=by
 intro ds hl
 unfold dt jw
 match ds,hl with
 | [d,l,h],_=>
  cases d <;> first | exact Or.inl rfl | skip
  all_goals (cases l <;> first | exact Or.inl rfl | skip)
  all_goals (cases h <;> first | exact Or.inl rfl | skip)
  all_goals first | exact Or.inr rfl | skip
  rename_i i lo hi hl
  refine Or.inr ?_
  show aM (aW _ oNx [some (.val (.int i)),some (.val (.int lo)),some (.val (.int hi))])=R.ok (D.bl (inB (.int i) lo hi))
  by_cases h1:lo<=i <;> simp [aW,cw,oz,bh,ac,g3,rdV,xI,F8,asB,leD,inB,aM,O.seq,h1]
noncomputable def plain (x:List Nat):Bool:=x.all fun c=>decide (32<=c) && decide (c<=126)
noncomputable def zO:D->Bool
 | .str x=>plain x
 | _=>false
noncomputable def lQ:List D->R D
 | [.exc _]=>.no
 | [.str x]=>if x.length<=sizeLine then .ok (.bl (plain x)) else .no
 | [d]=>.ok (.bl false)
 | _=>.no
noncomputable def kH:Ev->O:=(cw (oz (aP (iI (·=="str")) (fun ρ=>rdV ρ 0)) (gOf Ar (ac (bA (im (aP dH (fun ρ=>rdV ρ 0)) [] (fun _=>R.ok true) (g3 leD leD (fun _=>R.ok (D.str [32])) (fun ρ=>rdV ρ 0) (fun _=>R.ok (D.str [126]))))) (fun _=>R.ok [])))))
noncomputable def dY:Ev->O:=(aW kH oNx)
theorem sj:∀ ds:List D,ds.length=1->lQ ds=.no\/aM (dY  (aL 1 ds))=lQ ds:=by
 intro ds hl
 unfold dY kH
 match ds,hl with
 | [d],_=>
  cases d <;> first | exact Or.inl rfl | exact Or.inr rfl | skip
  rename_i x hl
  by_cases hx:x.length<=sizeLine
  ·refine Or.inr ?_
   have e:jD (fun _=>R.ok true) (g3 leD leD (fun _=>.ok (.str [32])) (fun ρ=>rdV ρ 0) (fun _=>.ok (.str [126]))) (x.map fun c=>D.str [c]) [none]=.ok ((x.map fun c=>D.str [c]).map fun d=>.bl (match d with | .str [c]=>decide (32<=c) && decide (c<=126) | _=>false)):=by
    refine lh _ [] _ none fun d m=>⟨rfl,?_⟩
    obtain ⟨c,_,rfl⟩:=List.mem_map.1 m
    show (ofO (some (D.bl (!decide (([c]:List Nat) < [32]))))>>=fun z=>match z with
     | .bl true=>ofO (some (D.bl (!decide (([126]:List Nat) < [c]))))
     | .bl false=>R.ok (D.bl false)
     | _=>R.no:R D)=_
    rw [wg,wg,cA,R.ok_bind]
    cases h1:decide (32<=c) <;> simp [h1]
   have e2:lQ [.str x]=.ok (.bl (plain x)):=if_pos hx
   rw [e2]
   show aM (aW _ oNx [some (.val (.str x))])=_
   simp only [aW,cw,oz,aP,gOf,ac,bA,im,rd0,iI,tyN,asB,lF,dH,R.ok_bind,List.map_nil]
   simp only [beq_self_eq_true,if_true,e,R.ok_bind]
   simp only [List.length_map,hx,if_true,R.ok_bind,nu,cA,R.ok_out,aM,O.seq,List.all_map,plain]
   rfl
  ·exact Or.inl (if_neg hx)
noncomputable def BK:D->Bool
 | .exc _=>false
 | .str x=>decide (x.length<=sizeLine)
 | _=>true
noncomputable def BS (d:D) (wd:Int):Bool:=match d with
 | .str x=>plain x && ((x.length:Int)==wd)
 | _=>false
noncomputable def zy (d:D) (wd:Int):Bool:=match d with
 | .tup xs=>decide (1<=xs.length) && decide (xs.length<=12) && xs.all fun r=>BS r wd
 | _=>false
noncomputable def xc:List D->R D
 | [.exc _,_]=>.no
 | [.tup xs,.int wd]=>if xs.all BK=true then .ok (.bl (zy (.tup xs) wd)) else .no
 | [d,.int wd]=>.ok (.bl false)
 | _=>.no
theorem uY (h:BK d=true):lQ [d]=.ok (.bl (zO d)):=by
 cases d <;> first | rfl | (cases h; done) | skip
 exact if_pos (of_decide_eq_true h)
noncomputable def fj (aX:List D->R D):Ev->O:=(oIf (oB (gBn (aP kf (aP (iI (·=="tuple")) (fun ρ=>rdV ρ 0)))) (gBn (gB3 leD leD (fun _=>R.ok (D.int 1)) (gOf gm (ac (fun ρ=>rdV ρ 0) (fun _=>R.ok []))) (fun _=>R.ok (D.int 12))))) (aW (cw (fun _=>R.ok (D.bl false))) oNx) oNx)
noncomputable def fm (aX:List D->R D):Ev->O:=(cw (gOf Ar (ac (bA (im (aP dH (fun ρ=>rdV ρ 0)) [1] (fun _=>R.ok true) (oz (bh 1 aX (ac (fun ρ=>rdV ρ 0) (fun _=>R.ok []))) (g2 eqF (gOf gm (ac (fun ρ=>rdV ρ 0) (fun _=>R.ok []))) (fun ρ=>rdV ρ 1))))) (fun _=>R.ok []))))
noncomputable def bV (aX:List D->R D):Ev->O:=(aW (fj aX) (aW (fm aX) oNx))
theorem jB:∀ ds:List D,ds.length=2->xc ds=.no\/aM (bV lQ (aL 2 ds))=xc ds:=by
 intro ds hl
 unfold bV fj fm
 match ds,hl with
 | [d,l],_=>
  cases d <;> first | exact Or.inl rfl | skip
  all_goals (cases l <;> first | exact Or.inl rfl | exact Or.inr rfl | skip)
  rename_i xs wd hl
  by_cases hf:xs.all BK=true
  ·refine Or.inr ?_
   have e2:xc [.tup xs,.int wd]=.ok (.bl (zy (.tup xs) wd)):=if_pos hf
   rw [e2]
   have e:jD (fun _=>R.ok true) (oz (bh 1 lQ (ac (fun ρ=>rdV ρ 0) fun x=>R.ok [])) (g2 eqF (gOf gm (ac (fun ρ=>rdV ρ 0) fun x=>R.ok [])) fun ρ=>rdV ρ 1)) xs [none,some (.val (.int wd))]=.ok (xs.map fun d=>.bl (BS d wd)):=by
    refine lh _ [some (.val (.int wd))] xs none fun d m=>⟨rfl,?_⟩
    have hd:=List.all_eq_true.1 hf d m
    simp only [oz,bh,ac,rd0,R.ok_bind,List.length_singleton,if_true,uY hd,asB]
    cases d <;> first | rfl | skip
    rename_i x
    show (if plain x=true then R.ok (D.bl ((x.length:Int)==wd)) else R.ok (.bl false))=R.ok (.bl (plain x && ((x.length:Int)==wd)))
    cases plain x <;> rfl
   show aM (aW _ _ [some (.val (.tup xs)),some (.val (.int wd))])=_
   have i2:lF [1] [some (.val (.tup xs)),some (.val (.int wd))]=[none,some (.val (.int wd))]:=rfl
   have t1:iI (fun x=>x=="tuple") (.tup xs)=.ok (.bl true):=rfl
   have t2:kf (.bl true)=.ok true:=rfl
   have t3:gm [.tup xs]=some (.int xs.length):=rfl
   simp only [aW,oIf,oB,gBn,aP,gB3,g3,cw,gOf,ac,bA,im,rd0,R.ok_bind,R.ok_out,dH,i2,e,t1,t2,t3,cA,leD,Bool.not_true,Bool.false_eq_true,if_false]
   by_cases h1:1<=xs.length
   ·have h1':(1:Int)<=(xs.length:Int):=by omega
    by_cases h2:xs.length<=12
    ·have h2':(xs.length:Int)<=12:=by omega
     have h3:xs.length<=sizeLine:=Nat.le_trans h2 (by decide)
     simp [h1,h1',h2,h2',h3,asB,oNx,O.seq,nu,aM,zy]
     simp only [aW,cw,gOf,ac,bA,im,aP,rd0,R.ok_bind,dH,i2,e,List.length_map,h3,if_true,nu,cA,R.ok_out,O.seq]
    ·have h2' : ¬ (xs.length:Int)<=12:=by omega
     simp [h1,h1',h2,h2',asB,oNx,O.seq,aM,zy]
   ·have h1' : ¬ (1:Int)<=(xs.length:Int):=by omega
    simp [h1,h1',asB,oNx,O.seq,aM,zy]
  ·exact Or.inl (if_neg hf)
noncomputable def vR (d:D) (wd m:Int):Bool:=match d with
 | .tup [a,b]=>inB a 0 (m - 1) && inB b 0 wd
 | _=>false
noncomputable def jC:D->Bool
 | .exc _=>false
 | _=>true
noncomputable def my:List D->R D
 | [.exc _,_,_]=>.no
 | [.tup xs,.int wd,.int m]=>if xs.all jC=true then .ok (.bl (vR (.tup xs) wd m)) else .no
 | [d,.int wd,.int m]=>.ok (.bl false)
 | _=>.no
theorem eM {lo hi:Int} (h:jC d=true):xy [d,.int lo,.int hi]=.ok (.bl (inB d lo hi)):=by
 cases d <;> first | rfl | (cases h; done)
noncomputable def kO (aG:List D->R D):Ev->O:=(oIf (oB (gBn (aP kf (aP (iI (·=="tuple")) (fun ρ=>rdV ρ 0)))) (gB2 neF (gOf gm (ac (fun ρ=>rdV ρ 0) (fun _=>R.ok []))) (fun _=>R.ok (D.int 2)))) (aW (cw (fun _=>R.ok (D.bl false))) oNx) oNx)
noncomputable def lr (aG:List D->R D):Ev->O:=(cw (oz (bh 3 aG (ac (g2 ixD (fun ρ=>rdV ρ 0) (fun _=>R.ok (D.int 0))) (ac (fun _=>R.ok (D.int 0)) (ac (g2 zA (fun ρ=>rdV ρ 2) (fun _=>R.ok (D.int 1))) (fun _=>R.ok []))))) (bh 3 aG (ac (g2 ixD (fun ρ=>rdV ρ 0) (fun _=>R.ok (D.int 1))) (ac (fun _=>R.ok (D.int 0)) (ac (fun ρ=>rdV ρ 1) (fun _=>R.ok [])))))))
noncomputable def dM (aG:List D->R D):Ev->O:=(aW (kO aG) (aW (lr aG) oNx))
theorem rV:∀ ds:List D,ds.length=3->my ds=.no\/aM (dM xy (aL 3 ds))=my ds:=by
 intro ds hl
 unfold dM kO lr
 match ds,hl with
 | [d,l,h],_=>
  cases d <;> first | exact Or.inl rfl | skip
  all_goals (cases l <;> first | exact Or.inl rfl | skip)
  all_goals (cases h <;> first | exact Or.inl rfl | exact Or.inr rfl | skip)
  rename_i xs wd m hl
  by_cases hf:xs.all jC=true
  ·refine Or.inr ?_
   have e2:my [.tup xs,.int wd,.int m]=.ok (.bl (vR (.tup xs) wd m)):=if_pos hf
   rw [e2]
   match xs,hf with
   | [],_=>rfl
   | [_],_=>rfl
   | [a,b],hf=>
    have ha:jC a=true:=List.all_eq_true.1 hf a (by simp)
    have hb:jC b=true:=List.all_eq_true.1 hf b (by simp)
    show aM ((oz (fun _=>xy [a,.int 0,.int (m - 1)]) (fun _=>xy [b,.int 0,.int wd]) []).out _ .rt |>.seq oNx)=_
    rw [oz,eM ha,eM hb]
    show aM ((if inB a 0 (m - 1)=true then R.ok (D.bl (inB b 0 wd)) else R.ok (D.bl false)).out _ .rt |>.seq oNx)=R.ok (D.bl (inB a 0 (m - 1) && inB b 0 wd))
    cases inB a 0 (m - 1) <;> rfl
   | a::b::c::l,_=>
    show aM (aW _ _ [some (.val (.tup (a::b::c::l))),some (.val (.int wd)),some (.val (.int m))])=_
    have t1:iI (fun x=>x=="tuple") (.tup (a::b::c::l))=.ok (.bl true):=rfl
    have t2:kf (.bl true)=.ok true:=rfl
    have t3:gm [.tup (a::b::c::l)]=some (.int (a::b::c::l).length):=rfl
    have t4:neF (.int (a::b::c::l).length) (.int 2)=some (.bl true):=by
     have:(((a::b::c::l).length:Int)==2)=false:=by simp; omega
     show some (D.bl (!(((a::b::c::l).length:Int)==2)))=_
     rw [this]; rfl
    simp only [aW,oIf,oB,gBn,aP,gB2,g2,cw,gOf,ac,rd0,R.ok_bind,R.ok_out,t1,t2,t3,t4,cA,Bool.not_true,Bool.false_eq_true,if_false]
    rfl
  ·exact Or.inl (if_neg hf)
noncomputable def sS:D->Bool
 | .exc _=>false
 | .tup [w,r,p]=>jC w && (match r with | .exc _=>false | .tup xs=>xs.all BK | _=>true) && (match p with | .exc _=>false | .tup xs=>xs.all jC | _=>true)
 | _=>true
noncomputable def cV:D->Bool
 | .tup [a,r,p]=>match a with
  | .int wd=>inB (.int wd) 1 40 && zy r wd && (match r with | .tup rows=>vR p wd rows.length | _=>false)
  | _=>false
 | _=>false
noncomputable def kW:List D->R D
 | [d]=>if sS d=true then .ok (.bl (cV d)) else .no
 | _=>.no
noncomputable def jj (aG ba bC:List D->R D):Ev->O:=(oIf (oB (gBn (aP kf (aP (iI (·=="tuple")) (fun ρ=>rdV ρ 0)))) (gB2 neF (gOf gm (ac (fun ρ=>rdV ρ 0) (fun _=>R.ok []))) (fun _=>R.ok (D.int 3)))) (aW (cw (fun _=>R.ok (D.bl false))) oNx) oNx)
noncomputable def jk (aG ba bC:List D->R D):Ev->O:=(iH 1 (g2 ixD (fun ρ=>rdV ρ 0) (fun _=>R.ok (D.int 0))))
noncomputable def ja (aG ba bC:List D->R D):Ev->O:=(oIf (oB (gBn (aP kf (bh 3 aG (ac (fun ρ=>rdV ρ 1) (ac (fun _=>R.ok (D.int 1)) (ac (fun _=>R.ok (D.int 40)) (fun _=>R.ok []))))))) (gBn (aP kf (bh 2 ba (ac (g2 ixD (fun ρ=>rdV ρ 0) (fun _=>R.ok (D.int 1))) (ac (fun ρ=>rdV ρ 1) (fun _=>R.ok []))))))) (aW (cw (fun _=>R.ok (D.bl false))) oNx) oNx)
noncomputable def jg (aG ba bC:List D->R D):Ev->O:=(cw (bh 3 bC (ac (g2 ixD (fun ρ=>rdV ρ 0) (fun _=>R.ok (D.int 2))) (ac (fun ρ=>rdV ρ 1) (ac (gOf gm (ac (g2 ixD (fun ρ=>rdV ρ 0) (fun _=>R.ok (D.int 1))) (fun _=>R.ok []))) (fun _=>R.ok []))))))
noncomputable def dq (aG ba bC:List D->R D):Ev->O:=(aW (jj aG ba bC) (aW (jk aG ba bC) (aW (ja aG ba bC) (aW (jg aG ba bC) oNx))))
theorem qj:∀ ds:List D,ds.length=1->kW ds=.no\/aM (dq xy xc my (aL 2 ds))=kW ds:=by
 intro ds hl
 unfold dq jj jk ja jg
 match ds,hl with
 | [d],_=>
  cases d <;> first | exact Or.inl rfl | exact Or.inr rfl | skip
  rename_i xs hl
  match xs with
  | []=>exact Or.inr rfl
  | [_]=>exact Or.inr rfl
  | [_,_]=>exact Or.inr rfl
  | a::b::c::e::l=>
   refine Or.inr ?_
   show aM (aW _ _ [some (.val (.tup (a::b::c::e::l))),none])=_
   have t1:iI (fun x=>x=="tuple") (.tup (a::b::c::e::l))=.ok (.bl true):=rfl
   have t2:kf (.bl true)=.ok true:=rfl
   have t3:gm [.tup (a::b::c::e::l)]=some (.int (a::b::c::e::l).length):=rfl
   have t4:neF (.int (a::b::c::e::l).length) (.int 3)=some (.bl true):=by
    have:(((a::b::c::e::l).length:Int)==3)=false:=by simp; omega
    show some (D.bl (!(((a::b::c::e::l).length:Int)==3)))=_
    rw [this]; rfl
   simp only [aW,oIf,oB,gBn,aP,gB2,g2,cw,gOf,ac,rd0,R.ok_bind,R.ok_out,t1,t2,t3,t4,cA,Bool.not_true,Bool.false_eq_true,if_false]
   rfl
  | [a,r,p]=>
   by_cases hf:sS (.tup [a,r,p])=true
   ·refine Or.inr ?_
    have e2:kW [.tup [a,r,p]]=.ok (.bl (cV (.tup [a,r,p]))):=if_pos hf
    rw [e2]
    simp only [sS,Bool.and_eq_true] at hf
    obtain ⟨⟨ha,hr⟩,hp⟩:=hf
    show aM (aW _ _ [some (.val (.tup [a,r,p])),none])=_
    have t1:iI (fun x=>x=="tuple") (.tup [a,r,p])=.ok (.bl true):=rfl
    have t2:∀ k,kf (.bl k)=.ok k:=fun _=>rfl
    have t3:gm [.tup [a,r,p]]=some (.int 3):=rfl
    have t4:neF (.int 3) (.int 3)=some (.bl false):=rfl
    have x0:ixD (.tup [a,r,p]) (.int 0)=some a:=rfl
    have x1:ixD (.tup [a,r,p]) (.int 1)=some r:=rfl
    have x2:ixD (.tup [a,r,p]) (.int 2)=some p:=rfl
    have s1:([some (.val (.tup [a,r,p])),none]:Ev).set 1 (some (.val a))=[some (.val (.tup [a,r,p])),some (.val a)]:=rfl
    simp only [aW,oIf,iH,oB,gBn,aP,gB2,g2,cw,gOf,ac,rd0,rd1,R.ok_bind,R.ok_out,t1,t2,t3,t4,x0,x1,x2,s1,xg,zf,cA,asB,oNx,O.seq,Bool.not_true,Bool.false_eq_true,if_false,eM ha]
    cases hi:inB a 1 40 with
    | false=>
     have:cV (.tup [a,r,p])=false:=by
      cases a <;> first | rfl | skip
      simp only [cV,hi,Bool.false_and]
     rw [this]; rfl
    | true=>
     cases a <;> first | (cases hi; done) | skip
     rename_i i
     have e3:xc [r,.int i]=.ok (.bl (zy r i)):=by
      cases r <;> first | rfl | (cases hr; done) | exact if_pos hr
     cases hq:zy r i with
     | false=>
      have:cV (.tup [.int i,r,p])=false:=by simp only [cV,hi,hq,Bool.and_false,Bool.false_and]
      rw [e3,hq,this]; rfl
     | true=>
      cases r <;> first | (cases hq; done) | skip
      rename_i rows
      have e4:my [p,.int i,.int rows.length]=.ok (.bl (vR p i rows.length)):=by
       cases p <;> first | rfl | (cases hp; done) | exact if_pos hp
      have e5:cV (.tup [.int i,.tup rows,p])=vR p i rows.length:=by simp only [cV,hi,hq,Bool.and_true,Bool.true_and]
      rw [e3,hq,e5]
      show aM ((my [p,.int i,.int rows.length]).out _ .rt |>.seq _)=_
      rw [e4]; rfl
   ·exact Or.inl (if_neg hf)
noncomputable def iR:List D->Option (List Int)
 | []=>some []
 | .int i::ds=>(iR ds).map (i::·)
 | _=>none
theorem jM:∀ {ds:List D} {ns:List Int},iR ds=some ns->ds=ns.map .int
 | [],ns,h=>by cases h; rfl
 | d::ds,ns,h=>by
  cases d <;> first | (cases h; done) | skip
  rename_i i
  cases q:iR ds with
  | none=>simp [iR,q] at h
  | some ms=>simp [iR,q] at h; subst h; rw [jM q]; rfl
theorem iA:∀ ns:List Int,iR (ns.map .int)=some ns
 | []=>rfl
 | i::ns=>by simp [iR,iA ns]
noncomputable def cell (ns:List Int) (k:Nat):Int:=if k < ns.length then ns.getD k 0 else if ns.length=0 then 0 else ns.getD (k % ns.length) 0 * 31+k
noncomputable def nS:List D->R D
 | [.lst _ ds,.int k]=>match iR ds with
  | some ns=>if 0<=k then .ok (.int (cell ns k.toNat)) else .no
  | none=>.no
 | _=>.no
theorem uk {ns:List Int} (h:k < ns.length):atI (ns.map D.int) (k:Int)=some (.int (ns.getD k 0)):=by
 have e:ixN (ns.map D.int).length (k:Int)=some k:=by
  rw [List.length_map]
  simp [ixN]
  try omega
 rw [atI,e]
 simp [List.getD,h]
noncomputable def kD:Ev->O:=(oIf (gB2 ltD (fun ρ=>rdV ρ 1) (gOf gm (ac (fun ρ=>rdV ρ 0) (fun _=>R.ok [])))) (aW (cw (g2 ixD (fun ρ=>rdV ρ 0) (fun ρ=>rdV ρ 1))) oNx) oNx)
noncomputable def kI:Ev->O:=(oIf (gB2 eqF (fun ρ=>rdV ρ 0) (bA (gS (fun _=>R.ok [])))) (aW (cw (fun _=>R.ok (D.int 0))) oNx) oNx)
noncomputable def ka:Ev->O:=(cw (g2 eE (g2 lB (g2 ixD (fun ρ=>rdV ρ 0) (g2 qk (fun ρ=>rdV ρ 1) (gOf gm (ac (fun ρ=>rdV ρ 0) (fun _=>R.ok []))))) (fun _=>R.ok (D.int 31))) (fun ρ=>rdV ρ 1)))
noncomputable def dZ:Ev->O:=(aW kD (aW kI (aW ka oNx)))
theorem sI:∀ ds:List D,ds.length=2->nS ds=.no\/aM (dZ  (aL 2 ds))=nS ds:=by
 intro ds hl
 unfold dZ kD kI ka
 match ds,hl with
 | [l,kd],_=>
  cases l <;> first | exact Or.inl rfl | skip
  cases kd <;> first | exact Or.inl rfl | skip
  rename_i fz ds k hl
  cases hi:iR ds with
  | none=>refine Or.inl ?_; simp only [nS,hi]
  | some ns=>
   have e:=jM hi
   subst e
   by_cases hk:0<=k
   ·refine Or.inr ?_
    have e2:nS [.lst fz (ns.map .int),.int k]=.ok (.int (cell ns k.toNat)):=by simp only [nS,hi,hk,if_true]
    rw [e2]
    obtain ⟨n,rfl⟩:=Int.eq_ofNat_of_zero_le hk
    rw [Int.toNat_natCast]
    show aM (aW _ _ [some (.val (.lst fz (ns.map .int))),some (.val (.int n))])=_
    have t3:gm [.lst fz (ns.map .int)]=some (.int ns.length):=by simp [gm]
    by_cases h1:n < ns.length
    ·have h1':(n:Int) < (ns.length:Int):=by omega
     have x1:ixD (.lst fz (ns.map .int)) (.int n)=some (.int (ns.getD n 0)):=uk h1
     simp only [aW,oIf,gB2,g2,cw,gOf,ac,rd0,rd1,R.ok_bind,R.ok_out,t3,x1,cA,ltD,asB,h1',decide_true,if_true,O.seq,aM,cell,h1]
    ·have h1' : ¬ (n:Int) < (ns.length:Int):=by omega
     cases ns with
     | nil=>rfl
     | cons a as=>
      have t4:eqF (.lst fz ((a::as).map .int)) (.lst false [])=some (.bl false):=rfl
      have h2:n % (a::as).length < (a::as).length:=Nat.mod_lt _ (by simp)
      have x1:ixD (.lst fz ((a::as).map .int)) (.int ((n % (a::as).length:Nat):Int))=some (.int ((a::as).getD (n % (a::as).length) 0)):=uk h2
      have m1:qk (.int n) (.int (a::as).length)=some (.int ((n % (a::as).length:Nat):Int)):=by
       have:(0:Int) < ((a::as).length:Int):=by simp
       simp only [qk,this,if_true]; rw [Int.natCast_emod]
      have m2:∀ z:Int,lB (.int z) (.int 31)=some (.int (z * 31)):=fun z=>if_pos (Or.inr (by decide))
      have z1:(0:Nat)<=sizeLine:=Nat.zero_le _
      have z2 : ¬ (a::as).length=0:=by simp
      simp only [aW,oIf,gB2,g2,cw,gOf,ac,bA,gS,rd0,rd1,R.ok_bind,R.ok_out,t3,t4,x1,m1,m2,cA,ltD,eE,asB,h1',decide_false,Bool.false_eq_true,if_false,O.seq,oNx,aM,cell,h1,List.length_nil,z1,if_true,z2]
   ·refine Or.inl ?_; simp only [nS,hi,hk,if_false]
noncomputable def drawn (ns:List Int) (k:Nat):Int:=(cell ns k+6151 * ((k:Int)+1)) * 40692 % 2147483399
noncomputable def nJ (ns:List Int) (k:Nat) (m:Int):Int:=(drawn ns k * drawn ns k+drawn ns k / 31) % 2147483629 % m
theorem uo (ns:List Int) (k:Nat) {m:Int} (h:0 < m):0<=nJ ns k m/\nJ ns k m < m:=⟨Int.emod_nonneg _ (by omega),Int.emod_lt_of_pos _ h⟩
noncomputable def cT:List D->R D
 | [.lst _ ds,.int k,.int m]=>match iR ds with
  | some ns=>if 0<=k/\0 < m then .ok (.int (nJ ns k.toNat m)) else .no
  | none=>.no
 | _=>.no
theorem xl {fz:Bool} {ns:List Int}:nS [.lst fz (ns.map .int),.int n]=.ok (.int (cell ns n)):=by
 simp only [nS,iA,Int.natCast_nonneg,if_true,Int.toNat_natCast]
noncomputable def kv (bP:List D->R D):Ev->O:=(iH 3 (g2 qk (g2 lB (g2 eE (bh 2 bP (ac (fun ρ=>rdV ρ 0) (ac (fun ρ=>rdV ρ 1) (fun _=>R.ok [])))) (g2 lB (fun _=>R.ok (D.int 6151)) (g2 eE (fun ρ=>rdV ρ 1) (fun _=>R.ok (D.int 1))))) (fun _=>R.ok (D.int 40692))) (fun _=>R.ok (D.int 2147483399))))
noncomputable def kj (bP:List D->R D):Ev->O:=(cw (g2 qk (g2 qk (g2 eE (g2 lB (fun ρ=>rdV ρ 3) (fun ρ=>rdV ρ 3)) (g2 yZ (fun ρ=>rdV ρ 3) (fun _=>R.ok (D.int 31)))) (fun _=>R.ok (D.int 2147483629))) (fun ρ=>rdV ρ 2)))
noncomputable def ee (bP:List D->R D):Ev->O:=(aW (kv bP) (aW (kj bP) oNx))
theorem sM:∀ ds:List D,ds.length=3->cT ds=.no\/aM (ee nS (aL 4 ds))=cT ds:=by
 intro ds hl
 unfold ee kv kj
 match ds,hl with
 | [l,kd,md],_=>
  cases l <;> first | exact Or.inl rfl | skip
  cases kd <;> first | exact Or.inl rfl | skip
  cases md <;> first | exact Or.inl rfl | skip
  rename_i fz ds k m hl
  cases hi:iR ds with
  | none=>refine Or.inl ?_; simp only [cT,hi]
  | some ns=>
   have e:=jM hi
   subst e
   by_cases hk:0<=k/\0 < m
   ·refine Or.inr ?_
    have e2:cT [.lst fz (ns.map .int),.int k,.int m]=.ok (.int (nJ ns k.toNat m)):=by simp only [cT,hi,hk,and_self,if_true]
    rw [e2]
    obtain ⟨hk,hm⟩:=hk
    obtain ⟨n,rfl⟩:=Int.eq_ofNat_of_zero_le hk
    rw [Int.toNat_natCast]
    show aM (aW _ _ [some (.val (.lst fz (ns.map .int))),some (.val (.int n)),some (.val (.int m)),none])=_
    have m1:∀ z:Int,lB (.int 6151) (.int z)=some (.int (6151 * z)):=fun z=>by show (if ((-(2 ^ 64):Int) < 6151/\(6151:Int) < 2 ^ 64)\/((-(2 ^ 64):Int) < z/\z < 2 ^ 64) then some (D.int (6151 * z)) else none)=_; exact if_pos (Or.inl (by decide))
    have m2:∀ z:Int,lB (.int z) (.int 40692)=some (.int (z * 40692)):=fun z=>if_pos (Or.inr (by decide))
    have m3:∀ z:Int,qk (.int z) (.int 2147483399)=some (.int (z % 2147483399)):=fun z=>by show (if (0:Int) < 2147483399 then some (D.int (z % 2147483399)) else none)=_; exact if_pos (by decide)
    have m4:∀ z:Int,qk (.int z) (.int 2147483629)=some (.int (z % 2147483629)):=fun z=>by show (if (0:Int) < 2147483629 then some (D.int (z % 2147483629)) else none)=_; exact if_pos (by decide)
    have m5:∀ z:Int,qk (.int z) (.int m)=some (.int (z % m)):=fun z=>if_pos hm
    have m6:∀ z:Int,yZ (.int z) (.int 31)=some (.int (z / 31)):=fun z=>by show (if (0:Int) < 31/\(31:Int) < 1073741824 then some (D.int (z / 31)) else none)=_; exact if_pos (by decide)
    have m7:∀ i j:Int,eE (.int i) (.int j)=some (.int (i+j)):=fun _ _=>rfl
    have hd:0<=drawn ns n/\drawn ns n < 2147483399:=⟨Int.emod_nonneg _ (by decide),Int.emod_lt_of_pos _ (by decide)⟩
    have m8:lB (.int (drawn ns n)) (.int (drawn ns n))=some (.int (drawn ns n * drawn ns n)):=if_pos (Or.inl (by omega))
    have s1:∀ v,([some (.val (.lst fz (ns.map .int))),some (.val (.int n)),some (.val (.int m)),none]:Ev).set 3 v=[some (.val (.lst fz (ns.map .int))),some (.val (.int n)),some (.val (.int m)),v]:=fun _=>rfl
    have q1:(cell ns n+6151 * ((n:Int)+1)) * 40692 % 2147483399=drawn ns n:=rfl
    simp only [aW,iH,cw,g2,xg,rd0,rd1,rd2,rd3,R.ok_bind,R.ok_out,xl,m1,m2,m3,m4,m5,m6,m7,cA,O.seq,s1,q1,m8,aM,nJ]
   ·refine Or.inl ?_; simp only [cT,hi,hk,if_false]
noncomputable def dP (C:Addr):List D->R D
 | [d]=>if sS d=true then (if cV d=true then .ok .non else .ex C) else .no
 | _=>.no
noncomputable def fQ (ce:List D->R D) (ad:Addr):Ev->O:=(oIf (gBn (aP kf (bh 1 ce (ac (fun ρ=>rdV ρ 0) (fun _=>R.ok []))))) (aW (fk ad (ac (fun _=>R.ok (D.str [116,104,105,115,32,105,115,32,110,111,32,115,99,114,101,101,110])) (fun _=>R.ok []))) oNx) oNx)
noncomputable def cb (ce:List D->R D) (ad:Addr):Ev->O:=(aW (fQ ce ad) oNx)
theorem kh:∀ ds:List D,ds.length=1->dP C ds=.no\/aM (cb kW C (aL 1 ds))=dP C ds:=by
 intro ds hl
 unfold cb fQ
 match ds,hl with
 | [d],_=>
  by_cases hf:sS d=true
  ·refine Or.inr ?_
   have e1:kW [d]=.ok (.bl (cV d)):=if_pos hf
   have e2:dP C [d]=if cV d=true then .ok .non else .ex C:=if_pos hf
   rw [e2]
   show aM (aW _ _ [some (.val d)])=_
   have t2:∀ k,kf (.bl k)=.ok k:=fun _=>rfl
   simp only [aW,oIf,fk,gBn,aP,zl,rd0,R.ok_bind,R.ok_out,e1,t2]
   cases cV d <;> rfl
  ·exact Or.inl (if_neg hf)
theorem iE {fz:Bool} {ns:List Int} {m:Int} (h:0 < m):cT [.lst fz (ns.map .int),.int n,.int m]=.ok (.int (nJ ns n m)):=by
 simp only [cT,iA,Int.natCast_nonneg,h,and_self,if_true,Int.toNat_natCast]
noncomputable def cl:Nat->D->Bool
 | 0,_=>false
 | _+1,.exc _=>false
 | n+1,.tup xs=>xs.all (cl n)
 | n+1,.lst _ xs=>xs.all (cl n)
 | _+1,_=>true
end Q
namespace Q
open L2
open PySem (sizeLine Addr)
noncomputable def fT:Ev->O:=(oIf (gB3 leD ltD (fun _=>R.ok (D.int 0)) (fun ρ=>rdV ρ 1) (gOf gm (ac (g2 ixD (fun ρ=>rdV ρ 0) (fun _=>R.ok (D.int 1))) (fun _=>R.ok [])))) (aW (cw (g2 ixD (g2 ixD (fun ρ=>rdV ρ 0) (fun _=>R.ok (D.int 1))) (fun ρ=>rdV ρ 1))) oNx) oNx)
noncomputable def fE:Ev->O:=(cw (g2 lB (fun _=>R.ok (D.str [32])) (g2 ixD (fun ρ=>rdV ρ 0) (fun _=>R.ok (D.int 0)))))
noncomputable def df:Ev->O:=(aW fT (aW fE oNx))
noncomputable def rA (ai aG bc:List D->R D) (ah:Addr):Ev->O:=(kP (bh 1 ai (ac (fun ρ=>rdV ρ 0) (fun _=>R.ok []))))
noncomputable def sy (ai aG bc:List D->R D) (ah:Addr):Ev->O:=(oIf (gBn (aP kf (bh 3 aG (ac (fun ρ=>rdV ρ 1) (ac (aP yw (fun _=>R.ok (D.int 12))) (ac (fun _=>R.ok (D.int 12)) (fun _=>R.ok []))))))) (aW (fk ah (ac (fun _=>R.ok (D.str [97,32,115,99,114,101,101,110,32,105,115,32,115,99,114,111,108,108,101,100,32,98,121,32,45,49,50,32,116,111,32,49,50,32,114,111,119,115])) (fun _=>R.ok []))) oNx) oNx)
noncomputable def sF (ai aG bc:List D->R D) (ah:Addr):Ev->O:=(xA 2 (im (aP fg (ac (gOf gm (ac (g2 ixD (fun ρ=>rdV ρ 0) (fun _=>R.ok (D.int 1))) (fun _=>R.ok []))) (fun _=>R.ok []))) [0,1] (fun _=>R.ok true) (bh 2 bc (ac (fun ρ=>rdV ρ 1) (ac (g2 eE (fun ρ=>rdV ρ 0) (fun ρ=>rdV ρ 2)) (fun _=>R.ok []))))))
noncomputable def qW (ai aG bc:List D->R D) (ah:Addr):Ev->O:=(cw (aP mkT (ac (g2 ixD (fun ρ=>rdV ρ 0) (fun _=>R.ok (D.int 0))) (ac (gOf pK (ac (fun ρ=>rdV ρ 2) (fun _=>R.ok []))) (ac (g2 ixD (fun ρ=>rdV ρ 0) (fun _=>R.ok (D.int 2))) (fun _=>R.ok []))))))
noncomputable def dS (ai aG bc:List D->R D) (ah:Addr):Ev->O:=(aW (rA ai aG bc ah) (aW (sy ai aG bc ah) (aW (sF ai aG bc ah) (BJ 2 (aW (qW ai aG bc ah) oNx)))))
theorem Hd (a b c:D):ixD (.tup [a,b,c]) (.int 0)=some a:=rfl
theorem F9 (a b c:D):ixD (.tup [a,b,c]) (.int 1)=some b:=rfl
noncomputable def xf (b m r:Int):Bool:=decide (0<=b) && decide (b<=r - 1) && (decide (1<=m) && decide (m<=r - b))
theorem Gd {P:Prop} (h:∀ wd rows p,d=.tup [.int wd,.tup rows,p]->P) (h2:(∀ wd rows p,d ≠ .tup [.int wd,.tup rows,p])->P):P:=by
 by_cases e:∃ wd rows p,d=.tup [.int wd,.tup rows,p]
 ·obtain ⟨wd,rows,p,e⟩:=e; exact h wd rows p e
 ·exact h2 fun wd rows p q=>e ⟨wd,rows,p,q⟩
noncomputable def CG (l w:Nat):D->D
 | .str x=>.str ((x.drop l).take w)
 | d=>d
noncomputable def EG:List D->R D
 | [.tup [.int wd,.tup rows,p],.int t,.int l,.int h,.int w]=>if cV (.tup [.int wd,.tup rows,p])=true/\xf t h rows.length=true/\xf l w wd=true then .ok (.tup [.int w,.tup (((rows.drop t.toNat).take h.toNat).map (CG l.toNat w.toNat)),.tup [.int 0,.int 0]]) else .no
 | _=>.no
noncomputable def vU (rows:List D) (wd:Nat) (n:Int):D:=if 0<=n/\n < rows.length then rows.getD n.toNat .non else .str (List.replicate wd 32)
noncomputable def BI:List D->R D
 | [.tup [.int wd,.tup rows,_],.int n]=>if 0<=wd/\wd<=100 then .ok (vU rows wd.toNat n) else .no
 | _=>.no
theorem kC:∀ ds:List D,ds.length=2->BI ds=.no\/aM (df (aL 2 ds))=BI ds:=by
 intro ds hl
 match ds,hl with
 | [d,n],_=>
  refine Gd (d:=d) (fun wd rows p e=>?_) fun e=>Or.inl ?_
  ·subst e
   cases n <;> first | exact Or.inl rfl | skip
   rename_i n hl
   by_cases hc:0<=wd/\wd<=100
   ·refine Or.inr ?_
    have e2:BI [.tup [.int wd,.tup rows,p],.int n]=.ok (vU rows wd.toNat n):=if_pos hc
    rw [e2]
    obtain ⟨wd,rfl⟩:=Int.eq_ofNat_of_zero_le hc.1
    rw [Int.toNat_natCast]
    show aM (aW _ _ [some (.val (.tup [.int wd,.tup rows,p])),some (.val (.int n))])=_
    unfold fT fE vU
    have x0:=Hd (.int wd) (.tup rows) p
    have x1:=F9 (.int wd) (.tup rows) p
    have m1:lB (.str [32]) (.int (wd:Int))=some (.str (List.replicate wd 32)):=FA (by omega)
    clear hl e2 hc
    by_cases h1:0<=n
    ·by_cases h2:n < rows.length
     ·obtain ⟨k,rfl⟩:=Int.eq_ofNat_of_zero_le h1
      have q1:decide ((0:Int)<=(k:Int))=true:=by simp
      have q2:decide ((k:Int) < (rows.length:Int))=true:=by simp; omega
      have x2:ixD (.tup rows) (.int (k:Int))=some (rows.getD k .non):=As (by rw [List.getD_eq_getElem?_getD,List.getElem?_eq_getElem (by omega)]; rfl)
      rw [if_pos ⟨h1,h2⟩,Int.toNat_natCast]
      clear h1 h2
      walk_at "run"
     ·have q1:decide ((0:Int)<=n)=true:=by simp [h1]
      have q2:decide (n < (rows.length:Int))=false:=by simp; omega
      rw [if_neg (by omega)]
      clear h1 h2
      walk_at "run"
    ·have q1:decide ((0:Int)<=n)=false:=by simp; omega
     rw [if_neg (by omega)]
     clear h1
     walk_at "run"
   ·exact Or.inl (if_neg hc)
  ·unfold BI
   split
   ·rename_i q; cases q; exact absurd rfl (e _ _ _)
   ·rfl
noncomputable def pl (ns:List Int) (a:Nat) (wd m:Nat):D:=.tup [.int (nJ ns (a+400) m),.int (nJ ns (a+401) (wd+1))]
end Q
namespace Q
open L2
open PySem (sizeLine Addr)
noncomputable def cS (ag ah:Addr) (ao am:Addr) (aN aJ:Addr) (ad aO:Addr) (rs:List Addr):Ev->O:=(xA 1 (gS (ac (aP (gT (nB rs ao)) (fun ρ=>rdV ρ 0)) (ac (aP (gT (nB rs ah)) (fun ρ=>rdV ρ 0)) (ac (aP (gT (nB rs ag)) (fun ρ=>rdV ρ 0)) (fun _=>R.ok []))))))
noncomputable def da (ag ah:Addr) (ao am:Addr) (aN aJ:Addr) (ad aO:Addr) (rs:List Addr):Ev->O:=(CQ 1 (bA (gS (ac (aP (gT (nB rs am)) (fun ρ=>rdV ρ 0)) (fun _=>R.ok [])))))
noncomputable def dc (ag ah:Addr) (ao am:Addr) (aN aJ:Addr) (ad aO:Addr) (rs:List Addr):Ev->O:=(iH 1 (g2 eE (fun ρ=>rdV ρ 1) (bA (gS (ac (aP (gT (nB rs ad)) (fun ρ=>rdV ρ 0)) (ac (aP (gT (nB rs aJ)) (fun ρ=>rdV ρ 0)) (ac (aP (gT (nB rs aN)) (fun ρ=>rdV ρ 0)) (fun _=>R.ok []))))))))
noncomputable def db (ag ah:Addr) (ao am:Addr) (aN aJ:Addr) (ad aO:Addr) (rs:List Addr):Ev->O:=(iH 1 (g2 eE (fun ρ=>rdV ρ 1) (bA (gS (ac (aP (gT (nB rs aO)) (fun ρ=>rdV ρ 0)) (fun _=>R.ok []))))))
noncomputable def de (ag ah:Addr) (ao am:Addr) (aN aJ:Addr) (ad aO:Addr) (rs:List Addr):Ev->O:=(oIf (oB (gB2 neF (ma "list" hJ (fun ρ=>rdV ρ 1) (ac (fun _=>R.ok (D.bl true)) (fun _=>R.ok []))) (fun _=>R.ok (D.int 1))) (gBn (aP kf (aP (gT (oC rs)) (fun ρ=>rdV ρ 0))))) (aW (cw (fun _=>R.ok (D.str [119,114,111,110,103]))) oNx) oNx)
noncomputable def cW (ag ah:Addr) (ao am:Addr) (aN aJ:Addr) (ad aO:Addr) (rs:List Addr):Ev->O:=(iH 2 (bA (gS (ac (fun _=>R.ok (D.str [110,111,32,98,97,99,107])) (ac (fun _=>R.ok (D.str [110,111,32,110,117,109,98,101,114])) (ac (fun _=>R.ok (D.str [110,111,32,111,114,100,101,114])) (ac (fun _=>R.ok (D.str [110,111,32,114,111,111,109])) (ac (fun _=>R.ok (D.str [110,111,32,115,99,114,101,101,110])) (ac (fun _=>R.ok (D.str [110,111,32,116,97,98,108,101])) (ac (fun _=>R.ok (D.str [110,111,32,116,97,115,107])) (ac (fun _=>R.ok (D.str [110,111,32,116,101,120,116])) (fun _=>R.ok []))))))))))))
noncomputable def cX (ag ah:Addr) (ao am:Addr) (aN aJ:Addr) (ad aO:Addr) (rs:List Addr):Ev->O:=(cw (g2 ixD (fun ρ=>rdV ρ 2) (ma "list" gY (fun ρ=>rdV ρ 1) (ac (fun _=>R.ok (D.bl true)) (fun _=>R.ok [])))))
noncomputable def dz (ag ah:Addr) (ao am:Addr) (aN aJ:Addr) (ad aO:Addr) (rs:List Addr):Ev->O:=(aW (cS ag ah ao am aN aJ ad aO rs) (aW (da ag ah ao am aN aJ ad aO rs) (BJ 1 (aW (dc ag ah ao am aN aJ ad aO rs) (aW (db ag ah ao am aN aJ ad aO rs) (aW (de ag ah ao am aN aJ ad aO rs) (aW (cW ag ah ao am aN aJ ad aO rs) (aW (cX ag ah ao am aN aJ ad aO rs) oNx))))))))
noncomputable def fX (bU:List D->R D):Ev->O:=(aW (cw (bh 1 bU (ac (fun ρ=>rdV ρ 1) (fun _=>R.ok [])))) oNx)
noncomputable def bB (bU:List D->R D) (rs:List Addr):R D->R D:=fun m=>aM (zC (fun ρ=>m.out ρ .rt) (fX bU) (oC rs) 1 [none,none])
noncomputable def iL:List Nat:=[110,111,32,110,117,109,98,101,114]
noncomputable def mE:List Nat:=[110,111,32,111,114,100,101,114]
noncomputable def ut:List Nat:=[110,111,32,114,111,111,109]
noncomputable def fN:List Nat:=[110,111,32,115,99,114,101,101,110]
noncomputable def qb (ag ah ao am aN aJ ad aO:Addr) (rs:List Addr):List D->R D:=fun ds=>fq (aM (dz ag ah ao am aN aJ ad aO rs (aL 3 ds)))
theorem oM (nd:[ad,ag,am,ah,aJ,aN,aO,ao].Nodup):∀ ds:List D,ds.length=1->qb ag ah ao am aN aJ ad aO rs ds=.no\/fq (aM (dz ag ah ao am aN aJ ad aO rs (aL 3 ds)))=qb ag ah ao am aN aJ ad aO rs ds:=fun _ _=>.inr rfl
theorem uh {F:List D->R D} (h:C ∈ rs) (e:F [.exc C]=.ok d):bB F rs (.ex C)=.ok d:=by
 unfold bB
 have f:oC rs C=some true:=by unfold oC; rw [if_pos h]
 show aM (match (O.ex C [none,none]) with | .ex C ρ'=>(match oC rs C with | some true=>(match fX F (ρ'.set 1 (some (.val (.exc C)))) with | .nx ρ''=>.nx (ρ''.set 1 none) | .rt d=>.rt d | _=>.no) | _=>.no) | o=>o)=_
 dsimp only
 rw [f]
 dsimp only
 have g:fX F ([none,none].set 1 (some (.val (.exc C))))=.rt d:=by
  show ((F [.exc C]).out _ .rt).seq _=_
  rw [e]; rfl
 rw [g]; rfl
theorem pW (nd:[ad,ag,am,ah,aJ,aN,aO,ao].Nodup) (h:ah ∈ rs):qb ag ah ao am aN aJ ad aO rs [.exc ah]=.ok (.str iL):=by
 have z3:3<=sizeLine:=by decide
 have z1:1<=sizeLine:=by decide
 have z4:3+1<=sizeLine:=by decide
 have z8:8<=sizeLine:=by decide
 have f1:∀ (a0:Option Sl) (ds:List D) (a2:Option Sl),frz 1 [a0,some (.own ds),a2]=[a0,some (.val (.lst false ds)),a2]:=fun _ _ _=>rfl
 have o1:∀ (a0:Option Sl) (ds:List D) (a2:Option Sl),ownAt [a0,some (.own ds),a2] 1=.ok ds:=fun _ _ _=>rfl
 have kd:∀ (f:Bool) (l:List D),gK "list" (.lst f l)=true:=fun _ _=>rfl
 have y:∀ T,gT (nB rs T) (.exc ah)=.ok (.bl (ah==T)):=fun T=>by simp only [gT,nB,h,if_true]; rfl
 have y2:gT (oC rs) (.exc ah)=.ok (.bl true):=by simp only [gT,oC,h,if_true]; rfl
 have q0:(ah==ah)=true:=by simp
 have q_NoScreen:(ah==ad)=false:=by simp; intro z; subst z; simp at nd
 have q_NoOrder:(ah==ag)=false:=by simp; intro z; subst z; simp at nd
 have q_NoRoom:(ah==am)=false:=by simp; intro z; subst z; simp at nd
 have q_NoTable:(ah==aJ)=false:=by simp; intro z; subst z; simp at nd
 have q_NoTask:(ah==aN)=false:=by simp; intro z; subst z; simp at nd
 have q_NoText:(ah==aO)=false:=by simp; intro z; subst z; simp at nd
 have q_NoBack:(ah==ao)=false:=by simp; intro z; subst z; simp at nd
 have a1:∀ a b c d e f g:D,eE (.lst false [a,b,c,d]) (.lst false [e,f,g])=some (.lst false [a,b,c,d,e,f,g]):=fun _ _ _ _ _ _ _=>rfl
 have a2:∀ a b c d e f g k:D,eE (.lst false [a,b,c,d,e,f,g]) (.lst false [k])=some (.lst false [a,b,c,d,e,f,g,k]):=fun _ _ _ _ _ _ _ _=>rfl
 have c1:hJ (.lst false [.bl false,.bl true,.bl false,.bl false,.bl false,.bl false,.bl false,.bl false]) [.bl true]=some (.int 1):=rfl
 have c2:gY (.lst false [.bl false,.bl true,.bl false,.bl false,.bl false,.bl false,.bl false,.bl false]) [.bl true]=some (.int 1):=rfl
 unfold qb
 show fq (aM (aW _ _ [some (.val (.exc ah)),none,none]))=_
 unfold cS da dc db de cW cX
 clear nd h
 walk_at "run"
 all_goals rfl
theorem rE (nd:[ad,ag,am,ah,aJ,aN,aO,ao].Nodup) (h:ag ∈ rs):qb ag ah ao am aN aJ ad aO rs [.exc ag]=.ok (.str mE):=by
 have z3:3<=sizeLine:=by decide
 have z1:1<=sizeLine:=by decide
 have z4:3+1<=sizeLine:=by decide
 have z8:8<=sizeLine:=by decide
 have f1:∀ (a0:Option Sl) (ds:List D) (a2:Option Sl),frz 1 [a0,some (.own ds),a2]=[a0,some (.val (.lst false ds)),a2]:=fun _ _ _=>rfl
 have o1:∀ (a0:Option Sl) (ds:List D) (a2:Option Sl),ownAt [a0,some (.own ds),a2] 1=.ok ds:=fun _ _ _=>rfl
 have kd:∀ (f:Bool) (l:List D),gK "list" (.lst f l)=true:=fun _ _=>rfl
 have y:∀ T,gT (nB rs T) (.exc ag)=.ok (.bl (ag==T)):=fun T=>by simp only [gT,nB,h,if_true]; rfl
 have y2:gT (oC rs) (.exc ag)=.ok (.bl true):=by simp only [gT,oC,h,if_true]; rfl
 have q0:(ag==ag)=true:=by simp
 have q_NoScreen:(ag==ad)=false:=by simp; intro z; subst z; simp at nd
 have q_NoRoom:(ag==am)=false:=by simp; intro z; subst z; simp at nd
 have q_NoNumber:(ag==ah)=false:=by simp; intro z; subst z; simp at nd
 have q_NoTable:(ag==aJ)=false:=by simp; intro z; subst z; simp at nd
 have q_NoTask:(ag==aN)=false:=by simp; intro z; subst z; simp at nd
 have q_NoText:(ag==aO)=false:=by simp; intro z; subst z; simp at nd
 have q_NoBack:(ag==ao)=false:=by simp; intro z; subst z; simp at nd
 have a1:∀ a b c d e f g:D,eE (.lst false [a,b,c,d]) (.lst false [e,f,g])=some (.lst false [a,b,c,d,e,f,g]):=fun _ _ _ _ _ _ _=>rfl
 have a2:∀ a b c d e f g k:D,eE (.lst false [a,b,c,d,e,f,g]) (.lst false [k])=some (.lst false [a,b,c,d,e,f,g,k]):=fun _ _ _ _ _ _ _ _=>rfl
 have c1:hJ (.lst false [.bl false,.bl false,.bl true,.bl false,.bl false,.bl false,.bl false,.bl false]) [.bl true]=some (.int 1):=rfl
 have c2:gY (.lst false [.bl false,.bl false,.bl true,.bl false,.bl false,.bl false,.bl false,.bl false]) [.bl true]=some (.int 2):=rfl
 unfold qb
 show fq (aM (aW _ _ [some (.val (.exc ag)),none,none]))=_
 unfold cS da dc db de cW cX
 clear nd h
 walk_at "run"
 all_goals rfl
theorem vm (nd:[ad,ag,am,ah,aJ,aN,aO,ao].Nodup) (h:am ∈ rs):qb ag ah ao am aN aJ ad aO rs [.exc am]=.ok (.str ut):=by
 have z3:3<=sizeLine:=by decide
 have z1:1<=sizeLine:=by decide
 have z4:3+1<=sizeLine:=by decide
 have z8:8<=sizeLine:=by decide
 have f1:∀ (a0:Option Sl) (ds:List D) (a2:Option Sl),frz 1 [a0,some (.own ds),a2]=[a0,some (.val (.lst false ds)),a2]:=fun _ _ _=>rfl
 have o1:∀ (a0:Option Sl) (ds:List D) (a2:Option Sl),ownAt [a0,some (.own ds),a2] 1=.ok ds:=fun _ _ _=>rfl
 have kd:∀ (f:Bool) (l:List D),gK "list" (.lst f l)=true:=fun _ _=>rfl
 have y:∀ T,gT (nB rs T) (.exc am)=.ok (.bl (am==T)):=fun T=>by simp only [gT,nB,h,if_true]; rfl
 have y2:gT (oC rs) (.exc am)=.ok (.bl true):=by simp only [gT,oC,h,if_true]; rfl
 have q0:(am==am)=true:=by simp
 have q_NoScreen:(am==ad)=false:=by simp; intro z; subst z; simp at nd
 have q_NoOrder:(am==ag)=false:=by simp; intro z; subst z; simp at nd
 have q_NoNumber:(am==ah)=false:=by simp; intro z; subst z; simp at nd
 have q_NoTable:(am==aJ)=false:=by simp; intro z; subst z; simp at nd
 have q_NoTask:(am==aN)=false:=by simp; intro z; subst z; simp at nd
 have q_NoText:(am==aO)=false:=by simp; intro z; subst z; simp at nd
 have q_NoBack:(am==ao)=false:=by simp; intro z; subst z; simp at nd
 have a1:∀ a b c d e f g:D,eE (.lst false [a,b,c,d]) (.lst false [e,f,g])=some (.lst false [a,b,c,d,e,f,g]):=fun _ _ _ _ _ _ _=>rfl
 have a2:∀ a b c d e f g k:D,eE (.lst false [a,b,c,d,e,f,g]) (.lst false [k])=some (.lst false [a,b,c,d,e,f,g,k]):=fun _ _ _ _ _ _ _ _=>rfl
 have c1:hJ (.lst false [.bl false,.bl false,.bl false,.bl true,.bl false,.bl false,.bl false,.bl false]) [.bl true]=some (.int 1):=rfl
 have c2:gY (.lst false [.bl false,.bl false,.bl false,.bl true,.bl false,.bl false,.bl false,.bl false]) [.bl true]=some (.int 3):=rfl
 unfold qb
 show fq (aM (aW _ _ [some (.val (.exc am)),none,none]))=_
 unfold cS da dc db de cW cX
 clear nd h
 walk_at "run"
 all_goals rfl
theorem pT (nd:[ad,ag,am,ah,aJ,aN,aO,ao].Nodup) (h:ad ∈ rs):qb ag ah ao am aN aJ ad aO rs [.exc ad]=.ok (.str fN):=by
 have z3:3<=sizeLine:=by decide
 have z1:1<=sizeLine:=by decide
 have z4:3+1<=sizeLine:=by decide
 have z8:8<=sizeLine:=by decide
 have f1:∀ (a0:Option Sl) (ds:List D) (a2:Option Sl),frz 1 [a0,some (.own ds),a2]=[a0,some (.val (.lst false ds)),a2]:=fun _ _ _=>rfl
 have o1:∀ (a0:Option Sl) (ds:List D) (a2:Option Sl),ownAt [a0,some (.own ds),a2] 1=.ok ds:=fun _ _ _=>rfl
 have kd:∀ (f:Bool) (l:List D),gK "list" (.lst f l)=true:=fun _ _=>rfl
 have y:∀ T,gT (nB rs T) (.exc ad)=.ok (.bl (ad==T)):=fun T=>by simp only [gT,nB,h,if_true]; rfl
 have y2:gT (oC rs) (.exc ad)=.ok (.bl true):=by simp only [gT,oC,h,if_true]; rfl
 have q0:(ad==ad)=true:=by simp
 have q_NoOrder:(ad==ag)=false:=by simp; intro z; subst z; simp at nd
 have q_NoRoom:(ad==am)=false:=by simp; intro z; subst z; simp at nd
 have q_NoNumber:(ad==ah)=false:=by simp; intro z; subst z; simp at nd
 have q_NoTable:(ad==aJ)=false:=by simp; intro z; subst z; simp at nd
 have q_NoTask:(ad==aN)=false:=by simp; intro z; subst z; simp at nd
 have q_NoText:(ad==aO)=false:=by simp; intro z; subst z; simp at nd
 have q_NoBack:(ad==ao)=false:=by simp; intro z; subst z; simp at nd
 have a1:∀ a b c d e f g:D,eE (.lst false [a,b,c,d]) (.lst false [e,f,g])=some (.lst false [a,b,c,d,e,f,g]):=fun _ _ _ _ _ _ _=>rfl
 have a2:∀ a b c d e f g k:D,eE (.lst false [a,b,c,d,e,f,g]) (.lst false [k])=some (.lst false [a,b,c,d,e,f,g,k]):=fun _ _ _ _ _ _ _ _=>rfl
 have c1:hJ (.lst false [.bl false,.bl false,.bl false,.bl false,.bl true,.bl false,.bl false,.bl false]) [.bl true]=some (.int 1):=rfl
 have c2:gY (.lst false [.bl false,.bl false,.bl false,.bl false,.bl true,.bl false,.bl false,.bl false]) [.bl true]=some (.int 4):=rfl
 unfold qb
 show fq (aM (aW _ _ [some (.val (.exc ad)),none,none]))=_
 unfold cS da dc db de cW cX
 clear nd h
 walk_at "run"
 all_goals rfl
end Q
namespace Q
open L2
open PySem (sizeLine Addr)
noncomputable def FX:List Nat->D->D->Option D
 | [],_,v=>some v
 | k::ks,.tup xs,v=>match xs[k]? with
  | some x=>if xs.length<=1000 then (FX ks x v).map fun y=>.tup (xs.take k++[y]++xs.drop (k+1)) else none
  | none=>none
 | _,_,_=>none
noncomputable def DB:List D->Option (List Nat)
 | []=>some []
 | .int i::ds=>if 0<=i then (DB ds).map (i.toNat::·) else none
 | _::_=>none
noncomputable def mB (n:Nat):List D->R D
 | [d,.tup p,v]=>match DB p with
  | some ks=>if ks.length < n/\n<=500 then ofO (FX ks d v) else .no
  | none=>.no
 | _=>.no
noncomputable def pt:Nat->D->Bool
 | 0,_=>false
 | _+1,.int _=>true
 | _+1,.str x=>decide (x.length<=900)
 | n+1,.tup xs=>xs.all (pt n) && decide (xs.length<=900)
 | _+1,_=>false
noncomputable def fo:Nat->D->Bool
 | 0,_=>true
 | _+1,.exc _=>false
 | _+1,.str x=>decide (x.length<=1000)
 | n+1,.tup xs=>xs.all (fo n)
 | n+1,.lst _ xs=>xs.all (fo n)
 | _+1,_=>true
theorem wb (h:fo 4 d=true):sS d=true:=by
 cases d <;> first | (simp [fo] at h; done) | rfl | skip
 rename_i xs
 match xs,h with
 | [],_=>rfl
 | [_],_=>rfl
 | [_,_],_=>rfl
 | _::_::_::_::_,_=>rfl
 | [a,r,p],h=>
  simp only [fo,List.all_cons,List.all_nil,Bool.and_true,Bool.and_eq_true] at h
  obtain ⟨ha,hr,hp⟩:=h
  have l1:=cR
  have na:jC a=true:=by cases a <;> first | (simp [fo] at ha; done) | rfl
  simp only [sS,Bool.and_eq_true]
  refine ⟨⟨na,?_⟩,?_⟩
  ·cases r <;> first | (simp [fo] at hr; done) | rfl | skip
   rename_i xs
   simp only [fo,List.all_eq_true] at hr
   show xs.all BK=true
   rw [List.all_eq_true]
   intro x hx
   have:=hr x hx
   cases x <;> first | (simp [fo] at this; done) | rfl | skip
   simp only [fo,decide_eq_true_eq] at this
   simp only [BK,decide_eq_true_eq]; omega
  ·cases p <;> first | (simp [fo] at hp; done) | rfl | skip
   rename_i xs
   simp only [fo,List.all_eq_true] at hp
   show xs.all jC=true
   rw [List.all_eq_true]
   intro x hx
   have:=hp x hx
   cases x <;> first | (simp [fo] at this; done) | rfl
end Q
namespace Q
open L2
open PySem (sizeLine Addr)
noncomputable def oS (aX:List D->R D):Ev->O:=(cw (oz (g2 eqF (gOf gm (ac (fun ρ=>rdV ρ 0) (fun _=>R.ok []))) (fun _=>R.ok (D.int 2))) (oz (g2 eqF (g2 ixD (fun ρ=>rdV ρ 0) (fun _=>R.ok (D.int 0))) (fun _=>R.ok (D.str [115,97,121]))) (oz (bh 1 aX (ac (g2 ixD (fun ρ=>rdV ρ 0) (fun _=>R.ok (D.int 1))) (fun _=>R.ok []))) (g3 leD leD (fun _=>R.ok (D.int 1)) (gOf gm (ac (g2 ixD (fun ρ=>rdV ρ 0) (fun _=>R.ok (D.int 1))) (fun _=>R.ok []))) (fun _=>R.ok (D.int 40)))))))
noncomputable def fW (aX:List D->R D):Ev->O:=(aW (oS aX) oNx)
noncomputable def tE (aG:List D->R D):Ev->O:=(oIf (oB (gB2 neF (gOf gm (ac (fun ρ=>rdV ρ 0) (fun _=>R.ok []))) (fun _=>R.ok (D.int 3))) (gB2 neF (g2 ixD (fun ρ=>rdV ρ 0) (fun _=>R.ok (D.int 0))) (fun _=>R.ok (D.str [103,111])))) (aW (cw (fun _=>R.ok (D.bl false))) oNx) oNx)
noncomputable def uc (aG:List D->R D):Ev->O:=(cw (oz (bh 3 aG (ac (g2 ixD (fun ρ=>rdV ρ 0) (fun _=>R.ok (D.int 1))) (ac (fun _=>R.ok (D.int 0)) (ac (g2 zA (fun _=>R.ok (D.int 12)) (fun _=>R.ok (D.int 1))) (fun _=>R.ok []))))) (bh 3 aG (ac (g2 ixD (fun ρ=>rdV ρ 0) (fun _=>R.ok (D.int 2))) (ac (fun _=>R.ok (D.int 0)) (ac (fun _=>R.ok (D.int 40)) (fun _=>R.ok [])))))))
noncomputable def ia (aG:List D->R D):Ev->O:=(aW (tE aG) (aW (uc aG) oNx))
noncomputable def jT (dA eV:List D->R D):Ev->O:=(oIf (gBn (aP kf (aP (iI (·=="tuple")) (fun ρ=>rdV ρ 0)))) (aW (cw (fun _=>R.ok (D.bl false))) oNx) oNx)
noncomputable def kA (dA eV:List D->R D):Ev->O:=(cw (gOr (bh 1 dA (ac (fun ρ=>rdV ρ 0) (fun _=>R.ok []))) (gOr (bh 1 eV (ac (fun ρ=>rdV ρ 0) (fun _=>R.ok []))) (g2 eqF (fun ρ=>rdV ρ 0) (aP mkT (ac (fun _=>R.ok (D.str [119,105,112,101])) (fun _=>R.ok [])))))))
noncomputable def dL (dA eV:List D->R D):Ev->O:=(aW (jT dA eV) (aW (kA dA eV) oNx))
noncomputable def gw (cH:List D->R D) (ag:Addr):Ev->O:=(oIf (gBn (aP kf (bh 1 cH (ac (fun ρ=>rdV ρ 0) (fun _=>R.ok []))))) (aW (fk ag (ac (fun _=>R.ok (D.str [116,104,105,115,32,105,115,32,110,111,32,111,114,100,101,114])) (fun _=>R.ok []))) oNx) oNx)
noncomputable def cE (cH:List D->R D) (ag:Addr):Ev->O:=(aW (gw cH ag) oNx)
noncomputable def dj:Ev->O:=(iH 3 (g2 ixD (g2 ixD (fun ρ=>rdV ρ 0) (fun _=>R.ok (D.int 2))) (fun _=>R.ok (D.int 0))))
noncomputable def dk:Ev->O:=(iH 4 (g2 eE (g2 eE (gSl (g2 ixD (fun ρ=>rdV ρ 0) (fun _=>R.ok (D.int 1))) (fun _=>R.ok none) (rf (fun ρ=>rdV ρ 3))) (aP mkT (ac (fun ρ=>rdV ρ 1) (fun _=>R.ok [])))) (gSl (g2 ixD (fun ρ=>rdV ρ 0) (fun _=>R.ok (D.int 1))) (rf (g2 eE (fun ρ=>rdV ρ 3) (fun _=>R.ok (D.int 1)))) (fun _=>R.ok none))))
noncomputable def dh:Ev->O:=(cw (aP mkT (ac (g2 ixD (fun ρ=>rdV ρ 0) (fun _=>R.ok (D.int 0))) (ac (fun ρ=>rdV ρ 4) (ac (aP mkT (ac (fun ρ=>rdV ρ 3) (ac (fun ρ=>rdV ρ 2) (fun _=>R.ok [])))) (fun _=>R.ok []))))))
noncomputable def bJ:Ev->O:=(aW dj (aW dk (aW dh oNx)))
noncomputable def jd (aC:List D->R D) (am:Addr):Ev->O:=(iH 2 (g2 ixD (g2 ixD (fun ρ=>rdV ρ 0) (fun _=>R.ok (D.int 1))) (g2 ixD (g2 ixD (fun ρ=>rdV ρ 0) (fun _=>R.ok (D.int 2))) (fun _=>R.ok (D.int 0)))))
noncomputable def jy (aC:List D->R D) (am:Addr):Ev->O:=(iH 3 (g2 ixD (g2 ixD (fun ρ=>rdV ρ 0) (fun _=>R.ok (D.int 2))) (fun _=>R.ok (D.int 1))))
noncomputable def jm (aC:List D->R D) (am:Addr):Ev->O:=(iH 4 (g2 eE (fun ρ=>rdV ρ 3) (gOf gm (ac (fun ρ=>rdV ρ 1) (fun _=>R.ok [])))))
noncomputable def jh (aC:List D->R D) (am:Addr):Ev->O:=(oIf (gB2 gtD (fun ρ=>rdV ρ 4) (g2 ixD (fun ρ=>rdV ρ 0) (fun _=>R.ok (D.int 0)))) (aW (fk am (ac (fun _=>R.ok (D.str [116,104,101,32,116,101,120,116,32,105,115,32,119,105,100,101,114,32,116,104,97,110,32,119,104,97,116,32,105,115,32,108,101,102,116,32,111,102,32,116,104,101,32,114,111,119])) (fun _=>R.ok []))) oNx) oNx)
noncomputable def jx (aC:List D->R D) (am:Addr):Ev->O:=(cw (bh 3 aC (ac (fun ρ=>rdV ρ 0) (ac (g2 eE (g2 eE (gSl (fun ρ=>rdV ρ 2) (fun _=>R.ok none) (rf (fun ρ=>rdV ρ 3))) (fun ρ=>rdV ρ 1)) (gSl (fun ρ=>rdV ρ 2) (rf (fun ρ=>rdV ρ 4)) (fun _=>R.ok none))) (ac (fun ρ=>rdV ρ 4) (fun _=>R.ok []))))))
noncomputable def dw (aC:List D->R D) (am:Addr):Ev->O:=(aW (jd aC am) (aW (jy aC am) (aW (jm aC am) (aW (jh aC am) (aW (jx aC am) oNx)))))
noncomputable def kx (am:Addr):Ev->O:=(oIf (oB (gB2 geD (fun ρ=>rdV ρ 1) (gOf gm (ac (g2 ixD (fun ρ=>rdV ρ 0) (fun _=>R.ok (D.int 1))) (fun _=>R.ok [])))) (gB2 gtD (fun ρ=>rdV ρ 2) (g2 ixD (fun ρ=>rdV ρ 0) (fun _=>R.ok (D.int 0))))) (aW (fk am (ac (fun _=>R.ok (D.str [116,104,101,32,115,99,114,101,101,110,32,100,111,101,115,32,110,111,116,32,104,97,118,101,32,116,104,105,115,32,112,108,97,99,101])) (fun _=>R.ok []))) oNx) oNx)
noncomputable def jW (am:Addr):Ev->O:=(cw (aP mkT (ac (g2 ixD (fun ρ=>rdV ρ 0) (fun _=>R.ok (D.int 0))) (ac (g2 ixD (fun ρ=>rdV ρ 0) (fun _=>R.ok (D.int 1))) (ac (aP mkT (ac (fun ρ=>rdV ρ 1) (ac (fun ρ=>rdV ρ 2) (fun _=>R.ok [])))) (fun _=>R.ok []))))))
noncomputable def eA (am:Addr):Ev->O:=(aW (kx am) (aW (jW am) oNx))
noncomputable def iw (aC:List D->R D):Ev->O:=(iH 1 (g2 ixD (g2 ixD (fun ρ=>rdV ρ 0) (fun _=>R.ok (D.int 1))) (g2 ixD (g2 ixD (fun ρ=>rdV ρ 0) (fun _=>R.ok (D.int 2))) (fun _=>R.ok (D.int 0)))))
noncomputable def ib (aC:List D->R D):Ev->O:=(iH 2 (g2 ixD (g2 ixD (fun ρ=>rdV ρ 0) (fun _=>R.ok (D.int 2))) (fun _=>R.ok (D.int 1))))
noncomputable def gZ (aC:List D->R D):Ev->O:=(cw (bh 3 aC (ac (fun ρ=>rdV ρ 0) (ac (ma "str" lA (gSl (fun ρ=>rdV ρ 1) (fun _=>R.ok none) (rf (fun ρ=>rdV ρ 2))) (ac (g2 ixD (fun ρ=>rdV ρ 0) (fun _=>R.ok (D.int 0))) (fun _=>R.ok []))) (ac (fun ρ=>rdV ρ 2) (fun _=>R.ok []))))))
noncomputable def cQ (aC:List D->R D):Ev->O:=(aW (iw aC) (aW (ib aC) (aW (gZ aC) oNx)))
noncomputable def gA (bF bM bu:List D->R D):Ev->O:=(oIf (gB2 eqF (g2 ixD (fun ρ=>rdV ρ 1) (fun _=>R.ok (D.int 0))) (fun _=>R.ok (D.str [115,97,121]))) (aW (cw (bh 2 bF (ac (fun ρ=>rdV ρ 0) (ac (g2 ixD (fun ρ=>rdV ρ 1) (fun _=>R.ok (D.int 1))) (fun _=>R.ok []))))) oNx) oNx)
noncomputable def gy (bF bM bu:List D->R D):Ev->O:=(oIf (gB2 eqF (g2 ixD (fun ρ=>rdV ρ 1) (fun _=>R.ok (D.int 0))) (fun _=>R.ok (D.str [103,111]))) (aW (cw (bh 3 bM (ac (fun ρ=>rdV ρ 0) (ac (g2 ixD (fun ρ=>rdV ρ 1) (fun _=>R.ok (D.int 1))) (ac (g2 ixD (fun ρ=>rdV ρ 1) (fun _=>R.ok (D.int 2))) (fun _=>R.ok [])))))) oNx) oNx)
noncomputable def gE (bF bM bu:List D->R D):Ev->O:=(cw (bh 1 bu (ac (fun ρ=>rdV ρ 0) (fun _=>R.ok []))))
noncomputable def cF (bF bM bu:List D->R D):Ev->O:=(aW (gA bF bM bu) (aW (gy bF bM bu) (aW (gE bF bM bu) oNx)))
noncomputable def xq (ai aS bj:List D->R D):Ev->O:=(kP (bh 1 ai (ac (fun ρ=>rdV ρ 0) (fun _=>R.ok []))))
noncomputable def xa (ai aS bj:List D->R D):Ev->O:=(kP (bh 1 aS (ac (fun ρ=>rdV ρ 1) (fun _=>R.ok []))))
noncomputable def wB (ai aS bj:List D->R D):Ev->O:=(cw (bh 2 bj (ac (fun ρ=>rdV ρ 0) (ac (fun ρ=>rdV ρ 1) (fun _=>R.ok [])))))
noncomputable def jI (ai aS bj:List D->R D):Ev->O:=(aW (xq ai aS bj) (aW (xa ai aS bj) (aW (wB ai aS bj) oNx)))
noncomputable def gh:D->Bool
 | .tup [.str x,.str y]=>(x==[115,97,121]) && (plain y && (decide (1<=y.length) && decide (y.length<=40)))
 | _=>false
noncomputable def mr:D->Bool
 | .tup [.str x,b,c]=>(x==[103,111]) && (inB b 0 11 && inB c 0 40)
 | _=>false
noncomputable def eK:D->Bool
 | .tup [.str x]=>x==[119,105,112,101]
 | _=>false
noncomputable def bZ (d:D):Bool:=gh d || (mr d || eK d)
noncomputable def C6:List D->R D
 | [.tup xs]=>if fo 3 (.tup xs)=true then .ok (.bl (gh (.tup xs))) else .no
 | _=>.no
noncomputable def goF:List D->R D
 | [.tup xs]=>if fo 3 (.tup xs)=true then .ok (.bl (mr (.tup xs))) else .no
 | _=>.no
noncomputable def wX:List D->R D
 | [d]=>if fo 3 d=true then .ok (.bl (bZ d)) else .no
 | _=>.no
noncomputable def fG (C:Addr):List D->R D
 | [d]=>if fo 3 d=true then (if bZ d=true then .ok .non else .ex C) else .no
 | _=>.no
noncomputable def isX (x:List Nat):D->Bool
 | .str y=>y==x
 | _=>false
noncomputable def DJ:D->Bool
 | .str y=>decide (1<=y.length) && decide (y.length<=40)
 | _=>false
theorem wH (a b:D):gh (.tup [a,b])=(isX ([115,97,121]) a && (zO b && DJ b)):=by
 cases a <;> cases b <;> first | rfl | (simp only [gh,isX,zO,DJ,Bool.and_false,Bool.false_and])
theorem FC (a b c:D):mr (.tup [a,b,c])=(isX ([103,111]) a && (inB b 0 11 && inB c 0 40)):=by
 cases a <;> first | rfl | (simp only [mr,isX,Bool.false_and])
theorem A8 (a:D):eK (.tup [a])=isX ([119,105,112,101]) a:=by
 cases a <;> rfl
theorem DG (h:jC d=true) (x:List Nat):eqF d (.str x)=some (.bl (isX x d)):=by
 cases d <;> first | (cases h; done) | rfl
theorem DF (h:jC d=true) (x:List Nat):neF d (.str x)=some (.bl (!isX x d)):=by
 cases d <;> first | (cases h; done) | rfl
theorem iX (h:fo (n+1) d=true):jC d=true:=by
 cases d <;> first | (simp [fo] at h; done) | rfl
theorem yC (h:fo (n+1) d=true):lQ [d]=.ok (.bl (zO d)):=by
 cases d <;> first | (simp [fo] at h; done) | rfl | skip
 rename_i x
 simp only [fo,decide_eq_true_eq] at h
 have:=cR
 exact if_pos (by omega)
theorem wC:∀ ds:List D,ds.length=1->C6 ds=.no\/aM (fW lQ (aL 1 ds))=C6 ds:=by
 have c1:True:=trivial
 have c2:True:=trivial
 have c3:True:=trivial
 have r1:True:=trivial
 have k1:True:=trivial
 have k3:True:=trivial
 intro ds hl
 unfold fW oS
 match ds,hl with
 | [d],_=>
  cases d <;> first | exact Or.inl rfl | skip
  rename_i xs hl
  by_cases hg:fo 3 (.tup xs)=true
  ·refine Or.inr ?_
   have e2:C6 [.tup xs]=.ok (.bl (gh (.tup xs))):=if_pos hg
   rw [e2]
   show aM (aW _ _ [some (.val (.tup xs))])=_
   clear hl e2 c1
   match xs,hg with
   | [],_=>
    have q:(((0:Nat):Int)==2)=false:=rfl
    walk_at "run"
    all_goals rfl
   | [a],_=>
    have q:(((1:Nat):Int)==2)=false:=rfl
    have e:gh (.tup [a])=false:=by cases a <;> rfl
    walk_at "run"
   | a::b::c::l,_=>
    have q:(((l.length+1+1+1:Nat):Int)==2)=false:=by simp; omega
    have e:gh (.tup (a::b::c::l))=false:=by cases a <;> cases b <;> rfl
    walk_at "run"
   | [a,b],hg=>
    simp only [fo,List.all_cons,List.all_nil,Bool.and_true,Bool.and_eq_true] at hg
    have q:(((2:Nat):Int)==2)=true:=rfl
    have x0:ixD (.tup [a,b]) (.int 0)=some a:=rfl
    have x1:ixD (.tup [a,b]) (.int 1)=some b:=rfl
    have p1:=yC hg.2
    have ea:=DG (iX hg.1) ([115,97,121])
    rw [wH]
    cases h1:isX ([115,97,121]) a with
    | false=>
     walk_at "run"
     all_goals rfl
    | true=>
     cases h2:zO b with
     | false=>
      walk_at "run"
      all_goals rfl
     | true=>
      cases b <;> first | (cases h2; done) | skip
      rename_i y
      simp only [DJ]
      have d3:∀ n:Nat,decide ((1:Int)<=(n:Int))=decide (1<=n):=fun n=>by by_cases h:1<=n <;> simp [h] <;> omega
      have d4:∀ n:Nat,decide ((n:Int)<=(40:Int))=decide (n<=40):=fun n=>by by_cases h:n<=40 <;> simp [h] <;> omega
      clear hg
      cases h3:decide (1<=y.length) <;> cases h4:decide (y.length<=40)
      all_goals
       walk_at "run"
       try rfl
  ·exact Or.inl (if_neg hg)
theorem xZ:∀ ds:List D,ds.length=1->goF ds=.no\/aM (ia xy (aL 1 ds))=goF ds:=by
 have c1:True:=trivial
 have c2:True:=trivial
 have c3:True:=trivial
 have r1:True:=trivial
 have k1:True:=trivial
 have k3:True:=trivial
 intro ds hl
 unfold ia uc tE
 match ds,hl with
 | [d],_=>
  cases d <;> first | exact Or.inl rfl | skip
  rename_i xs hl
  by_cases hg:fo 3 (.tup xs)=true
  ·refine Or.inr ?_
   have e2:goF [.tup xs]=.ok (.bl (mr (.tup xs))):=if_pos hg
   rw [e2]
   show aM (aW _ _ [some (.val (.tup xs))])=_
   clear hl e2 c1
   match xs,hg with
   | [],_=>
    have q:(((0:Nat):Int)==3)=false:=rfl
    walk_at "run"
    all_goals rfl
   | [a],_=>
    have q:(((1:Nat):Int)==3)=false:=rfl
    have e:mr (.tup [a])=false:=by cases a <;> rfl
    walk_at "run"
   | [a,b],_=>
    have q:(((2:Nat):Int)==3)=false:=rfl
    have e:mr (.tup [a,b])=false:=by cases a <;> rfl
    walk_at "run"
   | a::b::c::d::l,_=>
    have q:(((l.length+1+1+1+1:Nat):Int)==3)=false:=by simp; omega
    have e:mr (.tup (a::b::c::d::l))=false:=by cases a <;> rfl
    walk_at "run"
   | [a,b,c],hg=>
    simp only [fo,List.all_cons,List.all_nil,Bool.and_true,Bool.and_eq_true] at hg
    have q:(((3:Nat):Int)==3)=true:=rfl
    have x0:ixD (.tup [a,b,c]) (.int 0)=some a:=rfl
    have x1:ixD (.tup [a,b,c]) (.int 1)=some b:=rfl
    have x2:ixD (.tup [a,b,c]) (.int 2)=some c:=rfl
    have ea:=DF (iX hg.1) ([103,111])
    have p1:=eM (lo:=0) (hi:=11) (iX hg.2.1)
    have p2:=eM (lo:=0) (hi:=40) (iX hg.2.2)
    have m1:(12:Int) - 1=11:=rfl
    rw [FC]
    clear hg
    cases h1:isX ([103,111]) a with
    | false=>
     walk_at "run"
     all_goals rfl
    | true=>
     cases h2:inB b 0 11 <;> cases h3:inB c 0 40
     all_goals
      walk_at "run"
      try rfl
  ·exact Or.inl (if_neg hg)
theorem AZ {xs:List D} (hg:fo 3 (.tup xs)=true):eqF (.tup xs) (.tup [.str [119,105,112,101]])=some (.bl (eK (.tup xs))):=by
 match xs,hg with
 | [],_=>rfl
 | [a],hg=>
  simp only [fo,List.all_cons,List.all_nil,Bool.and_true] at hg
  rw [A8]
  have:=iX hg
  cases a <;> first | (cases this; done) | skip
  all_goals simp [eqF,eqD,eqZ,isX]
 | a::b::l,hg=>
  simp only [fo,List.all_cons,Bool.and_eq_true] at hg
  have:=iX hg.1
  have e:eK (.tup (a::b::l))=false:=by cases a <;> rfl
  rw [e]
  cases a <;> first | (cases this; done) | skip
  all_goals simp [eqF,eqD,eqZ]
theorem rn:∀ ds:List D,ds.length=1->wX ds=.no\/aM (dL C6 goF (aL 1 ds))=wX ds:=by
 have c1:True:=trivial
 have c2:True:=trivial
 have c3:True:=trivial
 have r1:True:=trivial
 have k1:True:=trivial
 have k3:True:=trivial
 intro ds hl
 unfold dL kA jT
 match ds,hl with
 | [d],_=>
  by_cases hg:fo 3 d=true
  ·refine Or.inr ?_
   have e2:wX [d]=.ok (.bl (bZ d)):=if_pos hg
   rw [e2]
   show aM (aW _ _ [some (.val d)])=_
   clear hl e2 c1 c2
   cases d <;> first | (simp [fo] at hg; done) | rfl | skip
   rename_i xs hl2
   clear hl2
   have y1:iI (fun x=>x=="tuple") (.tup xs)=.ok (.bl true):=rfl
   have s1:C6 [.tup xs]=.ok (.bl (gh (.tup xs))):=if_pos hg
   have s2:goF [.tup xs]=.ok (.bl (mr (.tup xs))):=if_pos hg
   have s3:=AZ hg
   have k1:∀ x,mkT [x]=.ok (.tup [x]):=fun _=>m_t (by simp)
   unfold bZ
   clear hg
   cases h1:gh (.tup xs) <;> cases h2:mr (.tup xs)
   all_goals
    walk_at "run"
    try rfl
  ·exact Or.inl (if_neg hg)
theorem lN:∀ ds:List D,ds.length=1->(fG C) ds=.no\/aM (cE wX C (aL 1 ds))=(fG C) ds:=by
 have c1:True:=trivial
 have c2:True:=trivial
 have c3:True:=trivial
 have r1:True:=trivial
 have k1:True:=trivial
 have k3:True:=trivial
 intro ds hl
 unfold cE gw
 match ds,hl with
 | [d],_=>
  by_cases hg:fo 3 d=true
  ·refine Or.inr ?_
   have e1:wX [d]=.ok (.bl (bZ d)):=if_pos hg
   have e2:fG C [d]=if bZ d=true then .ok .non else .ex C:=if_pos hg
   rw [e2]
   show aM (aW _ _ [some (.val d)])=_
   clear hl e2 c1 hg
   cases h1:bZ d
   all_goals
    walk_at "run"
    try rfl
  ·exact Or.inl (if_neg hg)
noncomputable def scr (wd:Nat) (rows:List (List Nat)) (r c:Nat):D:=.tup [.int (wd:Int),.tup (rows.map .str),.tup [.int (r:Int),.int (c:Int)]]
noncomputable def fu:List D->Option (List (List Nat))
 | []=>some []
 | .str x::ds=>(fu ds).map (x::·)
 | _::_=>none
theorem pw:∀ rows:List (List Nat),fu (rows.map .str)=some rows
 | []=>rfl
 | x::rows=>by simp [fu,pw rows]
theorem tR:∀ {ds:List D} {rows:List (List Nat)},fu ds=some rows->ds=rows.map .str
 | [],rows,h=>by simp [fu] at h; subst h; rfl
 | d::ds,rows,h=>by
  cases d <;> first | (simp [fu] at h; done) | skip
  rename_i x
  cases q:fu ds with
  | none=>simp [fu,q] at h
  | some ms=>simp [fu,q] at h; subst h; rw [tR q]; rfl
noncomputable def jA:D->Option (Nat × List (List Nat) × Nat × Nat)
 | .tup [.int wd,.tup rows,.tup [.int r,.int c]]=>(fu rows).bind fun rs=>if (0<=wd/\wd<=100)/\0<=r/\(0<=c/\c<=wd)/\r.toNat < rs.length/\rs.length<=100/\(rs.all fun x=>decide (x.length=wd.toNat))=true then some (wd.toNat,rs,r.toNat,c.toNat) else none
 | _=>none
structure SOk (wd:Nat) (rows:List (List Nat)) (r c:Nat):Prop where
 w:wd<=100
 c:c<=wd
 r:r < rows.length
 m:rows.length<=100
 l:∀ x ∈ rows,x.length=wd
theorem yB {rows:List (List Nat)} {r c:Nat} (h:SOk wd rows r c):jA (scr wd rows r c)=some (wd,rows,r,c):=by
 obtain ⟨h1,h2,h3,h4,h5⟩:=h
 have h6:(rows.all fun x=>decide (x.length=wd))=true:=by rw [List.all_eq_true]; intro x hx; simp [h5 x hx]
 simp only [jA,scr,pw,Option.bind_some,Int.toNat_natCast]
 rw [if_pos (by refine ⟨⟨by omega,by omega⟩,by omega,⟨by omega,by omega⟩,h3,h4,h6⟩)]
theorem hY {rows:List (List Nat)} {r c:Nat} (h:jA d=some (wd,rows,r,c)):d=scr wd rows r c/\SOk wd rows r c:=by
 unfold jA at h
 split at h
 ·rename_i w0 rs0 r0 c0
  cases q:fu rs0 with
  | none=>rw [q] at h; cases h
  | some rs=>
   rw [q,Option.bind_some] at h
   split at h
   ·rename_i hc
    cases h
    obtain ⟨⟨a1,a2⟩,a3,⟨a4,a5⟩,a6,a7,a8⟩:=hc
    rw [tR q]
    refine ⟨?_,⟨by omega,by omega,a6,a7,fun x hx=>of_decide_eq_true (List.all_eq_true.1 a8 x hx)⟩⟩
    unfold scr
    rw [Int.toNat_of_nonneg a1,Int.toNat_of_nonneg a3,Int.toNat_of_nonneg a4]
   ·cases h
 ·cases h
theorem tI {rows:List (List Nat)} {r c:Nat} (h:SOk wd rows r c):(rows.map D.str)[r]?=some (.str (rows.getD r []))/\(rows.getD r []).length=wd:=by
 have g:rows[r]?=some (rows.getD r []):=by rw [List.getElem?_eq_getElem h.r]; simp [List.getD,h.r]
 refine ⟨by rw [List.getElem?_map,g]; rfl,h.l _ (List.mem_of_getElem? g)⟩
theorem xS (rows:List (List Nat)) (r:Nat) (x:List Nat) (h:r < rows.length):(rows.map D.str).take r++[D.str x]++(rows.map D.str).drop (r+1)=(rows.set r x).map D.str:=by
 rw [List.set_eq_take_append_cons_drop,if_pos h]
 simp [List.map_take,List.map_drop]
noncomputable def mf:List D->R D
 | [d,.str x,.int col]=>match jA d with
  | some (wd,rows,r,_)=>if 0<=col then .ok (scr wd (rows.set r x) r col.toNat) else .no
  | none=>.no
 | _=>.no
theorem gj:∀ ds:List D,ds.length=3->mf ds=.no\/aM (bJ (aL 5 ds))=mf ds:=by
 have c1:True:=trivial
 have c2:True:=trivial
 have c3:True:=trivial
 have r1:True:=trivial
 have k1:True:=trivial
 have k3:True:=trivial
 intro ds hl
 unfold bJ dh dk dj
 match ds,hl with
 | [d,xd,cd],_=>
  cases xd <;> first | exact Or.inl rfl | skip
  cases cd <;> first | exact Or.inl rfl | skip
  rename_i x col hl
  cases hu:jA d with
  | none=>refine Or.inl ?_; simp only [mf,hu]
  | some q=>
   obtain ⟨wd,rows,r,c⟩:=q
   by_cases hc:0<=col
   ·refine Or.inr ?_
    have e2:mf [d,.str x,.int col]=.ok (scr wd (rows.set r x) r col.toNat):=by simp only [mf,hu]; rw [if_pos hc]
    rw [e2]
    obtain ⟨rfl,ok⟩:=hY hu
    obtain ⟨j,rfl⟩:=Int.eq_ofNat_of_zero_le hc
    rw [Int.toNat_natCast]
    show aM (aW _ _ [some (.val (scr wd rows r c)),some (.val (.str x)),some (.val (.int (j:Int))),none,none])=_
    have x0:ixD (scr wd rows r c) (.int 0)=some (.int (wd:Int)):=rfl
    have x1:ixD (scr wd rows r c) (.int 1)=some (.tup (rows.map .str)):=rfl
    have x2:ixD (scr wd rows r c) (.int 2)=some (.tup [.int (r:Int),.int (c:Int)]):=rfl
    have x3:ixD (.tup [.int (r:Int),.int (c:Int)]) (.int 0)=some (.int (r:Int)):=rfl
    have c1:=AX (rows.map D.str) r
    have c2:oj (rows.map D.str) (some ((r:Int)+1)) none=(rows.map D.str).drop (r+1):=wD _ (r+1)
    have k1:∀ x,mkT [x]=.ok (.tup [x]):=fun _=>m_t (by simp)
    have k2:∀ x y,mkT [x,y]=.ok (.tup [x,y]):=fun _ _=>m_t (by simp)
    have k3:∀ x y z,mkT [x,y,z]=.ok (.tup [x,y,z]):=fun _ _ _=>m_t (by simp)
    have a1:eE (.tup ((rows.map D.str).take r)) (.tup [.str x])=some (.tup ((rows.map D.str).take r++[.str x])):=Ds (by have:=cR; have:=ok.m; simp; omega)
    have a2:eE (.tup ((rows.map D.str).take r++[.str x])) (.tup ((rows.map D.str).drop (r+1)))=some (.tup ((rows.set r x).map D.str)):=by
     rw [<- xS rows r x ok.r]; exact Ds (by have:=cR; have:=ok.m; simp; omega)
    clear hu hc e2 ok
    walk_at "run"
    all_goals rfl
   ·refine Or.inl ?_; simp only [mf,hu]; rw [if_neg hc]
noncomputable def lY (C:Addr):List D->R D
 | [d,.str x]=>match jA d with
  | some (wd,rows,r,c)=>if x.length<=900 then (if wd < c+x.length then .ex C else .ok (scr wd (rows.set r ((rows.getD r []).take c++x++(rows.getD r []).drop (c+x.length))) r (c+x.length))) else .no
  | none=>.no
 | _=>.no
theorem tT {rows:List (List Nat)} {r c:Nat} {x:List Nat} (ok:SOk wd rows r c):mf [scr wd rows r c,.str x,.int (j:Int)]=.ok (scr wd (rows.set r x) r j):=by
 simp only [mf,yB ok,Int.toNat_natCast]
 rw [if_pos (by omega)]
theorem oF:∀ ds:List D,ds.length=2->(lY C) ds=.no\/aM (dw mf C (aL 5 ds))=(lY C) ds:=by
 have c1:True:=trivial
 have c2:True:=trivial
 have c3:True:=trivial
 have r1:True:=trivial
 have k1:True:=trivial
 have k3:True:=trivial
 intro ds hl
 unfold dw jx jh jm jy jd
 match ds,hl with
 | [d,xd],_=>
  cases xd <;> first | exact Or.inl rfl | skip
  rename_i x hl
  cases hu:jA d with
  | none=>refine Or.inl ?_; simp only [lY,hu]
  | some q=>
   obtain ⟨wd,rows,r,c⟩:=q
   by_cases hc:x.length<=900
   ·refine Or.inr ?_
    have e2:lY C [d,.str x]=if wd < c+x.length then .ex C else .ok (scr wd (rows.set r ((rows.getD r []).take c++x++(rows.getD r []).drop (c+x.length))) r (c+x.length)):=by simp only [lY,hu]; rw [if_pos hc]
    rw [e2]
    obtain ⟨rfl,ok⟩:=hY hu
    show aM (aW _ _ [some (.val (scr wd rows r c)),some (.val (.str x)),none,none,none])=_
    obtain ⟨g1,g2⟩:=tI ok
    have x0:ixD (scr wd rows r c) (.int 0)=some (.int (wd:Int)):=rfl
    have x1:ixD (scr wd rows r c) (.int 1)=some (.tup (rows.map .str)):=rfl
    have x2:ixD (scr wd rows r c) (.int 2)=some (.tup [.int (r:Int),.int (c:Int)]):=rfl
    have x3:ixD (.tup [.int (r:Int),.int (c:Int)]) (.int 0)=some (.int (r:Int)):=rfl
    have x4:ixD (.tup [.int (r:Int),.int (c:Int)]) (.int 1)=some (.int (c:Int)):=rfl
    have x5:ixD (.tup (rows.map .str)) (.int (r:Int))=some (.str (rows.getD r [])):=As g1
    have n1:(c:Int)+(x.length:Int)=((c+x.length:Nat):Int):=by omega
    have hw:=ok.w
    generalize hrow:rows.getD r []=row at x5 g2
    have c1:=AX row c
    have c2:=wD row (c+x.length)
    have a1:eE (.str (row.take c)) (.str x)=some (.str (row.take c++x)):=Dm (by have:=cR; simp; omega)
    have a2:eE (.str (row.take c++x)) (.str (row.drop (c+x.length)))=some (.str (row.take c++x++row.drop (c+x.length))):=Dm (by have:=cR; simp; omega)
    have w1:=tT ok (x:=row.take c++x++row.drop (c+x.length)) (j:=c+x.length)
    by_cases hn:wd < c+x.length
    ·have d1:decide ((wd:Int) < ((c+x.length:Nat):Int))=true:=by simp; omega
     rw [if_pos hn]
     clear hu hc e2 ok g1 g2 hrow hn hw r1 c1
     walk_at "run"
    ·have d1:decide ((wd:Int) < ((c+x.length:Nat):Int))=false:=by simp; omega
     rw [if_neg hn]
     clear hu hc e2 ok g1 g2 hrow hn hw r1
     walk_at "run"
   ·refine Or.inl ?_; simp only [lY,hu]; rw [if_neg hc]
noncomputable def me (C:Addr):List D->R D
 | [d,.int n,.int col]=>match jA d with
  | some (wd,rows,_,_)=>if 0<=n/\0<=col then (if (rows.length:Int)<=n\/(wd:Int) < col then .ex C else .ok (scr wd rows n.toNat col.toNat)) else .no
  | none=>.no
 | _=>.no
noncomputable def iG:List D->R D
 | [d]=>match jA d with
  | some (wd,rows,r,c)=>.ok (scr wd (rows.set r ((rows.getD r []).take c++List.replicate (wd - c) 32)) r c)
  | none=>.no
 | _=>.no
theorem rK:∀ ds:List D,ds.length=3->(me C) ds=.no\/aM (eA C (aL 3 ds))=(me C) ds:=by
 have c1:True:=trivial
 have c2:True:=trivial
 have c3:True:=trivial
 have r1:True:=trivial
 have k1:True:=trivial
 have k3:True:=trivial
 intro ds hl
 unfold eA jW kx
 match ds,hl with
 | [d,nd,cd],_=>
  cases nd <;> first | exact Or.inl rfl | skip
  cases cd <;> first | exact Or.inl rfl | skip
  rename_i n col hl
  cases hu:jA d with
  | none=>refine Or.inl ?_; simp only [me,hu]
  | some q=>
   obtain ⟨wd,rows,r,c⟩:=q
   by_cases hc:0<=n/\0<=col
   ·refine Or.inr ?_
    have e2:me C [d,.int n,.int col]=if (rows.length:Int)<=n\/(wd:Int) < col then .ex C else .ok (scr wd rows n.toNat col.toNat):=by simp only [me,hu]; rw [if_pos hc]
    rw [e2]
    obtain ⟨rfl,ok⟩:=hY hu
    obtain ⟨hn,hc⟩:=hc
    obtain ⟨n,rfl⟩:=Int.eq_ofNat_of_zero_le hn
    obtain ⟨col,rfl⟩:=Int.eq_ofNat_of_zero_le hc
    rw [Int.toNat_natCast,Int.toNat_natCast]
    show aM (aW _ _ [some (.val (scr wd rows r c)),some (.val (.int (n:Int))),some (.val (.int (col:Int)))])=_
    have x0:ixD (scr wd rows r c) (.int 0)=some (.int (wd:Int)):=rfl
    have x1:ixD (scr wd rows r c) (.int 1)=some (.tup (rows.map .str)):=rfl
    have l1:(rows.map D.str).length=rows.length:=by simp
    have k2:∀ x y,mkT [x,y]=.ok (.tup [x,y]):=fun _ _=>m_t (by simp)
    have k3:∀ x y z,mkT [x,y,z]=.ok (.tup [x,y,z]):=fun _ _ _=>m_t (by simp)
    clear hu hn hc e2 ok r1
    by_cases h1:(rows.length:Int)<=(n:Int)
    ·have d1:decide ((rows.length:Int)<=(n:Int))=true:=by simp only [h1,decide_true]
     rw [if_pos (Or.inl h1)]
     clear h1
     walk_at "run"
    ·have d1:decide ((rows.length:Int)<=(n:Int))=false:=by simp only [h1,decide_false]
     by_cases h2:(wd:Int) < (col:Int)
     ·have d2:decide ((wd:Int) < (col:Int))=true:=by simp only [h2,decide_true]
      rw [if_pos (Or.inr h2)]
      clear h1 h2
      walk_at "run"
     ·have d2:decide ((wd:Int) < (col:Int))=false:=by simp only [h2,decide_false]
      rw [if_neg (fun q=>q.elim h1 h2)]
      clear h1 h2
      walk_at "run"
      all_goals rfl
   ·refine Or.inl ?_; simp only [me,hu]; rw [if_neg hc]
theorem oh:∀ ds:List D,ds.length=1->iG ds=.no\/aM (cQ mf (aL 3 ds))=iG ds:=by
 have c1:True:=trivial
 have c2:True:=trivial
 have c3:True:=trivial
 have r1:True:=trivial
 have k1:True:=trivial
 have k3:True:=trivial
 intro ds hl
 unfold cQ gZ ib iw
 match ds,hl with
 | [d],_=>
  cases hu:jA d with
  | none=>refine Or.inl ?_; simp only [iG,hu]
  | some q=>
   obtain ⟨wd,rows,r,c⟩:=q
   refine Or.inr ?_
   have e2:iG [d]=.ok (scr wd (rows.set r ((rows.getD r []).take c++List.replicate (wd - c) 32)) r c):=by simp only [iG,hu]
   rw [e2]
   obtain ⟨rfl,ok⟩:=hY hu
   show aM (aW _ _ [some (.val (scr wd rows r c)),none,none])=_
   obtain ⟨g1,g2⟩:=tI ok
   have x0:ixD (scr wd rows r c) (.int 0)=some (.int (wd:Int)):=rfl
   have x1:ixD (scr wd rows r c) (.int 1)=some (.tup (rows.map .str)):=rfl
   have x2:ixD (scr wd rows r c) (.int 2)=some (.tup [.int (r:Int),.int (c:Int)]):=rfl
   have x3:ixD (.tup [.int (r:Int),.int (c:Int)]) (.int 0)=some (.int (r:Int)):=rfl
   have x4:ixD (.tup [.int (r:Int),.int (c:Int)]) (.int 1)=some (.int (c:Int)):=rfl
   have x5:ixD (.tup (rows.map .str)) (.int (r:Int))=some (.str (rows.getD r [])):=As g1
   have hw:=ok.w
   have hcw:=ok.c
   generalize hrow:rows.getD r []=row at x5 g2
   have c1:=AX row c
   have lt:(row.take c).length=c:=by simp; omega
   have j1:lA (.str (row.take c)) [.int (wd:Int)]=some (.str (row.take c++List.replicate (wd - c) 32)):=by
    simp only [lA,lt,Int.toNat_natCast]; rw [if_pos (by omega)]
   have kd:∀ x,gK "str" (.str x)=true:=fun _=>rfl
   have w1:=tT ok (x:=row.take c++List.replicate (wd - c) 32) (j:=c)
   clear hu e2 ok g1 g2 hrow hw hcw lt
   walk_at "run"
noncomputable def se (C:Addr):List D->R D
 | [d,.tup (.str h::l)]=>if h=[115,97,121] then (match l with | x::_=>lY C [d,x] | _=>.no) else if h=[103,111] then (match l with | n::c::_=>me C [d,n,c] | _=>.no) else iG [d]
 | _=>.no
theorem lP:∀ ds:List D,ds.length=2->(se C) ds=.no\/aM (cF (lY C) (me C) iG (aL 2 ds))=(se C) ds:=by
 have c1:True:=trivial
 have c2:True:=trivial
 have c3:True:=trivial
 have r1:True:=trivial
 have k1:True:=trivial
 have k3:True:=trivial
 intro ds hl
 unfold cF gE gy gA
 match ds,hl with
 | [d,od],_=>
  cases od <;> first | exact Or.inl rfl | skip
  rename_i xs hl
  cases xs with
  | nil=>exact Or.inl rfl
  | cons a l=>
   cases a <;> first | exact Or.inl rfl | skip
   rename_i hl2 h
   have x0:ixD (.tup (.str h::l)) (.int 0)=some (.str h):=As (k:=0) rfl
   clear hl hl2 c1 c2 c3
   by_cases h1:h=[115,97,121]
   ·cases l with
    | nil=>refine Or.inl ?_; simp only [se,h1,if_true]
    | cons x l=>
     refine Or.inr ?_
     have e2:se C [d,.tup (.str h::x::l)]=lY C [d,x]:=by simp only [se,h1,if_true]
     rw [e2]
     show aM (aW _ _ [some (.val d),some (.val (.tup (.str h::x::l)))])=_
     have x1:ixD (.tup (.str h::x::l)) (.int 1)=some x:=As (k:=1) rfl
     have q1:(h==[115,97,121])=true:=by rw [h1]; exact beq_self_eq_true _
     clear h1 e2
     walk_at "run"
     cases lY C [d,x] <;> rfl
   ·have q1:(h==[115,97,121])=false:=beq_eq_false_iff_ne.2 h1
    by_cases h2:h=[103,111]
    ·match l with
     | []=>refine Or.inl ?_; simp only [se,h1,h2,if_true,if_false]; rw [if_neg (by rw [<- h2]; exact h1)]
     | [x]=>refine Or.inl ?_; simp only [se,h1,h2,if_true,if_false]; rw [if_neg (by rw [<- h2]; exact h1)]
     | x::y::l=>
      refine Or.inr ?_
      have e2:se C [d,.tup (.str h::x::y::l)]=me C [d,x,y]:=by simp only [se]; rw [if_neg h1,if_pos h2]
      rw [e2]
      show aM (aW _ _ [some (.val d),some (.val (.tup (.str h::x::y::l)))])=_
      have x1:ixD (.tup (.str h::x::y::l)) (.int 1)=some x:=As (k:=1) rfl
      have x2:ixD (.tup (.str h::x::y::l)) (.int 2)=some y:=As (k:=2) rfl
      have q2:(h==[103,111])=true:=by rw [h2]; exact beq_self_eq_true _
      clear h1 h2 e2
      walk_at "run"
      cases me C [d,x,y] <;> rfl
    ·have q2:(h==[103,111])=false:=beq_eq_false_iff_ne.2 h2
     refine Or.inr ?_
     have e2:se C [d,.tup (.str h::l)]=iG [d]:=by simp only [se]; rw [if_neg h1,if_neg h2]
     rw [e2]
     show aM (aW _ _ [some (.val d),some (.val (.tup (.str h::l)))])=_
     clear h1 h2 e2
     walk_at "run"
     cases iG [d] <;> rfl
noncomputable def uC (Cs Co Cr:Addr):List D->R D
 | [d,o]=>if fo 4 d=true/\fo 3 o=true then (if cV d=true then (if bZ o=true then se Cr [d,o] else .ex Co) else .ex Cs) else .no
 | _=>.no
theorem AH {Cs Co Cr:Addr}:∀ ds:List D,ds.length=2->(uC Cs Co Cr) ds=.no\/aM (jI (dP Cs) (fG Co) (se Cr) (aL 2 ds))=(uC Cs Co Cr) ds:=by
 have c1:True:=trivial
 have c2:True:=trivial
 have c3:True:=trivial
 have r1:True:=trivial
 have k1:True:=trivial
 have k3:True:=trivial
 intro ds hl
 unfold jI wB xa xq
 match ds,hl with
 | [d,o],_=>
  by_cases hg:fo 4 d=true/\fo 3 o=true
  ·refine Or.inr ?_
   have e2:uC Cs Co Cr [d,o]=if cV d=true then (if bZ o=true then se Cr [d,o] else .ex Co) else .ex Cs:=if_pos hg
   rw [e2]
   show aM (aW _ _ [some (.val d),some (.val o)])=_
   have s1:dP Cs [d]=if cV d=true then .ok .non else .ex Cs:=if_pos (wb hg.1)
   have s2:fG Co [o]=if bZ o=true then .ok .non else .ex Co:=if_pos hg.2
   clear hl c1 c2 c3 e2 hg
   cases h1:cV d with
   | false=>
    rw [h1] at s1
    walk_at "run"
   | true=>
    rw [h1] at s1
    cases h2:bZ o with
    | false=>
     rw [h2] at s2
     walk_at "run"
    | true=>
     rw [h2] at s2
     walk_at "run"
     cases se Cr [d,o] <;> rfl
  ·exact Or.inl (if_neg hg)
noncomputable def BL:List D->Bool
 | [b]=>zO b && DJ b
 | _=>false
noncomputable def goT:List D->Bool
 | [b,c]=>inB b 0 11 && inB c 0 40
 | _=>false
theorem Ad (l:List D):bZ (.tup (.str ([115,97,121])::l))=BL l:=by
 have h1:(([115,97,121])==[103,111])=false:=by decide
 have h2:(([115,97,121])==[119,105,112,101])=false:=by decide
 match l with
 | []=>simp [bZ,gh,mr,eK,BL,h2]
 | [b]=>rw [bZ,wH]; simp [isX,mr,eK,BL]
 | [b,c]=>simp [bZ,gh,mr,eK,BL,h1]
 | b::c::d::l=>simp [bZ,gh,mr,eK,BL]
theorem Du (l:List D):bZ (.tup (.str ([103,111])::l))=goT l:=by
 have h1:(([103,111])==[115,97,121])=false:=by decide
 have h2:(([103,111])==[119,105,112,101])=false:=by decide
 match l with
 | []=>simp [bZ,gh,mr,eK,goT,h2]
 | [b]=>rw [bZ,wH]; simp [isX,mr,eK,goT,h1]
 | [b,c]=>simp [bZ,gh,mr,eK,goT]
 | b::c::d::l=>simp [bZ,gh,mr,eK,goT]
end Q
namespace Q
open L2
open PySem (sizeLine Addr)
noncomputable def fJ (aS:List D->R D) (ag:Addr):Ev->O:=(oIf (gBn (aP kf (aP (iI (·=="list")) (fun ρ=>rdV ρ 0)))) (aW (fk ag (ac (fun _=>R.ok (D.str [116,104,105,115,32,105,115,32,110,111,32,108,105,115,116,32,111,102,32,111,114,100,101,114,115])) (fun _=>R.ok []))) oNx) oNx)
noncomputable def bE (aS:List D->R D) (ag:Addr):Ev->O:=(aW (kP (bh 1 aS (ac (fun ρ=>rdV ρ 1) (fun _=>R.ok [])))) oNx)
noncomputable def fM (aS:List D->R D) (ag:Addr):Ev->O:=(Eb (vt 1) (aP dH (fun ρ=>rdV ρ 0)) (bE aS ag))
noncomputable def dg (aS:List D->R D) (ag:Addr):Ev->O:=(aW (fJ aS ag) (aW (fM aS ag) oNx))
noncomputable def gU:Ev->O:=(oIf (gB2 eqF (g2 ixD (fun ρ=>rdV ρ 0) (fun _=>R.ok (D.int 0))) (fun _=>R.ok (D.str [115,97,121]))) (aW (cw (gOf gm (ac (g2 ixD (fun ρ=>rdV ρ 0) (fun _=>R.ok (D.int 1))) (fun _=>R.ok [])))) oNx) oNx)
noncomputable def ir:Ev->O:=(oIf (gB2 eqF (g2 ixD (fun ρ=>rdV ρ 0) (fun _=>R.ok (D.int 0))) (fun _=>R.ok (D.str [103,111]))) (aW (cw (fun _=>R.ok (D.int 2))) oNx) oNx)
noncomputable def hX:Ev->O:=(cw (fun _=>R.ok (D.int 1)))
noncomputable def eD:Ev->O:=(aW gU (aW ir (aW hX oNx)))
noncomputable def wY (bt aZ:List D->R D):Ev->O:=(kP (bh 1 bt (ac (fun ρ=>rdV ρ 0) (fun _=>R.ok []))))
noncomputable def xm (bt aZ:List D->R D):Ev->O:=(cw (gOf BM (ac (bA (im (aP dH (fun ρ=>rdV ρ 0)) [] (fun _=>R.ok true) (bh 1 aZ (ac (fun ρ=>rdV ρ 0) (fun _=>R.ok []))))) (fun _=>R.ok []))))
noncomputable def nv (bt aZ:List D->R D):Ev->O:=(aW (wY bt aZ) (aW (xm bt aZ) oNx))
inductive Od where
 | say (x:List Nat)
 | go (r c:Nat)
 | wipe
noncomputable def oD:Od->D
 | .say x=>.tup [.str [115,97,121],.str x]
 | .go r c=>.tup [.str [103,111],.int (r:Int),.int (c:Int)]
 | .wipe=>.tup [.str [119,105,112,101]]
noncomputable def okO:Od->Bool
 | .say x=>plain x && (decide (1<=x.length) && decide (x.length<=40))
 | .go r c=>decide (r<=11) && decide (c<=40)
 | .wipe=>true
noncomputable def odD:D->Option Od
 | .tup [.str h,.str x]=>if h=[115,97,121] then some (.say x) else none
 | .tup [.str h,.int r,.int c]=>if h=[103,111]/\0<=r/\0<=c then some (.go r.toNat c.toNat) else none
 | .tup [.str h]=>if h=[119,105,112,101] then some .wipe else none
 | _=>none
theorem tz (o:Od):odD (oD o)=some o:=by
 cases o <;> simp [oD,odD]
theorem Cz {o:Od} (h:odD d=some o):d=oD o:=by
 unfold odD at h
 split at h
 ·split at h
  ·rename_i e; cases h; subst e; rfl
  ·cases h
 ·split at h
  ·rename_i e
   cases h
   obtain ⟨rfl,e1,e2⟩:=e
   simp only [oD]
   rw [Int.toNat_of_nonneg e1,Int.toNat_of_nonneg e2]
  ·cases h
 ·split at h
  ·rename_i e; cases h; subst e; rfl
  ·cases h
 ·cases h
noncomputable def D3:List D->Option (List Od)
 | []=>some []
 | d::ds=>(odD d).bind fun o=>(D3 ds).map (o::·)
theorem tD:∀ os:List Od,D3 (os.map oD)=some os
 | []=>rfl
 | o::os=>by simp [D3,tz,tD os]
theorem yA (o:Od):bZ (oD o)=okO o:=by
 cases o with
 | say x=>simp only [oD]; rw [Ad]; simp [BL,zO,DJ,okO]
 | go r c=>
  simp only [oD]; rw [Du]
  simp only [goT,inB,okO]
  have a1:decide ((0:Int)<=(r:Int))=true:=by simp
  have a2:decide ((0:Int)<=(c:Int))=true:=by simp
  have a3:decide ((r:Int)<=11)=decide (r<=11):=by by_cases h:r<=11 <;> simp [h] <;> omega
  have a4:decide ((c:Int)<=40)=decide (c<=40):=by by_cases h:c<=40 <;> simp [h] <;> omega
  rw [a1,a2,a3,a4,Bool.true_and,Bool.true_and]
 | wipe=>decide
theorem EB {o:D} (h:mr o=true):∃ n c:Nat,o=.tup [.str [103,111],.int (n:Int),.int (c:Int)]:=by
 unfold mr at h
 split at h
 ·rename_i x b c
  simp only [Bool.and_eq_true,beq_iff_eq] at h
  obtain ⟨rfl,h1,h2⟩:=h
  cases b <;> first | (cases h1; done) | skip
  cases c <;> first | (cases h2; done) | skip
  rename_i i j
  simp only [inB,Bool.and_eq_true,decide_eq_true_eq] at h1 h2
  obtain ⟨i,rfl⟩:=Int.eq_ofNat_of_zero_le h1.1
  obtain ⟨j,rfl⟩:=Int.eq_ofNat_of_zero_le h2.1
  exact ⟨i,j,rfl⟩
 ·cases h
theorem yx (h:bZ d=true):∃ o,d=oD o:=by
 unfold bZ at h
 rcases Bool.or_eq_true_iff.mp h with h | h
 ·unfold gh at h
  split at h
  ·simp only [Bool.and_eq_true,beq_iff_eq] at h
   obtain ⟨rfl,_⟩:=h
   exact ⟨.say _,rfl⟩
  ·cases h
 ·rcases Bool.or_eq_true_iff.mp h with h | h
  ·obtain ⟨n,c,rfl⟩:=EB h
   exact ⟨.go n c,rfl⟩
  ·unfold eK at h
   split at h
   ·rw [beq_iff_eq] at h; subst h; exact ⟨.wipe,rfl⟩
   ·cases h
theorem vA:∀ {ds:List D},ds.all bZ=true->∃ os:List Od,ds=os.map oD/\∀ o ∈ os,okO o=true
 | [],_=>⟨[],rfl,fun _ h=>by cases h⟩
 | d::ds,h=>by
  rw [List.all_cons,Bool.and_eq_true] at h
  obtain ⟨o,rfl⟩:=yx h.1
  obtain ⟨os,rfl,hh⟩:=vA h.2
  have h1:=h.1
  rw [yA] at h1
  refine ⟨o::os,rfl,fun x hx=>?_⟩
  rcases List.mem_cons.1 hx with rfl | hx
  ·exact h1
  ·exact hh x hx
noncomputable def tgD:D->Bool
 | .exc _=>false
 | .lst _ ds=>ds.all (fo 3) && decide (ds.length<=1000)
 | _=>true
noncomputable def uH:D->Bool
 | .lst _ ds=>ds.all bZ
 | _=>false
theorem zX {g:Ev->O} {ρ1 ρ2:Ev} (h1:asg d ρ=.ok ρ1) (h2:g ρ1=.ex C ρ2):fv asg g (d::ds) ρ=.ex C ρ2:=by
 simp only [fv,h1,R.ok_out,h2]
noncomputable def lsD:D->List D
 | .lst _ ds=>ds
 | _=>[]
noncomputable def BU (C:Addr):List D->R D
 | [t]=>if tgD t=true then (if uH t=true then .ok .non else .ex C) else .no
 | _=>.no
theorem tJ {C:Addr} (x0:Option Sl):∀ (ds:List D) (x1:Option Sl),ds.all (fo 3)=true->(ds.all bZ=true->∃ y1,fv (vt 1) (bE (fG C) C) ds [x0,x1]=.nx [x0,y1])/\(ds.all bZ=false->∃ ρ,fv (vt 1) (bE (fG C) C) ds [x0,x1]=.ex C ρ)
 | [],x1,_=>⟨fun _=>⟨x1,rfl⟩,fun h=>by cases h⟩
 | d::ds,x1,h=>by
  rw [List.all_cons,Bool.and_eq_true] at h
  have e1:fG C [d]=if bZ d=true then .ok .non else .ex C:=if_pos h.1
  obtain ⟨i1,i2⟩:=tJ (C:=C) x0 ds (some (.val d)) h.2
  cases hd:bZ d with
  | true=>
   rw [hd,if_pos rfl] at e1
   have hB:bE (fG C) C [x0,some (.val d)]=.nx [x0,some (.val d)]:=by
    unfold bE
    clear h hd i1 i2
    walk_at "run"
   refine ⟨fun ha=>?_,fun ha=>?_⟩
   ·rw [List.all_cons,hd,Bool.true_and] at ha
    obtain ⟨y,hy⟩:=i1 ha
    exact ⟨y,by rw [sQ (ρ1:=[x0,some (.val d)]) rfl hB,hy]⟩
   ·rw [List.all_cons,hd,Bool.true_and] at ha
    obtain ⟨y,hy⟩:=i2 ha
    exact ⟨y,by rw [sQ (ρ1:=[x0,some (.val d)]) rfl hB,hy]⟩
  | false=>
   rw [hd,if_neg (by decide)] at e1
   have hB:bE (fG C) C [x0,some (.val d)]=.ex C [x0,some (.val d)]:=by
    unfold bE
    clear h hd i1 i2
    walk_at "run"
   refine ⟨fun ha=>?_,fun _=>⟨[x0,some (.val d)],?_⟩⟩
   ·rw [List.all_cons,hd,Bool.false_and] at ha; cases ha
   ·exact zX (ρ1:=[x0,some (.val d)]) rfl hB
theorem kY:∀ ds:List D,ds.length=1->BU C ds=.no\/aM (dg (fG C) C (aL 2 ds))=BU C ds:=by
 intro ds hl
 match ds,hl with
 | [t],_=>
  by_cases hd:tgD t=true
  ·refine Or.inr ?_
   have e0:BU C [t]=if uH t=true then .ok .non else .ex C:=if_pos hd
   rw [e0]
   show aM (aW _ _ [some (.val t),none])=_
   unfold fJ fM
   have tb:∀ b:Bool,kf (.bl b)=.ok b:=fun _=>rfl
   cases t <;> first | (cases hd; done) | rfl | skip
   rename_i f ts hl2
   simp only [tgD,Bool.and_eq_true,decide_eq_true_eq] at hd
   have y1:iI (fun x=>x=="list") (.lst f ts)=.ok (.bl true):=rfl
   have il:dH (.lst f ts)=.ok ts:=rfl
   have eo:uH (.lst f ts)=ts.all bZ:=rfl
   rw [eo]
   obtain ⟨i1,i2⟩:=tJ (C:=C) (some (.val (.lst f ts))) ts none hd.1
   cases ha:ts.all bZ with
   | true=>
    obtain ⟨y,hy⟩:=i1 ha
    rw [if_pos rfl]
    clear hl hl2 e0 hd i1 i2 ha eo
    walk_at "run"
   | false=>
    obtain ⟨y,hy⟩:=i2 ha
    rw [if_neg (by decide)]
    clear hl hl2 e0 hd i1 i2 ha eo
    walk_at "run"
  ·exact Or.inl (if_neg hd)
noncomputable def gq:Od->Nat
 | .say x=>x.length
 | .go _ _=>2
 | .wipe=>1
noncomputable def ocF:List D->R D
 | [d]=>match odD d with
  | some o=>.ok (.int (gq o:Int))
  | none=>.no
 | _=>.no
theorem ou:∀ ds:List D,ds.length=1->ocF ds=.no\/aM (eD (aL 1 ds))=ocF ds:=by
 intro ds hl
 match ds,hl with
 | [d],_=>
  cases q:odD d with
  | none=>exact Or.inl (by simp only [ocF,q])
  | some o=>
   refine Or.inr ?_
   have e0:ocF [d]=.ok (.int (gq o:Int)):=by simp only [ocF,q]
   rw [e0]
   have:=Cz q
   subst this
   show aM (aW _ _ [some (.val (oD o))])=_
   unfold gU ir hX
   clear q e0 hl
   cases o <;> rfl
noncomputable def coF (C:Addr):List D->R D
 | [t]=>if tgD t=true then (if uH t=true then (match D3 (lsD t) with
   | some os=>.ok (.int ((os.map gq).sum:Nat))
   | none=>.no) else .ex C) else .no
 | _=>.no
theorem Bi:∀ ds:List D,ds.length=1->coF C ds=.no\/aM (nv (BU C) ocF (aL 1 ds))=coF C ds:=by
 intro ds hl
 match ds,hl with
 | [t],_=>
  by_cases hd:tgD t=true
  ·refine Or.inr ?_
   have s2:BU C [t]=if uH t=true then .ok .non else .ex C:=if_pos hd
   show aM (aW _ _ [some (.val t)])=_
   unfold wY xm
   by_cases h2:uH t=true
   ·rw [if_pos h2] at s2
    cases t <;> first | (cases h2; done) | skip
    rename_i f ts hl2
    obtain ⟨os,rfl,hok⟩:=vA (ds:=ts) h2
    have e0:coF C [.lst f (os.map oD)]=.ok (.int ((os.map gq).sum:Nat)):=by
     show (if _ then (if _ then _ else _) else _)=_
     rw [if_pos hd,if_pos h2]
     show (match D3 (os.map oD) with | some os=>R.ok (D.int ((os.map gq).sum:Nat)) | none=>.no)=_
     rw [tD]
    rw [e0]
    have il:dH (.lst f (os.map oD))=.ok (os.map oD):=rfl
    have hn:os.length<=1000:=by
     simp only [tgD,Bool.and_eq_true,decide_eq_true_eq,List.length_map] at hd; exact hd.2
    have e:jD (fun _=>R.ok true) (bh 1 ocF (ac (fun ρ=>rdV ρ 0) (fun _=>R.ok []))) (os.map oD) [none]=.ok (os.map fun o=>.int (gq o:Int)):=by
     have:=lh (gt:=fun _=>R.ok true) (ge:=bh 1 ocF (ac (fun ρ=>rdV ρ 0) (fun _=>R.ok []))) (fun d=>match odD d with | some o=>.int (gq o:Int) | none=>.non) [] (os.map oD) none fun d hd=>⟨rfl,by
      obtain ⟨o,_,rfl⟩:=List.mem_map.1 hd
      have e1:ocF [oD o]=.ok (.int (gq o:Int)):=by simp only [ocF,tz]
      rw [tz]
      clear hd hl hl2 h2 hok s2 e0 il hn
      walk_at "run"⟩
     rw [this,List.map_map]
     refine congrArg R.ok (List.map_congr_left fun o _=>?_)
     show (match odD (oD o) with | some o=>D.int (gq o:Int) | none=>.non)=_
     rw [tz]
    have z:(os.map fun o=>D.int (gq o:Int)).length<=sizeLine:=by have:=cR; simp; omega
    have sm:BM [.lst false (os.map fun o=>D.int (gq o:Int))]=some (.int ((os.map gq).sum:Nat)):=by
     have key:∀ l:List Od,nH (l.map fun o=>D.int (gq o:Int))=some (l.map fun o=>(gq o:Int)):=by
      intro l
      induction l with
      | nil=>rfl
      | cons o l ih=>rw [List.map_cons,nH,ih]; rfl
     have key2:∀ l:List Od,(l.map fun o=>(gq o:Int)).sum=((l.map gq).sum:Nat):=by
      intro l
      induction l with
      | nil=>rfl
      | cons o l ih=>rw [List.map_cons,List.sum_cons,ih,List.map_cons,List.sum_cons,Int.natCast_add]
     simp only [BM,key,Option.map_some,key2]
    have i0:∀ x:Option Sl,lF [] [x]=[none]:=fun _=>rfl
    clear hl hl2 e0 hd h2 hok hn
    walk_at "run"
   ·rw [if_neg h2] at s2
    have e0:coF C [t]=.ex C:=by
     show (if _ then (if _ then _ else _) else _)=_
     rw [if_pos hd,if_neg h2]
    rw [e0]
    clear hl e0 hd h2
    walk_at "run"
  ·exact Or.inl (if_neg hd)
end Q
namespace Q
open L2
open PySem (sizeLine Addr)
noncomputable def gJ (al:Addr) (ai:List D->R D):Ev->O:=(kP (bh 1 ai (ac (fun ρ=>rdV ρ 1) (fun _=>R.ok []))))
noncomputable def li (al:Addr) (ai:List D->R D):Ev->O:=(wF al 0 0 (gS (ac (aP mkT (ac (fun _=>R.ok (D.str [109,97,100,101])) (ac (fun ρ=>rdV ρ 1) (ac (fun _=>R.ok (D.int 0)) (fun _=>R.ok []))))) (fun _=>R.ok []))))
noncomputable def jU (al:Addr) (ai:List D->R D):Ev->O:=(wF al 0 1 (gS (fun _=>R.ok [])))
noncomputable def ji (al:Addr) (ai:List D->R D):Ev->O:=(aW (gJ al ai) (aW (li al ai) (aW (jU al ai) oNx)))
noncomputable def je (al:Addr):Ev->O:=(cw (g2 ixD (tW al 0 0 (aP yw (fun _=>R.ok (D.int 1)))) (fun _=>R.ok (D.int 1))))
noncomputable def iv (al:Addr):Ev->O:=(aW (je al) oNx)
noncomputable def jl (al:Addr):Ev->O:=(cw (g2 ixD (tW al 0 0 (aP yw (fun _=>R.ok (D.int 1)))) (fun _=>R.ok (D.int 2))))
noncomputable def ie (al:Addr):Ev->O:=(aW (jl al) oNx)
noncomputable def gH (al:Addr) (aj:MF):Ev->O:=(wU al 0 0 (aP mkT (ac (fun ρ=>rdV ρ 1) (ac (fun ρ=>rdV ρ 2) (ac (g2 eE (ci al 0 aj) (fun ρ=>rdV ρ 3)) (fun _=>R.ok []))))))
noncomputable def gF (al:Addr) (aj:MF):Ev->O:=(wF al 0 1 (gS (fun _=>R.ok [])))
noncomputable def fy (al:Addr) (aj:MF):Ev->O:=(aW (gH al aj) (aW (gF al aj) oNx))
noncomputable def jZ (al:Addr) (af aK aj:MF) (gI aZ:List D->R D):Ev->O:=(iH 2 (bh 2 gI (ac (ci al 0 af) (ac (fun ρ=>rdV ρ 1) (fun _=>R.ok [])))))
noncomputable def qA (al:Addr) (af aK aj:MF) (gI aZ:List D->R D):Ev->O:=(qT al 0 3 aK (ac (fun _=>R.ok (D.str [100,111])) (ac (fun ρ=>rdV ρ 2) (ac (bh 1 aZ (ac (fun ρ=>rdV ρ 1) (fun _=>R.ok []))) (fun _=>R.ok [])))))
noncomputable def pA (al:Addr) (af aK aj:MF) (gI aZ:List D->R D):Ev->O:=(vn (ci al 0 aj))
noncomputable def mz (al:Addr) (af aK aj:MF) (gI aZ:List D->R D):Ev->O:=(aW (jZ al af aK aj gI aZ) (aW (qA al af aK aj gI aZ) (aW (pA al af aK aj gI aZ) oNx)))
noncomputable def gL (al ao:Addr):Ev->O:=(oIf (gB2 eqF (iW al 0 0) (fun _=>R.ok (D.int 1))) (aW (fk ao (ac (fun _=>R.ok (D.str [116,104,101,114,101,32,105,115,32,110,111,32,115,116,101,112,32,116,104,97,116,32,99,97,110,32,98,101,32,116,97,107,101,110,32,98,97,99,107])) (fun _=>R.ok []))) oNx) oNx)
noncomputable def kG (al ao:Addr):Ev->O:=(qP al 0 0 1)
noncomputable def kZ (al ao:Addr):Ev->O:=(wU al 0 1 (fun ρ=>rdV ρ 1))
noncomputable def lg (al ao:Addr):Ev->O:=(vn (g2 ixD (fun ρ=>rdV ρ 1) (fun _=>R.ok (D.int 0))))
noncomputable def jp (al ao:Addr):Ev->O:=(aW (gL al ao) (aW (kG al ao) (aW (kZ al ao) (aW (lg al ao) oNx))))
theorem dF {m:Bool} {fs:List (Nat × Fd)} (h:ρ[i]?=some (some (.obj m C p fs))):ly C ρ i=.ok fs:=by
 unfold ly; rw [h]; exact if_pos rfl
theorem iM {fs:List (Nat × Fd)} (h:ρ[i]?=some (some (.obj true C p fs))):nD C ρ i=.ok (p,fs):=by
 unfold nD; rw [h]; exact if_pos rfl
noncomputable def kU:List Nat:=[109,97,100,101]
noncomputable def wDo:List Nat:=[100,111]
noncomputable def bH (sts tk:List D):List (Nat × Fd):=[(0,.own sts),(1,.own tk)]
noncomputable def st3 (a b:D) (c:Int):D:=.tup [a,b,.int c]
noncomputable def xC:List (Nat × Fd)->Option (List D × List D)
 | [(0,.own a),(1,.own b)]=>some (a,b)
 | _=>none
theorem sR {fs:List (Nat × Fd)} {a b:List D} (h:xC fs=some (a,b)):fs=bH a b:=by
 unfold xC at h
 split at h
 ·cases h; rfl
 ·cases h
noncomputable def t3D:D->Option (D × D × Int)
 | .tup [a,b,.int c]=>some (a,b,c)
 | _=>none
theorem zk {a b:D} {c:Int} (h:t3D d=some (a,b,c)):d=st3 a b c:=by
 unfold t3D at h
 split at h
 ·cases h; rfl
 ·cases h
noncomputable def vb (sts:List D):Option (D × D × Int):=sts.getLast?.bind t3D
theorem yc {sts:List D} {a b:D} {c:Int} (h:vb sts=some (a,b,c)):∃ l,sts=l++[st3 a b c]:=by
 unfold vb at h
 cases q:sts.getLast? with
 | none=>rw [q] at h; cases h
 | some d=>
  rw [q] at h
  have e:=zk h
  subst e
  exact List.getLast?_eq_some_iff.1 q
theorem wG (l:List D) (a b:D) (c:Int):vb (l++[st3 a b c])=some (a,b,c):=by
 unfold vb; rw [List.getLast?_concat]; rfl
theorem wn (l:List D) (d:D):ixD (.lst false (l++[d])) (.int (-1))=some d:=by
 show atI (l++[d]) (-1)=some d
 have e:ixN (l++[d]).length (-1)=some l.length:=by
  unfold ixN
  rw [if_neg (by decide),if_pos (by simp; omega)]
  simp
  omega
 unfold atI
 rw [e]
 simp
section
variable {Cs Co Cr Cb Cp:Addr}
noncomputable def eW (Cs:Addr):MF:=fun fs ds=>match fs,ds with
 | [],[d]=>(match dP Cs [d] with
  | .ok _=>.ok .non (bH [st3 (.str kU) d 0] [])
  | .ex E=>.ex E
  | .no=>.no)
 | _,_=>.no
noncomputable def vp (k:List D->List D->D->D->Int->List D->RM):MF:=fun fs ds=>match xC fs with
 | none=>.no
 | some (sts,tk)=>(match vb sts with
  | none=>.no
  | some (a,b,c)=>k sts tk a b c ds)
noncomputable def bQ:MF:=vp fun _ _ _ b _ ds=>match ds with
 | []=>.rd b
 | _=>.no
noncomputable def bW:MF:=vp fun _ _ _ _ c ds=>match ds with
 | []=>.rd (.int c)
 | _=>.no
noncomputable def ox:MF:=vp fun sts _ _ _ c ds=>match ds with
 | [a,b,.int p]=>if sts.length < 1000 then .ok .non (bH (sts++[st3 a b (c+p)]) []) else .no
 | _=>.no
noncomputable def doM (Cs Co Cr:Addr):MF:=vp fun sts _ _ b c ds=>match ds with
 | [o]=>(match uC Cs Co Cr [b,o] with
  | .ok b'=>(match ocF [o] with
   | .ok (.int p)=>if sts.length < 1000 then .ok (.int (c+p)) (bH (sts++[st3 (.str wDo) b' (c+p)]) []) else .no
   | _=>.no)
  | .ex E=>.ex E
  | .no=>.no)
 | _=>.no
noncomputable def fP (Cb:Addr):MF:=vp fun sts tk a b c ds=>match ds with
 | []=>if sts.length=1 then .ex Cb else if tk.length < 1000 then .ok a (bH sts.dropLast (tk++[st3 a b c])) else .no
 | _=>.no
theorem fL (k:List D->List D->D->D->Int->List D->RM) (l tk:List D) (a b:D) (c:Int) (ds:List D):vp k (bH (l++[st3 a b c]) tk) ds=k (l++[st3 a b c]) tk a b c ds:=by
 unfold vp
 have e:xC (bH (l++[st3 a b c]) tk)=some (l++[st3 a b c],tk):=rfl
 rw [e]
 dsimp only
 rw [wG]
theorem gM {g:Ev->O} {k:List D->List D->D->D->Int->List D->RM} (h:∀ p l tk a b c ds,match k (l++[st3 a b c]) tk a b c ds with
 | .ok d fs'=>∃ ρ',ρ'[0]?=some (some (.obj true Cp p fs'))/\(g (di true Cp p (bH (l++[st3 a b c]) tk) n ds)=.re d ρ'\/(g (di true Cp p (bH (l++[st3 a b c]) tk) n ds)=.nx ρ'/\d=.non))
 | .rd d=>g (di false Cp p (bH (l++[st3 a b c]) tk) n ds)=.rt d
 | .ex E=>∃ ρ',g (di false Cp p (bH (l++[st3 a b c]) tk) n ds)=.ex E ρ'
 | .no=>True):bX Cp g n (vp k):=by
 intro p fs ds
 cases q:xC fs with
 | none=>simp only [vp,q]
 | some z=>
  obtain ⟨sts,tk⟩:=z
  have e:=sR q
  subst e
  cases q2:vb sts with
  | none=>simp only [vp,q,q2]
  | some z2=>
   obtain ⟨a,b,c⟩:=z2
   obtain ⟨l,rfl⟩:=yc q2
   have:=h p l tk a b c ds
   rw [fL]
   exact this
theorem fl0 (sts tk:List D):fldL (bH sts tk) 0=.ok sts:=rfl
theorem fl1 (sts tk:List D):fldL (bH sts tk) 1=.ok tk:=rfl
theorem pk0 (sts tk x:List D):lS 0 (.own x) (bH sts tk)=bH x tk:=rfl
theorem pk1 (sts tk x:List D):lS 1 (.own x) (bH sts tk)=bH sts x:=rfl
theorem zV:bX Cp (iv Cp) 1 bQ:=by
 refine gM fun p l tk a b c ds=>?_
 cases ds with
 | cons _ _=>trivial
 | nil=>
  have l1:=wn l (st3 a b c)
  have f0:=fl0 (l++[st3 a b c]) tk
  have o0:∀ r,ly Cp (some (.obj false Cp p (bH (l++[st3 a b c]) tk))::r) 0=.ok (bH (l++[st3 a b c]) tk):=fun r=>dF rfl
  have ng1:yw (.int 1)=.ok (.int (-1)):=rfl
  have i1:ixD (st3 a b c) (.int 1)=some b:=rfl
  show aW _ _ [some (.obj false Cp p (bH (l++[st3 a b c]) tk))]=_
  unfold je
  walk_at "run"
theorem An:bX Cp (ie Cp) 1 bW:=by
 refine gM fun p l tk a b c ds=>?_
 cases ds with
 | cons _ _=>trivial
 | nil=>
  have l1:=wn l (st3 a b c)
  have f0:=fl0 (l++[st3 a b c]) tk
  have o0:∀ r,ly Cp (some (.obj false Cp p (bH (l++[st3 a b c]) tk))::r) 0=.ok (bH (l++[st3 a b c]) tk):=fun r=>dF rfl
  have ng1:yw (.int 1)=.ok (.int (-1)):=rfl
  have i1:ixD (st3 a b c) (.int 2)=some (.int c):=rfl
  show aW _ _ [some (.obj false Cp p (bH (l++[st3 a b c]) tk))]=_
  unfold jl
  walk_at "run"
theorem CP {l:List D} (h:(l++[d]).length < 1000):(l++[d]).length < sizeLine:=Nat.lt_trans h (by decide)
theorem DR:bX Cp (fy Cp bW) 4 ox:=by
 refine gM fun p l tk a b c ds=>?_
 match ds with
 | []=>trivial
 | [_]=>trivial
 | [_,_]=>trivial
 | _::_::_::_::_=>simp
 | [x,y,z]=>
  cases z with
  | int pr=>
   dsimp only
   by_cases hl:(l++[st3 a b c]).length < 1000
   ·rw [if_pos hl]
    dsimp only
    have f0:=fl0 (l++[st3 a b c]) tk
    have lk:=CP hl
    have s1:bW (bH (l++[st3 a b c]) tk) []=.rd (.int c):=fL _ l tk a b c []
    have o0:∀ r,ly Cp (some (.obj true Cp p (bH (l++[st3 a b c]) tk))::r) 0=.ok (bH (l++[st3 a b c]) tk):=fun r=>dF rfl
    have o1:∀ r fs,nD Cp (some (.obj true Cp p fs)::r) 0=.ok (p,fs):=fun r fs=>iM rfl
    have mk3:∀ x y z,mkT [x,y,z]=.ok (.tup [x,y,z]):=fun _ _ _=>rfl
    have k0:=pk0 (l++[st3 a b c]) tk
    have k1:=pk1 (l++[st3 a b c]++[st3 x y (c+pr)]) tk
    have w:(bH (l++[st3 a b c]++[st3 x y (c+pr)]) tk).length < 900:=by show 2 < 900; decide
    have e3:D.tup [x,y,D.int (c+pr)]=st3 x y (c+pr):=rfl
    have z0:0<=sizeLine:=by decide
    have z3:3<=sizeLine:=by decide
    refine ⟨[some (.obj true Cp p (bH (l++[st3 a b c]++[st3 x y (c+pr)]) [])),some (.val x),some (.val y),some (.val (.int pr))],rfl,.inr ⟨?_,rfl⟩⟩
    show aW _ _ [some (.obj true Cp p (bH (l++[st3 a b c]) tk)),some (.val x),some (.val y),some (.val (.int pr))]=_
    unfold gH gF
    clear hl
    walk_at "run"
   ·rw [if_neg hl]; trivial
  | _=>trivial
theorem GU:bX Cp (mz Cp bQ ox bW (uC Cs Co Cr) ocF) 3 (doM Cs Co Cr):=by
 refine gM fun p l tk a b c ds=>?_
 match ds with
 | []=>trivial
 | _::_::_=>simp
 | [o]=>
  dsimp only
  have f0:=fl0 (l++[st3 a b c]) tk
  have s2:bQ (bH (l++[st3 a b c]) tk) []=.rd b:=fL _ l tk a b c []
  have o0:∀ m r,ly Cp (some (.obj m Cp p (bH (l++[st3 a b c]) tk))::r) 0=.ok (bH (l++[st3 a b c]) tk):=fun m r=>dF rfl
  cases hd:uC Cs Co Cr [b,o] with
  | no=>trivial
  | ex E=>
   dsimp only
   refine ⟨[some (.obj false Cp p (bH (l++[st3 a b c]) tk)),some (.val o),none],?_⟩
   show aW _ _ [some (.obj false Cp p (bH (l++[st3 a b c]) tk)),some (.val o),none]=_
   unfold jZ
   walk_at "run"
  | ok b'=>
   dsimp only
   cases ho:ocF [o] with
   | ex E=>trivial
   | no=>trivial
   | ok pd=>
    cases pd with
    | int pr=>
     dsimp only
     by_cases hl:(l++[st3 a b c]).length < 1000
     ·rw [if_pos hl]
      dsimp only
      have s1:bW (bH (l++[st3 a b c]++[st3 (.str wDo) b' (c+pr)]) []) []=.rd (.int (c+pr)):=fL _ (l++[st3 a b c]) [] (.str wDo) b' (c+pr) []
      have s3:ox (bH (l++[st3 a b c]) tk) [.str wDo,b',.int pr]=.ok .non (bH (l++[st3 a b c]++[st3 (.str wDo) b' (c+pr)]) []):=(fL _ l tk a b c _).trans (if_pos hl)
      have o1:∀ r fs,nD Cp (some (.obj true Cp p fs)::r) 0=.ok (p,fs):=fun r fs=>iM rfl
      have o2:∀ r,ly Cp (some (.obj true Cp p (bH (l++[st3 a b c]++[st3 (.str wDo) b' (c+pr)]) []))::r) 0=.ok (bH (l++[st3 a b c]++[st3 (.str wDo) b' (c+pr)]) []):=fun r=>dF rfl
      have wd:D.str [100,111]=.str wDo:=rfl
      refine ⟨[some (.obj true Cp p (bH (l++[st3 a b c]++[st3 (.str wDo) b' (c+pr)]) [])),some (.val o),some (.val b')],rfl,.inl ?_⟩
      show aW _ _ [some (.obj true Cp p (bH (l++[st3 a b c]) tk)),some (.val o),none]=_
      unfold jZ qA pA
      clear hl
      walk_at "run"
     ·rw [if_neg hl]; trivial
    | _=>trivial
theorem Dq:bX Cp (jp Cp Cb) 2 (fP Cb):=by
 refine gM fun p l tk a b c ds=>?_
 match ds with
 | _::_=>trivial
 | []=>
  dsimp only
  have f0:=fl0 (l++[st3 a b c]) tk
  have o0:∀ m r,ly Cp (some (.obj m Cp p (bH (l++[st3 a b c]) tk))::r) 0=.ok (bH (l++[st3 a b c]) tk):=fun m r=>dF rfl
  by_cases h1:(l++[st3 a b c]).length=1
  ·rw [if_pos h1]
   dsimp only
   refine ⟨[some (.obj false Cp p (bH (l++[st3 a b c]) tk)),none],?_⟩
   show aW _ _ [some (.obj false Cp p (bH (l++[st3 a b c]) tk)),none]=_
   have e1:D.int ((l++[st3 a b c]).length:Int)=.int 1:=by rw [h1]; rfl
   unfold gL
   clear h1
   walk_at "run"
  ·rw [if_neg h1]
   by_cases hl:tk.length < 1000
   ·rw [if_pos hl]
    dsimp only
    have e1:eqF (D.int ((l++[st3 a b c]).length:Int)) (.int 1)=some (.bl false):=by
     rw [Fl]; simp at h1 ⊢; intro z; exact h1 (List.length_eq_zero_iff.1 (by omega))
    have lk:tk.length < sizeLine:=Nat.lt_trans hl (by decide)
    have f1:∀ x,fldL (bH x tk) 1=.ok tk:=fun x=>rfl
    have o1:∀ r fs,nD Cp (some (.obj true Cp p fs)::r) 0=.ok (p,fs):=fun r fs=>iM rfl
    have pp:qP Cp 0 0 1 [some (.obj true Cp p (bH (l++[st3 a b c]) tk)),none]=.nx [some (.obj true Cp p (bH (l++[st3 a b c]).dropLast tk)),some (.val (st3 a b c))]:=by
     unfold qP
     rw [o1,R.ok_out]
     dsimp only
     rw [f0,R.ok_out,List.getLast?_concat]
     rfl
    have k1:∀ x y,lS 1 (.own y) (bH x tk)=bH x y:=fun x y=>rfl
    have ix0:ixD (st3 a b c) (.int 0)=some a:=rfl
    refine ⟨[some (.obj true Cp p (bH (l++[st3 a b c]).dropLast (tk++[st3 a b c]))),some (.val (st3 a b c))],rfl,.inl ?_⟩
    show aW _ _ [some (.obj true Cp p (bH (l++[st3 a b c]) tk)),none]=_
    unfold gL kG kZ lg
    generalize (l++[st3 a b c]).dropLast=dl at pp ⊢
    generalize hL:l++[st3 a b c]=L at *
    clear h1 hl hL
    walk_at "run"
   ·rw [if_neg hl]; trivial
theorem Dr:bX Cp (ji Cp (dP Cs)) 2 (eW Cs):=by
 intro p fs ds
 unfold eW
 match fs,ds with
 | [],[d]=>
  dsimp only
  cases hc:dP Cs [d] with
  | no=>trivial
  | ex E=>
   dsimp only
   refine ⟨[some (.obj false Cp p []),some (.val d)],?_⟩
   show aW _ _ [some (.obj false Cp p []),some (.val d)]=_
   unfold gJ
   walk_at "run"
  | ok x=>
   dsimp only
   have o1:∀ r fs,nD Cp (some (.obj true Cp p fs)::r) 0=.ok (p,fs):=fun r fs=>iM rfl
   have mk3:∀ x y z,mkT [x,y,z]=.ok (.tup [x,y,z]):=fun _ _ _=>rfl
   have z1:1<=sizeLine:=by decide
   have z0:0<=sizeLine:=by decide
   have w0:(0:Nat) < 900:=by decide
   have w1':(1:Nat) < 900:=by decide
   have k0:lS 0 (.own [.tup [.str [109,97,100,101],d,.int 0]]) []=[(0,Fd.own [st3 (.str kU) d 0])]:=rfl
   have w1:([(0,Fd.own [st3 (.str kU) d 0])]:List (Nat × Fd)).length < 900:=by show 1 < 900; decide
   have k1:lS 1 (.own []) [(0,Fd.own [st3 (.str kU) d 0])]=bH [st3 (.str kU) d 0] []:=rfl
   refine ⟨[some (.obj true Cp p (bH [st3 (.str kU) d 0] [])),some (.val d)],rfl,.inr ⟨?_,rfl⟩⟩
   show aW _ _ [some (.obj true Cp p []),some (.val d)]=_
   unfold gJ li jU
   walk_at "run"
 | [],[]=>trivial
 | [],_::_::_=>trivial
 | _::_,_=>trivial
end
end Q
namespace Q
open L2
open PySem (sizeLine Addr)
noncomputable abbrev St:=Nat × List (List Nat) × Nat × Nat
structure GS (s:St):Prop where
 w1:1<=s.1
 w2:s.1<=40
 m:s.2.1.length<=12
 r:s.2.2.1 < s.2.1.length
 c:s.2.2.2<=s.1
 l:∀ x ∈ s.2.1,x.length=s.1/\plain x=true
end Q
namespace Q
open L2
open PySem (sizeLine Addr)
end Q
namespace Q
open L2
open PySem (sizeLine Addr)
noncomputable def fA (al ao:Addr):Ev->O:=(oIf (gB2 eqF (iW al 0 1) (fun _=>R.ok (D.int 0))) (aW (fk ao (ac (fun _=>R.ok (D.str [116,104,101,114,101,32,105,115,32,110,111,32,115,116,101,112,32,116,104,97,116,32,99,97,110,32,98,101,32,100,111,110,101,32,97,103,97,105,110])) (fun _=>R.ok []))) oNx) oNx)
noncomputable def jr (al ao:Addr):Ev->O:=(qP al 0 1 1)
noncomputable def jv (al ao:Addr):Ev->O:=(wU al 0 0 (fun ρ=>rdV ρ 1))
noncomputable def jq (al ao:Addr):Ev->O:=(vn (g2 ixD (fun ρ=>rdV ρ 1) (fun _=>R.ok (D.int 0))))
noncomputable def gW (al ao:Addr):Ev->O:=(aW (fA al ao) (aW (jr al ao) (aW (jv al ao) (aW (jq al ao) oNx))))
noncomputable def hZ (al:Addr):Ev->O:=(cw (aP mkT (ac (g2 zA (iW al 0 0) (fun _=>R.ok (D.int 1))) (ac (iW al 0 1) (fun _=>R.ok [])))))
noncomputable def gz (al:Addr):Ev->O:=(aW (hZ al) oNx)
section
variable {Cb Cp:Addr}
noncomputable def cG (Cb:Addr):MF:=fun fs ds=>match xC fs,ds with
 | some (sts,tk),[]=>(match tk.getLast? with
  | none=>.ex Cb
  | some d=>(match t3D d with
   | none=>.no
   | some (a,b,c)=>if sts.length < 1000 then .ok a (bH (sts++[st3 a b c]) tk.dropLast) else .no))
 | _,_=>.no
theorem Bs:bX Cp (gW Cp Cb) 2 (cG Cb):=by
 intro p fs ds
 unfold cG
 cases q:xC fs with
 | none=>trivial
 | some z=>
  obtain ⟨sts,tk⟩:=z
  have e:=sR q
  subst e
  cases ds with
  | cons _ _=>trivial
  | nil=>
   dsimp only
   have f1:∀ x,fldL (bH x tk) 1=.ok tk:=fun x=>rfl
   have o0:∀ m r,ly Cp (some (.obj m Cp p (bH sts tk))::r) 0=.ok (bH sts tk):=fun m r=>dF rfl
   cases q2:tk.getLast? with
   | none=>
    dsimp only
    have e0:tk=[]:=List.getLast?_eq_none_iff.1 q2
    subst e0
    refine ⟨[some (.obj false Cp p (bH sts [])),none],?_⟩
    show aW _ _ [some (.obj false Cp p (bH sts [])),none]=_
    have e1:eqF (D.int (([]:List D).length:Int)) (.int 0)=some (.bl true):=rfl
    unfold fA
    clear q2 q
    walk_at "run"
    all_goals rfl
   | some d=>
    dsimp only
    cases q3:t3D d with
    | none=>trivial
    | some w=>
     obtain ⟨a,b,c⟩:=w
     have ed:=zk q3
     subst ed
     dsimp only
     by_cases hl:sts.length < 1000
     ·rw [if_pos hl]
      dsimp only
      obtain ⟨tk0,rfl⟩:=List.getLast?_eq_some_iff.1 q2
      have e1:eqF (D.int ((tk0++[st3 a b c]).length:Int)) (.int 0)=some (.bl false):=by
       rw [Fl]; simp; omega
      have lk:sts.length < sizeLine:=Nat.lt_trans hl (by decide)
      have o1:∀ r fs,nD Cp (some (.obj true Cp p fs)::r) 0=.ok (p,fs):=fun r fs=>iM rfl
      have pp:qP Cp 0 1 1 [some (.obj true Cp p (bH sts (tk0++[st3 a b c]))),none]=.nx [some (.obj true Cp p (bH sts (tk0++[st3 a b c]).dropLast)),some (.val (st3 a b c))]:=by
       unfold qP
       rw [o1,R.ok_out]
       dsimp only
       rw [f1,R.ok_out,List.getLast?_concat]
       rfl
      have fl0':∀ x,fldL (bH sts x) 0=.ok sts:=fun x=>rfl
      have k0:∀ x y,lS 0 (.own y) (bH sts x)=bH y x:=fun x y=>rfl
      have ix0:ixD (st3 a b c) (.int 0)=some a:=rfl
      refine ⟨[some (.obj true Cp p (bH (sts++[st3 a b c]) (tk0++[st3 a b c]).dropLast)),some (.val (st3 a b c))],rfl,.inl ?_⟩
      show aW _ _ [some (.obj true Cp p (bH sts (tk0++[st3 a b c]))),none]=_
      unfold fA jr jv jq
      generalize (tk0++[st3 a b c]).dropLast=dl at pp ⊢
      generalize hL:tk0++[st3 a b c]=L at *
      clear hl hL q2 q q3
      walk_at "run"
     ·rw [if_neg hl]; trivial
noncomputable def bR:MF:=fun fs ds=>match xC fs,ds with
 | some (sts,tk),[]=>.rd (.tup [.int ((sts.length:Int) - 1),.int (tk.length:Int)])
 | _,_=>.no
theorem zb:bX Cp (gz Cp) 1 bR:=by
 intro p fs ds
 unfold bR
 cases q:xC fs with
 | none=>trivial
 | some z=>
  obtain ⟨sts,tk⟩:=z
  have e:=sR q
  subst e
  cases ds with
  | cons _ _=>trivial
  | nil=>
   dsimp only
   have f0:=fl0 sts tk
   have f1:=fl1 sts tk
   have o0:∀ m r,ly Cp (some (.obj m Cp p (bH sts tk))::r) 0=.ok (bH sts tk):=fun m r=>dF rfl
   have mk2:∀ x y,mkT [x,y]=.ok (.tup [x,y]):=fun _ _=>rfl
   show aW _ _ [some (.obj false Cp p (bH sts tk))]=_
   unfold hZ
   clear q
   walk_at "run"
end
end Q
namespace Q77
open L2 Q
open PySem (sizeLine Addr)
noncomputable def oa (al:Addr) (aK af:MF) (dC:List D->R D):Ev->O:=(vI (dJ al 0 3 aK (ac (fun _=>R.ok (D.str [115,99,114,111,108,108])) (ac (bh 2 dC (ac (ci al 0 af) (ac (fun ρ=>rdV ρ 1) (fun _=>R.ok [])))) (ac (fun _=>R.ok (D.int 0)) (fun _=>R.ok []))))))
noncomputable def gB (al:Addr) (aK af:MF) (dC:List D->R D):Ev->O:=(aW (oa al aK af dC) oNx)
noncomputable def rO (ai aX:List D->R D):Ev->O:=(kP (bh 1 ai (ac (fun ρ=>rdV ρ 0) (fun _=>R.ok []))))
noncomputable def sD (ai aX:List D->R D):Ev->O:=(oIf (oB (gBn (aP kf (aP (iI (·=="list")) (fun ρ=>rdV ρ 1)))) (gB2 gtD (gOf gm (ac (fun ρ=>rdV ρ 1) (fun _=>R.ok []))) (gOf gm (ac (g2 ixD (fun ρ=>rdV ρ 0) (fun _=>R.ok (D.int 1))) (fun _=>R.ok []))))) (aW (cw (fun _=>R.ok (D.bl false))) oNx) oNx)
noncomputable def si (ai aX:List D->R D):Ev->O:=(cw (gOf Ar (ac (bA (im (aP dH (fun ρ=>rdV ρ 1)) [0] (fun _=>R.ok true) (oz (bh 1 aX (ac (fun ρ=>rdV ρ 0) (fun _=>R.ok []))) (g2 leD (gOf gm (ac (fun ρ=>rdV ρ 0) (fun _=>R.ok []))) (g2 ixD (fun ρ=>rdV ρ 1) (fun _=>R.ok (D.int 0))))))) (fun _=>R.ok []))))
noncomputable def dW (ai aX:List D->R D):Ev->O:=(aW (rO ai aX) (aW (sD ai aX) (aW (si ai aX) oNx)))
noncomputable def nh (cJ:List D->R D) (ad:Addr):Ev->O:=(oIf (gBn (aP kf (bh 2 cJ (ac (fun ρ=>rdV ρ 0) (ac (fun ρ=>rdV ρ 1) (fun _=>R.ok [])))))) (aW (fk ad (ac (fun _=>R.ok (D.str [116,104,101,115,101,32,97,114,101,32,110,111,32,114,111,119,115,32,116,104,97,116,32,116,104,101,32,115,99,114,101,101,110,32,99,97,110,32,115,104,111,119])) (fun _=>R.ok []))) oNx) oNx)
noncomputable def cP (cJ:List D->R D) (ad:Addr):Ev->O:=(aW (nh cJ ad) oNx)
noncomputable def qF:Ev->O:=(iH 2 (g2 ixD (fun ρ=>rdV ρ 0) (fun _=>R.ok (D.int 0))))
noncomputable def qw:Ev->O:=(iH 3 (g2 zA (gOf gm (ac (g2 ixD (fun ρ=>rdV ρ 0) (fun _=>R.ok (D.int 1))) (fun _=>R.ok []))) (gOf gm (ac (fun ρ=>rdV ρ 1) (fun _=>R.ok [])))))
noncomputable def oQ:Ev->O:=(cw (g2 eE (bA (im (aP dH (fun ρ=>rdV ρ 1)) [2] (fun _=>R.ok true) (ma "str" lA (fun ρ=>rdV ρ 0) (ac (fun ρ=>rdV ρ 1) (fun _=>R.ok []))))) (g2 lB (bA (gS (ac (g2 lB (fun _=>R.ok (D.str [32])) (fun ρ=>rdV ρ 2)) (fun _=>R.ok [])))) (fun ρ=>rdV ρ 3))))
noncomputable def dn:Ev->O:=(aW qF (aW qw (aW oQ oNx)))
noncomputable def yd (bT:List D->R D):Ev->O:=(kP (bh 2 bT (ac (fun ρ=>rdV ρ 0) (ac (fun ρ=>rdV ρ 1) (fun _=>R.ok [])))))
noncomputable def ij (bT:List D->R D):Ev->O:=(aW (yd bT) oNo)
noncomputable def nY (gQ kn:List D->R D):Ev->O:=(cw (bh 1 kn (ac (bh 2 gQ (ac (fun ρ=>rdV ρ 0) (ac (fun ρ=>rdV ρ 1) (fun _=>R.ok [])))) (fun _=>R.ok []))))
noncomputable def cO (gQ kn:List D->R D):Ev->O:=(aW (nY gQ kn) oNx)
noncomputable def jo (al:Addr) (af aK:MF) (bp bv:List D->R D):Ev->O:=(iH 2 (ci al 0 af))
noncomputable def jc (al:Addr) (af aK:MF) (bp bv:List D->R D):Ev->O:=(iH 3 (bh 2 bp (ac (fun ρ=>rdV ρ 2) (ac (fun ρ=>rdV ρ 1) (fun _=>R.ok [])))))
noncomputable def qI (al:Addr) (af aK:MF) (bp bv:List D->R D):Ev->O:=(qT al 0 3 aK (ac (fun _=>R.ok (D.str [98,114,105,110,103])) (ac (aP mkT (ac (g2 ixD (fun ρ=>rdV ρ 2) (fun _=>R.ok (D.int 0))) (ac (gOf pK (ac (bh 2 bv (ac (fun ρ=>rdV ρ 2) (ac (fun ρ=>rdV ρ 1) (fun _=>R.ok [])))) (fun _=>R.ok []))) (ac (g2 ixD (fun ρ=>rdV ρ 2) (fun _=>R.ok (D.int 2))) (fun _=>R.ok []))))) (ac (fun ρ=>rdV ρ 3) (fun _=>R.ok [])))))
noncomputable def qc (al:Addr) (af aK:MF) (bp bv:List D->R D):Ev->O:=(vn (fun ρ=>rdV ρ 3))
noncomputable def iC (al:Addr) (af aK:MF) (bp bv:List D->R D):Ev->O:=(aW (jo al af aK bp bv) (aW (jc al af aK bp bv) (aW (qI al af aK bp bv) (aW (qc al af aK bp bv) oNx))))
noncomputable def qy:Ev->O:=(cw (yI [(aP AK (fun ρ=>rdV ρ 0)),(fun _=>R.ok (D.str [32])),(aP AK (fun ρ=>rdV ρ 1))]))
noncomputable def dv:Ev->O:=(aW qy oNx)
noncomputable def lR (ai bD:List D->R D):Ev->O:=(kP (bh 1 ai (ac (fun ρ=>rdV ρ 0) (fun _=>R.ok []))))
noncomputable def lH (ai bD:List D->R D):Ev->O:=(xA 1 (im (aP dH (g2 ixD (fun ρ=>rdV ρ 0) (fun _=>R.ok (D.int 1)))) [] (fun _=>R.ok true) (yI [(fun _=>R.ok (D.str [124])),(aP AK (fun ρ=>rdV ρ 0)),(fun _=>R.ok (D.str [124,10]))])))
noncomputable def lI (ai bD:List D->R D):Ev->O:=(cw (g2 eE (g2 eE (ma "str" xB (fun _=>R.ok (D.str [])) (ac (fun ρ=>rdV ρ 1) (fun _=>R.ok []))) (bh 2 bD (ac (g2 ixD (g2 ixD (fun ρ=>rdV ρ 0) (fun _=>R.ok (D.int 2))) (fun _=>R.ok (D.int 0))) (ac (g2 ixD (g2 ixD (fun ρ=>rdV ρ 0) (fun _=>R.ok (D.int 2))) (fun _=>R.ok (D.int 1))) (fun _=>R.ok []))))) (fun _=>R.ok (D.str [10]))))
noncomputable def cC (ai bD:List D->R D):Ev->O:=(aW (lR ai bD) (aW (lH ai bD) (BJ 1 (aW (lI ai bD) oNx))))
noncomputable def vM (al:Addr) (aI aq:MF) (aE au:MF) (aj af:MF) (az aA aD:MF) (aw:R D->R D) (ax ak:List D->R D):Ev->O:=(xA 1 (gS (ac (fun _=>R.ok D.non) (ac (aP mkT (fun _=>R.ok [])) (ac (aP mkT (ac (fun _=>R.ok (D.int 0)) (ac (aP mkT (ac (fun _=>R.ok (D.str [])) (fun _=>R.ok []))) (ac (aP mkT (ac (fun _=>R.ok (D.int 0)) (ac (fun _=>R.ok (D.int 0)) (fun _=>R.ok [])))) (fun _=>R.ok []))))) (ac (aP mkT (ac (fun _=>R.ok (D.int 2)) (ac (aP mkT (ac (fun _=>R.ok (D.str [97])) (fun _=>R.ok []))) (ac (aP mkT (ac (fun _=>R.ok (D.int 0)) (ac (fun _=>R.ok (D.int 0)) (fun _=>R.ok [])))) (fun _=>R.ok []))))) (ac (aP mkT (ac (fun _=>R.ok (D.int 2)) (ac (aP mkT (fun _=>R.ok [])) (ac (aP mkT (ac (fun _=>R.ok (D.int 0)) (ac (fun _=>R.ok (D.int 0)) (fun _=>R.ok [])))) (fun _=>R.ok []))))) (ac (aP mkT (ac (fun _=>R.ok (D.int 1)) (ac (aP mkT (ac (fun _=>R.ok (D.str [97])) (fun _=>R.ok []))) (ac (aP mkT (ac (fun _=>R.ok (D.int 1)) (ac (fun _=>R.ok (D.int 0)) (fun _=>R.ok [])))) (fun _=>R.ok []))))) (fun _=>R.ok [])))))))))
noncomputable def vV (al:Addr) (aI aq:MF) (aE au:MF) (aj af:MF) (az aA aD:MF) (aw:R D->R D) (ax ak:List D->R D):Ev->O:=(CQ 1 (bA (gS (ac (aP mkT (ac (fun _=>R.ok (D.int 1)) (ac (bA (gS (ac (fun _=>R.ok (D.str [97])) (fun _=>R.ok [])))) (ac (aP mkT (ac (fun _=>R.ok (D.int 0)) (ac (fun _=>R.ok (D.int 0)) (fun _=>R.ok [])))) (fun _=>R.ok []))))) (ac (fun _=>R.ok (D.int 5)) (fun _=>R.ok []))))))
noncomputable def xv (al:Addr) (aI aq:MF) (aE au:MF) (aj af:MF) (az aA aD:MF) (aw:R D->R D) (ax ak:List D->R D):Ev->O:=(iH 2 (bA (gS (ac (fun _=>R.ok D.non) (ac (aP mkT (ac (fun _=>R.ok (D.str [97,98,99])) (fun _=>R.ok []))) (ac (bA (gS (ac (fun _=>R.ok (D.str [97,98,99,100])) (fun _=>R.ok [])))) (ac (bA (gS (ac (fun _=>R.ok (D.str [97])) (ac (fun _=>R.ok (D.str [98])) (ac (fun _=>R.ok (D.str [99])) (fun _=>R.ok [])))))) (ac (bA (gS (ac (fun _=>R.ok (D.str [97,10])) (fun _=>R.ok [])))) (ac (bA (gS (ac (fun _=>R.ok (D.int 5)) (fun _=>R.ok [])))) (ac (fun _=>R.ok (D.str [97,98])) (ac (bA (gS (ac (fun _=>R.ok D.non) (fun _=>R.ok [])))) (fun _=>R.ok []))))))))))))
noncomputable def vO (al:Addr) (aI aq:MF) (aE au:MF) (aj af:MF) (az aA aD:MF) (aw:R D->R D) (ax ak:List D->R D):Ev->O:=(xA 3 (gS (ac (fun _=>R.ok D.non) (ac (aP mkT (fun _=>R.ok [])) (ac (aP mkT (ac (fun _=>R.ok (D.str [115,97,121])) (ac (fun _=>R.ok (D.str [])) (fun _=>R.ok [])))) (ac (aP mkT (ac (fun _=>R.ok (D.str [115,97,121])) (ac (g2 lB (fun _=>R.ok (D.str [97])) (fun _=>R.ok (D.int 41))) (fun _=>R.ok [])))) (ac (aP mkT (ac (fun _=>R.ok (D.str [103,111])) (ac (fun _=>R.ok (D.int 12)) (ac (fun _=>R.ok (D.int 0)) (fun _=>R.ok []))))) (ac (aP mkT (ac (fun _=>R.ok (D.str [103,111])) (ac (fun _=>R.ok (D.int 0)) (ac (fun _=>R.ok (D.int 41)) (fun _=>R.ok []))))) (ac (aP mkT (ac (fun _=>R.ok (D.str [119,105,112,101])) (ac (fun _=>R.ok (D.int 1)) (fun _=>R.ok [])))) (fun _=>R.ok []))))))))))
noncomputable def vD (al:Addr) (aI aq:MF) (aE au:MF) (aj af:MF) (az aA aD:MF) (aw:R D->R D) (ax ak:List D->R D):Ev->O:=(CQ 3 (bA (gS (ac (bA (gS (ac (fun _=>R.ok (D.str [119,105,112,101])) (fun _=>R.ok [])))) (ac (fun _=>R.ok (D.str [119,105,112,101])) (ac (aP mkT (ac (fun _=>R.ok (D.str [103,111])) (ac (fun _=>R.ok (D.int 0)) (fun _=>R.ok [])))) (fun _=>R.ok [])))))))
noncomputable def oX (al:Addr) (aI aq:MF) (aE au:MF) (aj af:MF) (az aA aD:MF) (aw:R D->R D) (ax ak:List D->R D):Ev->O:=(iH 4 (g2 ixD (fun ρ=>rdV ρ 1) (bh 3 ax (ac (fun ρ=>rdV ρ 0) (ac (fun _=>R.ok (D.int 0)) (ac (fun _=>R.ok (D.int 8)) (fun _=>R.ok [])))))))
noncomputable def tj (al:Addr) (aI aq:MF) (aE au:MF) (aj af:MF) (az aA aD:MF) (aw:R D->R D) (ax ak:List D->R D):Ev->O:=(oIf (oB (gB2 neF (xu aw [4] (yX aD 1 (ac (fun ρ=>rdV ρ 0) (fun _=>R.ok [])))) (fun _=>R.ok (D.str [110,111,32,115,99,114,101,101,110]))) (gB2 neF (bh 1 ak (ac (aP mkT (ac (fun _=>R.ok (D.int 1)) (ac (aP mkT (ac (fun _=>R.ok (D.str [97])) (fun _=>R.ok []))) (ac (aP mkT (ac (fun _=>R.ok (D.int 0)) (ac (fun _=>R.ok (D.int 1)) (fun _=>R.ok [])))) (fun _=>R.ok []))))) (fun _=>R.ok []))) (fun _=>R.ok (D.str [124,97,124,10,48,32,49,10])))) (aW (cw (fun _=>R.ok (D.bl false))) oNx) oNx)
noncomputable def ub (al:Addr) (aI aq:MF) (aE au:MF) (aj af:MF) (az aA aD:MF) (aw:R D->R D) (ax ak:List D->R D):Ev->O:=(oIf (gB2 neF (xu aw [4] (bh 1 ak (ac (fun ρ=>rdV ρ 0) (fun _=>R.ok [])))) (fun _=>R.ok (D.str [110,111,32,115,99,114,101,101,110]))) (aW (cw (fun _=>R.ok (D.bl false))) oNx) oNx)
noncomputable def xk (al:Addr) (aI aq:MF) (aE au:MF) (aj af:MF) (az aA aD:MF) (aw:R D->R D) (ax ak:List D->R D):Ev->O:=(qT al 5 1 aI (ac (aP mkT (ac (fun _=>R.ok (D.str [115,97,121])) (ac (fun _=>R.ok (D.str [120,121])) (fun _=>R.ok [])))) (fun _=>R.ok [])))
noncomputable def sO (al:Addr) (aI aq:MF) (aE au:MF) (aj af:MF) (az aA aD:MF) (aw:R D->R D) (ax ak:List D->R D):Ev->O:=(qT al 5 1 aq (ac (fun _=>R.ok (D.int 1)) (fun _=>R.ok [])))
noncomputable def rS (al:Addr) (aI aq:MF) (aE au:MF) (aj af:MF) (az aA aD:MF) (aw:R D->R D) (ax ak:List D->R D):Ev->O:=(qT al 5 1 aI (ac (aP mkT (ac (fun _=>R.ok (D.str [103,111])) (ac (fun _=>R.ok (D.int 0)) (ac (fun _=>R.ok (D.int 0)) (fun _=>R.ok []))))) (fun _=>R.ok [])))
noncomputable def sC (al:Addr) (aI aq:MF) (aE au:MF) (aj af:MF) (az aA aD:MF) (aw:R D->R D) (ax ak:List D->R D):Ev->O:=(ww al 5 aE)
noncomputable def sB (al:Addr) (aI aq:MF) (aE au:MF) (aj af:MF) (az aA aD:MF) (aw:R D->R D) (ax ak:List D->R D):Ev->O:=(FD 6 7 (ac (aP mkT (ac (ci al 5 af) (ac (ci al 5 aj) (fun _=>R.ok [])))) (ac (ci al 5 au) (fun _=>R.ok []))))
noncomputable def mY (al:Addr) (aI aq:MF) (aE au:MF) (aj af:MF) (az aA aD:MF) (aw:R D->R D) (ax ak:List D->R D):Ev->O:=(aW (iH 9 (g2 ixD (bA (gS (ac (fun _=>R.ok (D.int 13)) (ac (aP yw (fun _=>R.ok (D.int 13))) (ac (fun _=>R.ok D.non) (ac (fun _=>R.ok (D.bl true)) (ac (fun _=>R.ok (D.str [49])) (ac (aP mkT (ac (fun _=>R.ok (D.int 0)) (fun _=>R.ok []))) (fun _=>R.ok []))))))))) (g2 qk (g2 eE (bh 3 ax (ac (fun ρ=>rdV ρ 0) (ac (fun _=>R.ok (D.int 1)) (ac (fun _=>R.ok (D.int 6)) (fun _=>R.ok []))))) (fun ρ=>rdV ρ 8)) (fun _=>R.ok (D.int 6))))) (aW (iH 4 (g2 ixD (fun ρ=>rdV ρ 3) (g2 qk (g2 eE (bh 3 ax (ac (fun ρ=>rdV ρ 0) (ac (fun _=>R.ok (D.int 2)) (ac (fun _=>R.ok (D.int 10)) (fun _=>R.ok []))))) (g2 lB (fun _=>R.ok (D.int 3)) (fun ρ=>rdV ρ 8))) (fun _=>R.ok (D.int 10))))) (aW (iH 10 (g2 ixD (fun ρ=>rdV ρ 2) (g2 qk (g2 eE (bh 3 ax (ac (fun ρ=>rdV ρ 0) (ac (fun _=>R.ok (D.int 3)) (ac (fun _=>R.ok (D.int 8)) (fun _=>R.ok []))))) (g2 lB (fun _=>R.ok (D.int 3)) (fun ρ=>rdV ρ 8))) (fun _=>R.ok (D.int 8))))) (aW (xA 11 (gS (ac (kz aw al 5 [4] (dJ al 0 1 aI (ac (fun ρ=>rdV ρ 1) (fun _=>R.ok [])))) (fun _=>R.ok [])))) (aW (DY 11 (kz aw al 5 [9] (dJ al 0 1 aq (ac (fun ρ=>rdV ρ 1) (fun _=>R.ok []))))) (aW (DY 11 (kz aw al 5 [10] (dJ al 0 1 aA (ac (fun ρ=>rdV ρ 1) (fun _=>R.ok []))))) (aW (DY 11 (kz aw al 5 [8] (dJ al 0 1 aI (ac (g2 ixD (bA (gS (ac (aP mkT (ac (fun _=>R.ok (D.str [115,97,121])) (ac (fun _=>R.ok (D.str [97])) (fun _=>R.ok [])))) (ac (aP mkT (ac (fun _=>R.ok (D.str [103,111])) (ac (fun _=>R.ok (D.int 2)) (ac (fun _=>R.ok (D.int 0)) (fun _=>R.ok []))))) (ac (aP mkT (ac (fun _=>R.ok (D.str [103,111])) (ac (fun _=>R.ok (D.int 0)) (ac (fun _=>R.ok (D.int 4)) (fun _=>R.ok []))))) (ac (aP mkT (ac (fun _=>R.ok (D.str [115,97,121])) (ac (fun _=>R.ok (D.str [97,98,99,100])) (fun _=>R.ok [])))) (fun _=>R.ok []))))))) (fun ρ=>rdV ρ 1)) (fun _=>R.ok []))))) (aW (ES 11 (gB2 neF (fun ρ=>rdV ρ 11) (bA (gS (ac (fun _=>R.ok (D.str [110,111,32,111,114,100,101,114])) (ac (fun _=>R.ok (D.str [110,111,32,110,117,109,98,101,114])) (ac (fun _=>R.ok (D.str [110,111,32,115,99,114,101,101,110])) (ac (fun _=>R.ok (D.str [110,111,32,114,111,111,109])) (fun _=>R.ok [])))))))) (aW (cw (fun _=>R.ok (D.bl false))) oNx) oNx) oNx))))))))
noncomputable def qN (al:Addr) (aI aq:MF) (aE au:MF) (aj af:MF) (az aA aD:MF) (aw:R D->R D) (ax ak:List D->R D):Ev->O:=(Eb (vt 8) (aP fg (ac (fun _=>R.ok (D.int 4)) (fun _=>R.ok []))) (mY al aI aq aE au aj af az aA aD aw ax ak))
noncomputable def rW (al:Addr) (aI aq:MF) (aE au:MF) (aj af:MF) (az aA aD:MF) (aw:R D->R D) (ax ak:List D->R D):Ev->O:=(oIf (oB (gB2 neF (aP mkT (ac (ci al 5 af) (ac (ci al 5 aj) (fun _=>R.ok [])))) (fun ρ=>rdV ρ 6)) (oB (gB2 neF (ci al 5 au) (fun ρ=>rdV ρ 7)) (gB2 neF (fun ρ=>rdV ρ 7) (aP mkT (ac (fun _=>R.ok (D.int 2)) (ac (fun _=>R.ok (D.int 1)) (fun _=>R.ok []))))))) (aW (cw (fun _=>R.ok (D.bl false))) oNx) oNx)
noncomputable def nA (al:Addr) (aI aq:MF) (aE au:MF) (aj af:MF) (az aA aD:MF) (aw:R D->R D) (ax ak:List D->R D):Ev->O:=(xD (Cy (xUp (g2 eqF (fun ρ=>rdV ρ 6) (aP mkT (ac (aP mkT (ac (fun _=>R.ok (D.int 3)) (ac (aP mkT (ac (fun _=>R.ok (D.str [100,120,121])) (ac (fun _=>R.ok (D.str [32,32,32])) (fun _=>R.ok [])))) (ac (aP mkT (ac (fun _=>R.ok (D.int 1)) (ac (fun _=>R.ok (D.int 3)) (fun _=>R.ok [])))) (fun _=>R.ok []))))) (ac (fun _=>R.ok (D.int 2)) (fun _=>R.ok [])))))) (Cy (zZ eqF (dJ al 5 0 az (fun _=>R.ok [])) (fun _=>R.ok (D.str [100,111]))) (zZ eqF (dJ al 5 0 aj (fun _=>R.ok [])) (fun _=>R.ok (D.int 4))))))
noncomputable def oy (al:Addr) (aI aq:MF) (aE au:MF) (aj af:MF) (az aA aD:MF) (aw:R D->R D) (ax ak:List D->R D):Ev->O:=(aW (xk al aI aq aE au aj af az aA aD aw ax ak) (aW (sO al aI aq aE au aj af az aA aD aw ax ak) (aW (rS al aI aq aE au aj af az aA aD aw ax ak) (aW (sC al aI aq aE au aj af az aA aD aw ax ak) (aW (sB al aI aq aE au aj af az aA aD aw ax ak) (BJ 3 (aW (qN al aI aq aE au aj af az aA aD aw ax ak) (aW (rW al aI aq aE au aj af az aA aD aw ax ak) (aW (nA al aI aq aE au aj af az aA aD aw ax ak) oNx)))))))))
noncomputable def ke (al:Addr) (aI aq:MF) (aE au:MF) (aj af:MF) (az aA aD:MF) (aw:R D->R D) (ax ak:List D->R D):Addr × Unit->Ev->O:=(lC (vM al aI aq aE au aj af az aA aD aw ax ak) (lC (vV al aI aq aE au aj af az aA aD aw ax ak) (lC (xv al aI aq aE au aj af az aA aD aw ax ak) (lC (vO al aI aq aE au aj af az aA aD aw ax ak) (lC (vD al aI aq aE au aj af az aA aD aw ax ak) (zS 1 (lC (oX al aI aq aE au aj af az aA aD aw ax ak) (lC (tj al aI aq aE au aj af az aA aD aw ax ak) (lC (ub al aI aq aE au aj af az aA aD aw ax ak) (Az al 5 aD 1 (ac (aP mkT (ac (fun _=>R.ok (D.int 3)) (ac (aP mkT (ac (fun _=>R.ok (D.str [97,98,99])) (ac (fun _=>R.ok (D.str [100,101,102])) (fun _=>R.ok [])))) (ac (aP mkT (ac (fun _=>R.ok (D.int 1)) (ac (fun _=>R.ok (D.int 1)) (fun _=>R.ok [])))) (fun _=>R.ok []))))) (fun _=>R.ok [])) (Ai (oy al aI aq aE au aj af az aA aD aw ax ak))))))))))))
section
variable {Cs Cn Co Cp:Addr}
noncomputable def eT:List Nat:=[115,99,114,111,108,108]
theorem tu {fs fs':List (Nat × Fd)} (ho:ρ[i]?=some (some (.obj true C p fs))) (ha:gl ρ=.ok ds) (hl:ds.length=n) (hF:F fs ds=.ok d fs'):dJ C i n F gl ρ=.re d (ρ.set i (some (.obj true C p fs'))):=by
 unfold dJ vr
 rw [ho]
 dsimp only
 rw [if_pos rfl,R.ok_out,ha,R.ok_out]
 dsimp only
 rw [if_pos hl,hF]; rfl
noncomputable def eZ (C1 C3:Addr):List D->R D:=fun ds=>aM (dS (dP C1) xy BI C3 (aL 3 ds))
theorem oN {C3:Addr}:∀ ds:List D,ds.length=2->eZ C1 C3 ds=.no\/aM (dS (dP C1) xy BI C3 (aL 3 ds))=eZ C1 C3 ds:=fun _ _=>.inr rfl
noncomputable def Ef (C1:Addr):List D->R D:=fun ds=>aM (dW (dP C1) lQ (aL 2 ds))
theorem qv:∀ ds:List D,ds.length=2->Ef C1 ds=.no\/aM (dW (dP C1) lQ (aL 2 ds))=Ef C1 ds:=fun _ _=>.inr rfl
noncomputable def Eg (C1:Addr):List D->R D:=fun ds=>aM (cP (Ef C1) C1 (aL 2 ds))
theorem lZ:∀ ds:List D,ds.length=2->Eg C1 ds=.no\/aM (cP (Ef C1) C1 (aL 2 ds))=Eg C1 ds:=fun _ _=>.inr rfl
noncomputable def F6:List D->R D:=fun ds=>aM (dn (aL 4 ds))
theorem qd:∀ ds:List D,ds.length=2->F6 ds=.no\/aM (dn (aL 4 ds))=F6 ds:=fun _ _=>.inr rfl
noncomputable def Ee (C1:Addr):List D->R D:=fun ds=>aM (ij (Eg C1) (aL 7 ds))
theorem yG:∀ ds:List D,ds.length=2->Ee C1 ds=.no\/aM (ij (Eg C1) (aL 7 ds))=Ee C1 ds:=fun _ _=>.inr rfl
noncomputable def oZ (C1 C2:Addr):List D->R D:=fun ds=>aM (cO (Ee C1) (coF C2) (aL 2 ds))
theorem nP {C2:Addr}:∀ ds:List D,ds.length=2->oZ C1 C2 ds=.no\/aM (cO (Ee C1) (coF C2) (aL 2 ds))=oZ C1 C2 ds:=fun _ _=>.inr rfl
noncomputable def yQ:List D->R D:=fun ds=>aM (dv (aL 2 ds))
theorem qE:∀ ds:List D,ds.length=2->yQ ds=.no\/aM (dv (aL 2 ds))=yQ ds:=fun _ _=>.inr rfl
noncomputable def nq (C1:Addr):List D->R D:=fun ds=>aM (cC (dP C1) yQ (aL 2 ds))
theorem lX:∀ ds:List D,ds.length=1->nq C1 ds=.no\/aM (cC (dP C1) yQ (aL 2 ds))=nq C1 ds:=fun _ _=>.inr rfl
noncomputable def bG (F:List D->R D):MF:=vp fun sts _ _ b c ds=>match ds with
 | [d]=>(match F [b,d] with
  | .ok b'=>if sts.length < 1000 then .ok .non (bH (sts++[st3 (.str eT) b' (c+0)]) []) else .no
  | .ex E=>.ex E
  | .no=>.no)
 | _=>.no
theorem wW {F:List D->R D}:bX Cp (Q77.gB Cp ox bQ F) 2 (bG F):=by
 refine gM fun p l tk a b c ds=>?_
 match ds with
 | []=>trivial
 | _::_::_=>simp
 | [d]=>
  dsimp only
  have s2:bQ (bH (l++[st3 a b c]) tk) []=.rd b:=fL _ l tk a b c []
  have o0:∀ m r,ly Cp (some (.obj m Cp p (bH (l++[st3 a b c]) tk))::r) 0=.ok (bH (l++[st3 a b c]) tk):=fun m r=>dF rfl
  have wd:D.str [115,99,114,111,108,108]=.str eT:=rfl
  cases hd:F [b,d] with
  | no=>trivial
  | ex E=>
   dsimp only
   refine ⟨[some (.obj false Cp p (bH (l++[st3 a b c]) tk)),some (.val d)],?_⟩
   show (O.thenX (dJ Cp 0 3 ox _ [some (.obj false Cp p (bH (l++[st3 a b c]) tk)),some (.val d)]) _).seq oNx=_
   have ar:(ac (fun _=>R.ok (D.str [115,99,114,111,108,108])) (ac (bh 2 F (ac (ci Cp 0 bQ) (ac (fun ρ=>rdV ρ 1) (fun _=>R.ok [])))) (ac (fun _=>R.ok (D.int 0)) (fun _=>R.ok [])))) [some (.obj false Cp p (bH (l++[st3 a b c]) tk)),some (.val d)]=.ex E:=by walk_at "run"
   have ob:vr Cp [some (.obj false Cp p (bH (l++[st3 a b c]) tk)),some (.val d)] 0=.ok (false,p,bH (l++[st3 a b c]) tk):=if_pos rfl
   unfold dJ
   rw [ob,R.ok_out,ar]; rfl
  | ok b'=>
   dsimp only
   by_cases hl:(l++[st3 a b c]).length < 1000
   ·rw [if_pos hl]
    dsimp only
    have s3:ox (bH (l++[st3 a b c]) tk) [.str eT,b',.int 0]=.ok .non (bH (l++[st3 a b c]++[st3 (.str eT) b' (c+0)]) []):=(fL _ l tk a b c _).trans (if_pos hl)
    refine ⟨[some (.obj true Cp p (bH (l++[st3 a b c]++[st3 (.str eT) b' (c+0)]) [])),some (.val d)],rfl,.inr ⟨?_,rfl⟩⟩
    show (O.thenX (dJ Cp 0 3 ox _ [some (.obj true Cp p (bH (l++[st3 a b c]) tk)),some (.val d)]) _).seq oNx=_
    have ar:(ac (fun _=>R.ok (D.str [115,99,114,111,108,108])) (ac (bh 2 F (ac (ci Cp 0 bQ) (ac (fun ρ=>rdV ρ 1) (fun _=>R.ok [])))) (ac (fun _=>R.ok (D.int 0)) (fun _=>R.ok [])))) [some (.obj true Cp p (bH (l++[st3 a b c]) tk)),some (.val d)]=.ok [.str eT,b',.int 0]:=by
     clear hl
     walk_at "run"
    have m:=tu (C:=Cp) (i:=0) (n:=3) (F:=ox) rfl ar rfl s3
    rw [m]; rfl
   ·rw [if_neg hl]; trivial
noncomputable def dm (F:List D->R D):MF:=vp fun _ _ _ b _ ds=>match ds with
 | [d]=>(match F [b,d] with
  | .ex E=>.ex E
  | _=>.no)
 | _=>.no
theorem zL {F F2:List D->R D}:bX Cp (iC Cp bQ ox F F2) 4 (dm F):=by
 refine gM fun p l tk a b c ds=>?_
 match ds with
 | []=>trivial
 | _::_::_=>simp
 | [d]=>
  dsimp only
  have s2:bQ (bH (l++[st3 a b c]) tk) []=.rd b:=fL _ l tk a b c []
  have o0:∀ m r,ly Cp (some (.obj m Cp p (bH (l++[st3 a b c]) tk))::r) 0=.ok (bH (l++[st3 a b c]) tk):=fun m r=>dF rfl
  cases hd:F [b,d] with
  | no=>trivial
  | ok _=>trivial
  | ex E=>
   dsimp only
   refine ⟨[some (.obj false Cp p (bH (l++[st3 a b c]) tk)),some (.val d),some (.val b),none],?_⟩
   show aW _ _ [some (.obj false Cp p (bH (l++[st3 a b c]) tk)),some (.val d),none,none]=_
   unfold jo jc
   walk_at "run"
end
noncomputable def zz:D:=.tup [.int 0,.int 0]
noncomputable def oddL:List D:=[.non,.tup [],.tup [.int 0,.tup [.str []],zz],.tup [.int 2,.tup [.str [97]],zz],.tup [.int 2,.tup [],zz],.tup [.int 1,.tup [.str [97]],.tup [.int 1,.int 0]],.tup [.int 1,.lst false [.str [97]],zz],.int 5]
noncomputable def dQ:List D:=[.non,.tup [.str [97,98,99]],.lst false [.str [97,98,99,100]],.lst false [.str [97],.str [98],.str [99]],.lst false [.str [97,10]],.lst false [.int 5],.str [97,98],.lst false [.non]]
noncomputable def Cu:List Nat:=[115,97,121]
noncomputable def wGo:List Nat:=[103,111]
noncomputable def Bo:List Nat:=[119,105,112,101]
noncomputable def badL:List D:=[.non,.tup [],.tup [.str Cu,.str []],.tup [.str Cu,.str (List.replicate 41 97)],.tup [.str wGo,.int 12,.int 0],.tup [.str wGo,.int 0,.int 41],.tup [.str Bo,.int 1],.lst false [.str Bo],.str Bo,.tup [.str wGo,.int 0]]
noncomputable def byL:List D:=[.int 13,.int (-13),.non,.bl true,.str [49],.tup [.int 0]]
noncomputable def Ca:List D:=[.tup [.str Cu,.str [97]],.tup [.str wGo,.int 2,.int 0],.tup [.str wGo,.int 0,.int 4],.tup [.str Cu,.str [97,98,99,100]]]
noncomputable def S0:D:=.tup [.int 3,.tup [.str [97,98,99],.str [100,101,102]],.tup [.int 1,.int 1]]
noncomputable def S1:D:=.tup [.int 3,.tup [.str [97,98,99],.str [100,120,121]],.tup [.int 1,.int 3]]
noncomputable def S2:D:=.tup [.int 3,.tup [.str [100,120,121],.str [32,32,32]],.tup [.int 1,.int 3]]
noncomputable def S3:D:=.tup [.int 3,.tup [.str [100,120,121],.str [32,32,32]],.tup [.int 0,.int 0]]
noncomputable def fs0:List (Nat × Fd):=bH [st3 (.str kU) S0 0] []
noncomputable def fs1:List (Nat × Fd):=bH [st3 (.str kU) S0 0,st3 (.str wDo) S1 2] []
noncomputable def fs2:List (Nat × Fd):=bH [st3 (.str kU) S0 0,st3 (.str wDo) S1 2,st3 (.str eT) S2 2] []
noncomputable def fs3:List (Nat × Fd):=bH [st3 (.str kU) S0 0,st3 (.str wDo) S1 2,st3 (.str eT) S2 2,st3 (.str wDo) S3 4] []
noncomputable def fs4:List (Nat × Fd):=bH [st3 (.str kU) S0 0,st3 (.str wDo) S1 2,st3 (.str eT) S2 2] [st3 (.str wDo) S3 4]
section
variable {Cs Co Cr Cn Cb Cp p:Addr}
theorem do1:doM Cs Co Cr fs0 [.tup [.str Cu,.str [120,121]]]=.ok (.int 2) fs1:=rfl
theorem Hr:bG (eZ Cs Cn) fs1 [.int 1]=.ok .non fs2:=rfl
theorem do2:doM Cs Co Cr fs2 [.tup [.str wGo,.int 0,.int 0]]=.ok (.int 4) fs3:=rfl
theorem bk1:fP Cb fs3 []=.ok (.str wDo) fs4:=rfl
theorem DX:∀ j:Nat,j < 8->∃ d,ixD (.lst false oddL) (.int (j:Int))=some d/\xx (eW Cs) 1 [d]=.ex Cs/\nq Cs [d]=.ex Cs
 | 0,_=>⟨_,rfl,rfl,rfl⟩
 | 1,_=>⟨_,rfl,rfl,rfl⟩
 | 2,_=>⟨_,rfl,rfl,rfl⟩
 | 3,_=>⟨_,rfl,rfl,rfl⟩
 | 4,_=>⟨_,rfl,rfl,rfl⟩
 | 5,_=>⟨_,rfl,rfl,rfl⟩
 | 6,_=>⟨_,rfl,rfl,rfl⟩
 | 7,_=>⟨_,rfl,rfl,rfl⟩
 | n+8,h=>absurd h (by omega)
theorem DU:∀ j:Nat,j < 10->∃ d,ixD (.lst false badL) (.int (j:Int))=some d/\doM Cs Co Cr fs4 [d]=.ex Co
 | 0,_=>⟨_,rfl,rfl⟩
 | 1,_=>⟨_,rfl,rfl⟩
 | 2,_=>⟨_,rfl,rfl⟩
 | 3,_=>⟨_,rfl,rfl⟩
 | 4,_=>⟨_,rfl,rfl⟩
 | 5,_=>⟨_,rfl,rfl⟩
 | 6,_=>⟨_,rfl,rfl⟩
 | 7,_=>⟨_,rfl,rfl⟩
 | 8,_=>⟨_,rfl,rfl⟩
 | 9,_=>⟨_,rfl,rfl⟩
 | n+10,h=>absurd h (by omega)
theorem Ft:∀ j:Nat,j < 6->∃ d,ixD (.lst false byL) (.int (j:Int))=some d/\bG (eZ Cs Cn) fs4 [d]=.ex Cn
 | 0,_=>⟨_,rfl,rfl⟩
 | 1,_=>⟨_,rfl,rfl⟩
 | 2,_=>⟨_,rfl,rfl⟩
 | 3,_=>⟨_,rfl,rfl⟩
 | 4,_=>⟨_,rfl,rfl⟩
 | 5,_=>⟨_,rfl,rfl⟩
 | n+6,h=>absurd h (by omega)
theorem tI:∀ j:Nat,j < 8->∃ d,ixD (.lst false dQ) (.int (j:Int))=some d/\dm (oZ Cs Co) fs4 [d]=.ex Cs
 | 0,_=>⟨_,rfl,rfl⟩
 | 1,_=>⟨_,rfl,rfl⟩
 | 2,_=>⟨_,rfl,rfl⟩
 | 3,_=>⟨_,rfl,rfl⟩
 | 4,_=>⟨_,rfl,rfl⟩
 | 5,_=>⟨_,rfl,rfl⟩
 | 6,_=>⟨_,rfl,rfl⟩
 | 7,_=>⟨_,rfl,rfl⟩
 | n+8,h=>absurd h (by omega)
theorem Bd:∀ j:Nat,j < 4->∃ d,ixD (.lst false Ca) (.int (j:Int))=some d/\doM Cs Co Cr fs4 [d]=.ex Cr
 | 0,_=>⟨_,rfl,rfl⟩
 | 1,_=>⟨_,rfl,rfl⟩
 | 2,_=>⟨_,rfl,rfl⟩
 | 3,_=>⟨_,rfl,rfl⟩
 | n+4,h=>absurd h (by omega)
end
theorem xi (a:Int) {m:Int} (h:0 < m):∃ j:Nat,(j:Int) < m/\a % m=(j:Int):=⟨(a % m).toNat,by have:=Int.emod_nonneg a (by omega:m ≠ 0); have:=Int.emod_lt_of_pos a h; omega,by have:=Int.emod_nonneg a (by omega:m ≠ 0); omega⟩
theorem jO {T:R D->R D} {E:Addr} {M:MF} {fs:List (Nat × Fd)} {w:D} (ho:ρ[i]?=some (some (.obj true C p fs))) (ha:gl (some (.obj false C p fs)::bK 0 ix ρ)=.ok ds) (hl:ds.length=n) (hF:M fs ds=.ex E) (hT:T (.ex E)=.ok w):kz T C i ix (dJ C 0 n M gl) ρ=.ok w:=by
 have o:vr C ρ i=.ok (true,p,fs):=by unfold vr; rw [ho]; exact if_pos rfl
 unfold kz
 rw [o,R.ok_bind]
 have m:dJ C 0 n M gl (some (.obj false C p fs)::bK 0 ix ρ)=.ex E (some (.obj false C p fs)::bK 0 ix ρ):=by
  have o2:vr C (some (.obj false C p fs)::bK 0 ix ρ) 0=.ok (false,p,fs):=if_pos rfl
  unfold dJ
  rw [o2,R.ok_out,ha,R.ok_out]
  dsimp only
  rw [if_pos hl,hF]; rfl
 dsimp only
 rw [m]
 exact hT
noncomputable def lj:D:=.tup [S2,.int 2]
noncomputable def uu:D:=.tup [.int 2,.int 1]
noncomputable def mT (S x4 x8 x9 x10 x11:Option Sl) (C p:Addr):Ev:=[S,some (.val (.lst false oddL)),some (.val (.lst false dQ)),some (.val (.lst false badL)),x4,some (.obj true C p fs4),some (.val lj),some (.val uu),x8,x9,x10,x11]
section
variable {al Cs Co Cr Cn Cb p:Addr} {T:R D->R D}
theorem CH (t1:T (.ex Cs)=.ok (.str fN)) (t2:T (.ex Co)=.ok (.str mE)) (t3:T (.ex Cr)=.ok (.str ut)) (t4:T (.ex Cn)=.ok (.str iL)) (ns:List Int) (fz:Bool) (k:Nat) (hk:k < 4) (x4 x9 x10 x11:Option Sl) :
  ∃ y4 y9 y10 y11,mY al (doM Cs Co Cr) (bG (eZ Cs Cn)) (fP Cb) bR bW bQ (cG Cb) (dm (oZ Cs Co)) (eW Cs) T cT (nq Cs) (mT (some (.val (.lst fz (ns.map .int)))) x4 (some (.val (.int (k:Int)))) x9 x10 x11 al p)=.nx (mT (some (.val (.lst fz (ns.map .int)))) y4 (some (.val (.int (k:Int)))) y9 y10 y11 al p):=by
 obtain ⟨j1,l1,e1⟩:=xi (nJ ns 1 6+(k:Int)) (show (0:Int) < 6 by decide)
 obtain ⟨j2,l2,e2⟩:=xi (nJ ns 2 10+3 * (k:Int)) (show (0:Int) < 10 by decide)
 obtain ⟨j3,l3,e3⟩:=xi (nJ ns 3 8+3 * (k:Int)) (show (0:Int) < 8 by decide)
 obtain ⟨b,b1,b2⟩:=Ft (Cs:=Cs) (Cn:=Cn) j1 (by omega)
 obtain ⟨d,d1,d2⟩:=DU (Cs:=Cs) (Co:=Co) (Cr:=Cr) j2 (by omega)
 obtain ⟨g,g1,g2⟩:=tI (Cs:=Cs) (Co:=Co) j3 (by omega)
 obtain ⟨r,r1,r2⟩:=Bd (Cs:=Cs) (Co:=Co) (Cr:=Cr) k hk
 have p1:cT [.lst fz (ns.map .int),.int 1,.int 6]=.ok (.int (nJ ns 1 6)):=iE (n:=1) (by decide)
 have p2:cT [.lst fz (ns.map .int),.int 2,.int 10]=.ok (.int (nJ ns 2 10)):=iE (n:=2) (by decide)
 have p3:cT [.lst fz (ns.map .int),.int 3,.int 8]=.ok (.int (nJ ns 3 8)):=iE (n:=3) (by decide)
 have m3:∀ y:Int,lB (.int 3) (.int y)=some (.int (3 * y)):=fun y=>by simp only [lB]; rfl
 have r8:∀ x:Int,qk (.int x) (.int 8)=some (.int (x % 8)):=fun _=>rfl
 have r6:∀ x:Int,qk (.int x) (.int 6)=some (.int (x % 6)):=fun _=>rfl
 have r10:∀ x:Int,qk (.int x) (.int 10)=some (.int (x % 10)):=fun _=>rfl
 rw [<- e1] at b1
 rw [<- e2] at d1
 rw [<- e3] at g1
 generalize hS:D.lst fz (ns.map .int)=S at *
 have q1:=fun (a9 a10 a11:Option Sl)=>jO (T:=T) (C:=al) (p:=p) (i:=5) (n:=1) (ix:=[4]) (gl:=ac (fun ρ=>rdV ρ 1) (fun _=>R.ok [])) (ρ:=mT (some (.val S)) (some (.val d)) (some (.val (.int (k:Int)))) a9 a10 a11 al p) (fs:=fs4) rfl rfl rfl d2 t2
 have q2:=fun (a4 a10 a11:Option Sl)=>jO (T:=T) (C:=al) (p:=p) (i:=5) (n:=1) (ix:=[9]) (gl:=ac (fun ρ=>rdV ρ 1) (fun _=>R.ok [])) (ρ:=mT (some (.val S)) a4 (some (.val (.int (k:Int)))) (some (.val b)) a10 a11 al p) (fs:=fs4) rfl rfl rfl b2 t4
 have q3:=fun (a4 a9 a11:Option Sl)=>jO (T:=T) (C:=al) (p:=p) (i:=5) (n:=1) (ix:=[10]) (gl:=ac (fun ρ=>rdV ρ 1) (fun _=>R.ok [])) (ρ:=mT (some (.val S)) a4 (some (.val (.int (k:Int)))) a9 (some (.val g)) a11 al p) (fs:=fs4) rfl rfl rfl g2 t1
 have ra:∀ a0:Option Sl,(ac (L2.g2 ixD (bA (gS (ac (aP mkT (ac (fun _=>R.ok (D.str [115,97,121])) (ac (fun _=>R.ok (D.str [97])) (fun _=>R.ok [])))) (ac (aP mkT (ac (fun _=>R.ok (D.str [103,111])) (ac (fun _=>R.ok (D.int 2)) (ac (fun _=>R.ok (D.int 0)) (fun _=>R.ok []))))) (ac (aP mkT (ac (fun _=>R.ok (D.str [103,111])) (ac (fun _=>R.ok (D.int 0)) (ac (fun _=>R.ok (D.int 4)) (fun _=>R.ok []))))) (ac (aP mkT (ac (fun _=>R.ok (D.str [115,97,121])) (ac (fun _=>R.ok (D.str [97,98,99,100])) (fun _=>R.ok [])))) (fun _=>R.ok []))))))) (fun ρ=>rdV ρ 1)) (fun _=>R.ok [])) [a0,some (.val (.int (k:Int)))]=.ok [r]:=fun a0=>by
  show ((ofO (ixD (.lst false Ca) (.int (k:Int))))>>=fun x=>R.ok [x])=_
  rw [r1]; rfl
 have q4:=fun (a4 a9 a10 a11:Option Sl)=>jO (T:=T) (C:=al) (p:=p) (i:=5) (n:=1) (ix:=[8]) (ρ:=mT (some (.val S)) a4 (some (.val (.int (k:Int)))) a9 a10 a11 al p) (fs:=fs4) rfl (ra (some (.obj false al p fs4))) rfl r2 t3
 refine ⟨some (.val d),some (.val b),some (.val g),some (.own [.str mE,.str iL,.str fN,.str ut]),?_⟩
 have ix6:ixD (.lst false [.int 13,.int (-13),.non,.bl true,.str [49],.tup [.int 0]]) (.int ((nJ ns 1 6+(k:Int)) % 6))=some b:=b1
 have ng:yw (.int 13)=.ok (.int (-13)):=rfl
 have mk1:∀ x,mkT [x]=.ok (.tup [x]):=fun _=>rfl
 have z6:6<=sizeLine:=by decide
 have z4:4<=sizeLine:=by decide
 have z1:1<=sizeLine:=by decide
 have w1:(1:Nat) < sizeLine:=by decide
 have w2:(2:Nat) < sizeLine:=by decide
 have w3:(3:Nat) < sizeLine:=by decide
 have fin:neF (.lst false [.str mE,.str iL,.str fN,.str ut]) (.lst false [.str [110,111,32,111,114,100,101,114],.str [110,111,32,110,117,109,98,101,114],.str [110,111,32,115,99,114,101,101,110],.str [110,111,32,114,111,111,109]])=some (.bl false):=rfl
 have fr:∀ (a0 a1 a2 a3 a4 a5 a6 a7 a8 a9 a10:Option Sl) (l:List D),frz 11 [a0,a1,a2,a3,a4,a5,a6,a7,a8,a9,a10,some (.own l)]=[a0,a1,a2,a3,a4,a5,a6,a7,a8,a9,a10,some (.val (.lst false l))]:=fun _ _ _ _ _ _ _ _ _ _ _ _=>rfl
 unfold mT at *
 generalize D.lst false oddL=L1 at *
 generalize D.lst false dQ=L2' at *
 generalize D.lst false badL=L3 at *
 generalize lj=h6 at *
 generalize uu=h7 at *
 generalize fs4=fs at *
 generalize (nJ ns 1 6)=v1 at *
 generalize (nJ ns 2 10)=v2 at *
 generalize (nJ ns 3 8)=v3 at *
 unfold mY
 clear b1 b2 d2 g2 r1 r2 ra e1 e2 e3 l1 l2 l3 t1 t2 t3 t4 hk hS
 have a1:∀ (a b c d e f g h i j k:Option Sl) (l:List D),ownAt [a,b,c,d,e,f,g,h,i,j,k,some (.own l)] 11=.ok l:=fun _ _ _ _ _ _ _ _ _ _ _ _=>rfl
 walk_at "run"
end
section
variable {al Cs Co Cr Cn Cb p:Addr} {T:R D->R D}
theorem zD (t1:T (.ex Cs)=.ok (.str fN)) (t2:T (.ex Co)=.ok (.str mE)) (t3:T (.ex Cr)=.ok (.str ut)) (t4:T (.ex Cn)=.ok (.str iL)) (ns:List Int) (fz:Bool):∀ (m k:Nat) (x4 x8 x9 x10 x11:Option Sl),k+m<=4->
  ∃ y4 y8 y9 y10 y11,fv (vt 8) (mY al (doM Cs Co Cr) (bG (eZ Cs Cn)) (fP Cb) bR bW bQ (cG Cb) (dm (oZ Cs Co)) (eW Cs) T cT (nq Cs)) ((List.range' k m).map fun (i:Nat)=>D.int (i:Int)) (mT (some (.val (.lst fz (ns.map .int)))) x4 x8 x9 x10 x11 al p)=.nx (mT (some (.val (.lst fz (ns.map .int)))) y4 y8 y9 y10 y11 al p)
 | 0,k,x4,x8,x9,x10,x11,_=>⟨x4,x8,x9,x10,x11,rfl⟩
 | m+1,k,x4,x8,x9,x10,x11,h=>by
  obtain ⟨y4,y9,y10,y11,hB⟩:=CH (al:=al) (Cs:=Cs) (Co:=Co) (Cr:=Cr) (Cn:=Cn) (Cb:=Cb) (p:=p) t1 t2 t3 t4 ns fz k (by omega) x4 x9 x10 x11
  obtain ⟨z4,z8,z9,z10,z11,ih⟩:=zD t1 t2 t3 t4 ns fz m (k+1) y4 (some (.val (.int (k:Int)))) y9 y10 y11 (by omega)
  exact ⟨z4,z8,z9,z10,z11,by rw [List.range'_succ,List.map_cons,sQ (ρ1:=mT (some (.val (.lst fz (ns.map .int)))) x4 (some (.val (.int (k:Int)))) x9 x10 x11 al p) rfl hB,ih]⟩
end
noncomputable def zn (S d:D):Ev:=[some (.val S),some (.val (.lst false oddL)),some (.val (.lst false dQ)),some (.own badL),some (.val d),none,none,none,none,none,none,none]
theorem EL (h1:ad ∈ rs) (h2:ag ∈ rs) (h3:am ∈ rs) (h4:ah ∈ rs) (nd:[ad,ag,am,ah,aJ,aN,aO,ao].Nodup) (ns:List Int) (fz:Bool) (q:Addr × Unit) :
  aM (ke al (doM ad ag am) (bG (eZ ad ah)) (fP ao) bR bW bQ (cG ao) (dm (oZ ad ag)) (eW ad) (bB (qb ag ah ao am aN aJ ad aO rs) rs) cT (nq ad) q [some (.val (.lst fz (ns.map .int))),none,none,none,none,none,none,none,none,none,none,none])=.ok (.bl true):=by
 have t1:bB (qb ag ah ao am aN aJ ad aO rs) rs (.ex ad)=.ok (.str fN):=uh h1 (pT nd h1)
 have t2:bB (qb ag ah ao am aN aJ ad aO rs) rs (.ex ag)=.ok (.str mE):=uh h2 (rE nd h2)
 have t3:bB (qb ag ah ao am aN aJ ad aO rs) rs (.ex am)=.ok (.str ut):=uh h3 (vm nd h3)
 have t4:bB (qb ag ah ao am aN aJ ad aO rs) rs (.ex ah)=.ok (.str iL):=uh h4 (pW nd h4)
 generalize bB (qb ag ah ao am aN aJ ad aO rs) rs=T at *
 clear nd h1 h2 h3 h4
 have v0:=uo ns 0 (m:=8) (by decide)
 obtain ⟨j,ej⟩:∃ j:Nat,nJ ns 0 8=(j:Int):=⟨_,(Int.toNat_of_nonneg v0.1).symm⟩
 obtain ⟨d,d1,d2,d3⟩:=DX (Cs:=ad) j (by omega)
 have p0:cT [.lst fz (ns.map .int),.int 0,.int 8]=.ok (.int (j:Int)):=by rw [<- ej]; exact iE (n:=0) (by decide)
 obtain ⟨z4,z8,z9,z10,z11,lp⟩:=zD (al:=al) (Cb:=ao) (p:=q.1) t1 t2 t3 t4 ns fz 4 0 (some (.val d)) none none none none (by decide)
 generalize D.lst fz (ns.map .int)=S at *
 have a6:oX al (doM ad ag am) (bG (eZ ad ah)) (fP ao) bR bW bQ (cG ao) (dm (oZ ad ag)) (eW ad) T cT (nq ad) [some (.val S),some (.val (.lst false oddL)),some (.val (.lst false dQ)),some (.own badL),none,none,none,none,none,none,none,none]=.nx (zn S d):=by
  unfold oX
  unfold zn
  generalize D.lst false oddL=L at *
  clear lp t1 t2 t3 t4 d2 d3
  walk_at "run"
 have g7:xu T [4] (yX (eW ad) 1 (ac (fun ρ=>rdV ρ 0) (fun _=>R.ok []))) (zn S d)=.ok (.str fN):=by
  show T (match (xx (eW ad) 1 [d]) with | .ex C=>R.ex C | _=>.no)=_
  rw [d2]; exact t1
 have a7:tj al (doM ad ag am) (bG (eZ ad ah)) (fP ao) bR bW bQ (cG ao) (dm (oZ ad ag)) (eW ad) T cT (nq ad) (zn S d)=.nx (zn S d):=by
  unfold tj oIf oB gB2 L2.g2
  rw [g7]
  rfl
 have g8:xu T [4] (bh 1 (nq ad) (ac (fun ρ=>rdV ρ 0) (fun _=>R.ok []))) (zn S d)=.ok (.str fN):=by
  show T (nq ad [d])=_
  rw [d3]; exact t1
 have a8:ub al (doM ad ag am) (bG (eZ ad ah)) (fP ao) bR bW bQ (cG ao) (dm (oZ ad ag)) (eW ad) T cT (nq ad) (zn S d)=.nx (zn S d):=by
  unfold ub oIf gB2 L2.g2
  rw [g8]
  rfl
 have om:∀ (a0 a1 a2 a3 a4 a6 a7 a8 a9 a10 a11:Option Sl) (fs:List (Nat × Fd)),nD al [a0,a1,a2,a3,a4,some (.obj true al q.1 fs),a6,a7,a8,a9,a10,a11] 5=.ok (q.1,fs):=fun _ _ _ _ _ _ _ _ _ _ _ _=>iM rfl
 have of:∀ (a0 a1 a2 a3 a4 a6 a7 a8 a9 a10 a11:Option Sl) (fs:List (Nat × Fd)),ly al [a0,a1,a2,a3,a4,some (.obj true al q.1 fs),a6,a7,a8,a9,a10,a11] 5=.ok fs:=fun _ _ _ _ _ _ _ _ _ _ _ _=>dF rfl
 have sh:bQ fs4 []=.rd S2:=rfl
 have sp:bW fs4 []=.rd (.int 2):=rfl
 have ct:bR fs4 []=.rd uu:=rfl
 have tail:oy al (doM ad ag am) (bG (eZ ad ah)) (fP ao) bR bW bQ (cG ao) (dm (oZ ad ag)) (eW ad) T cT (nq ad) [some (.val S),some (.val (.lst false oddL)),some (.val (.lst false dQ)),some (.own badL),some (.val d),some (.obj true al q.1 fs0),none,none,none,none,none,none]=.re (.bl true) (mT (some (.val S)) z4 z8 z9 z10 z11 al q.1 |>.set 5 (some (.obj true al q.1 fs3))):=by
  have mk1:∀ x,mkT [x]=.ok (.tup [x]):=fun _=>rfl
  have mk2:∀ x y,mkT [x,y]=.ok (.tup [x,y]):=fun _ _=>rfl
  have mk3:∀ x y z,mkT [x,y,z]=.ok (.tup [x,y,z]):=fun _ _ _=>rfl
  have e1:doM ad ag am fs0 [.tup [.str [115,97,121],.str [120,121]]]=.ok (.int 2) fs1:=do1
  have e2:bG (eZ ad ah) fs1 [.int 1]=.ok .non fs2:=Hr
  have e3:doM ad ag am fs2 [.tup [.str [103,111],.int 0,.int 0]]=.ok (.int 4) fs3:=do2
  have e4:fP ao fs3 []=.ok (.str wDo) fs4:=bk1
  have hD:D.tup [S2,.int 2]=lj:=rfl
  have rg:fg [.int 4]=.ok ((List.range' 0 4).map fun (i:Nat)=>D.int (i:Int)):=yN (n:=4) (by decide)
  have fr:∀ (a0 a1 a2 a4 a5 a6 a7 a8 a9 a10 a11:Option Sl) (l:List D),frz 3 [a0,a1,a2,some (.own l),a4,a5,a6,a7,a8,a9,a10,a11]=[a0,a1,a2,some (.val (.lst false l)),a4,a5,a6,a7,a8,a9,a10,a11]:=fun _ _ _ _ _ _ _ _ _ _ _ _=>rfl
  have n1:neF lj lj=some (.bl false):=rfl
  have n2:neF uu uu=some (.bl false):=rfl
  have n3:neF uu (.tup [.int 2,.int 1])=some (.bl false):=rfl
  have last:nA al (doM ad ag am) (bG (eZ ad ah)) (fP ao) bR bW bQ (cG ao) (dm (oZ ad ag)) (eW ad) T cT (nq ad) (mT (some (.val S)) z4 z8 z9 z10 z11 al q.1)=.re (.bl true) (mT (some (.val S)) z4 z8 z9 z10 z11 al q.1 |>.set 5 (some (.obj true al q.1 fs3))):=by
   have x1:dJ al 5 0 (cG ao) (fun _=>R.ok []) (mT (some (.val S)) z4 z8 z9 z10 z11 al q.1)=.re (.str wDo) (mT (some (.val S)) z4 z8 z9 z10 z11 al q.1 |>.set 5 (some (.obj true al q.1 fs3))):=tu (n:=0) rfl rfl rfl (by rfl)
   have x2:dJ al 5 0 bW (fun _=>R.ok []) (mT (some (.val S)) z4 z8 z9 z10 z11 al q.1 |>.set 5 (some (.obj true al q.1 fs3)))=.re (.int 4) (mT (some (.val S)) z4 z8 z9 z10 z11 al q.1 |>.set 5 (some (.obj true al q.1 fs3))):=by
    have o:vr al (mT (some (.val S)) z4 z8 z9 z10 z11 al q.1 |>.set 5 (some (.obj true al q.1 fs3))) 5=.ok (true,q.1,fs3):=if_pos rfl
    unfold dJ
    rw [o]; rfl
   unfold nA xD Cy
   show O.thenX (O.thenX (.re (.bl true) _) _) _=_
   show O.thenX (O.thenX (zZ eqF (dJ al 5 0 (cG ao) (fun _=>R.ok [])) _ _) _) _=_
   unfold zZ
   rw [x1]
   show O.thenX (O.thenX (dJ al 5 0 bW (fun _=>R.ok []) _) _) _=_
   rw [x2]; rfl
  unfold mT at lp last ⊢
  unfold oy xk sO rS sC sB qN rW
  generalize D.lst false oddL=L1 at *
  generalize D.lst false dQ=L2' at *
  generalize hB:D.lst false badL=L3 at *
  generalize (List.range' 0 4).map (fun (i:Nat)=>D.int (i:Int))=rr at *
  clear a6 a7 a8 g7 g8 t1 t2 t3 t4 d1 d2 d3 p0 ej v0
  walk_at "run"
  all_goals first | done | (rw [hB]; walk_at "run")
 unfold ke lC zS
 have i1:vM al (doM ad ag am) (bG (eZ ad ah)) (fP ao) bR bW bQ (cG ao) (dm (oZ ad ag)) (eW ad) T cT (nq ad) [some (.val S),none,none,none,none,none,none,none,none,none,none,none]=.nx [some (.val S),some (.own (oddL.take 6)),none,none,none,none,none,none,none,none,none,none]:=rfl
 have i2:vV al (doM ad ag am) (bG (eZ ad ah)) (fP ao) bR bW bQ (cG ao) (dm (oZ ad ag)) (eW ad) T cT (nq ad) [some (.val S),some (.own (oddL.take 6)),none,none,none,none,none,none,none,none,none,none]=.nx [some (.val S),some (.own oddL),none,none,none,none,none,none,none,none,none,none]:=rfl
 have i3:xv al (doM ad ag am) (bG (eZ ad ah)) (fP ao) bR bW bQ (cG ao) (dm (oZ ad ag)) (eW ad) T cT (nq ad) [some (.val S),some (.own oddL),none,none,none,none,none,none,none,none,none,none]=.nx [some (.val S),some (.own oddL),some (.val (.lst false dQ)),none,none,none,none,none,none,none,none,none]:=rfl
 have i4:vO al (doM ad ag am) (bG (eZ ad ah)) (fP ao) bR bW bQ (cG ao) (dm (oZ ad ag)) (eW ad) T cT (nq ad) [some (.val S),some (.own oddL),some (.val (.lst false dQ)),none,none,none,none,none,none,none,none,none]=.nx [some (.val S),some (.own oddL),some (.val (.lst false dQ)),some (.own (badL.take 7)),none,none,none,none,none,none,none,none]:=rfl
 have i5:vD al (doM ad ag am) (bG (eZ ad ah)) (fP ao) bR bW bQ (cG ao) (dm (oZ ad ag)) (eW ad) T cT (nq ad) [some (.val S),some (.own oddL),some (.val (.lst false dQ)),some (.own (badL.take 7)),none,none,none,none,none,none,none,none]=.nx [some (.val S),some (.own oddL),some (.val (.lst false dQ)),some (.own badL),none,none,none,none,none,none,none,none]:=rfl
 rw [i1,yP,i2,yP,i3,yP,i4,yP,i5,yP]
 show aM ((oX _ _ _ _ _ _ _ _ _ _ _ _ _ [some (.val S),some (.val (.lst false oddL)),some (.val (.lst false dQ)),some (.own badL),none,none,none,none,none,none,none,none]).seq _)=_
 rw [a6,yP,a7,yP,a8,yP]
 unfold Az Ai
 show aM (oy _ _ _ _ _ _ _ _ _ _ _ _ _ [some (.val S),some (.val (.lst false oddL)),some (.val (.lst false dQ)),some (.own badL),some (.val d),some (.obj true al q.1 fs0),none,none,none,none,none,none])=_
 rw [tail]; rfl
theorem D2 (nd:[ad,ag,am,ah,aJ,aN,aO,ao].Nodup) (ns:List Int) (fz:Bool) (q:Addr × Unit) :
  aM (ke al (doM ad ag am) (bG (eZ ad ah)) (fP ao) bR bW bQ (cG ao) (dm (oZ ad ag)) (eW ad) (bB (qb ag ah ao am aN aJ ad aO [ao,ah,ag,am,ad]) [ao,ah,ag,am,ad]) cT (nq ad) q [some (.val (.lst fz (ns.map .int))),none,none,none,none,none,none,none,none,none,none,none])=.ok (.bl true):=
 EL (by simp) (by simp) (by simp) (by simp) nd ns fz q
end Q77
namespace Q
open PySem PySem.Spec PyProof.Rows L2
theorem mL (h:us.length=1):∃ a,us=[a]:=by
 match us,h with
 | [a],_=>exact ⟨a,rfl⟩
theorem pQ (h:us.length=2):∃ a b,us=[a,b]:=by
 match us,h with
 | [a,b],_=>exact ⟨a,b,rfl⟩
theorem BW (h:us.length=3):∃ a b c,us=[a,b,c]:=by
 match us,h with
 | [a,b,c],_=>exact ⟨a,b,c,rfl⟩
theorem Hn (h:us.length=4):∃ a b c d,us=[a,b,c,d]:=by
 match us,h with
 | [a,b,c,d],_=>exact ⟨a,b,c,d,rfl⟩
theorem CM {K:PySem.W.Frag} {hp:Heap} {mg:Str->Option Value} {bm:List Value} {nid:String} (kin:K.In hp) (gl:hp.Ns mainGlobals mg) (e1:PySem.W.nsIn K mainGlobals x=some (some (.ref C))) (e2:PySem.W.excIn K C bm nid=true):OwnCls x C bm nid mg hp:=by
 constructor
 ·exact PySem.W.mg_of kin gl e1
 ·unfold PySem.W.excIn at e2
  split at e2
  ·rename_i dct kl sls look
   split at e2
   ·rename_i C0 more s0 s1 s2 s3 nw s5 hmro hsls
    simp only [Bool.and_eq_true,beq_iff_eq,Bool.not_eq_true'] at e2
    obtain ⟨⟨⟨⟨⟨eC,en⟩,edel⟩,etail⟩,ens⟩,einit⟩:=e2
    obtain ⟨f1,f2,f3,f4,f5,f6,f7,f8,f9,f10,f11⟩:=kl
    dsimp only at hmro edel ens einit
    have es:sls = #[s0,s1,s2,s3,some (.builtin nw),s5]:=by
     obtain ⟨ls⟩:=sls
     simp only at hsls
     rw [hsls]
    subst hmro edel es eC en
    exact ⟨more,f4,f1,f5,f2,f6,f7,f8,f9,f10,dct,s0,s1,s2,s3,s5,_,kin _ _ look,.of_isNs (PySem.W.isNs_of_in kin ens),PySem.W.nsMap_none_of_in kin ens einit,PySem.W.tail_of_in kin etail⟩
   ·cases e2
  ·cases e2
theorem oO {K:PySem.W.Frag} {hp:Heap} {mg:Str->Option Value} (kin:K.In hp) (gl:hp.Ns mainGlobals mg) (e1:PySem.W.nsIn K mainGlobals x=some (some (.ref C))) (e2:PySem.W.excIn K C [.type "ValueError",.type "Exception",.type "BaseException",.type "object"] "ValueError.__new__"=true):Ref x C mg hp:=
 ⟨_,_,_,_,CM kin gl e1 e2,PySem.F.excBase_ValueError⟩
theorem pH {K:PySem.W.Frag} {G:Hp}:∀ ns:List Int,Reps K G (ns.map V.int) (ns.map D.int)
 | []=>.nil
 | i::ns=>.cons (.int i) (pH ns)
noncomputable def xw:List D->R D
 | [.lst _ ds]=>match iR ds with
  | some _=>.ok (.bl true)
  | none=>.no
 | _=>.no
theorem bw {K:PySem.W.Frag} {mg:Str->Option Value} {kV ct:Value} (X:K.In h) (G:h.Ns mainGlobals mg) (a:PySem.W.nsIn K mainGlobals x=some (some (.ref f)))
 (l:K.lookup f=some ⟨oc,od,.func (PySem.W.fnOf x x (cN st) (bi st) (av st) .none kV doc pm an cdv ct),osl⟩) (c:PySem.W.codeIn K cdv x=true) (k:PySem.W.keepIn K (.ref f)=true):∃ f fd,Fun K x x st f fd/\mg x=some (.ref f):=
 ⟨f,_,sV l c k,PySem.W.mg_of X G a⟩
end Q
namespace Q
open PySem PySem.Spec PyProof.Rows L2
section
variable {K:PySem.W.Frag} {C T:Addr}
theorem xX:PySem.W.kitOne K (.ref C) (.ref C)=some (C==C):=by
 unfold PySem.W.kitOne
 rw [if_pos (by simp)]; simp
theorem pj {t:Value} {b:Bool} {cd:ClassData} (h1:PySem.W.clsIn K T=some cd) (h2:PySem.W.typeIn K (.ref T)=some (.type "type")) (h3:PySem.W.subIn K t (.ref T)=some b):PySem.W.kitCls K t (.ref T)=some b:=by
 unfold PySem.W.kitCls
 dsimp only
 rw [if_pos (by rw [h1,h2]; simp),h3]
theorem BQ {cd:ClassData} (h1:PySem.W.clsIn K T=some cd) (h2:PySem.W.typeIn K (.ref T)=some (.type "type")) (h3:PySem.W.subIn K (.ref C) (.ref T)=some false) (hne:C ≠ T):PySem.W.kitOne K (.ref C) (.ref T)=some (C==T):=by
 unfold PySem.W.kitOne
 rw [if_neg (by simp [hne]),pj h1 h2 h3]
 simp [hne]
theorem Dz (h3:PySem.W.subIn K (.ref C) (.type "ValueError")=some true):PySem.W.kitOne K (.ref C) (.type "ValueError")=some true:=by
 unfold PySem.W.kitOne PySem.W.kitCls
 rw [if_neg (by simp)]
 dsimp only
 rw [if_pos (by decide +kernel),h3]
theorem Cc {cd:ClassData} (h0:PySem.W.subIn K (.ref T) (.type "BaseException")=some true) (h1:PySem.W.clsIn K T=some cd) (h2:PySem.W.typeIn K (.ref T)=some (.type "type")) (h3:PySem.W.subIn K (.ref C) (.ref T)=some true):PySem.W.exmOne K (.ref C) (.ref T)=some true:=by
 unfold PySem.W.exmOne
 rw [if_pos (by rw [h0]; rfl),pj h1 h2 h3]
end
theorem qh {K:PySem.W.Frag} {cd:ClassData} (g1:PySem.W.findIn K (.ref C) "__getattribute__"=some (some (.builtin "BaseException.__getattribute__"))) (g2:PySem.W.findIn K (.ref C) "__getattr__"=some none) (g3:PySem.W.findIn K (.ref C) "__class__"=some (some (.builtin "object.__class__")))
 (g4:PySem.W.specialIn K (.builtin "object.__class__") "__get__"=some (some (.builtin "getset_descriptor.__get__"))) (g5:PySem.W.takesIn K (.builtin "object.__class__")=some true) (g6:PySem.W.mroIn K C (.type "object")=some true) (g7:PySem.W.subIn K (.ref C) (.type "BaseException")=some true)
 (g8:PySem.W.clsIn K C=some cd):ExcCls K C:=⟨g1,g2,g3,g4,g5,g6,g7,by rw [g8]; rfl⟩
noncomputable def TsOk (K:PySem.W.Frag):List (Str × Addr)->Prop
 | []=>True
 | t::ts=>PySem.W.nsIn K mainGlobals t.1=some (some (.ref t.2))/\(∃ q,PySem.W.clsIn K t.2=some q)/\PySem.W.typeIn K (.ref t.2)=some (.type "type")/\TsOk K ts
noncomputable def SubOk (K:PySem.W.Frag) (r:Addr):List (Str × Addr)->Prop
 | []=>True
 | t::ts=>(r=t.2\/PySem.W.subIn K (.ref r) (.ref t.2)=some false)/\SubOk K r ts
noncomputable def RsOk (K:PySem.W.Frag) (L:Addr) (ts:List (Str × Addr)):List Addr->Prop
 | []=>True
 | r::rs=>ExcCls K r/\SubOk K r ts/\PySem.W.subIn K (.ref r) (.type "ValueError")=some true/\PySem.W.subIn K (.ref r) (.ref L)=some true/\RsOk K L ts rs
section
variable {K:PySem.W.Frag} {L:Addr}
theorem TsOk.at:∀ {ts:List (Str × Addr)},TsOk K ts->∀ t ∈ ts,PySem.W.nsIn K mainGlobals t.1=some (some (.ref t.2))/\(∃ q,PySem.W.clsIn K t.2=some q)/\PySem.W.typeIn K (.ref t.2)=some (.type "type")
 | _::_,⟨a,b,c,d⟩,t,h=>by
  rcases List.mem_cons.1 h with rfl | h
  ·exact ⟨a,b,c⟩
  ·exact TsOk.at d t h
theorem SubOk.at {r:Addr}:∀ {ts:List (Str × Addr)},SubOk K r ts->∀ t ∈ ts,r=t.2\/PySem.W.subIn K (.ref r) (.ref t.2)=some false
 | _::_,⟨a,d⟩,t,h=>by
  rcases List.mem_cons.1 h with rfl | h
  ·exact a
  ·exact SubOk.at d t h
theorem RsOk.at:∀ {rs:List Addr},RsOk K L ts rs->∀ r ∈ rs,ExcCls K r/\SubOk K r ts/\PySem.W.subIn K (.ref r) (.type "ValueError")=some true/\PySem.W.subIn K (.ref r) (.ref L)=some true
 | _::_,⟨a,b,c,e,d⟩,t,h=>by
  rcases List.mem_cons.1 h with rfl | h
  ·exact ⟨a,b,c,e⟩
  ·exact RsOk.at d t h
theorem zR {mg:Str->Option Value} {cd:ClassData} (X:K.In h) (G:h.Ns mainGlobals mg) (nL:PySem.W.nsIn K mainGlobals "LineError"=some (some (.ref L))) (h1:TsOk K ts) (h2:RsOk K L ts rs)
 (tL:PySem.W.clsIn K L=some cd) (yL:PySem.W.typeIn K (.ref L)=some (.type "type")) (lb:PySem.W.subIn K (.ref L) (.type "BaseException")=some true):Errs K mg rs ts:=by
 refine ⟨fun t ht=>PySem.W.mg_of X G (h1.at t ht).1,fun r hr=>(h2.at r hr).1,fun r hr t ht=>?_,fun r hr=>Dz (h2.at r hr).2.2.1,⟨L,PySem.W.mg_of X G nL,fun r hr=>Cc lb tL yL (h2.at r hr).2.2.2⟩⟩
 obtain ⟨_,⟨q,c⟩,y⟩:=h1.at t ht
 by_cases e:r=t.2
 ·rw [<- e]; exact xX
 ·rcases (h2.at r hr).2.1.at t ht with z | z
  ·exact absurd z e
  ·exact BQ c y z e
end
end Q
namespace Q
open PySem PySem.Spec PyProof.Rows L2
theorem vw {w:World} {K:PySem.W.Frag} {mg mb:Str->Option Value} {fa:Addr} {sp:Sp} {s₁:Shared} {vs:List Value} {ns:List Int} {ts:List Addr} {nm:Addr->Str}
 (KX:K.In s₁.heap) (hns:s₁.heap.Ns mainGlobals mg) (hb:s₁.heap.Ns builtinsNs mb) (hbb:∀ x:Str,x ≠ "__name__"->mb x=bootBuiltins x) (hlim:s₁.heap.NoLimit) (hg:s₁.gens = #[])
 (ha:s₁.heap.get? a=some { cls:=.type "list",data:=.seq vs.toArray }) (hi:IntsAre vs ns) (hl:ns.length<=sizeLine) (hr:Room k callerA)
 (hts:∀ p ∈ ts,s₁.heap.get? p=some (PySem.W.tabObj #[])/\isCodeTable s₁.heap p/\K.lookup p=none)
 (hbm:∃ bm ob,mg "__builtins__"=some (Value.ref bm)/\bm ≠ builtinsNs/\s₁.heap.get? bm=some ob/\ob.cls=Value.type "module"/\ob.dict=some builtinsNs/\ob.data=Data.plain)
 (F:∀ base:Heap,K.In base->base.Ns mainGlobals mg->(∀ p ∈ ts,base.BuiltinsAt mg p/\vo base p (nm p))->FnOk P w K mg base CX k fa fd [x] sp) (hbind:∀ (s:Shared) (u:Value),BindsTo s fd ⟨[u],[]⟩ [(x,u)])
 (hsp:∀ H:Hp,SqL K H a (ns.map V.int)->sp [.ref a] H (fun v _=>v=.bl true) fun _ _ _=>False)
 (hCX:∀ H e s',CX [] H s₁ (fun _ _ _=>False) e s'->False) :
  codeAny (model P w) callerA (.call (.ref fa) ⟨[.ref a],[]⟩) (fun r s'=>r=.ok (.ret (.bool true))/\OldK s₁.heap s'.heap/\s'.os=s₁.os/\AllBare s'.gens) s₁:=by
 let tf:Addr->Array Value:=fun p=>#[.str (nm p) 0]
 have rv:=qm hi
 have lenV:=hi.length
 have nat:∀ p ∈ ts,p ≠ a:=fun p hp z=>by
  have:=(hts p hp).1
  rw [z,ha] at this
  have:=congrArg Obj.data (Option.some.inj this)
  cases this
 have core:∀ H:Hp,(∀ b,b ∉ ts->H b=none\/∃ o xs,H b=some (.frz o (.lst xs)))->(∀ p ∈ ts,H p=some (.tbl (tf p)))->SqL K H a (ns.map V.int)->HOk P w H s₁.heap->(∀ b,H b ≠ none->b=a\/b ∈ ts)->(H a ≠ none->K.lookup a=none)->
   codeAny (model P w) callerA (.call (.ref fa) ⟨[.ref a],[]⟩) (fun r s'=>r=.ok (.ret (.bool true))/\OldK s₁.heap s'.heap/\s'.os=s₁.os/\AllBare s'.gens) s₁:=by
  intro H hO hO2 hS hok hA hK
  have base_of:∀ {b:Addr} {o:Obj},s₁.heap.get? b=some o->H b=none->(tx s₁.heap H).get? b=some o:=fun e n=>yS e n
  have noA:∀ {b:Addr} {o:Obj} {es:Array DictEntry} {ep:Nat},s₁.heap.get? b=some o->o.data=.dict es ep->H b=none:=fun {b o es ep} e d=>by
   cases q:H b with
   | none=>rfl
   | some u=>
    rcases hA b (by rw [q]; simp) with e' | e'
    ·subst e'
     rw [ha] at e; cases e
     have d':Data.seq vs.toArray _=Data.dict es ep:=d
     cases d'
    ·rw [(hts b e').1] at e; cases e
     have d':Data.fields #[]=Data.dict es ep:=d
     cases d'
  have nsK:∀ {b:Addr} {m:Str->Option Value},s₁.heap.Ns b m->(tx s₁.heap H).Ns b m:=fun {b m} ⟨o,es,ep,e,d,r⟩=>⟨o,es,ep,base_of e (noA e d),d,r⟩
  have hKb:K.In (tx s₁.heap H):=fun b o e=>base_of (KX b o e) (by
   cases q:H b with
   | none=>rfl
   | some u=>
    rcases hA b (by rw [q]; simp) with e' | e'
    ·subst e'
     rw [hK (by rw [q]; simp)] at e; cases e
    ·rw [(hts b e').2.2] at e; cases e)
  have hM:Mod K mg (tx s₁.heap H):=⟨hKb,nsK hns,⟨mb,nsK hb,hbb⟩,let ⟨mc,h1,h2⟩:=hlim; ⟨mc,nsK h1,h2⟩⟩
  have e0:Env0 P w K mg (tx s₁.heap H) callerA [] s₁ H:=⟨rfl,hM,fun b o e=>Aa e,Nat.le_of_eq (wl _ _),trivial,fun b hb=>absurd (show b ∈ ([]:List Addr) from hb) (by simp),hok,.of_eq hg,wQ _ _⟩
  have hBM0:∀ p ∈ ts,(tx s₁.heap H).BuiltinsAt mg p:=fun p hp=>by
   obtain ⟨bm,ob,m1,m2,m3,m4,m5,m6⟩:=hbm
   have hn:H bm=none:=by
    cases q:H bm with
    | none=>rfl
    | some u=>
     rcases hA bm (by rw [q]; simp) with e' | e'
     ·subst e'
      rw [ha] at m3; cases m3
      have d':Data.seq vs.toArray _=Data.plain:=m6
      cases d'
     ·rw [(hts bm e').1] at m3; cases m3
      have d':Data.fields #[]=Data.plain:=m6
      cases d'
   refine ⟨bm,ob,m1,m2,fun z=>?_,fun z=>?_,base_of m3 hn,m4,m5,m6⟩
   ·obtain ⟨o,es,ep,e,d,_⟩:=hns
    rw [<- z,m3] at e; cases e
    rw [m6] at d; cases d
   ·have e:=(hts p hp).1
    rw [<- z,m3] at e; cases e
    have d':Data.fields #[]=Data.plain:=m6
    cases d'
  have hBM:∀ p ∈ ts,(tx s₁.heap H).BuiltinsAt mg p/\vo (tx s₁.heap H) p (nm p):=fun p hp=>⟨hBM0 p hp,yH (get_objs.1 (hts p hp).1).1 (hO2 p hp)⟩
  refine codeAny_mono ((F _ hKb (nsK hns) hBM).run callerA [] s₁ H ⟨[.ref a],[]⟩ [.ref a] [.ref a] _ _ hr e0 (hbind s₁ (.ref a)) (.cons rfl .nil) (hsp H hS)) fun r s' h=>?_
  cases r with
  | error e=>exact (hCX H e s' h).elim
  | ok fl=>
   cases fl with
   | next=>exact False.elim h
   | brk=>exact False.elim h
   | cont=>exact False.elim h
   | ret u=>
    obtain ⟨v,H',os,bare,un,hok',r',q⟩:=h
    have q':v=.bl true:=q
    subst q'
    obtain rfl:u=Value.bool true:=r'
    have tab:∀ p ∈ ts,∃ qs,s'.heap.get? p=some { cls:=.none,data:=.fields qs }:=fun p hp=>by
     obtain ⟨more,z⟩:=un.tbls p _ (hO2 p hp)
     obtain ⟨qs,e,_⟩:=hok' p _ z
     exact ⟨qs,e⟩
    have keep:∀ b o,b ∉ ts->s₁.heap.get? b=some o->s'.heap.get? b=some o:=fun b o hb e=>by
     cases q:H b with
     | none=>exact un.keep b o e q (by intro z; exact absurd (show b ∈ ([]:List Addr) from z) (by simp)) (by simp)
     | some u=>
      rcases hO b hb with z | ⟨ob,xs,z⟩
      ·rw [q] at z; cases z
      ·have z2:=un.frzs b ob _ z
       obtain ⟨e1,_⟩:=hok b _ z
       obtain ⟨e2,_⟩:=hok' b _ z2
       rw [e] at e1; cases e1
       exact e2
    refine ⟨rfl,⟨fun b o e=>?_,fun b o e=>?_⟩,os,bare⟩
    ·by_cases hb:b ∈ ts
     ·obtain ⟨t1,t2,_⟩:=hts b hb
      rw [t1] at e
      cases e
      obtain ⟨qs,z⟩:=tab b hb
      exact .inr (.inl ⟨t2,rfl,#[],qs,rfl,by rw [z]; simp⟩)
     ·exact .inl (keep b o hb e)
    ·by_cases hb:b ∈ ts
     ·obtain ⟨qs,z⟩:=tab b hb; exact ⟨_,z⟩
     ·exact ⟨o,keep b o hb e⟩
 have tabOk:∀ (H:Hp) (p:Addr),p ∈ ts->ObjOk P w H s₁.heap p (.tbl (tf p)):=fun H p hp=>⟨#[],(hts p hp).1,trivial,fun pos cv q=>by simp [codeAmong] at q⟩
 cases hk:K.lookup a with
 | some o=>
  have e:=KX a o hk
  rw [ha] at e
  cases e
  refine core (fun b=>if b ∈ ts then some (.tbl (tf b)) else none) (fun b hb=>.inl (if_neg hb)) (fun p hp=>if_pos hp) (.inr ⟨_,vs.toArray,_,hk,rfl,rfl,rfl,by rw [List.size_toArray,lenV]; exact hl,by simpa using rv⟩) (fun b u z=>?_) (fun b z=>?_) fun z=>absurd (if_neg fun hb=>nat a hb rfl) z
  ·by_cases hb:b ∈ ts
   ·have z':=(if_pos hb).symm.trans z
    cases z'
    exact tabOk _ b hb
   ·have z':=(if_neg hb).symm.trans z
    cases z'
  ·by_cases hb:b ∈ ts
   ·exact .inr hb
   ·exact absurd (if_neg hb) z
 | none=>
  have na:a ∉ ts:=fun z=>nat a z rfl
  refine core (fun b=>if b=a then some (.frz { cls:=.type "list",data:=.seq vs.toArray } (.lst (ns.map V.int))) else if b ∈ ts then some (.tbl (tf b)) else none) (fun b hb=>?_) (fun p hp=>?_) (.inl (.inr ⟨{ cls:=.type "list",data:=.seq vs.toArray },if_pos rfl⟩)) (fun b u z=>?_) (fun b z=>?_) fun _=>hk
  ·by_cases hb':b=a
   ·exact .inr ⟨_,_,if_pos hb'⟩
   ·exact .inl ((if_neg hb').trans (if_neg hb))
  ·exact (if_neg (nat p hp)).trans (if_pos hp)
  ·by_cases hb:b=a
   ·have z':=(if_pos hb).symm.trans z
    cases z'
    subst hb
    exact ⟨ha,by rw [List.length_map]; exact hl,vs,_,rv,ha⟩
   ·have z':=(if_neg hb).symm.trans z
    by_cases hb2:b ∈ ts
    ·rw [if_pos hb2] at z'
     cases z'
     exact tabOk _ b hb2
    ·rw [if_neg hb2] at z'
     cases z'
  ·by_cases hb:b=a
   ·exact .inl hb
   ·by_cases hb2:b ∈ ts
    ·exact .inr hb2
    ·exact absurd ((if_neg hb).trans (if_neg hb2)) z
theorem Am {c:Addr} (q:PySem.W.CodeHd h c p):isCodeTable h p:=by
 obtain ⟨o,vs,_,_,_,_,_,_,_,e,e1,e2,e3,_⟩:=q
 exact ⟨c,o,vs,e,e1,e2,e3⟩
theorem mH {α β:Type} [BEq α] [LawfulBEq α] {a:α}:∀ {l:List (α × β)},a ∉ l.map (·.1)->l.lookup a=none
 | [],_=>rfl
 | (k,v)::r,h=>by
  simp only [List.map_cons,List.mem_cons,not_or] at h
  have:(a==k)=false:=by simp; exact h.1
  simp only [List.lookup_cons,this]
  exact mH h.2
theorem FL {l:PySem.W.OpenLaw} {q:Program} {XP:(Str->Option Value)->Heap->Prop} {d:DefRec} {K:Params->PySem.W.Frag} {as:List Addr} {e:∀ P:Params,as=(K P).map (·.1)} {L:Nat} {ts:List Addr} (hL:Room L callerA) (hn:l.most=some 63) (hdf:d.params.defaults=[])
 (hts:∀ p ∈ ts,p ∉ as)
 (F:∀ (w:World) (mg:Str->Option Value) (fa:Addr) (h:Heap),(K w.params).In h->h.Ns mainGlobals mg->mg d.name=some (.ref fa)->
 (∀ p ∈ ts,isCodeTable h p)/\∃ nm:Addr->Str,
 ∃ fd:FuncData,(∀ (s:Shared) (u:Value),BindsTo s fd ⟨[u],[]⟩ [("_law_script",u)])/\∀ base:Heap,(K w.params).In base->base.Ns mainGlobals mg->(∀ p ∈ ts,base.BuiltinsAt mg p/\vo base p (nm p))->FnF l.prog w (K w.params) mg base L fa fd ["_law_script"] xw) :
  PySem.W.WalkO q loose XP (PySem.W.kmHook K as e ts).says l.row.toRowW d [] (fun f vs=>PySem.call f vs):=by
 refine Att.attach_call hn hdf fun w s₀ s₁ mg mb fa o pm cd doc a vs ns G Y ho hd hcd hmg hobj hints hlen hg=>?_
 have KX:=PySem.W.km_in_of Y
 obtain ⟨ht,nm,fd,hb,hF⟩:=F w mg fa _ KX G.T.g hmg
 refine vw KX G.T.g G.T.b G.T.builtins G.T.nolimit hg hobj hints (Nat.le_trans hlen (by decide)) hL (fun p hp=>⟨PySem.W.km_tabs_of Y p hp,ht p hp,mH (by rw [<- e w.params]; exact hts p hp)⟩) G.T.bmain hF hb (fun H hS=>⟨rfl,H,[.lst true (ns.map .int)],.refl _,.cons (.fls hS (pH ns)) .nil,?_⟩) fun H e s' z=>by obtain ⟨a,C,H',_,_,z⟩:=z; exact z
 have e:xw [.lst true (ns.map .int)]=.ok (.bl true):=by simp only [xw,iA]
 rw [e]
 exact fun v G' H' u r=>r.bl_inv
theorem AV {K:PySem.W.Frag} {mg:Str->Option Value} {c:Addr} {od2:Option Addr} {sl2:Array (Option Value)} {kV ct:Value} {vs:Array Value} {file:Str} {tf tg tt:Tok} {flags text:Int} {inF:Bool} (X:K.In h) (G:h.Ns mainGlobals mg) (a:PySem.W.nsIn K mainGlobals x=some (some (.ref f)))
 (l:K.lookup f=some ⟨oc,od,.func (PySem.W.fnOf x x (cN st) (bi st) (av st) .none kV doc pm an (.ref c) ct),osl⟩) (cI:PySem.W.codeIn K (.ref c) x=true) (k:PySem.W.keepIn K (.ref f)=true)
 (lc:K.lookup c=some ⟨.type "code",od2,.fields vs,sl2⟩) (e11:vs[11]?=some (.ref Pt)) (e11':vs.getD 11 .none=.ref Pt) (e18:vs.getD 18 .none=.str file tf) (e7:vs.getD 7 .none=.int flags tg) (e9:vs.getD 9 .none=.bool inF) (e10:vs.getD 10 .none=.int text tt) (nc:c ≠ Pt) (n4:mainGlobals ≠ Pt) :
  ∃ f fd,(Fun K x x st f fd/\mg x=some (.ref f))/\LamDef K mg fd Pt:=by
 have hc:∀ h,K.In h->PySem.W.CodeHd h c Pt:=fun h X=>⟨_,vs,file,tf,flags,tg,inF,text,tt,X _ _ lc,rfl,rfl,e11,e11',e18,e7,e9,e10,nc⟩
 exact ⟨f,_,⟨sV l cI k,PySem.W.mg_of X G a⟩,⟨⟨c,rfl,hc⟩,n4⟩⟩
theorem LamDef.tab {K:PySem.W.Frag} {mg:Str->Option Value} (L:LamDef K mg fd Pt) (X:K.In h):isCodeTable h Pt:=by
 obtain ⟨c,_,q⟩:=L.ex
 exact Am (q h X)
theorem BR {K:PySem.W.Frag} {mg:Str->Option Value} {q:Str} {L:List (Addr × Str)} {S:Addr->FuncData->Prop} (LD:∃ f fd,S f fd/\LamDef K mg fd Pt) (X:K.In h) (r:∀ pq ∈ L,isCodeTable h pq.1):∀ pq ∈ (Pt,q)::L,isCodeTable h pq.1:=fun pq hp=>by
 obtain ⟨f,fd,_,ld⟩:=LD
 rcases List.mem_cons.1 hp with z | z
 ·rw [z]; exact LamDef.tab ld X
 ·exact r pq z
theorem Ch:∀ pq ∈ ([]:List (Addr × Str)),isCodeTable h pq.1:=fun pq hp=>by simp at hp
theorem Gx {w:World} {K:PySem.W.Frag} {mg:Str->Option Value} {fa:Addr} {L:Nat} {ts:List Addr} {tq:List (Addr × Str)} (h1:∀ p ∈ ts,p ∈ tq.map (·.1)) (h2:∀ pq ∈ tq,pq.1 ∈ ts/\tq.lookup pq.1=some pq.2) (hc:∀ pq ∈ tq,isCodeTable h pq.1)
 (a:∃ fd:FuncData,(∀ (s:Shared) (u:Value),BindsTo s fd ⟨[u],[]⟩ [("_law_script",u)])/\∀ base:Heap,K.In base->base.Ns mainGlobals mg->(∀ pq ∈ tq,base.BuiltinsAt mg pq.1/\vo base pq.1 pq.2)->FnF P w K mg base L fa fd ["_law_script"] xw) :
  (∀ p ∈ ts,isCodeTable h p)/\∃ nm:Addr->Str,∃ fd:FuncData,(∀ (s:Shared) (u:Value),BindsTo s fd ⟨[u],[]⟩ [("_law_script",u)])/\∀ base:Heap,K.In base->base.Ns mainGlobals mg->(∀ p ∈ ts,base.BuiltinsAt mg p/\vo base p (nm p))->
   FnF P w K mg base L fa fd ["_law_script"] xw:=by
 obtain ⟨fd',hb,hF⟩:=a
 refine ⟨fun p hp=>?_,fun p=>(tq.lookup p).getD Str.empty,fd',hb,fun base kb nb hB=>hF base kb nb fun pq hpq=>?_⟩
 ·obtain ⟨pq,hpq,rfl⟩:=List.mem_map.1 (h1 p hp)
  exact hc pq hpq
 ·obtain ⟨z1,z2⟩:=h2 pq hpq
  have:=hB pq.1 z1
  dsimp only at this
  rw [z2] at this
  exact this
end Q
namespace Q
open PySem PySem.Spec PyProof.Rows L2
theorem eP {K:PySem.W.Frag} {kV ct:Value} (a:PySem.W.findIn K (.ref C) x=some (some (.ref f))) (i:PySem.W.isFn K (.ref f)=true)
 (l:K.lookup f=some ⟨oc,od,.func (PySem.W.fnOf x qual (cN st) (bi st) (av st) .none kV doc pm an cdv ct),osl⟩) (c:PySem.W.codeIn K cdv qual=true) (k:PySem.W.keepIn K (.ref f)=true):∃ f fd,Fun K x qual st f fd/\Meth K C x f:=
 ⟨f,_,sV l c k,⟨a,i,k⟩⟩
theorem zM {K:PySem.W.Frag} {kV ct:Value} (a:PySem.W.findIn K (.ref C) "__init__"=some (some (.ref f))) (i:PySem.W.isFn K (.ref f)=true)
 (l:K.lookup f=some ⟨oc,od,.func (PySem.W.fnOf "__init__" qual (cN st) (bi st) (av st) .none kV doc pm an cdv ct),osl⟩) (c:PySem.W.codeIn K cdv qual=true) (k:PySem.W.keepIn K (.ref f)=true) (mk:PySem.W.makesIn K C=true) (kc:PySem.W.keepIn K (.ref C)=true) :
  ∃ f fd,Fun K "__init__" qual st f fd/\Mk K C f:=⟨f,_,sV l c k,⟨mk,a,i,kc⟩⟩
theorem Dx {K:PySem.W.Frag} (pg:PySem.W.plainGet K C Str.empty=true) (hd:PySem.W.hasDictIn K C=true) (po:PySem.W.plainOver K C=true) (sa:PySem.W.findIn K (.ref C) "__setattr__"=some (some (.builtin "object.__setattr__"))):CF K C []:=
 ⟨⟨pg,hd,po,sa⟩,fun k hk=>by simp at hk⟩
theorem vX {K:PySem.W.Frag} {ks:List Nat} (k:Nat) (h:CF K C ks) (hk:k < fnames.length) (e:cm k=x) (n:PySem.W.findIn K (.ref C) x=some none):CF K C (k::ks):=
 ⟨h.cl,fun j hj=>by
  rcases List.mem_cons.1 hj with rfl | hj
  ·exact ⟨hk,by unfold NoAttr; rw [e]; exact n⟩
  ·exact h.na j hj⟩
section
variable {P:Program} {w:World} {K:PySem.W.Frag} {mg:Str->Option Value} {base:Heap} {C:Addr} {x qual:Str} {st:Stmt} {f:Addr} {fd:FuncData} {ps:List Str} {k n:Nat} {G:MF}
theorem fb (F:Fun K x qual st f fd) (m:Meth K C x f) (ok:FnM P w K mg base k f fd ps C G)
 (h:∀ (kV doc pm:Value) (an:Option Addr) (cdv ct:Value) (us:List Value),us.length=ps.length->bindArgs (PySem.W.fnOf x qual (cN st) (bi st) (av st) .none kV doc pm an cdv ct) ⟨us,[]⟩=pure (ps.zip us)) (e:ps.length=n+1):MCallee P w K mg base C x k n G:=
 ⟨⟨f,fd,ps,ok,m,F.binds h,e⟩⟩
theorem mkc {cn:Str} (F:Fun K x qual st f fd) (m:Mk K C f) (hc:mg cn=some (.ref C)) (ok:FnM P w K mg base k f fd ps C G)
 (h:∀ (kV doc pm:Value) (an:Option Addr) (cdv ct:Value) (us:List Value),us.length=ps.length->bindArgs (PySem.W.fnOf x qual (cN st) (bi st) (av st) .none kV doc pm an cdv ct) ⟨us,[]⟩=pure (ps.zip us)) (e:ps.length=n+1):MkC P w K mg base C cn k n G:=
 ⟨⟨f,fd,ps,ok,m,hc,F.binds h,e⟩⟩
theorem sY {cn:Str} (c:MkC P w K mg base C cn k n G) (k':Nat) (h:k<=k':=by decide):MkC P w K mg base C cn k' n G:=by
 obtain ⟨f,fd,ps,M,hm,hg,hb,e⟩:=c.ex
 exact ⟨⟨f,fd,ps,{ M with run:=fun A outer s H args us vs Q E hr=>M.run A outer s H args us vs Q E (hr.mono h) },hm,hg,hb,e⟩⟩
end
theorem A1 {α:Type} {g:α->List D->R D} (h:∀ (ns:List Int) (fz:Bool) (q:α),g q [.lst fz (ns.map .int)]=.ok (.bl true)):∀ ds:List D,ds.length=1->xw ds=.no\/∀ q,g q ds=xw ds:=by
 intro ds hl
 match ds,hl with
 | [d],_=>
  cases d <;> first | exact Or.inl rfl | skip
  rename_i fz ds hl
  cases hi:iR ds with
  | none=>exact Or.inl (by simp only [xw,hi])
  | some ns=>
   have e:=jM hi
   subst e
   refine Or.inr fun q=>?_
   rw [h ns fz q]
   simp only [xw,hi]
end Q
namespace G77
open PySem PySem.Spec PyProof.Rows L2 Q Q77
noncomputable abbrev top (i:Nat):Stmt:=PySem.Challenge.pw_screenlines_k77_pads_refused.main.body.getD i (.Pass ⟨0,0,0,0⟩)
section
variable {P:Program} {w:World} {K:PySem.W.Frag} {mg:Str->Option Value} {base:Heap}
theorem sG:FnScope ["_law_script","_law_k"] ["_law_script","_law_k"] (av (top 72)):=⟨rfl,rfl,rfl,by decide +kernel,rfl,by decide +kernel,by decide +kernel⟩
theorem sJ (bo:mg "len"=none) (Fn:Fun K "_law_cell" "_law_cell" (top 72) f fd):FnF P w K mg base 1 f fd ["_law_script","_law_k"] (fun ds=>aM (dZ (aL 2 ds))):=by
 have hN:(["_law_script","_law_k"]:List Str).Nodup:=by decide
 refine Fn.okF sG (k:=0) (g:=dZ) fun cdv A outer s H E hr=>?_
 have hu:=hr.units
 have hh:=hr.hd
 exact (aB (iS (E7 (aF at1) (eG rfl bo (aa (aF at0) ae))) (aB (bx (bg (aF at0) (aF at1))) aV) aV) (aB (iS (rT hu (aF at0) (cz (cY ae))) (aB (bx ay) aV) aV) (aB (bx (cu (gC (bg (aF at0) (kg (aF at1) (eG rfl bo (aa (aF at0) ae)))) ay) (aF at1))) aV)))
theorem sK:FnScope ["_law_script","_law_k","_law_many","_law_drawn"] ["_law_script","_law_k","_law_many"] (av (top 73)):=⟨rfl,rfl,rfl,by decide +kernel,rfl,by decide +kernel,by decide +kernel⟩
theorem rk {bP:List D->R D} (qQ:Callee P w K mg base "_law_cell" 1 2 bP) (Fn:Fun K "_law_pick" "_law_pick" (top 73) f fd):FnF P w K mg base 2 f fd ["_law_script","_law_k","_law_many"] (fun ds=>aM (ee bP (aL 4 ds))):=by
 have hN:(["_law_script","_law_k","_law_many","_law_drawn"]:List Str).Nodup:=by decide
 refine Fn.okF sK (k:=1) (g:=ee bP) fun cdv A outer s H E hr=>?_
 have hu:=hr.units
 have hh:=hr.hd
 exact (aB (fi at3 hN (kg (gC (cu (bd qQ hr (aa (aF at0) (aa (aF at1) ae))) (gC ay (cu (aF at1) ay))) ay) ay)) (aB (bx (kg (kg (cu (gC (aF at3) (aF at3)) (AE (aF at3) ay)) ay) (aF at2))) aV))
theorem rP:FnScope ["thing"] ["thing"] (av (top 12)):=⟨rfl,rfl,rfl,by decide +kernel,rfl,by decide +kernel,by decide +kernel⟩
theorem rq (qC:mg "bool"=none) (rm:mg "int"=none) (aH:mg "isinstance"=none) (Fn:Fun K "is_whole" "is_whole" (top 12) f fd):FnF P w K mg base 1 f fd ["thing"] (fun ds=>aM (dX (aL 1 ds))):=by
 have hN:(["thing"]:List Str).Nodup:=by decide
 refine Fn.okF rP (k:=0) (g:=dX) fun cdv A outer s H E hr=>?_
 have hu:=hr.units
 have hh:=hr.hd
 exact (aB (bx (gG (Bk aH (aF at0) rm) (hW (Cw (yo aH (aF at0) qC))))) aV)
theorem pY:FnScope ["thing","low","high"] ["thing","low","high"] (av (top 13)):=⟨rfl,rfl,rfl,by decide +kernel,rfl,by decide +kernel,by decide +kernel⟩
theorem oI {cM:List D->R D} (uy:Callee P w K mg base "is_whole" 1 1 cM) (Fn:Fun K "is_within" "is_within" (top 13) f fd):FnF P w K mg base 2 f fd ["thing","low","high"] (fun ds=>aM (dt cM (aL 3 ds))):=by
 have hN:(["thing","low","high"]:List Str).Nodup:=by decide
 refine Fn.okF pY (k:=1) (g:=dt cM) fun cdv A outer s H E hr=>?_
 have hu:=hr.units
 have hh:=hr.hd
 exact (aB (bx (gG (bd uy hr (aa (aF at0) ae)) (hW (rG (aF at1) (aF at0) (aF at2))))) aV)
theorem rN:FnScope ["thing"] ["thing"] (av (top 14)):=⟨rfl,rfl,rfl,by decide +kernel,rfl,by decide +kernel,by decide +kernel⟩
theorem rj (lu:mg "all"=none) (aH:mg "isinstance"=none) (wT:mg "str"=none) (Fn:Fun K "is_plain" "is_plain" (top 14) f fd):FnF P w K mg base 1 f fd ["thing"] (fun ds=>aM (dY (aL 1 ds))):=by
 have hN:(["thing"]:List Str).Nodup:=by decide
 refine Fn.okF rN (k:=0) (g:=dY) fun cdv A outer s H E hr=>?_
 have hu:=hr.units
 have hh:=hr.hd
 exact (aB (bx (gG (AM aH (aF at0) wT) (hW (AS rfl rfl lu (aa (pG (iB (N':=["sign"]) (ix:=[]) gO rfl (kF (aF at0)) (fun C s₂ H₂ fp=>(rG (aQ (l:=[32]) rfl (by decide)) (dU at0) (aQ (l:=[126]) rfl (by decide)))) (fun C s₂ H₂ fp=>gN))) ae))))) aV)
theorem jF:FnScope ["thing","width"] ["thing","width"] (av (top 18)):=⟨rfl,rfl,rfl,by decide +kernel,rfl,by decide +kernel,by decide +kernel⟩
theorem jE (lu:mg "all"=none) (aH:mg "isinstance"=none) (bo:mg "len"=none) (bL:mg "tuple"=none) {cL:Tok} (bn:mg "MOST_ROWS"=some (.int 12 cL)) (eJ:Callee P w K mg base "is_plain" 1 1 aX) (Fn:Fun K "are_full_rows" "are_full_rows" (top 18) f fd):FnF P w K mg base 2 f fd ["thing","width"] (fun ds=>aM (bV aX (aL 2 ds))):=by
 have hN:(["thing","width"]:List Str).Nodup:=by decide
 refine Fn.okF jF (k:=1) (g:=bV aX) fun cdv A outer s H E hr=>?_
 have hu:=hr.units
 have hh:=hr.hd
 exact (aB (iS (lV (fU (dN (eN (ic aH (aF at0) bL))) (eB (dN (zK ay (eG rfl bo (aa (aF at0) ae)) (du rfl bn)))))) (aB (bx hU) aV) aV) (aB (bx (AS rfl rfl lu (aa (pG (iB (N':=["row","width"]) (ix:=[1]) gO rfl (kF (aF at0)) (fun C s₂ H₂ fp=>(gG (bd eJ hr (aa (dU at0) ae)) (hW (wz hu (eG rfl bo (aa (dU at0) ae)) (dU at1))))) (fun C s₂ H₂ fp=>gN))) ae))) aV))
theorem rR:FnScope ["thing","width","many"] ["thing","width","many"] (av (top 19)):=⟨rfl,rfl,rfl,by decide +kernel,rfl,by decide +kernel,by decide +kernel⟩
theorem rz (aH:mg "isinstance"=none) (bo:mg "len"=none) (bL:mg "tuple"=none) (bN:Callee P w K mg base "is_within" 2 3 aG) (Fn:Fun K "is_place" "is_place" (top 19) f fd):FnF P w K mg base 3 f fd ["thing","width","many"] (fun ds=>aM (dM aG (aL 3 ds))):=by
 have hN:(["thing","width","many"]:List Str).Nodup:=by decide
 refine Fn.okF rR (k:=2) (g:=dM aG) fun cdv A outer s H E hr=>?_
 have hu:=hr.units
 have hh:=hr.hd
 exact (aB (iS (lV (fU (dN (eN (ic aH (aF at0) bL))) (eB (jz hu (eG rfl bo (aa (aF at0) ae)) ay)))) (aB (bx hU) aV) aV) (aB (bx (gG (bd bN hr (aa (bg (aF at0) ay) (aa ay (aa (sZ (aF at2) ay) ae)))) (hW (bd bN hr (aa (bg (aF at0) ay) (aa ay (aa (aF at1) ae))))))) aV))
theorem pU:FnScope ["thing","width"] ["thing"] (av (top 20)):=⟨rfl,rfl,rfl,by decide +kernel,rfl,by decide +kernel,by decide +kernel⟩
theorem pE {ba bC:List D->R D} (aH:mg "isinstance"=none) (bo:mg "len"=none) (bL:mg "tuple"=none) {dR:Tok} (bz:mg "MOST_WIDTH"=some (.int 40 dR)) (bN:Callee P w K mg base "is_within" 3 3 aG) (ki:Callee P w K mg base "are_full_rows" 3 2 ba) (uR:Callee P w K mg base "is_place" 3 3 bC) (Fn:Fun K "is_screen" "is_screen" (top 20) f fd):FnF P w K mg base 4 f fd ["thing"] (fun ds=>aM (dq aG ba bC (aL 2 ds))):=by
 have hN:(["thing","width"]:List Str).Nodup:=by decide
 refine Fn.okF pU (k:=3) (g:=dq aG ba bC) fun cdv A outer s H E hr=>?_
 have hu:=hr.units
 have hh:=hr.hd
 exact (aB (iS (lV (fU (dN (eN (ic aH (aF at0) bL))) (eB (jz hu (eG rfl bo (aa (aF at0) ae)) ay)))) (aB (bx hU) aV) aV) (aB (fi at1 hN (bg (aF at0) ay)) (aB (iS (lV (fU (dN (eN (bd bN hr (aa (aF at1) (aa ay (aa (du rfl bz) ae)))))) (eB (dN (eN (bd ki hr (aa (bg (aF at0) ay) (aa (aF at1) ae)))))))) (aB (bx hU) aV) aV) (aB (bx (bd uR hr (aa (bg (aF at0) ay) (aa (aF at1) (aa (eG rfl bo (aa (bg (aF at0) ay) ae)) ae))))) aV))))
theorem kq:FnScope ["thing"] ["thing"] (av (top 21)):=⟨rfl,rfl,rfl,by decide +kernel,rfl,by decide +kernel,by decide +kernel⟩
theorem jY {ce:List D->R D} (dE:Ref "NoScreen" ad mg base) (qR:Callee P w K mg base "is_screen" 4 1 ce) (Fn:Fun K "check_screen" "check_screen" (top 21) f fd):FnF P w K mg base 5 f fd ["thing"] (fun ds=>aM (cb ce ad (aL 1 ds))):=by
 have hN:(["thing"]:List Str).Nodup:=by decide
 refine Fn.okF kq (k:=4) (g:=cb ce ad) fun cdv A outer s H E hr=>?_
 have hu:=hr.units
 have hh:=hr.hd
 exact (aB (iS (dN (eN (bd qR hr (aa (aF at0) ae)))) (aB (eR dE hh (aQ (l:=[116,104,105,115,32,105,115,32,110,111,32,115,99,114,101,101,110]) rfl (by decide))) aV) aV) aV)
theorem pX:FnScope ["row","column"] ["row","column"] (av (top 63)):=⟨rfl,rfl,rfl,by decide +kernel,rfl,by decide +kernel,by decide +kernel⟩
theorem oU (Fn:Fun K "spot_text" "spot_text" (top 63) f fd):FnF P w K mg base 1 f fd ["row","column"] (fun ds=>aM (dv (aL 2 ds))):=by
 have hN:(["row","column"]:List Str).Nodup:=by decide
 refine Fn.okF pX (k:=0) (g:=dv) fun cdv A outer s H E hr=>?_
 have hu:=hr.units
 have hh:=hr.hd
 exact (aB (bx (wO (Bw (aF at0)) (aQ (l:=[32]) rfl (by decide)) (Bw (aF at1)))) aV)
theorem lW:FnScope ["screen","rows"] ["screen"] (av (top 70)):=⟨rfl,rfl,rfl,by decide +kernel,rfl,by decide +kernel,by decide +kernel⟩
theorem lL {bD:List D->R D} (br:Callee P w K mg base "check_screen" 5 1 ai) (rJ:Callee P w K mg base "spot_text" 5 2 bD) (Fn:Fun K "screen_text" "screen_text" (top 70) f fd):FnF P w K mg base 6 f fd ["screen"] (fun ds=>aM (cC ai bD (aL 2 ds))):=by
 have hN:(["screen","rows"]:List Str).Nodup:=by decide
 refine Fn.okF lW (k:=5) (g:=cC ai bD) fun cdv A outer s H E hr=>?_
 have hu:=hr.units
 have hh:=hr.hd
 exact (aB (ii (bd br hr (aa (aF at0) ae))) (aB (wa 1 hN (N':=["row"]) (ix:=[]) gO rfl (kF (bg (aF at0) ay)) (fun C s₂ H₂ fp=>(wO (aQ (l:=[124]) rfl (by decide)) (Bw (dU at0)) (aQ (l:=[124,10]) rfl (by decide)))) (fun C s₂ H₂ fp=>gN)) (yE 1 (aB (bx (cu (cu (D4 (aQ (l:=[]) rfl (by decide)) (aa (aF at1) ae)) (bd rJ hr (aa (bg (bg (aF at0) ay) ay) (aa (bg (bg (aF at0) ay) ay) ae)))) (aQ (l:=[10]) rfl (by decide)))) aV))))
theorem pO:FnScope ["_law_kept","_law_kinds","_law_some"] ["_law_kept"] (av (top 74)):=⟨rfl,rfl,rfl,by decide +kernel,rfl,by decide +kernel,by decide +kernel⟩
theorem qg (cU:mg "ValueError"=none) (aH:mg "isinstance"=none) (Er:Errs K mg rs [("NoScreen",ad),("NoOrder",ag),("NoRoom",am),("NoNumber",ah),("NoTable",aJ),("NoTask",aN),("NoText",aO),("NoBack",ao)]) (Fn:Fun K "_law_class" "_law_class" (top 74) f fd):FnFH P w K mg base 1 f fd ["_law_kept"] (fun ds=>fq (aM (dz ag ah ao am aN aJ ad aO rs (aL 3 ds)))):=by
 have hN:(["_law_kept","_law_kinds","_law_some"]:List Str).Nodup:=by decide
 refine Fn.okFH pO (k:=0) (g:=dz ag ah ao am aN aJ ad aO rs) fun cdv A outer s H E a xe hr=>?_
 have hu:=hr.units
 have hh:=hr.hd
 exact (aB (xN 1 hN (cY (aa (fH (T:=ao) Er (.tail _ (.tail _ (.tail _ (.tail _ (.tail _ (.tail _ (.tail _ (.head _)))))))) aH (dI at0)) (aa (fH (T:=ah) Er (.tail _ (.tail _ (.tail _ (.head _)))) aH (dI at0)) (aa (fH (T:=ag) Er (.tail _ (.head _)) aH (dI at0)) ae))))) (aB (nR 1 (cz (cY (aa (fH (T:=am) Er (.tail _ (.tail _ (.head _))) aH (dI at0)) ae)))) (yE 1 (aB (vx at1 hN (cu (dI at1) (cz (cY (aa (fH (T:=ad) Er (.head _) aH (dI at0)) (aa (fH (T:=aJ) Er (.tail _ (.tail _ (.tail _ (.tail _ (.head _))))) aH (dI at0)) (aa (fH (T:=aN) Er (.tail _ (.tail _ (.tail _ (.tail _ (.tail _ (.head _)))))) aH (dI at0)) ae))))))) (aB (vx at1 hN (cu (dI at1) (cz (cY (aa (fH (T:=aO) Er (.tail _ (.tail _ (.tail _ (.tail _ (.tail _ (.tail _ (.head _))))))) aH (dI at0)) ae))))) (aB (iS (lV (fU (jz hu (BF (dI at1) (aa hU ae)) ay) (eB (dN (eN (CC Er aH cU (dI at0))))))) (aB (bx (aQ (l:=[119,114,111,110,103]) rfl (by decide))) aV) aV) (aB (vx at2 hN (cz (cY (aa (aQ (l:=[110,111,32,98,97,99,107]) rfl (by decide)) (aa (aQ (l:=[110,111,32,110,117,109,98,101,114]) rfl (by decide)) (aa (aQ (l:=[110,111,32,111,114,100,101,114]) rfl (by decide)) (aa (aQ (l:=[110,111,32,114,111,111,109]) rfl (by decide)) (aa (aQ (l:=[110,111,32,115,99,114,101,101,110]) rfl (by decide)) (aa (aQ (l:=[110,111,32,116,97,98,108,101]) rfl (by decide)) (aa (aQ (l:=[110,111,32,116,97,115,107]) rfl (by decide)) (aa (aQ (l:=[110,111,32,116,101,120,116]) rfl (by decide)) ae))))))))))) (aB (bx (bg (dI at2) (AF (dI at1) (aa hU ae)))) aV))))))))
theorem sN:FnScope ["_law_deed","e"] ["_law_deed"] (av (top 75)):=⟨rfl,rfl,rfl,by decide +kernel,rfl,by decide +kernel,by decide +kernel⟩
theorem sw {bU:List D->R D} (qL:CalleeH P w K mg base "_law_class" k 1 bU) (Er:Errs K mg rs [("NoScreen",ad),("NoOrder",ag),("NoRoom",am),("NoNumber",ah),("NoTable",aJ),("NoTask",aN),("NoText",aO),("NoBack",ao)]) (F:Fun K "_law_told" "_law_told" (top 75) f fd) (m:mg "_law_told"=some (.ref f)):Told P w K mg base "_law_told" (k+1) k (bB bU rs):=by
 obtain ⟨L,hL,hk⟩:=Er.le
 refine Ag (y:="_law_deed") (nm:="e") (gs:=fX bU) (fe:=oC rs) F m sN rfl (fun _ _ _ _ _ _ _=>rfl) (fun cdv A outer s H E a xe hr=>?_) (fun C h=>?_) rfl hL rfl rfl
 ·exact (aB (bx (xG qL hr (aa (dI at1) ae))) aV)
 ·unfold oC at h
  split at h
  ·rename_i hC; exact hk C hC
  ·cases h
theorem xr:FnScope ["thing"] ["thing"] (av (top 29)):=⟨rfl,rfl,rfl,by decide +kernel,rfl,by decide +kernel,by decide +kernel⟩
theorem xt (bo:mg "len"=none) {kT:Tok} (cg:mg "MOST_SAID"=some (.int 40 kT)) (eJ:Callee P w K mg base "is_plain" 1 1 aX) (Fn:Fun K "is_say" "is_say" (top 29) f fd):FnF P w K mg base 2 f fd ["thing"] (fun ds=>aM (fW aX (aL 1 ds))):=by
 have hN:(["thing"]:List Str).Nodup:=by decide
 refine Fn.okF xr (k:=1) (g:=fW aX) fun cdv A outer s H E hr=>?_
 have hu:=hr.units
 have hh:=hr.hd
 exact (aB (bx (gG (wz hu (eG rfl bo (aa (aF at0) ae)) ay) (gG (wz hu (bg (aF at0) ay) (aQ (l:=[115,97,121]) rfl (by decide))) (gG (bd eJ hr (aa (bg (aF at0) ay) ae)) (hW (rG ay (eG rfl bo (aa (bg (aF at0) ay) ae)) (du rfl cg))))))) aV)
theorem xK:FnScope ["thing"] ["thing"] (av (top 30)):=⟨rfl,rfl,rfl,by decide +kernel,rfl,by decide +kernel,by decide +kernel⟩
theorem xO (bo:mg "len"=none) {cL:Tok} (bn:mg "MOST_ROWS"=some (.int 12 cL)) {dR:Tok} (bz:mg "MOST_WIDTH"=some (.int 40 dR)) (bN:Callee P w K mg base "is_within" 2 3 aG) (Fn:Fun K "is_go" "is_go" (top 30) f fd):FnF P w K mg base 3 f fd ["thing"] (fun ds=>aM (ia aG (aL 1 ds))):=by
 have hN:(["thing"]:List Str).Nodup:=by decide
 refine Fn.okF xK (k:=2) (g:=ia aG) fun cdv A outer s H E hr=>?_
 have hu:=hr.units
 have hh:=hr.hd
 exact (aB (iS (lV (fU (jz hu (eG rfl bo (aa (aF at0) ae)) ay) (eB (jz hu (bg (aF at0) ay) (aQ (l:=[103,111]) rfl (by decide)))))) (aB (bx hU) aV) aV) (aB (bx (gG (bd bN hr (aa (bg (aF at0) ay) (aa ay (aa (sZ (du rfl bn) ay) ae)))) (hW (bd bN hr (aa (bg (aF at0) ay) (aa ay (aa (du rfl bz) ae))))))) aV))
theorem rF:FnScope ["thing"] ["thing"] (av (top 31)):=⟨rfl,rfl,rfl,by decide +kernel,rfl,by decide +kernel,by decide +kernel⟩
theorem qV {dA eV:List D->R D} (aH:mg "isinstance"=none) (bL:mg "tuple"=none) (xU:Callee P w K mg base "is_say" 3 1 dA) (AC:Callee P w K mg base "is_go" 3 1 eV) (Fn:Fun K "is_order" "is_order" (top 31) f fd):FnF P w K mg base 4 f fd ["thing"] (fun ds=>aM (dL dA eV (aL 1 ds))):=by
 have hN:(["thing"]:List Str).Nodup:=by decide
 refine Fn.okF rF (k:=3) (g:=dL dA eV) fun cdv A outer s H E hr=>?_
 have hu:=hr.units
 have hh:=hr.hd
 exact (aB (iS (dN (eN (ic aH (aF at0) bL))) (aB (bx hU) aV) aV) (aB (bx (Df (bd xU hr (aa (aF at0) ae)) (Df (bd AC hr (aa (aF at0) ae)) (hW (wz hu (aF at0) (bq (aa (aQ (l:=[119,105,112,101]) rfl (by decide)) ae))))))) aV))
theorem lD:FnScope ["thing"] ["thing"] (av (top 32)):=⟨rfl,rfl,rfl,by decide +kernel,rfl,by decide +kernel,by decide +kernel⟩
theorem lJ {cH:List D->R D} (eI:Ref "NoOrder" ag mg base) (uT:Callee P w K mg base "is_order" 4 1 cH) (Fn:Fun K "check_order" "check_order" (top 32) f fd):FnF P w K mg base 5 f fd ["thing"] (fun ds=>aM (cE cH ag (aL 1 ds))):=by
 have hN:(["thing"]:List Str).Nodup:=by decide
 refine Fn.okF lD (k:=4) (g:=cE cH ag) fun cdv A outer s H E hr=>?_
 have hu:=hr.units
 have hh:=hr.hd
 exact (aB (iS (dN (eN (bd uT hr (aa (aF at0) ae)))) (aB (eR eI hh (aQ (l:=[116,104,105,115,32,105,115,32,110,111,32,111,114,100,101,114]) rfl (by decide))) aV) aV) aV)
theorem gv:FnScope ["screen","row","column","number","rows"] ["screen","row","column"] (av (top 34)):=⟨rfl,rfl,rfl,by decide +kernel,rfl,by decide +kernel,by decide +kernel⟩
theorem gf (Fn:Fun K "with_row_at_place" "with_row_at_place" (top 34) f fd):FnF P w K mg base 1 f fd ["screen","row","column"] (fun ds=>aM (bJ (aL 5 ds))):=by
 have hN:(["screen","row","column","number","rows"]:List Str).Nodup:=by decide
 refine Fn.okF gv (k:=0) (g:=bJ) fun cdv A outer s H E hr=>?_
 have hu:=hr.units
 have hh:=hr.hd
 exact (aB (fi at3 hN (bg (bg (aF at0) ay) ay)) (aB (fi at4 hN (cu (cu (ig (bg (aF at0) ay) hV (pZ (aF at3))) (bq (aa (aF at1) ae))) (ig (bg (aF at0) ay) (pZ (cu (aF at3) ay)) hV))) (aB (bx (bq (aa (bg (aF at0) ay) (aa (aF at4) (aa (bq (aa (aF at3) (aa (aF at2) ae))) ae))))) aV)))
theorem oT:FnScope ["screen","text","row","begin","end"] ["screen","text"] (av (top 35)):=⟨rfl,rfl,rfl,by decide +kernel,rfl,by decide +kernel,by decide +kernel⟩
theorem pv (bo:mg "len"=none) (fY:Ref "NoRoom" am mg base) (cf:Callee P w K mg base "with_row_at_place" 1 3 aC) (Fn:Fun K "after_say" "after_say" (top 35) f fd):FnF P w K mg base 2 f fd ["screen","text"] (fun ds=>aM (dw aC am (aL 5 ds))):=by
 have hN:(["screen","text","row","begin","end"]:List Str).Nodup:=by decide
 refine Fn.okF oT (k:=1) (g:=dw aC am) fun cdv A outer s H E hr=>?_
 have hu:=hr.units
 have hh:=hr.hd
 exact (aB (fi at2 hN (bg (bg (aF at0) ay) (bg (bg (aF at0) ay) ay))) (aB (fi at3 hN (bg (bg (aF at0) ay) ay)) (aB (fi at4 hN (cu (aF at3) (eG rfl bo (aa (aF at1) ae)))) (aB (iS (A6 (aF at4) (bg (aF at0) ay)) (aB (eR fY hh (aQ (l:=[116,104,101,32,116,101,120,116,32,105,115,32,119,105,100,101,114,32,116,104,97,110,32,119,104,97,116,32,105,115,32,108,101,102,116,32,111,102,32,116,104,101,32,114,111,119]) rfl (by decide))) aV) aV) (aB (bx (bd cf hr (aa (aF at0) (aa (cu (cu (ig (aF at2) hV (pZ (aF at3))) (aF at1)) (ig (aF at2) (pZ (aF at4)) hV)) (aa (aF at4) ae))))) aV)))))
theorem qX:FnScope ["screen","number","column"] ["screen","number","column"] (av (top 36)):=⟨rfl,rfl,rfl,by decide +kernel,rfl,by decide +kernel,by decide +kernel⟩
theorem rh (bo:mg "len"=none) (fY:Ref "NoRoom" am mg base) (Fn:Fun K "after_go" "after_go" (top 36) f fd):FnF P w K mg base 1 f fd ["screen","number","column"] (fun ds=>aM (eA am (aL 3 ds))):=by
 have hN:(["screen","number","column"]:List Str).Nodup:=by decide
 refine Fn.okF qX (k:=0) (g:=eA am) fun cdv A outer s H E hr=>?_
 have hu:=hr.units
 have hh:=hr.hd
 exact (aB (iS (lV (fU (EE (aF at1) (eG rfl bo (aa (bg (aF at0) ay) ae))) (eB (A6 (aF at2) (bg (aF at0) ay))))) (aB (eR fY hh (aQ (l:=[116,104,101,32,115,99,114,101,101,110,32,100,111,101,115,32,110,111,116,32,104,97,118,101,32,116,104,105,115,32,112,108,97,99,101]) rfl (by decide))) aV) aV) (aB (bx (bq (aa (bg (aF at0) ay) (aa (bg (aF at0) ay) (aa (bq (aa (aF at1) (aa (aF at2) ae))) ae))))) aV))
theorem oq:FnScope ["screen","row","column"] ["screen"] (av (top 37)):=⟨rfl,rfl,rfl,by decide +kernel,rfl,by decide +kernel,by decide +kernel⟩
theorem nN (cf:Callee P w K mg base "with_row_at_place" 1 3 aC) (Fn:Fun K "after_wipe" "after_wipe" (top 37) f fd):FnF P w K mg base 2 f fd ["screen"] (fun ds=>aM (cQ aC (aL 3 ds))):=by
 have hN:(["screen","row","column"]:List Str).Nodup:=by decide
 refine Fn.okF oq (k:=1) (g:=cQ aC) fun cdv A outer s H E hr=>?_
 have hu:=hr.units
 have hh:=hr.hd
 exact (aB (fi at1 hN (bg (bg (aF at0) ay) (bg (bg (aF at0) ay) ay))) (aB (fi at2 hN (bg (bg (aF at0) ay) ay)) (aB (bx (bd cf hr (aa (aF at0) (aa (vC (ig (aF at1) hV (pZ (aF at2))) (aa (bg (aF at0) ay) ae)) (aa (aF at2) ae))))) aV)))
theorem lG:FnScope ["screen","order"] ["screen","order"] (av (top 38)):=⟨rfl,rfl,rfl,by decide +kernel,rfl,by decide +kernel,by decide +kernel⟩
theorem lM {bF bM bu:List D->R D} (qZ:Callee P w K mg base "after_say" 2 2 bF) (uw:Callee P w K mg base "after_go" 2 3 bM) (pR:Callee P w K mg base "after_wipe" 2 1 bu) (Fn:Fun K "after_order" "after_order" (top 38) f fd):FnF P w K mg base 3 f fd ["screen","order"] (fun ds=>aM (cF bF bM bu (aL 2 ds))):=by
 have hN:(["screen","order"]:List Str).Nodup:=by decide
 refine Fn.okF lG (k:=2) (g:=cF bF bM bu) fun cdv A outer s H E hr=>?_
 have hu:=hr.units
 have hh:=hr.hd
 exact (aB (iS (rT hu (bg (aF at1) ay) (aQ (l:=[115,97,121]) rfl (by decide))) (aB (bx (bd qZ hr (aa (aF at0) (aa (bg (aF at1) ay) ae)))) aV) aV) (aB (iS (rT hu (bg (aF at1) ay) (aQ (l:=[103,111]) rfl (by decide))) (aB (bx (bd uw hr (aa (aF at0) (aa (bg (aF at1) ay) (aa (bg (aF at1) ay) ae))))) aV) aV) (aB (bx (bd pR hr (aa (aF at0) ae))) aV)))
theorem Al:FnScope ["screen","order"] ["screen","order"] (av (top 39)):=⟨rfl,rfl,rfl,by decide +kernel,rfl,by decide +kernel,by decide +kernel⟩
theorem Bu {bj:List D->R D} (br:Callee P w K mg base "check_screen" 5 1 ai) (eY:Callee P w K mg base "check_order" 5 1 aS) (nX:Callee P w K mg base "after_order" 5 2 bj) (Fn:Fun K "done" "done" (top 39) f fd):FnF P w K mg base 6 f fd ["screen","order"] (fun ds=>aM (jI ai aS bj (aL 2 ds))):=by
 have hN:(["screen","order"]:List Str).Nodup:=by decide
 refine Fn.okF Al (k:=5) (g:=jI ai aS bj) fun cdv A outer s H E hr=>?_
 have hu:=hr.units
 have hh:=hr.hd
 exact (aB (ii (bd br hr (aa (aF at0) ae))) (aB (ii (bd eY hr (aa (aF at1) ae))) (aB (bx (bd nX hr (aa (aF at0) (aa (aF at1) ae)))) aV)))
theorem mX:FnScope ["order"] ["order"] (av (top 40)):=⟨rfl,rfl,rfl,by decide +kernel,rfl,by decide +kernel,by decide +kernel⟩
theorem mK (bo:mg "len"=none) {qJ:Tok} (dG:mg "GO_COST"=some (.int 2 qJ)) {kr:Tok} (ck:mg "WIPE_COST"=some (.int 1 kr)) (Fn:Fun K "order_cost" "order_cost" (top 40) f fd):FnF P w K mg base 1 f fd ["order"] (fun ds=>aM (eD (aL 1 ds))):=by
 have hN:(["order"]:List Str).Nodup:=by decide
 refine Fn.okF mX (k:=0) (g:=eD) fun cdv A outer s H E hr=>?_
 have hu:=hr.units
 have hh:=hr.hd
 exact (aB (iS (rT hu (bg (aF at0) ay) (aQ (l:=[115,97,121]) rfl (by decide))) (aB (bx (eG rfl bo (aa (bg (aF at0) ay) ae))) aV) aV) (aB (iS (rT hu (bg (aF at0) ay) (aQ (l:=[103,111]) rfl (by decide))) (aB (bx (du rfl dG)) aV) aV) (aB (bx (du rfl ck)) aV)))
theorem pM:FnScope ["self"] ["self"] (av (bb (top 69) 1)):=⟨rfl,rfl,rfl,by decide +kernel,rfl,by decide +kernel,by decide +kernel⟩
theorem pV (aY:CF K al [0,1]) (ok:bX al (iv al) 1 F) (Fn:Fun K "sheet" "Pad.sheet" (bb (top 69) 1) f fd):FnM P w K mg base 1 f fd ["self"] al F:=by
 have hN:(["self"]:List Str).Nodup:=by decide
 refine Fn.okM pM ok (k:=0) fun cdv A outer s H E hr=>?_
 have hu:=hr.units
 have hh:=hr.hd
 exact (aB (bx (bg (xo 0 0 aY (by decide) (yD ay)) ay)) aV)
theorem qi:FnScope ["self"] ["self"] (av (bb (top 69) 2)):=⟨rfl,rfl,rfl,by decide +kernel,rfl,by decide +kernel,by decide +kernel⟩
theorem oH (aY:CF K al [0,1]) (ok:bX al (ie al) 1 F) (Fn:Fun K "spent" "Pad.spent" (bb (top 69) 2) f fd):FnM P w K mg base 1 f fd ["self"] al F:=by
 have hN:(["self"]:List Str).Nodup:=by decide
 refine Fn.okM qi ok (k:=0) fun cdv A outer s H E hr=>?_
 have hu:=hr.units
 have hh:=hr.hd
 exact (aB (bx (bg (xo 0 0 aY (by decide) (yD ay)) ay)) aV)
theorem lO:FnScope ["self","step","screen","price"] ["self","step","screen","price"] (av (bb (top 69) 3)):=⟨rfl,rfl,rfl,by decide +kernel,rfl,by decide +kernel,by decide +kernel⟩
theorem lU (aY:CF K al [0,1]) (cj:MCallee P w K mg base al "spent" 1 0 aj) (ok:bX al (fy al aj) 4 F) (Fn:Fun K "step_to" "Pad.step_to" (bb (top 69) 3) f fd):FnM P w K mg base 2 f fd ["self","step","screen","price"] al F:=by
 have hN:(["self","step","screen","price"]:List Str).Nodup:=by decide
 refine Fn.okM lO ok (k:=1) fun cdv A outer s H E hr=>?_
 have hu:=hr.units
 have hh:=hr.hd
 exact (aB (wq 0 0 aY (by decide) (bq (aa (aF at1) (aa (aF at2) (aa (cu (cy 0 aY cj hr) (aF at3)) ae))))) (aB (xj 0 1 aY (by decide) (cY ae)) aV))
theorem wm:FnScope ["self","order","screen"] ["self","order"] (av (bb (top 69) 4)):=⟨rfl,rfl,rfl,by decide +kernel,rfl,by decide +kernel,by decide +kernel⟩
theorem wy {gI:List D->R D} (Cg:Callee P w K mg base "done" 6 2 gI) (fC:Callee P w K mg base "order_cost" 6 1 aZ) (aY:CF K al [0,1]) (bS:MCallee P w K mg base al "sheet" 6 0 af) (cB:MCallee P w K mg base al "step_to" 6 3 aK) (cj:MCallee P w K mg base al "spent" 6 0 aj) (ok:bX al (mz al af aK aj gI aZ) 3 F) (Fn:Fun K "do" "Pad.do" (bb (top 69) 4) f fd):FnM P w K mg base 7 f fd ["self","order"] al F:=by
 have hN:(["self","order","screen"]:List Str).Nodup:=by decide
 refine Fn.okM wm ok (k:=6) fun cdv A outer s H E hr=>?_
 have hu:=hr.units
 have hh:=hr.hd
 exact (aB (fi at2 hN (bd Cg hr (aa (cy 0 aY bS hr) (aa (aF at1) ae)))) (aB (kE 0 aY cB hr (aa (aQ (l:=[100,111]) rfl (by decide)) (aa (aF at2) (aa (bd fC hr (aa (aF at1) ae)) ae)))) (aB (tO (cy 0 aY cj hr)) aV)))
theorem ko:FnScope ["screen","number"] ["screen","number"] (av (top 65)):=⟨rfl,rfl,rfl,by decide +kernel,rfl,by decide +kernel,by decide +kernel⟩
theorem jV (bo:mg "len"=none) (Fn:Fun K "row_or_blank" "row_or_blank" (top 65) f fd):FnF P w K mg base 1 f fd ["screen","number"] (fun ds=>aM (df (aL 2 ds))):=by
 have hN:(["screen","number"]:List Str).Nodup:=by decide
 refine Fn.okF ko (k:=0) (g:=df) fun cdv A outer s H E hr=>?_
 have hu:=hr.units
 have hh:=hr.hd
 exact (aB (iS (Ap ay (aF at1) (eG rfl bo (aa (bg (aF at0) ay) ae))) (aB (bx (bg (bg (aF at0) ay) (aF at1))) aV) aV) (aB (bx (gC (aQ (l:=[32]) rfl (by decide)) (bg (aF at0) ay))) aV))
theorem sg:FnScope ["screen","by","rows"] ["screen","by"] (av (top 66)):=⟨rfl,rfl,rfl,by decide +kernel,rfl,by decide +kernel,by decide +kernel⟩
theorem qS {bc:List D->R D} (bo:mg "len"=none) (fR:mg "range"=none) (bL:mg "tuple"=none) {cL:Tok} (bn:mg "MOST_ROWS"=some (.int 12 cL)) (iU:Ref "NoNumber" ah mg base) (br:Callee P w K mg base "check_screen" 5 1 ai) (bN:Callee P w K mg base "is_within" 5 3 aG) (lK:Callee P w K mg base "row_or_blank" 5 2 bc) (Fn:Fun K "scrolled" "scrolled" (top 66) f fd):FnF P w K mg base 6 f fd ["screen","by"] (fun ds=>aM (dS ai aG bc ah (aL 3 ds))):=by
 have hN:(["screen","by","rows"]:List Str).Nodup:=by decide
 refine Fn.okF sg (k:=5) (g:=dS ai aG bc ah) fun cdv A outer s H E hr=>?_
 have hu:=hr.units
 have hh:=hr.hd
 exact (aB (ii (bd br hr (aa (aF at0) ae))) (aB (iS (dN (eN (bd bN hr (aa (aF at1) (aa (yD (du rfl bn)) (aa (du rfl bn) ae)))))) (aB (eR iU hh (aQ (l:=[97,32,115,99,114,101,101,110,32,105,115,32,115,99,114,111,108,108,101,100,32,98,121,32,45,49,50,32,116,111,32,49,50,32,114,111,119,115]) rfl (by decide))) aV) aV) (aB (wa 2 hN (N':=["number","screen","by"]) (ix:=[0,1]) gO rfl (tN rfl fR (aa (eG rfl bo (aa (bg (aF at0) ay) ae)) ae)) (fun C s₂ H₂ fp=>(bd lK hr (aa (dU at1) (aa (cu (dU at0) (dU at2)) ae)))) (fun C s₂ H₂ fp=>gN)) (yE 2 (aB (bx (bq (aa (bg (aF at0) ay) (aa (oV rfl bL (aa (aF at2) ae)) (aa (bg (aF at0) ay) ae))))) aV)))))
theorem ni:FnScope ["self","by"] ["self","by"] (av (bb (top 69) 5)):=⟨rfl,rfl,rfl,by decide +kernel,rfl,by decide +kernel,by decide +kernel⟩
theorem mU {dC:List D->R D} (ur:Callee P w K mg base "scrolled" 6 2 dC) (aY:CF K al [0,1]) (cB:MCallee P w K mg base al "step_to" 6 3 aK) (bS:MCallee P w K mg base al "sheet" 6 0 af) (ok:bX al (gB al aK af dC) 2 F) (Fn:Fun K "scroll" "Pad.scroll" (bb (top 69) 5) f fd):FnM P w K mg base 7 f fd ["self","by"] al F:=by
 have hN:(["self","by"]:List Str).Nodup:=by decide
 refine Fn.okM ni ok (k:=6) fun cdv A outer s H E hr=>?_
 have hu:=hr.units
 have hh:=hr.hd
 exact (aB (CZ (qK 0 aY cB hr (aa (aQ (l:=[115,99,114,111,108,108]) rfl (by decide)) (aa (bd ur hr (aa (cy 0 aY bS hr) (aa (aF at1) ae))) (aa ay ae))))) aV)
theorem sf:FnScope ["self","state"] ["self"] (av (bb (top 69) 7)):=⟨rfl,rfl,rfl,by decide +kernel,rfl,by decide +kernel,by decide +kernel⟩
theorem rX (bo:mg "len"=none) (fZ:Ref "NoBack" ao mg base) (aY:CF K al [0,1]) (ok:bX al (jp al ao) 2 F) (Fn:Fun K "back" "Pad.back" (bb (top 69) 7) f fd):FnM P w K mg base 1 f fd ["self"] al F:=by
 have hN:(["self","state"]:List Str).Nodup:=by decide
 refine Fn.okM sf ok (k:=0) fun cdv A outer s H E hr=>?_
 have hu:=hr.units
 have hh:=hr.hd
 exact (aB (iS (rT hu (jQ 0 0 aY (by decide) rfl bo) ay) (aB (eR fZ hh (aQ (l:=[116,104,101,114,101,32,105,115,32,110,111,32,115,116,101,112,32,116,104,97,116,32,99,97,110,32,98,101,32,116,97,107,101,110,32,98,97,99,107]) rfl (by decide))) aV) aV) (aB (zr 0 0 1 aY (by decide) hN) (aB (wq 0 1 aY (by decide) (aF at1)) (aB (tO (bg (aF at1) ay)) aV))))
theorem nI:FnScope ["self"] ["self"] (av (bb (top 69) 9)):=⟨rfl,rfl,rfl,by decide +kernel,rfl,by decide +kernel,by decide +kernel⟩
theorem ot (bo:mg "len"=none) (aY:CF K al [0,1]) (ok:bX al (gz al) 1 F) (Fn:Fun K "counts" "Pad.counts" (bb (top 69) 9) f fd):FnM P w K mg base 1 f fd ["self"] al F:=by
 have hN:(["self"]:List Str).Nodup:=by decide
 refine Fn.okM nI ok (k:=0) fun cdv A outer s H E hr=>?_
 have hu:=hr.units
 have hh:=hr.hd
 exact (aB (bx (bq (aa (sZ (jQ 0 0 aY (by decide) rfl bo) ay) (aa (jQ 0 1 aY (by decide) rfl bo) ae)))) aV)
theorem qB:FnScope ["self","state"] ["self"] (av (bb (top 69) 8)):=⟨rfl,rfl,rfl,by decide +kernel,rfl,by decide +kernel,by decide +kernel⟩
theorem oP (bo:mg "len"=none) (fZ:Ref "NoBack" ao mg base) (aY:CF K al [0,1]) (ok:bX al (gW al ao) 2 F) (Fn:Fun K "forth" "Pad.forth" (bb (top 69) 8) f fd):FnM P w K mg base 1 f fd ["self"] al F:=by
 have hN:(["self","state"]:List Str).Nodup:=by decide
 refine Fn.okM qB ok (k:=0) fun cdv A outer s H E hr=>?_
 have hu:=hr.units
 have hh:=hr.hd
 exact (aB (iS (rT hu (jQ 0 1 aY (by decide) rfl bo) ay) (aB (eR fZ hh (aQ (l:=[116,104,101,114,101,32,105,115,32,110,111,32,115,116,101,112,32,116,104,97,116,32,99,97,110,32,98,101,32,100,111,110,101,32,97,103,97,105,110]) rfl (by decide))) aV) aV) (aB (zr 0 1 1 aY (by decide) hN) (aB (wq 0 0 aY (by decide) (aF at1)) (aB (tO (bg (aF at1) ay)) aV))))
theorem rD:FnScope ["self","screen"] ["self","screen"] (av (bb (top 69) 0)):=⟨rfl,rfl,rfl,by decide +kernel,rfl,by decide +kernel,by decide +kernel⟩
theorem sA {zm:Tok} (kJ:mg "MADE"=some (.str "made" zm)) (br:Callee P w K mg base "check_screen" 5 1 ai) (aY:CF K al [0,1]) (ok:bX al (ji al ai) 2 F) (Fn:Fun K "__init__" "Pad.__init__" (bb (top 69) 0) f fd):FnM P w K mg base 6 f fd ["self","screen"] al F:=by
 have hN:(["self","screen"]:List Str).Nodup:=by decide
 refine Fn.okM rD ok (k:=5) fun cdv A outer s H E hr=>?_
 have hu:=hr.units
 have hh:=hr.hd
 exact (aB (ii (bd br hr (aa (aF at1) ae))) (aB (xj 0 0 aY (by decide) (cY (aa (bq (aa (xJ (l:=[109,97,100,101]) rfl kJ rfl (by decide)) (aa (aF at1) (aa ay ae)))) ae))) (aB (xj 0 1 aY (by decide) (cY ae)) aV)))
theorem sk:FnScope ["screen","thing"] ["screen","thing"] (av (top 22)):=⟨rfl,rfl,rfl,by decide +kernel,rfl,by decide +kernel,by decide +kernel⟩
theorem sd (lu:mg "all"=none) (aH:mg "isinstance"=none) (bo:mg "len"=none) (ju:mg "list"=none) (br:Callee P w K mg base "check_screen" 5 1 ai) (eJ:Callee P w K mg base "is_plain" 5 1 aX) (Fn:Fun K "are_rows" "are_rows" (top 22) f fd):FnF P w K mg base 6 f fd ["screen","thing"] (fun ds=>aM (dW ai aX (aL 2 ds))):=by
 have hN:(["screen","thing"]:List Str).Nodup:=by decide
 refine Fn.okF sk (k:=5) (g:=dW ai aX) fun cdv A outer s H E hr=>?_
 have hu:=hr.units
 have hh:=hr.hd
 exact (aB (ii (bd br hr (aa (aF at0) ae))) (aB (iS (lV (fU (dN (eN (ug aH (aF at1) ju))) (eB (A6 (eG rfl bo (aa (aF at1) ae)) (eG rfl bo (aa (bg (aF at0) ay) ae)))))) (aB (bx hU) aV) aV) (aB (bx (AS rfl rfl lu (aa (pG (iB (N':=["row","screen"]) (ix:=[0]) gO rfl (kF (aF at1)) (fun C s₂ H₂ fp=>(gG (bd eJ hr (aa (dU at0) ae)) (hW (Ek (eG rfl bo (aa (dU at0) ae)) (bg (dU at1) ay))))) (fun C s₂ H₂ fp=>gN))) ae))) aV)))
theorem nZ:FnScope ["screen","thing"] ["screen","thing"] (av (top 23)):=⟨rfl,rfl,rfl,by decide +kernel,rfl,by decide +kernel,by decide +kernel⟩
theorem oi {cJ:List D->R D} (dE:Ref "NoScreen" ad mg base) (uI:Callee P w K mg base "are_rows" 6 2 cJ) (Fn:Fun K "check_rows" "check_rows" (top 23) f fd):FnF P w K mg base 7 f fd ["screen","thing"] (fun ds=>aM (cP cJ ad (aL 2 ds))):=by
 have hN:(["screen","thing"]:List Str).Nodup:=by decide
 refine Fn.okF nZ (k:=6) (g:=cP cJ ad) fun cdv A outer s H E hr=>?_
 have hu:=hr.units
 have hh:=hr.hd
 exact (aB (iS (dN (eN (bd uI hr (aa (aF at0) (aa (aF at1) ae))))) (aB (eR dE hh (aQ (l:=[116,104,101,115,101,32,97,114,101,32,110,111,32,114,111,119,115,32,116,104,97,116,32,116,104,101,32,115,99,114,101,101,110,32,99,97,110,32,115,104,111,119]) rfl (by decide))) aV) aV) aV)
theorem xP:FnScope ["screen","rows","wanted","own","orders","number","row"] ["screen","rows"] (av (top 60)):=⟨rfl,rfl,rfl,by decide +kernel,rfl,by decide +kernel,by decide +kernel⟩
theorem yY {bT:List D->R D} (pf:Callee P w K mg base "check_rows" 7 2 bT) (Fn:Fun K "least" "least" (top 60) f fd):FnF P w K mg base 8 f fd ["screen","rows"] (fun ds=>aM (ij bT (aL 7 ds))):=by
 have hN:(["screen","rows","wanted","own","orders","number","row"]:List Str).Nodup:=by decide
 refine Fn.okF xP (k:=7) (g:=ij bT) fun cdv A outer s H E hr=>?_
 have hu:=hr.units
 have hh:=hr.hd
 exact (aB (ii (bd pf hr (aa (aF at0) (aa (aF at1) ae)))) Hm)
theorem kL:FnScope ["thing","order"] ["thing"] (av (top 33)):=⟨rfl,rfl,rfl,by decide +kernel,rfl,by decide +kernel,by decide +kernel⟩
theorem lv (aH:mg "isinstance"=none) (ju:mg "list"=none) (eI:Ref "NoOrder" ag mg base) (eY:Callee P w K mg base "check_order" 5 1 aS) (Fn:Fun K "check_orders" "check_orders" (top 33) f fd):FnF P w K mg base 6 f fd ["thing"] (fun ds=>aM (dg aS ag (aL 2 ds))):=by
 have hN:(["thing","order"]:List Str).Nodup:=by decide
 refine Fn.okF kL (k:=5) (g:=dg aS ag) fun cdv A outer s H E hr=>?_
 have hu:=hr.units
 have hh:=hr.hd
 exact (aB (iS (dN (eN (ug aH (aF at0) ju))) (aB (eR eI hh (aQ (l:=[116,104,105,115,32,105,115,32,110,111,32,108,105,115,116,32,111,102,32,111,114,100,101,114,115]) rfl (by decide))) aV) aV) (aB (CY PassesOwn.leaving rfl (kF (aF at0)) (iq 1 hN) (aB (ii (bd eY hr (aa (aF at1) ae))) aV)) aV))
theorem A9:FnScope ["orders"] ["orders"] (av (top 41)):=⟨rfl,rfl,rfl,by decide +kernel,rfl,by decide +kernel,by decide +kernel⟩
theorem Bl {bt:List D->R D} (wN:mg "sum"=none) (mi:Callee P w K mg base "check_orders" 6 1 bt) (fC:Callee P w K mg base "order_cost" 6 1 aZ) (Fn:Fun K "cost" "cost" (top 41) f fd):FnF P w K mg base 7 f fd ["orders"] (fun ds=>aM (nv bt aZ (aL 1 ds))):=by
 have hN:(["orders"]:List Str).Nodup:=by decide
 refine Fn.okF A9 (k:=6) (g:=nv bt aZ) fun cdv A outer s H E hr=>?_
 have hu:=hr.units
 have hh:=hr.hd
 exact (aB (ii (bd mi hr (aa (aF at0) ae))) (aB (bx (Fj rfl rfl wN (aa (pG (iB (N':=["order"]) (ix:=[]) gO rfl (kF (aF at0)) (fun C s₂ H₂ fp=>(bd fC hr (aa (dU at0) ae))) (fun C s₂ H₂ fp=>gN))) ae))) aV))
theorem mQ:FnScope ["screen","rows"] ["screen","rows"] (av (top 61)):=⟨rfl,rfl,rfl,by decide +kernel,rfl,by decide +kernel,by decide +kernel⟩
theorem nM {gQ kn:List D->R D} (zI:Callee P w K mg base "least" 8 2 gQ) (CB:Callee P w K mg base "cost" 8 1 kn) (Fn:Fun K "least_cost" "least_cost" (top 61) f fd):FnF P w K mg base 9 f fd ["screen","rows"] (fun ds=>aM (cO gQ kn (aL 2 ds))):=by
 have hN:(["screen","rows"]:List Str).Nodup:=by decide
 refine Fn.okF mQ (k:=8) (g:=cO gQ kn) fun cdv A outer s H E hr=>?_
 have hu:=hr.units
 have hh:=hr.hd
 exact (aB (bx (bd CB hr (aa (bd zI hr (aa (aF at0) (aa (aF at1) ae))) ae))) aV)
theorem pS:FnScope ["screen","rows","width","missing"] ["screen","rows"] (av (top 24)):=⟨rfl,rfl,rfl,by decide +kernel,rfl,by decide +kernel,by decide +kernel⟩
theorem qa (bo:mg "len"=none) (Fn:Fun K "full_rows" "full_rows" (top 24) f fd):FnF P w K mg base 1 f fd ["screen","rows"] (fun ds=>aM (dn (aL 4 ds))):=by
 have hN:(["screen","rows","width","missing"]:List Str).Nodup:=by decide
 refine Fn.okF pS (k:=0) (g:=dn) fun cdv A outer s H E hr=>?_
 have hu:=hr.units
 have hh:=hr.hd
 exact (aB (fi at2 hN (bg (aF at0) ay)) (aB (fi at3 hN (sZ (eG rfl bo (aa (bg (aF at0) ay) ae)) (eG rfl bo (aa (aF at1) ae)))) (aB (bx (cu (pG (iB (N':=["row","width"]) (ix:=[2]) gO rfl (kF (aF at1)) (fun C s₂ H₂ fp=>(vC (dU at0) (aa (dU at1) ae))) (fun C s₂ H₂ fp=>gN))) (gC (cz (cY (aa (gC (aQ (l:=[32]) rfl (by decide)) (aF at2)) ae))) (aF at3)))) aV)))
theorem qG:FnScope ["self","rows","screen","price"] ["self","rows"] (av (bb (top 69) 6)):=⟨rfl,rfl,rfl,by decide +kernel,rfl,by decide +kernel,by decide +kernel⟩
theorem pI {bp bv:List D->R D} (bL:mg "tuple"=none) (ql:Callee P w K mg base "least_cost" 9 2 bp) (qU:Callee P w K mg base "full_rows" 9 2 bv) (aY:CF K al [0,1]) (bS:MCallee P w K mg base al "sheet" 9 0 af) (cB:MCallee P w K mg base al "step_to" 9 3 aK) (ok:bX al (iC al af aK bp bv) 4 F) (Fn:Fun K "bring" "Pad.bring" (bb (top 69) 6) f fd):FnM P w K mg base 10 f fd ["self","rows"] al F:=by
 have hN:(["self","rows","screen","price"]:List Str).Nodup:=by decide
 refine Fn.okM qG ok (k:=9) fun cdv A outer s H E hr=>?_
 have hu:=hr.units
 have hh:=hr.hd
 exact (aB (fi at2 hN (cy 0 aY bS hr)) (aB (fi at3 hN (bd ql hr (aa (aF at2) (aa (aF at1) ae)))) (aB (kE 0 aY cB hr (aa (aQ (l:=[98,114,105,110,103]) rfl (by decide)) (aa (bq (aa (bg (aF at2) ay) (aa (oV rfl bL (aa (bd qU hr (aa (aF at2) (aa (aF at1) ae))) ae)) (aa (bg (aF at2) ay) ae)))) (aa (aF at3) ae)))) (aB (tO (aF at3)) aV))))
theorem Dc:FnScope ["_law_script","_law_odd","_law_rows","_law_bad","_law_thing","_law_pad","_law_here","_law_counts_of","_law_k","_law_by","_law_goal","_law_told_here"] ["_law_script"] (av (top 76)):=⟨rfl,rfl,rfl,by decide +kernel,rfl,by decide +kernel,by decide +kernel⟩
theorem CN {aI aq:MF} {aE au:MF} {az aA aD:MF} {aw:R D->R D} {ax ak:List D->R D} (fR:mg "range"=none) (fc:Callee P w K mg base "_law_pick" 12 3 ax) (mR:Callee P w K mg base "screen_text" 12 1 ak) (nz:Callee P w K mg base "screen_text" 10 1 ak) (cK:Told P w K mg base "_law_told" 12 11 aw) (aY:CF K al [0,1]) (tw:MCallee P w K mg base al "do" 12 1 aI) (qD:MCallee P w K mg base al "scroll" 12 1 aq) (uK:MCallee P w K mg base al "back" 12 0 aE) (jf:MCallee P w K mg base al "counts" 12 0 au) (cj:MCallee P w K mg base al "spent" 12 0 aj) (bS:MCallee P w K mg base al "sheet" 12 0 af) (qO:MCallee P w K mg base al "forth" 12 0 az) (De:MkC P w K mg base al "Pad" 11 1 aD) (pc:MCallee P w K mg base al "do" 10 1 aI) (nr:MCallee P w K mg base al "scroll" 10 1 aq) (qe:MCallee P w K mg base al "bring" 10 1 aA) (CT:MkC P w K mg base al "Pad" 9 1 aD) {gr:List D->R D} (hg:∀ ds:List D,ds.length=1->gr ds=.no\/∀ q,aM (ke al aI aq aE au aj af az aA aD aw ax ak q (aL 12 ds))=gr ds) (LB:LamB K mg base "law" fd Pt) (Fn:Fun K "law" "law" (top 76) f fd):FnF P w K mg base 13 f fd ["_law_script"] gr:=by
 have hN:(["_law_script","_law_odd","_law_rows","_law_bad","_law_thing","_law_pad","_law_here","_law_counts_of","_law_k","_law_by","_law_goal","_law_told_here"]:List Str).Nodup:=by decide
 refine Fn.okAT LB Dc (k:=12) (g:=ke al aI aq aE au aj af az aA aD aw ax ak) hg fun cdv A outer s H E hr la=>?_
 have hu:=hr.units
 have hh:=hr.hd
 have h_0:PSF (cD (CXo P w) P w K mg base ["_law_script","_law_odd","_law_rows","_law_bad","_law_thing","_law_pad","_law_here","_law_counts_of","_law_k","_law_by","_law_goal","_law_told_here"] "law" (av (top 76)) f cdv A outer s H E) ((bi (top 76)).getD 0 (.Pass ⟨0,0,0,0⟩)) (vM al aI aq aE au aj af az aA aD aw ax ak):=(xN 1 hN (cY (aa pC (aa (bq ae) (aa (bq (aa ay (aa (bq (aa (aQ (l:=[]) rfl (by decide)) ae)) (aa (bq (aa ay (aa ay ae))) ae)))) (aa (bq (aa ay (aa (bq (aa (aQ (l:=[97]) rfl (by decide)) ae)) (aa (bq (aa ay (aa ay ae))) ae)))) (aa (bq (aa ay (aa (bq ae) (aa (bq (aa ay (aa ay ae))) ae)))) (aa (bq (aa ay (aa (bq (aa (aQ (l:=[97]) rfl (by decide)) ae)) (aa (bq (aa ay (aa ay ae))) ae)))) ae))))))))
 have h_1:PSF (cD (CXo P w) P w K mg base ["_law_script","_law_odd","_law_rows","_law_bad","_law_thing","_law_pad","_law_here","_law_counts_of","_law_k","_law_by","_law_goal","_law_told_here"] "law" (av (top 76)) f cdv A outer s H E) ((bi (top 76)).getD 1 (.Pass ⟨0,0,0,0⟩)) (vV al aI aq aE au aj af az aA aD aw ax ak):=(nR 1 (cz (cY (aa (bq (aa ay (aa (cz (cY (aa (aQ (l:=[97]) rfl (by decide)) ae))) (aa (bq (aa ay (aa ay ae))) ae)))) (aa ay ae)))))
 have h_2:PSF (cD (CXo P w) P w K mg base ["_law_script","_law_odd","_law_rows","_law_bad","_law_thing","_law_pad","_law_here","_law_counts_of","_law_k","_law_by","_law_goal","_law_told_here"] "law" (av (top 76)) f cdv A outer s H E) ((bi (top 76)).getD 2 (.Pass ⟨0,0,0,0⟩)) (xv al aI aq aE au aj af az aA aD aw ax ak):=(fi at2 hN (cz (cY (aa pC (aa (bq (aa (aQ (l:=[97,98,99]) rfl (by decide)) ae)) (aa (cz (cY (aa (aQ (l:=[97,98,99,100]) rfl (by decide)) ae))) (aa (cz (cY (aa (aQ (l:=[97]) rfl (by decide)) (aa (aQ (l:=[98]) rfl (by decide)) (aa (aQ (l:=[99]) rfl (by decide)) ae))))) (aa (cz (cY (aa (aQ (l:=[97,10]) rfl (by decide)) ae))) (aa (cz (cY (aa ay ae))) (aa (aQ (l:=[97,98]) rfl (by decide)) (aa (cz (cY (aa pC ae))) ae)))))))))))
 have h_3:PSF (cD (CXo P w) P w K mg base ["_law_script","_law_odd","_law_rows","_law_bad","_law_thing","_law_pad","_law_here","_law_counts_of","_law_k","_law_by","_law_goal","_law_told_here"] "law" (av (top 76)) f cdv A outer s H E) ((bi (top 76)).getD 3 (.Pass ⟨0,0,0,0⟩)) (vO al aI aq aE au aj af az aA aD aw ax ak):=(xN 3 hN (cY (aa pC (aa (bq ae) (aa (bq (aa (aQ (l:=[115,97,121]) rfl (by decide)) (aa (aQ (l:=[]) rfl (by decide)) ae))) (aa (bq (aa (aQ (l:=[115,97,121]) rfl (by decide)) (aa (gC (aQ (l:=[97]) rfl (by decide)) ay) ae))) (aa (bq (aa (aQ (l:=[103,111]) rfl (by decide)) (aa ay (aa ay ae)))) (aa (bq (aa (aQ (l:=[103,111]) rfl (by decide)) (aa ay (aa ay ae)))) (aa (bq (aa (aQ (l:=[119,105,112,101]) rfl (by decide)) (aa ay ae))) ae)))))))))
 have h_4:PSF (cD (CXo P w) P w K mg base ["_law_script","_law_odd","_law_rows","_law_bad","_law_thing","_law_pad","_law_here","_law_counts_of","_law_k","_law_by","_law_goal","_law_told_here"] "law" (av (top 76)) f cdv A outer s H E) ((bi (top 76)).getD 4 (.Pass ⟨0,0,0,0⟩)) (vD al aI aq aE au aj af az aA aD aw ax ak):=(nR 3 (cz (cY (aa (cz (cY (aa (aQ (l:=[119,105,112,101]) rfl (by decide)) ae))) (aa (aQ (l:=[119,105,112,101]) rfl (by decide)) (aa (bq (aa (aQ (l:=[103,111]) rfl (by decide)) (aa ay ae))) ae))))))
 have h_5:PSF (cD (CXo P w) P w K mg base ["_law_script","_law_odd","_law_rows","_law_bad","_law_thing","_law_pad","_law_here","_law_counts_of","_law_k","_law_by","_law_goal","_law_told_here"] "law" (av (top 76)) f cdv A outer s H E) ((bi (top 76)).getD 5 (.Pass ⟨0,0,0,0⟩)) (oX al aI aq aE au aj af az aA aD aw ax ak):=(fi at4 hN (bg (aF at1) (bd fc hr (aa (aF at0) (aa ay (aa ay ae))))))
 have h_6:PSF (cD (CXo P w) P w K mg base ["_law_script","_law_odd","_law_rows","_law_bad","_law_thing","_law_pad","_law_here","_law_counts_of","_law_k","_law_by","_law_goal","_law_told_here"] "law" (av (top 76)) f cdv A outer s H E) ((bi (top 76)).getD 6 (.Pass ⟨0,0,0,0⟩)) (tj al aI aq aE au aj af az aA aD aw ax ak):=(iS (lV (fU (jz hu (zt cK hr la (N':=["_law_thing"]) (ix:=[4]) mx (fun cl f cd A outer s H E hr=>by have hu:=hr.units; exact (DT CT hr (aa (mv at0) ae)))) (aQ (l:=[110,111,32,115,99,114,101,101,110]) rfl (by decide))) (eB (jz hu (bd mR hr (aa (bq (aa ay (aa (bq (aa (aQ (l:=[97]) rfl (by decide)) ae)) (aa (bq (aa ay (aa ay ae))) ae)))) ae)) (aQ (l:=[124,97,124,10,48,32,49,10]) rfl (by decide)))))) (aB (bx hU) aV) aV)
 have h_7:PSF (cD (CXo P w) P w K mg base ["_law_script","_law_odd","_law_rows","_law_bad","_law_thing","_law_pad","_law_here","_law_counts_of","_law_k","_law_by","_law_goal","_law_told_here"] "law" (av (top 76)) f cdv A outer s H E) ((bi (top 76)).getD 7 (.Pass ⟨0,0,0,0⟩)) (ub al aI aq aE au aj af az aA aD aw ax ak):=(iS (jz hu (zt cK hr la (N':=["_law_thing"]) (ix:=[4]) mx (fun cl f cd A outer s H E hr=>by have hu:=hr.units; exact (bd nz hr (aa (mv at0) ae)))) (aQ (l:=[110,111,32,115,99,114,101,101,110]) rfl (by decide))) (aB (bx hU) aV) aV)
 have h_9:PSF (cD (CXo P w) P w K mg base ["_law_script","_law_odd","_law_rows","_law_bad","_law_thing","_law_pad","_law_here","_law_counts_of","_law_k","_law_by","_law_goal","_law_told_here"] "law" (av (top 76)) f cdv A outer s H E) ((bi (top 76)).getD 9 (.Pass ⟨0,0,0,0⟩)) (xk al aI aq aE au aj af az aA aD aw ax ak):=(kE 5 aY tw hr (aa (bq (aa (aQ (l:=[115,97,121]) rfl (by decide)) (aa (aQ (l:=[120,121]) rfl (by decide)) ae))) ae))
 have h_10:PSF (cD (CXo P w) P w K mg base ["_law_script","_law_odd","_law_rows","_law_bad","_law_thing","_law_pad","_law_here","_law_counts_of","_law_k","_law_by","_law_goal","_law_told_here"] "law" (av (top 76)) f cdv A outer s H E) ((bi (top 76)).getD 10 (.Pass ⟨0,0,0,0⟩)) (sO al aI aq aE au aj af az aA aD aw ax ak):=(kE 5 aY qD hr (aa ay ae))
 have h_11:PSF (cD (CXo P w) P w K mg base ["_law_script","_law_odd","_law_rows","_law_bad","_law_thing","_law_pad","_law_here","_law_counts_of","_law_k","_law_by","_law_goal","_law_told_here"] "law" (av (top 76)) f cdv A outer s H E) ((bi (top 76)).getD 11 (.Pass ⟨0,0,0,0⟩)) (rS al aI aq aE au aj af az aA aD aw ax ak):=(kE 5 aY tw hr (aa (bq (aa (aQ (l:=[103,111]) rfl (by decide)) (aa ay (aa ay ae)))) ae))
 have h_12:PSF (cD (CXo P w) P w K mg base ["_law_script","_law_odd","_law_rows","_law_bad","_law_thing","_law_pad","_law_here","_law_counts_of","_law_k","_law_by","_law_goal","_law_told_here"] "law" (av (top 76)) f cdv A outer s H E) ((bi (top 76)).getD 12 (.Pass ⟨0,0,0,0⟩)) (sC al aI aq aE au aj af az aA aD aw ax ak):=(xV 5 aY uK hr)
 have h_13:PSF (cD (CXo P w) P w K mg base ["_law_script","_law_odd","_law_rows","_law_bad","_law_thing","_law_pad","_law_here","_law_counts_of","_law_k","_law_by","_law_goal","_law_told_here"] "law" (av (top 76)) f cdv A outer s H E) ((bi (top 76)).getD 13 (.Pass ⟨0,0,0,0⟩)) (sB al aI aq aE au aj af az aA aD aw ax ak):=(El 6 7 rfl hN (aa (bq (aa (cy 5 aY bS hr) (aa (cy 5 aY cj hr) ae))) (aa (cy 5 aY jf hr) ae)))
 have h_14:PSF (cD (CXo P w) P w K mg base ["_law_script","_law_odd","_law_rows","_law_bad","_law_thing","_law_pad","_law_here","_law_counts_of","_law_k","_law_by","_law_goal","_law_told_here"] "law" (av (top 76)) f cdv A outer s H E) ((bi (top 76)).getD 14 (.Pass ⟨0,0,0,0⟩)) (qN al aI aq aE au aj af az aA aD aw ax ak):=(CY PassesOwn.leaving rfl (tN rfl fR (aa ay ae)) (iq 8 hN) (aB (fi at9 hN (bg (cz (cY (aa ay (aa (yD ay) (aa pC (aa hU (aa (aQ (l:=[49]) rfl (by decide)) (aa (bq (aa ay ae)) ae)))))))) (kg (cu (bd fc hr (aa (aF at0) (aa ay (aa ay ae)))) (aF at8)) ay))) (aB (fi at4 hN (bg (aF at3) (kg (cu (bd fc hr (aa (aF at0) (aa ay (aa ay ae)))) (gC ay (aF at8))) ay))) (aB (fi Gn hN (bg (aF at2) (kg (cu (bd fc hr (aa (aF at0) (aa ay (aa ay ae)))) (gC ay (aF at8))) ay))) (aB (xN 11 hN (cY (aa (mS 5 (C:=al) cK hr la (N':=["_law_pad","_law_thing"]) (ix:=[4]) mx (fun cl f cd A outer s H E hr=>by have hu:=hr.units; exact (qK 0 aY pc hr (aa (mv at1) ae)))) ae))) (aB (mM 11 (mS 5 (C:=al) cK hr la (N':=["_law_pad","_law_by"]) (ix:=[9]) mx (fun cl f cd A outer s H E hr=>by have hu:=hr.units; exact (qK 0 aY nr hr (aa (mv at1) ae))))) (aB (mM 11 (mS 5 (C:=al) cK hr la (N':=["_law_pad","_law_goal"]) (ix:=[10]) mx (fun cl f cd A outer s H E hr=>by have hu:=hr.units; exact (qK 0 aY qe hr (aa (mv at1) ae))))) (aB (mM 11 (mS 5 (C:=al) cK hr la (N':=["_law_pad","_law_k"]) (ix:=[8]) mx (fun cl f cd A outer s H E hr=>by have hu:=hr.units; exact (qK 0 aY pc hr (aa (bg (cz (cY (aa (bq (aa (aQ (l:=[115,97,121]) rfl (by decide)) (aa (aQ (l:=[97]) rfl (by decide)) ae))) (aa (bq (aa (aQ (l:=[103,111]) rfl (by decide)) (aa ay (aa ay ae)))) (aa (bq (aa (aQ (l:=[103,111]) rfl (by decide)) (aa ay (aa ay ae)))) (aa (bq (aa (aQ (l:=[115,97,121]) rfl (by decide)) (aa (aQ (l:=[97,98,99,100]) rfl (by decide)) ae))) ae)))))) (mv at1)) ae))))) (aB (Fs 11 (jz hu (aF GG) (cz (cY (aa (aQ (l:=[110,111,32,111,114,100,101,114]) rfl (by decide)) (aa (aQ (l:=[110,111,32,110,117,109,98,101,114]) rfl (by decide)) (aa (aQ (l:=[110,111,32,115,99,114,101,101,110]) rfl (by decide)) (aa (aQ (l:=[110,111,32,114,111,111,109]) rfl (by decide)) ae))))))) (aB (bx hU) aV) aV) aV)))))))))
 have h_15:PSF (cD (CXo P w) P w K mg base ["_law_script","_law_odd","_law_rows","_law_bad","_law_thing","_law_pad","_law_here","_law_counts_of","_law_k","_law_by","_law_goal","_law_told_here"] "law" (av (top 76)) f cdv A outer s H E) ((bi (top 76)).getD 15 (.Pass ⟨0,0,0,0⟩)) (rW al aI aq aE au aj af az aA aD aw ax ak):=(iS (lV (fU (jz hu (bq (aa (cy 5 aY bS hr) (aa (cy 5 aY cj hr) ae))) (aF at6)) (fU (jz hu (cy 5 aY jf hr) (aF at7)) (eB (jz hu (aF at7) (bq (aa ay (aa ay ae)))))))) (aB (bx hU) aV) aV)
 have h_16:PSF (cD (CXo P w) P w K mg base ["_law_script","_law_odd","_law_rows","_law_bad","_law_thing","_law_pad","_law_here","_law_counts_of","_law_k","_law_by","_law_goal","_law_told_here"] "law" (av (top 76)) f cdv A outer s H E) ((bi (top 76)).getD 16 (.Pass ⟨0,0,0,0⟩)) (nA al aI aq aE au aj af az aA aD aw ax ak):=(FM (Dj (Gb (wz hu (aF at6) (bq (aa (bq (aa ay (aa (bq (aa (aQ (l:=[100,120,121]) rfl (by decide)) (aa (aQ (l:=[32,32,32]) rfl (by decide)) ae))) (aa (bq (aa ay (aa ay ae))) ae)))) (aa ay ae))))) (Dj (FU hu (wJ 5 aY qO hr) (aQ (l:=[100,111]) rfl (by decide))) (Ez (FU hu (wJ 5 aY cj hr) ay)))))
 exact (fF h_0 (fF h_1 (fF h_2 (fF h_3 (fF h_4 (B7 1 (fF h_5 (fF h_6 (fF h_7 (BZ 5 De hr hN (aa (bq (aa ay (aa (bq (aa (aQ (l:=[97,98,99]) rfl (by decide)) (aa (aQ (l:=[100,101,102]) rfl (by decide)) ae))) (aa (bq (aa ay (aa ay ae))) ae)))) ae) (Be (aB h_9 (aB h_10 (aB h_11 (aB h_12 (aB h_13 (yE 3 (aB h_14 (aB h_15 (aB h_16 aV))))))))))))))))))))
end
theorem C4 {w:World} {K:PySem.W.Frag} {mg:Str->Option Value} {fa:Addr} (hfa:mg "law"=some (.ref fa)) (cU:mg "ValueError"=none) (lu:mg "all"=none) (qC:mg "bool"=none) (rm:mg "int"=none) (aH:mg "isinstance"=none) (bo:mg "len"=none) (ju:mg "list"=none) (fR:mg "range"=none) (wT:mg "str"=none) (wN:mg "sum"=none) (bL:mg "tuple"=none) (dG:∃ t,mg "GO_COST"=some (.int 2 t)) (kJ:∃ t,mg "MADE"=some (.str "made" t)) (bn:∃ t,mg "MOST_ROWS"=some (.int 12 t)) (cg:∃ t,mg "MOST_SAID"=some (.int 40 t)) (bz:∃ t,mg "MOST_WIDTH"=some (.int 40 t)) (ck:∃ t,mg "WIPE_COST"=some (.int 1 t)) (nC:PySem.W.nsIn K mainGlobals "NoBack"=some (some (.ref ao))) (nG:PySem.W.excIn K ao [.type "ValueError",.type "Exception",.type "BaseException",.type "object"] "ValueError.__new__"=true) (iJ:PySem.W.nsIn K mainGlobals "NoNumber"=some (some (.ref ah))) (iP:PySem.W.excIn K ah [.type "ValueError",.type "Exception",.type "BaseException",.type "object"] "ValueError.__new__"=true) (lz:PySem.W.nsIn K mainGlobals "NoOrder"=some (some (.ref ag))) (jX:PySem.W.excIn K ag [.type "ValueError",.type "Exception",.type "BaseException",.type "object"] "ValueError.__new__"=true) (nF:PySem.W.nsIn K mainGlobals "NoRoom"=some (some (.ref am))) (mV:PySem.W.excIn K am [.type "ValueError",.type "Exception",.type "BaseException",.type "object"] "ValueError.__new__"=true) (iV:PySem.W.nsIn K mainGlobals "NoScreen"=some (some (.ref ad))) (iK:PySem.W.excIn K ad [.type "ValueError",.type "Exception",.type "BaseException",.type "object"] "ValueError.__new__"=true) (zT:PySem.W.nsIn K mainGlobals "Pad"=some (some (.ref al))) (aY:CF K al [0,1]) (nd:[ad,ag,am,ah,aJ,aN,aO,ao].Nodup) (Er:Errs K mg [ao,ah,ag,am,ad] [("NoScreen",ad),("NoOrder",ag),("NoRoom",am),("NoNumber",ah),("NoTable",aJ),("NoTask",aN),("NoText",aO),("NoBack",ao)])
 (h72:∃ f fd,Fun K "_law_cell" "_law_cell" (top 72) f fd/\mg "_law_cell"=some (.ref f))
 (h73:∃ f fd,Fun K "_law_pick" "_law_pick" (top 73) f fd/\mg "_law_pick"=some (.ref f))
 (h12:∃ f fd,Fun K "is_whole" "is_whole" (top 12) f fd/\mg "is_whole"=some (.ref f))
 (h13:∃ f fd,Fun K "is_within" "is_within" (top 13) f fd/\mg "is_within"=some (.ref f))
 (h14:∃ f fd,Fun K "is_plain" "is_plain" (top 14) f fd/\mg "is_plain"=some (.ref f))
 (h18:∃ f fd,Fun K "are_full_rows" "are_full_rows" (top 18) f fd/\mg "are_full_rows"=some (.ref f))
 (h19:∃ f fd,Fun K "is_place" "is_place" (top 19) f fd/\mg "is_place"=some (.ref f))
 (h20:∃ f fd,Fun K "is_screen" "is_screen" (top 20) f fd/\mg "is_screen"=some (.ref f))
 (h21:∃ f fd,Fun K "check_screen" "check_screen" (top 21) f fd/\mg "check_screen"=some (.ref f))
 (h63:∃ f fd,Fun K "spot_text" "spot_text" (top 63) f fd/\mg "spot_text"=some (.ref f))
 (h70:∃ f fd,Fun K "screen_text" "screen_text" (top 70) f fd/\mg "screen_text"=some (.ref f))
 (h74:∃ f fd,Fun K "_law_class" "_law_class" (top 74) f fd/\mg "_law_class"=some (.ref f))
 (h75:∃ f fd,Fun K "_law_told" "_law_told" (top 75) f fd/\mg "_law_told"=some (.ref f))
 (h29:∃ f fd,Fun K "is_say" "is_say" (top 29) f fd/\mg "is_say"=some (.ref f))
 (h30:∃ f fd,Fun K "is_go" "is_go" (top 30) f fd/\mg "is_go"=some (.ref f))
 (h31:∃ f fd,Fun K "is_order" "is_order" (top 31) f fd/\mg "is_order"=some (.ref f))
 (h32:∃ f fd,Fun K "check_order" "check_order" (top 32) f fd/\mg "check_order"=some (.ref f))
 (h34:∃ f fd,Fun K "with_row_at_place" "with_row_at_place" (top 34) f fd/\mg "with_row_at_place"=some (.ref f))
 (h35:∃ f fd,Fun K "after_say" "after_say" (top 35) f fd/\mg "after_say"=some (.ref f))
 (h36:∃ f fd,Fun K "after_go" "after_go" (top 36) f fd/\mg "after_go"=some (.ref f))
 (h37:∃ f fd,Fun K "after_wipe" "after_wipe" (top 37) f fd/\mg "after_wipe"=some (.ref f))
 (h38:∃ f fd,Fun K "after_order" "after_order" (top 38) f fd/\mg "after_order"=some (.ref f))
 (h39:∃ f fd,Fun K "done" "done" (top 39) f fd/\mg "done"=some (.ref f))
 (h40:∃ f fd,Fun K "order_cost" "order_cost" (top 40) f fd/\mg "order_cost"=some (.ref f))
 (h69_1:∃ f fd,Fun K "sheet" "Pad.sheet" (bb (top 69) 1) f fd/\Meth K al "sheet" f)
 (h69_2:∃ f fd,Fun K "spent" "Pad.spent" (bb (top 69) 2) f fd/\Meth K al "spent" f)
 (h69_3:∃ f fd,Fun K "step_to" "Pad.step_to" (bb (top 69) 3) f fd/\Meth K al "step_to" f)
 (h69_4:∃ f fd,Fun K "do" "Pad.do" (bb (top 69) 4) f fd/\Meth K al "do" f)
 (h65:∃ f fd,Fun K "row_or_blank" "row_or_blank" (top 65) f fd/\mg "row_or_blank"=some (.ref f))
 (h66:∃ f fd,Fun K "scrolled" "scrolled" (top 66) f fd/\mg "scrolled"=some (.ref f))
 (h69_5:∃ f fd,Fun K "scroll" "Pad.scroll" (bb (top 69) 5) f fd/\Meth K al "scroll" f)
 (h69_7:∃ f fd,Fun K "back" "Pad.back" (bb (top 69) 7) f fd/\Meth K al "back" f)
 (h69_9:∃ f fd,Fun K "counts" "Pad.counts" (bb (top 69) 9) f fd/\Meth K al "counts" f)
 (h69_8:∃ f fd,Fun K "forth" "Pad.forth" (bb (top 69) 8) f fd/\Meth K al "forth" f)
 (h69_0:∃ f fd,Fun K "__init__" "Pad.__init__" (bb (top 69) 0) f fd/\Mk K al f)
 (h22:∃ f fd,Fun K "are_rows" "are_rows" (top 22) f fd/\mg "are_rows"=some (.ref f))
 (h23:∃ f fd,Fun K "check_rows" "check_rows" (top 23) f fd/\mg "check_rows"=some (.ref f))
 (h60:∃ f fd,Fun K "least" "least" (top 60) f fd/\mg "least"=some (.ref f))
 (h33:∃ f fd,Fun K "check_orders" "check_orders" (top 33) f fd/\mg "check_orders"=some (.ref f))
 (h41:∃ f fd,Fun K "cost" "cost" (top 41) f fd/\mg "cost"=some (.ref f))
 (h61:∃ f fd,Fun K "least_cost" "least_cost" (top 61) f fd/\mg "least_cost"=some (.ref f))
 (h24:∃ f fd,Fun K "full_rows" "full_rows" (top 24) f fd/\mg "full_rows"=some (.ref f))
 (h69_6:∃ f fd,Fun K "bring" "Pad.bring" (bb (top 69) 6) f fd/\Meth K al "bring" f)
 {Pt76:Addr} (h76:∃ f fd,(Fun K "law" "law" (top 76) f fd/\mg "law"=some (.ref f))/\LamDef K mg fd Pt76) :
  ∃ fd:FuncData,(∀ (s:Shared) (u:Value),BindsTo s fd ⟨[u],[]⟩ [("_law_script",u)])/\∀ base:Heap,K.In base->base.Ns mainGlobals mg->(∀ pq ∈ ([(Pt76,"law"++".<locals>."++"<lambda>")]:List (Addr × Str)),base.BuiltinsAt mg pq.1/\vo base pq.1 pq.2)->FnF P w K mg base 13 fa fd ["_law_script"] xw:=by
 obtain ⟨qJ,dG⟩:=dG
 obtain ⟨zm,kJ⟩:=kJ
 obtain ⟨cL,bn⟩:=bn
 obtain ⟨kT,cg⟩:=cg
 obtain ⟨dR,bz⟩:=bz
 obtain ⟨kr,ck⟩:=ck
 obtain ⟨f72,d72,F72⟩:=h72
 obtain ⟨f73,d73,F73⟩:=h73
 obtain ⟨f12,d12,F12⟩:=h12
 obtain ⟨f13,d13,F13⟩:=h13
 obtain ⟨f14,d14,F14⟩:=h14
 obtain ⟨f18,d18,F18⟩:=h18
 obtain ⟨f19,d19,F19⟩:=h19
 obtain ⟨f20,d20,F20⟩:=h20
 obtain ⟨f21,d21,F21⟩:=h21
 obtain ⟨f63,d63,F63⟩:=h63
 obtain ⟨f70,d70,F70⟩:=h70
 obtain ⟨f74,d74,F74⟩:=h74
 obtain ⟨f75,d75,F75⟩:=h75
 obtain ⟨f29,d29,F29⟩:=h29
 obtain ⟨f30,d30,F30⟩:=h30
 obtain ⟨f31,d31,F31⟩:=h31
 obtain ⟨f32,d32,F32⟩:=h32
 obtain ⟨f34,d34,F34⟩:=h34
 obtain ⟨f35,d35,F35⟩:=h35
 obtain ⟨f36,d36,F36⟩:=h36
 obtain ⟨f37,d37,F37⟩:=h37
 obtain ⟨f38,d38,F38⟩:=h38
 obtain ⟨f39,d39,F39⟩:=h39
 obtain ⟨f40,d40,F40⟩:=h40
 obtain ⟨f69_1,d69_1,F69_1⟩:=h69_1
 obtain ⟨f69_2,d69_2,F69_2⟩:=h69_2
 obtain ⟨f69_3,d69_3,F69_3⟩:=h69_3
 obtain ⟨f69_4,d69_4,F69_4⟩:=h69_4
 obtain ⟨f65,d65,F65⟩:=h65
 obtain ⟨f66,d66,F66⟩:=h66
 obtain ⟨f69_5,d69_5,F69_5⟩:=h69_5
 obtain ⟨f69_7,d69_7,F69_7⟩:=h69_7
 obtain ⟨f69_9,d69_9,F69_9⟩:=h69_9
 obtain ⟨f69_8,d69_8,F69_8⟩:=h69_8
 obtain ⟨f69_0,d69_0,F69_0⟩:=h69_0
 obtain ⟨f22,d22,F22⟩:=h22
 obtain ⟨f23,d23,F23⟩:=h23
 obtain ⟨f60,d60,F60⟩:=h60
 obtain ⟨f33,d33,F33⟩:=h33
 obtain ⟨f41,d41,F41⟩:=h41
 obtain ⟨f61,d61,F61⟩:=h61
 obtain ⟨f24,d24,F24⟩:=h24
 obtain ⟨f69_6,d69_6,F69_6⟩:=h69_6
 obtain ⟨f76,d76,F76,L76⟩:=h76
 have e:fa=f76:=by
  have:=hfa.symm.trans F76.2
  injection this with this
  injection this
 subst e
 refine ⟨d76,fun s u=>?_,fun base kb nb hT=>?_⟩
 ·obtain ⟨oc,od,kV,doc,pm,an,cdv,ct,osl,rfl,lk,hcd⟩:=F76.1.ex
  exact .of_eq rfl
 ·have fZ:=oO (x:="NoBack") kb nb nC nG
  have iU:=oO (x:="NoNumber") kb nb iJ iP
  have eI:=oO (x:="NoOrder") kb nb lz jX
  have fY:=oO (x:="NoRoom") kb nb nF mV
  have dE:=oO (x:="NoScreen") kb nb iV iK
  have Cj:=PySem.W.mg_of kb nb zT
  have L76:LamB K mg base "law" d76 Pt76:=⟨L76,(hT _ (.head _)).2,(hT _ (.head _)).1⟩
  have k72:=F72.1.callee F72.2 ((sJ (P:=P) (w:=w) (base:=base) bo F72.1).to sI) fun _ _ _ _ _ _ us hl=>by obtain ⟨a,b,rfl⟩:=pQ hl; rfl
  have k73:=F73.1.callee F73.2 ((rk k72 F73.1).to sM) fun _ _ _ _ _ _ us hl=>by obtain ⟨a,b,c,rfl⟩:=BW hl; rfl
  have k12:=F12.1.callee F12.2 ((rq (P:=P) (w:=w) (base:=base) qC rm aH F12.1).to su) fun _ _ _ _ _ _ us hl=>by obtain ⟨a,rfl⟩:=mL hl; rfl
  have k13:=F13.1.callee F13.2 ((oI k12 F13.1).to qz) fun _ _ _ _ _ _ us hl=>by obtain ⟨a,b,c,rfl⟩:=BW hl; rfl
  have k14:=F14.1.callee F14.2 ((rj (P:=P) (w:=w) (base:=base) lu aH wT F14.1).to sj) fun _ _ _ _ _ _ us hl=>by obtain ⟨a,rfl⟩:=mL hl; rfl
  have k18:=F18.1.callee F18.2 ((jE lu aH bo bL bn k14 F18.1).to jB) fun _ _ _ _ _ _ us hl=>by obtain ⟨a,b,rfl⟩:=pQ hl; rfl
  have k19:=F19.1.callee F19.2 ((rz aH bo bL k13 F19.1).to rV) fun _ _ _ _ _ _ us hl=>by obtain ⟨a,b,c,rfl⟩:=BW hl; rfl
  have k20:=F20.1.callee F20.2 ((pE aH bo bL bz (k13.mono 3) (k18.mono 3) k19 F20.1).to qj) fun _ _ _ _ _ _ us hl=>by obtain ⟨a,rfl⟩:=mL hl; rfl
  have k21:=F21.1.callee F21.2 ((jY dE k20 F21.1).to kh) fun _ _ _ _ _ _ us hl=>by obtain ⟨a,rfl⟩:=mL hl; rfl
  have k63:=F63.1.callee F63.2 ((oU (P:=P) (w:=w) (base:=base) F63.1).to qE) fun _ _ _ _ _ _ us hl=>by obtain ⟨a,b,rfl⟩:=pQ hl; rfl
  have k70:=F70.1.callee F70.2 ((lL k21 (k63.mono 5) F70.1).to lX) fun _ _ _ _ _ _ us hl=>by obtain ⟨a,rfl⟩:=mL hl; rfl
  have k74:=F74.1.calleeH F74.2 ((qg (P:=P) (w:=w) (base:=base) cU aH Er F74.1).to (oM nd)) fun _ _ _ _ _ _ us hl=>by obtain ⟨a,rfl⟩:=mL hl; rfl
  have k29:=F29.1.callee F29.2 ((xt bo cg k14 F29.1).to wC) fun _ _ _ _ _ _ us hl=>by obtain ⟨a,rfl⟩:=mL hl; rfl
  have k30:=F30.1.callee F30.2 ((xO bo bn bz k13 F30.1).to xZ) fun _ _ _ _ _ _ us hl=>by obtain ⟨a,rfl⟩:=mL hl; rfl
  have k31:=F31.1.callee F31.2 ((qV aH bL (k29.mono 3) k30 F31.1).to rn) fun _ _ _ _ _ _ us hl=>by obtain ⟨a,rfl⟩:=mL hl; rfl
  have k32:=F32.1.callee F32.2 ((lJ eI k31 F32.1).to lN) fun _ _ _ _ _ _ us hl=>by obtain ⟨a,rfl⟩:=mL hl; rfl
  have k34:=F34.1.callee F34.2 ((gf (P:=P) (w:=w) (base:=base) F34.1).to gj) fun _ _ _ _ _ _ us hl=>by obtain ⟨a,b,c,rfl⟩:=BW hl; rfl
  have k35:=F35.1.callee F35.2 ((pv bo fY k34 F35.1).to oF) fun _ _ _ _ _ _ us hl=>by obtain ⟨a,b,rfl⟩:=pQ hl; rfl
  have k36:=F36.1.callee F36.2 ((rh (P:=P) (w:=w) (base:=base) bo fY F36.1).to rK) fun _ _ _ _ _ _ us hl=>by obtain ⟨a,b,c,rfl⟩:=BW hl; rfl
  have k37:=F37.1.callee F37.2 ((nN k34 F37.1).to oh) fun _ _ _ _ _ _ us hl=>by obtain ⟨a,rfl⟩:=mL hl; rfl
  have k38:=F38.1.callee F38.2 ((lM k35 (k36.mono 2) k37 F38.1).to lP) fun _ _ _ _ _ _ us hl=>by obtain ⟨a,b,rfl⟩:=pQ hl; rfl
  have k39:=F39.1.callee F39.2 ((Bu k21 k32 (k38.mono 5) F39.1).to AH) fun _ _ _ _ _ _ us hl=>by obtain ⟨a,b,rfl⟩:=pQ hl; rfl
  have k40:=F40.1.callee F40.2 ((mK (P:=P) (w:=w) (base:=base) bo dG ck F40.1).to ou) fun _ _ _ _ _ _ us hl=>by obtain ⟨a,rfl⟩:=mL hl; rfl
  have k69_1:=fb F69_1.1 F69_1.2 (pV (P:=P) (w:=w) (mg:=mg) (base:=base) aY zV F69_1.1) (fun _ _ _ _ _ _ us hl=>by obtain ⟨a,rfl⟩:=mL hl; rfl) (n:=0) rfl
  have k69_2:=fb F69_2.1 F69_2.2 (oH (P:=P) (w:=w) (mg:=mg) (base:=base) aY An F69_2.1) (fun _ _ _ _ _ _ us hl=>by obtain ⟨a,rfl⟩:=mL hl; rfl) (n:=0) rfl
  have k69_3:=fb F69_3.1 F69_3.2 (lU (P:=P) (w:=w) (mg:=mg) (base:=base) aY k69_2 DR F69_3.1) (fun _ _ _ _ _ _ us hl=>by obtain ⟨a,b,c,d,rfl⟩:=Hn hl; rfl) (n:=3) rfl
  have k69_4:=fb F69_4.1 F69_4.2 (wy (P:=P) (w:=w) (mg:=mg) (base:=base) k39 (k40.mono 6) aY (k69_1.mono 6) (k69_3.mono 6) (k69_2.mono 6) GU F69_4.1) (fun _ _ _ _ _ _ us hl=>by obtain ⟨a,b,rfl⟩:=pQ hl; rfl) (n:=1) rfl
  have k65:=F65.1.callee F65.2 ((jV (P:=P) (w:=w) (base:=base) bo F65.1).to kC) fun _ _ _ _ _ _ us hl=>by obtain ⟨a,b,rfl⟩:=pQ hl; rfl
  have k66:=F66.1.callee F66.2 ((qS bo fR bL bn iU k21 (k13.mono 5) (k65.mono 5) F66.1).to oN) fun _ _ _ _ _ _ us hl=>by obtain ⟨a,b,rfl⟩:=pQ hl; rfl
  have k69_5:=fb F69_5.1 F69_5.2 (mU (P:=P) (w:=w) (mg:=mg) (base:=base) k66 aY (k69_3.mono 6) (k69_1.mono 6) wW F69_5.1) (fun _ _ _ _ _ _ us hl=>by obtain ⟨a,b,rfl⟩:=pQ hl; rfl) (n:=1) rfl
  have k69_7:=fb F69_7.1 F69_7.2 (rX (P:=P) (w:=w) (mg:=mg) (base:=base) bo fZ aY Dq F69_7.1) (fun _ _ _ _ _ _ us hl=>by obtain ⟨a,rfl⟩:=mL hl; rfl) (n:=0) rfl
  have k69_9:=fb F69_9.1 F69_9.2 (ot (P:=P) (w:=w) (mg:=mg) (base:=base) bo aY zb F69_9.1) (fun _ _ _ _ _ _ us hl=>by obtain ⟨a,rfl⟩:=mL hl; rfl) (n:=0) rfl
  have k69_8:=fb F69_8.1 F69_8.2 (oP (P:=P) (w:=w) (mg:=mg) (base:=base) bo fZ aY Bs F69_8.1) (fun _ _ _ _ _ _ us hl=>by obtain ⟨a,rfl⟩:=mL hl; rfl) (n:=0) rfl
  have k69_0:=mkc F69_0.1 F69_0.2 Cj (sA (P:=P) (w:=w) (mg:=mg) (base:=base) kJ k21 aY Dr F69_0.1) (fun _ _ _ _ _ _ us hl=>by obtain ⟨a,b,rfl⟩:=pQ hl; rfl) (n:=1) rfl
  have k22:=F22.1.callee F22.2 ((sd lu aH bo ju k21 (k14.mono 5) F22.1).to qv) fun _ _ _ _ _ _ us hl=>by obtain ⟨a,b,rfl⟩:=pQ hl; rfl
  have k23:=F23.1.callee F23.2 ((oi dE k22 F23.1).to lZ) fun _ _ _ _ _ _ us hl=>by obtain ⟨a,b,rfl⟩:=pQ hl; rfl
  have k60:=F60.1.callee F60.2 ((yY k23 F60.1).to yG) fun _ _ _ _ _ _ us hl=>by obtain ⟨a,b,rfl⟩:=pQ hl; rfl
  have k33:=F33.1.callee F33.2 ((lv aH ju eI k32 F33.1).to kY) fun _ _ _ _ _ _ us hl=>by obtain ⟨a,rfl⟩:=mL hl; rfl
  have k41:=F41.1.callee F41.2 ((Bl wN k33 (k40.mono 6) F41.1).to Bi) fun _ _ _ _ _ _ us hl=>by obtain ⟨a,rfl⟩:=mL hl; rfl
  have k61:=F61.1.callee F61.2 ((nM k60 (k41.mono 8) F61.1).to nP) fun _ _ _ _ _ _ us hl=>by obtain ⟨a,b,rfl⟩:=pQ hl; rfl
  have k24:=F24.1.callee F24.2 ((qa (P:=P) (w:=w) (base:=base) bo F24.1).to qd) fun _ _ _ _ _ _ us hl=>by obtain ⟨a,b,rfl⟩:=pQ hl; rfl
  have k69_6:=fb F69_6.1 F69_6.2 (pI (P:=P) (w:=w) (mg:=mg) (base:=base) bL k61 (k24.mono 9) aY (k69_1.mono 9) (k69_3.mono 9) zL F69_6.1) (fun _ _ _ _ _ _ us hl=>by obtain ⟨a,b,rfl⟩:=pQ hl; rfl) (n:=1) rfl
  exact CN fR (k73.mono 12) (k70.mono 12) (k70.mono 10) (sw (P:=P) (w:=w) (base:=base) (k:=11) ((k74.mono 11)) Er F75.1 F75.2) aY (k69_4.mono 12) (k69_5.mono 12) (k69_7.mono 12) (k69_9.mono 12) (k69_2.mono 12) (k69_1.mono 12) (k69_8.mono 12) (sY k69_0 11) (k69_4.mono 10) (k69_5.mono 10) k69_6 (sY k69_0 9) (A1 (D2 nd)) L76 F76.1
end G77
theorem PySem.W.Fast.tw18205875953685819355:True:=trivial
theorem PySem.W.Fast.tw13700883451431253263:True:=trivial
theorem PySem.W.Fast.tw5456047691043315648:True:=trivial
theorem PySem.W.Fast.tw5590204795518284834:True:=trivial
theorem PySem.W.Fast.tw2352422995738960642:True:=trivial
theorem PySem.W.Fast.tw12103807202641087235:True:=trivial
theorem PySem.W.Fast.tw11195803498577103877:True:=trivial
theorem PySem.W.Fast.tw16639402759603593126:True:=trivial
theorem PySem.W.Fast.tw15696072271538526666:True:=trivial
theorem PySem.W.Fast.tw4133922169157646699:True:=trivial
theorem PySem.W.Fast.tw1673420348955235565:True:=trivial
theorem PySem.W.Fast.tw11806063820618986125:True:=trivial
theorem PySem.W.Fast.tw14922261691374598960:True:=trivial
theorem PySem.W.Fast.tw16660127216018633203:True:=trivial
theorem PySem.W.Fast.tw4361085298500428440:True:=trivial
theorem PySem.W.Fast.tw17707344186860091737:True:=trivial
theorem PySem.W.Fast.tw6132525711204972378:True:=trivial
theorem PySem.W.Fast.tw2615544145210334651:True:=trivial
theorem PySem.W.Fast.tw11016988657136874684:True:=trivial
theorem PySem.W.Fast.tw15461146284862981758:True:=trivial
theorem PySem.W.Fast.tw2266536300016954015:True:=trivial
open PySem PySem.W PyProof.Rows
set_option maxRecDepth 100000 in
set_option maxHeartbeats 0 in
theorem PySem.Challenge.cw_screenlines_k77_pads_refused_holds : PySem.Challenge.rw_screenlines_k77_pads_refused.Holds := by
 w_on; o_law; k_head; (case hw=>w_witness2)
 k_fill
 refine Q.FL (l:=PySem.Challenge.rw_screenlines_k77_pads_refused) (L:=13) ⟨rfl,by decide,by decide⟩ rfl rfl (by decide) ?F
 case F=>
  intro w mg fa h KX G hmg
  have cU:mg "ValueError"=none:=PySem.W.mg_none_of KX G (by k_is)
  have lu:mg "all"=none:=PySem.W.mg_none_of KX G (by k_is)
  have qC:mg "bool"=none:=PySem.W.mg_none_of KX G (by k_is)
  have rm:mg "int"=none:=PySem.W.mg_none_of KX G (by k_is)
  have aH:mg "isinstance"=none:=PySem.W.mg_none_of KX G (by k_is)
  have bo:mg "len"=none:=PySem.W.mg_none_of KX G (by k_is)
  have ju:mg "list"=none:=PySem.W.mg_none_of KX G (by k_is)
  have fR:mg "range"=none:=PySem.W.mg_none_of KX G (by k_is)
  have wT:mg "str"=none:=PySem.W.mg_none_of KX G (by k_is)
  have wN:mg "sum"=none:=PySem.W.mg_none_of KX G (by k_is)
  have bL:mg "tuple"=none:=PySem.W.mg_none_of KX G (by k_is)
  have dG:∃ t,mg "GO_COST"=some (.int 2 t):=⟨_,PySem.W.mg_of KX G (by k_is)⟩
  have kJ:∃ t,mg "MADE"=some (.str "made" t):=⟨_,PySem.W.mg_of KX G (by k_is)⟩
  have bn:∃ t,mg "MOST_ROWS"=some (.int 12 t):=⟨_,PySem.W.mg_of KX G (by k_is)⟩
  have cg:∃ t,mg "MOST_SAID"=some (.int 40 t):=⟨_,PySem.W.mg_of KX G (by k_is)⟩
  have bz:∃ t,mg "MOST_WIDTH"=some (.int 40 t):=⟨_,PySem.W.mg_of KX G (by k_is)⟩
  have ck:∃ t,mg "WIPE_COST"=some (.int 1 t):=⟨_,PySem.W.mg_of KX G (by k_is)⟩
  have h72:=Q.bw (x:="_law_cell") (st:=G77.top 72) KX G (by k_is) (by k_is) (by k_is) (by k_is)
  have h73:=Q.bw (x:="_law_pick") (st:=G77.top 73) KX G (by k_is) (by k_is) (by k_is) (by k_is)
  have h12:=Q.bw (x:="is_whole") (st:=G77.top 12) KX G (by k_is) (by k_is) (by k_is) (by k_is)
  have h13:=Q.bw (x:="is_within") (st:=G77.top 13) KX G (by k_is) (by k_is) (by k_is) (by k_is)
  have h14:=Q.bw (x:="is_plain") (st:=G77.top 14) KX G (by k_is) (by k_is) (by k_is) (by k_is)
  have h18:=Q.bw (x:="are_full_rows") (st:=G77.top 18) KX G (by k_is) (by k_is) (by k_is) (by k_is)
  have h19:=Q.bw (x:="is_place") (st:=G77.top 19) KX G (by k_is) (by k_is) (by k_is) (by k_is)
  have h20:=Q.bw (x:="is_screen") (st:=G77.top 20) KX G (by k_is) (by k_is) (by k_is) (by k_is)
  have h21:=Q.bw (x:="check_screen") (st:=G77.top 21) KX G (by k_is) (by k_is) (by k_is) (by k_is)
  have h63:=Q.bw (x:="spot_text") (st:=G77.top 63) KX G (by k_is) (by k_is) (by k_is) (by k_is)
  have h70:=Q.bw (x:="screen_text") (st:=G77.top 70) KX G (by k_is) (by k_is) (by k_is) (by k_is)
  have h74:=Q.bw (x:="_law_class") (st:=G77.top 74) KX G (by k_is) (by k_is) (by k_is) (by k_is)
  have h75:=Q.bw (x:="_law_told") (st:=G77.top 75) KX G (by k_is) (by k_is) (by k_is) (by k_is)
  have h29:=Q.bw (x:="is_say") (st:=G77.top 29) KX G (by k_is) (by k_is) (by k_is) (by k_is)
  have h30:=Q.bw (x:="is_go") (st:=G77.top 30) KX G (by k_is) (by k_is) (by k_is) (by k_is)
  have h31:=Q.bw (x:="is_order") (st:=G77.top 31) KX G (by k_is) (by k_is) (by k_is) (by k_is)
  have h32:=Q.bw (x:="check_order") (st:=G77.top 32) KX G (by k_is) (by k_is) (by k_is) (by k_is)
  have h34:=Q.bw (x:="with_row_at_place") (st:=G77.top 34) KX G (by k_is) (by k_is) (by k_is) (by k_is)
  have h35:=Q.bw (x:="after_say") (st:=G77.top 35) KX G (by k_is) (by k_is) (by k_is) (by k_is)
  have h36:=Q.bw (x:="after_go") (st:=G77.top 36) KX G (by k_is) (by k_is) (by k_is) (by k_is)
  have h37:=Q.bw (x:="after_wipe") (st:=G77.top 37) KX G (by k_is) (by k_is) (by k_is) (by k_is)
  have h38:=Q.bw (x:="after_order") (st:=G77.top 38) KX G (by k_is) (by k_is) (by k_is) (by k_is)
  have h39:=Q.bw (x:="done") (st:=G77.top 39) KX G (by k_is) (by k_is) (by k_is) (by k_is)
  have h40:=Q.bw (x:="order_cost") (st:=G77.top 40) KX G (by k_is) (by k_is) (by k_is) (by k_is)
  have h65:=Q.bw (x:="row_or_blank") (st:=G77.top 65) KX G (by k_is) (by k_is) (by k_is) (by k_is)
  have h66:=Q.bw (x:="scrolled") (st:=G77.top 66) KX G (by k_is) (by k_is) (by k_is) (by k_is)
  have h22:=Q.bw (x:="are_rows") (st:=G77.top 22) KX G (by k_is) (by k_is) (by k_is) (by k_is)
  have h23:=Q.bw (x:="check_rows") (st:=G77.top 23) KX G (by k_is) (by k_is) (by k_is) (by k_is)
  have h60:=Q.bw (x:="least") (st:=G77.top 60) KX G (by k_is) (by k_is) (by k_is) (by k_is)
  have h33:=Q.bw (x:="check_orders") (st:=G77.top 33) KX G (by k_is) (by k_is) (by k_is) (by k_is)
  have h41:=Q.bw (x:="cost") (st:=G77.top 41) KX G (by k_is) (by k_is) (by k_is) (by k_is)
  have h61:=Q.bw (x:="least_cost") (st:=G77.top 61) KX G (by k_is) (by k_is) (by k_is) (by k_is)
  have h24:=Q.bw (x:="full_rows") (st:=G77.top 24) KX G (by k_is) (by k_is) (by k_is) (by k_is)
  have h76:=Q.AV (x:="law") (st:=G77.top 76) KX G (by k_is) (by k_is) (by k_is) (by k_is) (by k_is) (by rfl) (by rfl) (by rfl) (by rfl) (by rfl) (by rfl) (by decide) (by decide)
  refine' Q.Gx (tq:=([(_,"law"++".<locals>."++"<lambda>")]:List (Addr × PySem.Str))) ?dl1 ?dl2 (Q.BR h76 KX Q.Ch) (G77.C4 (P:=_) (w:=w) (K:=L2.KOf KX) hmg cU lu qC rm aH bo ju fR wT wN bL dG kJ bn cg bz ck ?nC ?nG ?iJ ?iP ?lz ?jX ?nF ?mV ?iV ?iK ?zT ?aY ?nd (Q.zR KX G ?rZ ?h1 ?h2 ?tL ?yL ?lb) h72 h73 h12 h13 h14 h18 h19 h20 h21 h63 h70 h74 h75 h29 h30 h31 h32 h34 h35 h36 h37 h38 h39 h40 ?h69_1 ?h69_2 ?h69_3 ?h69_4 h65 h66 ?h69_5 ?h69_7 ?h69_9 ?h69_8 ?h69_0 h22 h23 h60 h33 h41 h61 h24 ?h69_6 h76)
  all_goals (try dsimp only [L2.KOf])
  (case dl1=>decide)
  (case dl2=>decide)
  (case nC=>k_is)
  (case iJ=>k_is)
  (case lz=>k_is)
  (case nF=>k_is)
  (case iV=>k_is)
  (case rZ=>k_is)
  (case h1=>dsimp only [Q.TsOk]; exact ⟨by k_is,⟨_,by k_is⟩,by k_is,by k_is,⟨_,by k_is⟩,by k_is,by k_is,⟨_,by k_is⟩,by k_is,by k_is,⟨_,by k_is⟩,by k_is,by k_is,⟨_,by k_is⟩,by k_is,by k_is,⟨_,by k_is⟩,by k_is,by k_is,⟨_,by k_is⟩,by k_is,by k_is,⟨_,by k_is⟩,by k_is,trivial⟩)
  (case h2=>dsimp only [Q.RsOk,Q.SubOk]; exact ⟨Q.qh (by k_is) (by k_is) (by k_is) (by k_is) (by k_is) (by k_is) (by k_is) (by k_is),⟨.inr (by k_is),.inr (by k_is),.inr (by k_is),.inr (by k_is),.inr (by k_is),.inr (by k_is),.inr (by k_is),.inl rfl,trivial⟩,by k_is,by k_is,Q.qh (by k_is) (by k_is) (by k_is) (by k_is) (by k_is) (by k_is) (by k_is) (by k_is),⟨.inr (by k_is),.inr (by k_is),.inr (by k_is),.inl rfl,.inr (by k_is),.inr (by k_is),.inr (by k_is),.inr (by k_is),trivial⟩,by k_is,by k_is,Q.qh (by k_is) (by k_is) (by k_is) (by k_is) (by k_is) (by k_is) (by k_is) (by k_is),⟨.inr (by k_is),.inl rfl,.inr (by k_is),.inr (by k_is),.inr (by k_is),.inr (by k_is),.inr (by k_is),.inr (by k_is),trivial⟩,by k_is,by k_is,Q.qh (by k_is) (by k_is) (by k_is) (by k_is) (by k_is) (by k_is) (by k_is) (by k_is),⟨.inr (by k_is),.inr (by k_is),.inl rfl,.inr (by k_is),.inr (by k_is),.inr (by k_is),.inr (by k_is),.inr (by k_is),trivial⟩,by k_is,by k_is,Q.qh (by k_is) (by k_is) (by k_is) (by k_is) (by k_is) (by k_is) (by k_is) (by k_is),⟨.inl rfl,.inr (by k_is),.inr (by k_is),.inr (by k_is),.inr (by k_is),.inr (by k_is),.inr (by k_is),.inr (by k_is),trivial⟩,by k_is,by k_is,trivial⟩)
  (case tL=>k_is)
  (case yL=>k_is)
  (case lb=>k_is)
  (case nd=>decide)
  (case nG=>k_exc)
  (case iP=>k_exc)
  (case jX=>k_exc)
  (case mV=>k_exc)
  (case iK=>k_exc)
  (case zT=>k_is)
  (case aY=>exact Q.vX 0 (x:="states") (Q.vX 1 (x:="taken_back") (Q.Dx (by k_is) (by k_is) (by k_is) (by k_is)) (by decide) rfl (by k_is)) (by decide) rfl (by k_is))
  (case h69_1=>exact Q.eP (st:=(L2.bb (G77.top 69) 1)) (by k_is) (by k_is) (by k_is) (by k_is) (by k_is))
  (case h69_2=>exact Q.eP (st:=(L2.bb (G77.top 69) 2)) (by k_is) (by k_is) (by k_is) (by k_is) (by k_is))
  (case h69_3=>exact Q.eP (st:=(L2.bb (G77.top 69) 3)) (by k_is) (by k_is) (by k_is) (by k_is) (by k_is))
  (case h69_4=>exact Q.eP (st:=(L2.bb (G77.top 69) 4)) (by k_is) (by k_is) (by k_is) (by k_is) (by k_is))
  (case h69_5=>exact Q.eP (st:=(L2.bb (G77.top 69) 5)) (by k_is) (by k_is) (by k_is) (by k_is) (by k_is))
  (case h69_7=>exact Q.eP (st:=(L2.bb (G77.top 69) 7)) (by k_is) (by k_is) (by k_is) (by k_is) (by k_is))
  (case h69_9=>exact Q.eP (st:=(L2.bb (G77.top 69) 9)) (by k_is) (by k_is) (by k_is) (by k_is) (by k_is))
  (case h69_8=>exact Q.eP (st:=(L2.bb (G77.top 69) 8)) (by k_is) (by k_is) (by k_is) (by k_is) (by k_is))
  (case h69_0=>exact Q.zM (st:=(L2.bb (G77.top 69) 0)) (by k_is) (by k_is) (by k_is) (by k_is) (by k_is) (by k_is) (by k_is))
  (case h69_6=>exact Q.eP (st:=(L2.bb (G77.top 69) 6)) (by k_is) (by k_is) (by k_is) (by k_is) (by k_is))
end
end
