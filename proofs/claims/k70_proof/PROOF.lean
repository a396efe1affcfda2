import PyProof.Rows.All
import Wide.All
import OpenK.AllK
import Wide.FinOn
import Lean
import PyProof.EqAt
import PyProof.EqKinds
import PyProof.TupleCall
import PyProof.NeKinds
import PyProof.Draws
import KE.KTupSum
import KE.KIntText
import PyProof.Rows.Range3
import PyProof.Rows.FStr
import PyProof.StrCalls2
import PyProof.StrLawsTight
import PyProof.StrLawsIn
import PyProof.StrCalls
import PySem.Challenge.RW_screenlines_k70_whole_texts
-- CHANGE: your row's module here, as the last of these rows
set_option Elab.async false
set_option linter.all false
set_option maxRecDepth 100000
namespace L2
open PySem PySem.Spec PyProof.Rows

abbrev Key := Sum Int Str
def zH : Key -> Value -> Bool
  | .inl k, v => Value.isInt k v
  | .inr x, v => Value.isStrOf x v
def Ds (w : World) : Key -> Int
  | .inl k => hashInt k
  | .inr x => hashStr w x
theorem bD : ∀ {k : Key} {v : Value}, zH k v = true -> (∃ i t, k = Sum.inl i /\ v = Value.int i t) \/ (∃ x t, k = Sum.inr x /\ v = Value.str x t)
  | .inl i, v, h => by
    obtain ⟨t, e⟩ := Value.isInt_shape (k := i) (v := v) h
    exact .inl ⟨i, t, rfl, e⟩
  | .inr x, v, h => by
    obtain ⟨t, e⟩ := Value.isStrOf_shape (x := x) (v := v) h
    exact .inr ⟨x, t, rfl, e⟩
theorem Bu (a b : Int) : decide ((Sum.inl a : Key) = Sum.inl b) = (a == b) := by
  by_cases e : a = b
  . subst e; simp
  . have h : ¬ (Sum.inl a : Key) = Sum.inl b := fun q => e (Sum.inl.inj q)
    rw [decide_eq_false h]
    exact (beq_eq_false_iff_ne.mpr e).symm
theorem Aw (a b : Str) : decide ((Sum.inr a : Key) = Sum.inr b) = decide (a = b) := by
  by_cases e : a = b
  . subst e; simp
  . have h : ¬ (Sum.inr a : Key) = Sum.inr b := fun q => e (Sum.inr.inj q)
    rw [decide_eq_false h, decide_eq_false e]
theorem Ag (a : Int) (b : Str) : decide ((Sum.inl a : Key) = Sum.inr b) = false := decide_eq_false (fun q => nomatch q)
theorem AM (a : Str) (b : Int) : decide ((Sum.inr a : Key) = Sum.inl b) = false := decide_eq_false (fun q => nomatch q)

def nu (prog : Program) (w : World) : PySem.KeyKind prog w Key where
  is := zH
  hash := Ds w
  inj := fun v a b ha hb => by
    rcases bD ha with ⟨i, t, rfl, rfl⟩ | ⟨x, t, rfl, rfl⟩
    . rcases bD hb with ⟨j, u, rfl, e⟩ | ⟨y, u, rfl, e⟩
      . injection e with e1 _; rw [e1]
      . exact nomatch e
    . rcases bD hb with ⟨j, u, rfl, e⟩ | ⟨y, u, rfl, e⟩
      . exact nomatch e
      . injection e with e1 _; rw [e1]
  byValue := fun k v h => by
    rcases bD h with ⟨i, t, rfl, rfl⟩ | ⟨x, t, rfl, rfl⟩ <;> rfl
  pyHash := fun hv h => by
    rcases bD hv with ⟨i, t, rfl, rfl⟩ | ⟨x, t, rfl, rfl⟩
    . exact wpAny_pyHash_int h
    . exact wpAny_pyHash_str h
  eqBool := fun hu hv h => by
    rcases bD hu with ⟨i, t, rfl, rfl⟩ | ⟨x, t, rfl, rfl⟩
    . rcases bD hv with ⟨j, u, rfl, rfl⟩ | ⟨y, u, rfl, rfl⟩
      . rw [Bu] at h; exact wpAny_eqBool_int h
      . rw [Ag] at h; exact SeqAt.EqAt.int_str i t y u _ _ _ _ h
    . rcases bD hv with ⟨j, u, rfl, rfl⟩ | ⟨y, u, rfl, rfl⟩
      . rw [AM] at h; exact SeqAt.EqAt.str_int x t j u _ _ _ _ h
      . rw [Aw] at h; exact wpAny_eqBool_str h
  «strs» := fun k x t v h => by
    rcases bD h with ⟨i, u, rfl, e⟩ | ⟨y, u, rfl, e⟩
    . exact nomatch e
    . injection e with e1 _
      subst e1
      cases v <;> rfl

end L2

namespace L2
open PySem PySem.Spec PyProof.Rows

inductive V where
  | non | bl (b : Bool) | int (i : Int) | str (x : Str) | byt (b : Array UInt8) | flt (b : UInt64) | ref (a : Addr) | ty (n : String)
  deriving DecidableEq

def RelV : V -> Value -> Prop
  | .non, u => u = Value.none
  | .bl b, u => u = Value.bool b
  | .int i, u => ∃ t, u = Value.int i t
  | .str x, u => ∃ t, u = Value.str x t
  | .byt b, u => ∃ t, u = Value.bytes b t
  | .flt b, u => ∃ t, u = Value.float b t
  | .ref a, u => u = Value.ref a
  | .ty n, u => u = Value.type n

abbrev Vals : List V -> List Value -> Prop := Paired RelV
theorem Vals.length {xs : List V} {us : List Value} (r : Vals xs us) : xs.length = us.length := Paired.length r
theorem Vals.get : ∀ {xs : List V} {us : List Value} {i : Nat} {x : V}, Vals xs us -> xs[i]? = some x -> ∃ u, us[i]? = some u /\ RelV x u
  | _, _, _, _, .nil, e => by simp at e
  | _, _, 0, _, .cons r _, e => by simp at e; subst e; exact ⟨_, rfl, r⟩
  | _, _, i + 1, x, .cons _ t, e => by
    obtain ⟨u, h1, h2⟩ := Vals.get (i := i) (x := x) t (by simpa using e)
    exact ⟨u, by simpa using h1, h2⟩
theorem Vals.append : ∀ {xs ys : List V} {us ws : List Value}, Vals xs us -> Vals ys ws -> Vals (xs ++ ys) (us ++ ws)
  | _, _, _, _, .nil, s => s
  | _, _, _, _, .cons r t, s => .cons r (Vals.append t s)
theorem Vals.take : ∀ {xs : List V} {us : List Value} (n : Nat), Vals xs us -> Vals (xs.take n) (us.take n)
  | _, _, 0, _ => .nil
  | _, _, _ + 1, .nil => .nil
  | _, _, n + 1, .cons r t => .cons r (Vals.take n t)
theorem Vals.drop : ∀ {xs : List V} {us : List Value} (n : Nat), Vals xs us -> Vals (xs.drop n) (us.drop n)
  | _, _, 0, r => r
  | _, _, _ + 1, .nil => .nil
  | _, _, n + 1, .cons _ t => Vals.drop n t
def C5 : Option V -> Option Value -> Prop
  | some v, some u => RelV v u
  | none, none => True
  | _, _ => False
def KV {κ : Type} : List (κ × V) -> List (κ × Value) -> Prop := Paired fun (p : κ × V) (q : κ × Value) => p.1 = q.1 /\ RelV p.2 q.2

def kV : Key -> V
  | .inl i => .int i
  | .inr x => .str x

inductive HO where
  /-- a list -/
  | lst (xs : List V)
  /-- a tuple (never changes) -/
  | tup (xs : List V)
  /-- a dict whose keys are ints and texts; one whose keys are tuples of ints and texts (the empty one is both) -/
  | dK (kvs : List (Key × V)) | dT (kvs : List (List Key × V))
  /-- a set of ints: its members, its size -/
  | set (S : Int -> Bool) (n : Nat)
  /-- an instance of the class at C, its dict at dx, its attributes -/
  | ins (C dx : Addr) (fs : List (Str × V))
  /-- the dict of the instance at x -/
  | own (x : Addr)
  /-- the dict of an exception -/
  | xd (fs : List (Str × V))
  /-- a bound method, f of x -/
  | met (f x : Addr)
  /-- a range object lo, lo + 1, .. below hi -/
  | rng (lo hi : Int)
  /-- a thing that is known to the object (the script; a dict while a loop walks it): read, never written while it is so -/
  | frz (o : Obj) (u : HO)
  /-- a code object's table -/
  | tbl (ps : Array Value)
  /-- any other thing, by what is true of its one object (a def of one's own: SetO a S n := HO.ext fun h => ..) -/
  | ext (φ : Heap -> Prop)

abbrev Hp := Addr -> Option HO
def upd (H : Hp) (a : Addr) (o : HO) : Hp := fun b => if b = a then some o else H b
theorem bf {H : Hp} {a : Addr} {o : HO} : upd H a o a = some o := by unfold upd; rw [if_pos rfl]
theorem aW {H : Hp} {a b : Addr} {o : HO} (h : b ≠ a) : upd H a o b = H b := by unfold upd; rw [if_neg h]
theorem aK {H : Hp} {a b : Addr} {o : HO} (h : H a = some o) (h' : H b = none) : a ≠ b := by
  intro e; subst e; rw [h] at h'; cases h'

section
variable (P : Program) (w : World)
def ObjOk (H : Hp) (h : Heap) (a : Addr) : HO -> Prop
  | .lst xs => xs.length <= sizeLine /\ ∃ (its : List Value) (n : Nat), Vals xs its /\ h.get? a = some { cls := .type "list", data := .seq its.toArray n }
  | .tup xs => xs.length <= sizeLine /\ ∃ its : List Value, Vals xs its /\ IsTup h a its.toArray
  | .dK kvs => kvs.length <= sizeLine /\ (a == sysModules) = false /\ ∃ vs, KV kvs vs /\ h.DictOf (nu P w) a vs
  | .dT kvs => kvs.length <= sizeLine /\ (a == sysModules) = false /\ ∃ xs : List (List Key × Addr × Value),
      Paired (fun (p : List Key × V) (q : List Key × Addr × Value) => p.1 = q.1 /\ H q.2.1 = some (.tup (p.1.map kV)) /\ RelV p.2 q.2.2) kvs xs /\
      ∃ o es ep, h.get? a = some o /\ o.ExactDict /\ o.data = .dict es ep /\ es.toList = xs.map (entryOfKey (tupleKind (nu P w))) /\ (xs.map (·.1)).Nodup
  | .set S n => h.SetOf (intKind P w) a S n
  | .ins C dx fs => H dx = some (.own a) /\ fs.length <= 1000 /\ dx ≠ a /\ h.get? a = some (PySem.W.instObj C dx) /\
      ∃ mA, h.Ns1 dx mA /\ (∀ f, C5 (fs.lookup f) (mA f)) /\ PySem.Within mA (fs.map (·.1))
  | .own _ => ∃ o, h.get? a = some o
  | .xd fs => ∃ mA, h.Ns1 a mA /\ ∀ f, C5 (fs.lookup f) (mA f)
  | .rng lo hi => ∃ t u v, h.get? a = some { cls := .type "range", data := .fields #[.int lo t, .int hi u, .int 1 v] }
  | .frz o u => h.get? a = some o /\ ObjOk H h a u
  | .tbl ps => h.get? a = some { cls := .none, data := .fields ps }
  | .met f x => h.get? a = some (PySem.W.methodObj (.ref f) (.ref x))
  | .ext φ => φ h /\ (∃ o, h.get? a = some o) /\ ∀ h1 h2 : Heap, φ h1 -> (∀ o, h1.get? a = some o -> h2.get? a = some o) -> φ h2
def HOk (H : Hp) (h : Heap) : Prop := ∀ a o, H a = some o -> ObjOk P w H h a o
end

section
variable {P : Program} {w : World} {H H' : Hp} {h h' : Heap} {a : Addr} {o : HO}
theorem ObjOk.lt (x : ObjOk P w H h a o) : a < h.objs.size := by
  cases o with
  | lst xs => obtain ⟨_, _, _, _, e⟩ := x; exact Heap.lt_size e
  | tup xs => obtain ⟨_, _, _, p⟩ := x; exact p.lt
  | dK kvs => obtain ⟨_, _, _, _, o, _, _, e, _⟩ := x; exact Heap.lt_size e
  | dT kvs => obtain ⟨_, _, _, _, o, _, _, e, _⟩ := x; exact Heap.lt_size e
  | set S n => obtain ⟨o, _, _, _, e, _⟩ := x; exact Heap.lt_size e
  | ins C dx fs => obtain ⟨_, _, _, e, _⟩ := x; exact Heap.lt_size e
  | own y => obtain ⟨_, e⟩ := x; exact Heap.lt_size e
  | xd fs => obtain ⟨_, ⟨_, _, _, e, _⟩, _⟩ := x; exact Heap.lt_size e
  | rng lo hi => obtain ⟨_, _, _, e⟩ := x; exact Heap.lt_size e
  | frz ob u => obtain ⟨e, _⟩ := x; exact Heap.lt_size e
  | tbl ps => exact Heap.lt_size (show h.get? a = some _ from x)
  | met f y => exact Heap.lt_size (show h.get? a = some _ from x)
  | ext φ => obtain ⟨_, ⟨_, e⟩, _⟩ := x; exact Heap.lt_size e
theorem Paired.mapP {α β : Type} {F G : α -> β -> Prop} : ∀ {l₁ : List α} {l₂ : List β}, Paired F l₁ l₂ -> (∀ a b, F a b -> G a b) -> Paired G l₁ l₂
  | _, _, .nil, _ => .nil
  | _, _, .cons r t, f => .cons (f _ _ r) (Paired.mapP t f)
theorem ObjOk.stay (x : ObjOk P w H h a o) (k : ∀ b u, (b = a \/ H b = some (.own a)) -> h.get? b = some u -> h'.get? b = some u)
    (ho : ∀ b, H b = some (.own a) -> H' b = some (.own a)) (ht : ∀ b xs, H b = some (.tup xs) -> H' b = some (.tup xs)) : ObjOk P w H' h' a o := by
  induction o with
  | lst xs => obtain ⟨z, its, n, r, e⟩ := x; exact ⟨z, its, n, r, k _ _ (.inl rfl) e⟩
  | tup xs => obtain ⟨z, its, r, ob, e, c⟩ := x; exact ⟨z, its, r, ob, k _ _ (.inl rfl) e, c⟩
  | dK kvs => obtain ⟨z, y, vs, r, ob, es, ep, e, c⟩ := x; exact ⟨z, y, vs, r, ob, es, ep, k _ _ (.inl rfl) e, c⟩
  | dT kvs =>
    obtain ⟨z, y, xs, r, ob, es, ep, e, c⟩ := x
    exact ⟨z, y, xs, Paired.mapP r fun p q z => ⟨z.1, ht _ _ z.2.1, z.2.2⟩, ob, es, ep, k _ _ (.inl rfl) e, c⟩
  | set S n => obtain ⟨ob, es, ep, t, e, c⟩ := x; exact ⟨ob, es, ep, t, k _ _ (.inl rfl) e, c⟩
  | ins C dx fs =>
    obtain ⟨d, z, ne, e, mA, ⟨od, es, ep, e2, c⟩, r⟩ := x
    exact ⟨ho _ d, z, ne, k _ _ (.inl rfl) e, mA, ⟨od, es, ep, k _ _ (.inr d) e2, c⟩, r⟩
  | own y => obtain ⟨ob, e⟩ := x; exact ⟨ob, k _ _ (.inl rfl) e⟩
  | xd fs => obtain ⟨mA, ⟨od, es, ep, e, c⟩, r⟩ := x; exact ⟨mA, ⟨od, es, ep, k _ _ (.inl rfl) e, c⟩, r⟩
  | rng lo hi => obtain ⟨t, u, v, e⟩ := x; exact ⟨t, u, v, k _ _ (.inl rfl) e⟩
  | frz ob u ih => obtain ⟨e, q⟩ := x; exact ⟨k _ _ (.inl rfl) e, ih q⟩
  | tbl ps =>
    have e : h.get? a = some { cls := .none, data := .fields ps } := x
    show h'.get? a = some { cls := .none, data := .fields ps }
    exact k a _ (.inl rfl) e
  | met f y =>
    have e : h.get? a = some (PySem.W.methodObj (.ref f) (.ref y)) := x
    show h'.get? a = some (PySem.W.methodObj (.ref f) (.ref y))
    exact k a _ (.inl rfl) e
  | ext φ => obtain ⟨p, ⟨o, e⟩, st⟩ := x; exact ⟨st _ _ p fun o q => k _ _ (.inl rfl) q, ⟨o, k _ _ (.inl rfl) e⟩, st⟩
theorem HOk.lt (x : HOk P w H h) (e : H a = some o) : a < h.objs.size := (x a o e).lt
theorem HOk.fresh (x : HOk P w H h) (e : h.objs.size <= a) : H a = none := by
  cases q : H a with
  | none => rfl
  | some u => exact absurd (Nat.lt_of_lt_of_le (x.lt q) e) (Nat.lt_irrefl _)
theorem HOk.kept (x : HOk P w H h) (k : ∀ b u, h.get? b = some u -> h'.get? b = some u) : HOk P w H h' := fun a o e =>
  (x a o e).stay (fun b u _ q => k b u q) (fun _ q => q) fun _ _ q => q
theorem HOk.laid (x : HOk P w H h) (k : ∀ b u, h.get? b = some u -> h'.get? b = some u) (hp : h.objs.size <= a) (new : ObjOk P w (upd H a o) h' a o) : HOk P w (upd H a o) h' := fun b u e => by
  have hn := x.fresh hp
  by_cases hb : b = a
  . subst hb; rw [bf] at e; cases e; exact new
  . rw [aW hb] at e
    exact (x b u e).stay (fun c v _ q => k c v q) (fun c q => by rw [aW (aK q hn)]; exact q) fun c xs q => by rw [aW (aK q hn)]; exact q
end

def Rd (H : Hp) (a : Addr) (u : HO) : Prop := H a = some u \/ ∃ o, H a = some (.frz o u)
theorem Rd.ok {P : Program} {w : World} {H : Hp} {h : Heap} {a : Addr} {u : HO} (r : Rd H a u) (x : HOk P w H h) : ObjOk P w H h a u := by
  rcases r with r | ⟨o, r⟩
  . exact x a u r
  . obtain ⟨_, q⟩ := x a _ r
    exact q
def Mut : Option HO -> Prop
  | some (.lst _) => True
  | some (.dK _) => True
  | some (.dT _) => True
  | some (.set _ _) => True
  | some (.ins _ _ _) => True
  | some (.ext _) => True
  | _ => False
section
variable {P : Program} {w : World} {H : Hp} {h h' : Heap} {x e : Addr} {o' : HO}
theorem HOk.write (ok : HOk P w H h) (mu : Mut (H x)) (he : e = x \/ H e = some (.own x)) (k : ∀ b u, b ≠ e -> h.get? b = some u -> h'.get? b = some u) (heo : ∃ u, h'.get? e = some u)
    (new : ObjOk P w (upd H x o') h' x o') : HOk P w (upd H x o') h' := fun b u q => by
  have nown : ∀ c y, H c = some (.own y) -> c ≠ x := fun c y r z => by subst z; rw [r] at mu; exact mu
  have ntup : ∀ c xs, H c = some (.tup xs) -> c ≠ x := fun c xs r z => by subst z; rw [r] at mu; exact mu
  by_cases hb : b = x
  . subst hb; rw [bf] at q; cases q; exact new
  . rw [aW hb] at q
    by_cases hbe : b = e
    . have q' : H b = some (.own x) := by
        rcases he with z | z
        . exact absurd (hbe.trans z) hb
        . rw [hbe]; exact z
      rw [q] at q'; cases q'
      obtain ⟨v, hv⟩ := heo
      exact ⟨v, by rw [hbe]; exact hv⟩
    . refine (ok b u q).stay (fun c v hc r => k c v ?_ r) (fun c r => by rw [aW (nown c b r)]; exact r) fun c xs r => by rw [aW (ntup c xs r)]; exact r
      rcases hc with rfl | hc
      . exact hbe
      . rintro rfl
        rcases he with z | z
        . exact nown c b hc z
        . rw [hc] at z; cases z; exact hb rfl
end

structure Un (fs ex : List Addr) (H H' : Hp) (h h' : Heap) : Prop where
  keep : ∀ b o, h.get? b = some o -> H b = none -> b ∉ fs -> b ∉ ex -> h'.get? b = some o
  slot : ∀ b o, h.get? b = some o -> H b = none -> b ∈ fs -> b ∉ ex -> ∃ sl, h'.get? b = some { o with slots := sl }
  free : ∀ b o, h.get? b = some o -> H b = none -> b ∉ ex -> H' b = none
  there : ∀ b o, h.get? b = some o -> b ∉ ex -> ∃ o', h'.get? b = some o'
  tups : ∀ b xs, H b = some (.tup xs) -> H' b = some (.tup xs)
  frzs : ∀ b o u, H b = some (.frz o u) -> H' b = some (.frz o u)
  tbls : ∀ b ps, H b = some (.tbl ps) -> ∃ more, H' b = some (.tbl (ps ++ more))
section
variable {fs fs' ex ex' : List Addr} {H H1 H2 : Hp} {h h1 h2 h' : Heap} {a x e : Addr} {o : HO}
theorem Un.any (u : Un fs ex H H1 h h1) {b : Addr} {ob : Obj} (q : h.get? b = some ob) (n : H b = none) (hx : b ∉ ex) : ∃ sl, h1.get? b = some { ob with slots := sl } := by
  by_cases hb : b ∈ fs
  . exact u.slot b ob q n hb hx
  . exact ⟨ob.slots, u.keep b ob q n hb hx⟩
theorem Un.kept (k : ∀ b u, h.get? b = some u -> h'.get? b = some u) : Un fs ex H H h h' :=
  ⟨fun b ob q _ _ _ => k b ob q, fun b ob q _ _ _ => ⟨ob.slots, k b ob q⟩, fun _ _ _ n _ => n, fun b ob q _ => ⟨ob, k b ob q⟩, fun _ _ q => q, fun _ _ _ q => q, fun _ ps q => ⟨#[], by rw [q]; simp⟩⟩
theorem Un.refl : Un fs ex H H h h := Un.kept fun _ _ q => q
theorem Un.laid (k : ∀ b u, h.get? b = some u -> h'.get? b = some u) (hp : h.objs.size <= a) (hn : H a = none) : Un fs ex H (upd H a o) h h' where
  keep := fun b u q _ _ _ => k b u q
  slot := fun b u q _ _ _ => ⟨u.slots, k b u q⟩
  free := fun b u q n _ => by rw [aW (Nat.ne_of_lt (Nat.lt_of_lt_of_le (Heap.lt_size q) hp))]; exact n
  there := fun b u q _ => ⟨u, k b u q⟩
  tups := fun b xs q => by rw [aW (aK q hn)]; exact q
  frzs := fun b u xs q => by rw [aW (aK q hn)]; exact q
  tbls := fun b ps q => ⟨#[], by rw [aW (aK q hn), q]; simp⟩
theorem Un.write (mu : Mut (H x)) (he : e = x \/ H e = some (.own x)) (k : ∀ b u, b ≠ e -> h.get? b = some u -> h'.get? b = some u) (heo : ∃ u, h'.get? e = some u) : Un fs ex H (upd H x o) h h' := by
  have hx : ∀ b, H b = none -> b ≠ x := fun b n z => by subst z; rw [n] at mu; exact mu
  have hb : ∀ b, H b = none -> b ≠ e := fun b n z => by
    subst z
    rcases he with r | r
    . exact hx b n r
    . rw [n] at r; cases r
  have hm : ∀ b u, H b = some u -> ¬ Mut (some u) -> b ≠ x := fun b u q nm z => by subst z; rw [q] at mu; exact nm mu
  refine ⟨fun b u q n _ _ => k b u (hb b n) q, fun b u q n _ _ => ⟨u.slots, k b u (hb b n) q⟩, fun b u q n _ => by rw [aW (hx b n)]; exact n, fun b u q _ => ?_,
    fun b xs q => by rw [aW (hm b _ q fun z => z)]; exact q, fun b u xs q => by rw [aW (hm b _ q fun z => z)]; exact q, fun b ps q => ⟨#[], by rw [aW (hm b _ q fun z => z), q]; simp⟩⟩
  by_cases hbe : b = e
  . subst hbe; exact heo
  . exact ⟨u, k b u hbe q⟩
end

def trk (h : Heap) (H : Hp) : List Addr := (List.range h.objs.size).filter fun a => (H a).isSome
def tO (h : Heap) (H : Hp) : Heap := PySem.W.hideAll h (trk h H)
theorem qT (h : Heap) (H : Hp) : (tO h H).objs.size = h.objs.size := PySem.W.hideAll_size _ _
theorem vw {h : Heap} {H : Hp} {b : Addr} {o : Obj} (e : h.get? b = some o) (n : H b = none) : (tO h H).get? b = some o :=
  PySem.W.hideAll_get _ e fun hm => by
    have q : (H b).isSome = true := (List.mem_filter.mp hm).2
    rw [n] at q; simp at q
theorem yM {h : Heap} {H : Hp} {b : Addr} {o : Obj} (e : (tO h H).get? b = some o) : h.get? b = some o /\ H b = none := by
  have e' : h.get? b = some o := PySem.W.of_hideAll (trk h H) e
  refine ⟨e', ?_⟩
  cases q : H b with
  | none => rfl
  | some x =>
    have hm : b ∈ trk h H := List.mem_filter.mpr ⟨List.mem_range.mpr (Heap.lt_size e'), by simp [q]⟩
    have z : (tO h H).get? b = none := PySem.W.hideAll_none (trk h H) hm
    rw [z] at e; cases e

def yR (g h : Heap) (L : Addr) : List (Addr × Obj) := (List.range h.objs.size).filterMap fun a => if a = L \/ (g.get? a).isSome = true then none else (h.get? a).map fun o => (a, o)
def de (g h : Heap) (L d : Addr) : List (Addr × Obj) := (yR g h L).filter fun p => decide (p.1 ≠ d)
end L2

namespace L2
open PySem PySem.Spec PyProof.Rows

structure Mod (K : PySem.W.Frag) (mg : Str -> Option Value) (base : Heap) : Prop where
  kin : K.In base
  glob : base.Ns mainGlobals mg
  blt : ∃ mb, base.Ns builtinsNs mb /\ ∀ x : Str, x ≠ "__name__" -> mb x = bootBuiltins x
  nolimit : base.NoLimit

structure Cx where
  prog : Program
  w : World
  K : PySem.W.Frag
  mg : Str -> Option Value
  base : Heap
  A : Around
  N : List Str
  s₀ : Shared
  H₀ : Hp
  env : Env
  outer : List Env
  stack : List Env
  ex : List Addr
  fn : Str -> Bool
  calm : Bool
  pn : List (Addr × Obj)
  xe : Value -> Shared -> Prop
def frs (l : List Env) : List Addr := l.filterMap (·.frame)
abbrev Cx.fs (X : Cx) : List Addr := frs X.outer

def Vis (sc : Scope) (x : Str) : Prop := sc.names.lookup x = some .local \/ sc.names.lookup x = some .cell \/ sc.names.lookup x = some .free
def Loc (sc : Scope) (x : Str) : Prop := sc.names.lookup x = some .local \/ sc.names.lookup x = some .cell
def Db (env : Env) (h : Heap) (m : Str -> Option Value) (x : Str) (u : Value) : Prop :=
  (env.kindOf x = some .local /\ m x = some u) \/ ((env.kindOf x = some .cell \/ env.kindOf x = some .free) /\ ∃ c, env.cells.lookup x = some c /\ h.IsCell c (some u))

structure Cx.Ok (X : Cx) : Prop where
  mod : Mod X.K X.mg X.base
  kind : X.env.scope.kind = .function
  glob : X.env.globals = mainGlobals
  blt : X.env.builtins = builtinsNs
  above : X.s₀.heap.objs.size <= X.env.locals
  inj : ∀ x y c, X.env.cells.lookup x = some c -> X.env.cells.lookup y = some c -> x = y
  has : ∀ x, (X.env.kindOf x = some .cell \/ X.env.kindOf x = some .free) -> ∃ c, X.env.cells.lookup x = some c
  cab : ∀ x c, X.fn x = true -> X.env.cells.lookup x = some c -> X.s₀.heap.objs.size <= c
  hd : X.calm = true -> X.A.handled = none
  frames : X.A.frames = some X.stack
  stk : X.stack = X.outer \/ (X.stack = X.env :: X.outer /\ X.env.frame = some X.env.locals)
  exf : ∀ b ∈ X.ex, b ≠ X.env.locals /\ ∀ x c, X.env.cells.lookup x = some c -> c ≠ b
  bs : ∀ b o, X.base.get? b = some o -> X.s₀.heap.get? b = some o /\ X.H₀ b = none
  bsz : X.base.objs.size <= X.s₀.heap.objs.size
  noex : ∀ b o, X.base.get? b = some o -> b ∉ X.ex
  exfs : ∀ b ∈ X.ex, b ∉ X.fs
  funs : X.s₀.heap.FunFrames X.base X.outer
  frf : ∀ b ∈ X.fs, X.H₀ b = none

structure Inv (X : Cx) (pins : List (Addr × Obj)) (σ : List (Option V)) (H : Hp) (s : Shared) : Prop where
  ok : X.Ok
  os : s.os = X.s₀.os
  bare : AllBare s.gens
  base : Un X.fs X.ex X.H₀ H X.s₀.heap s.heap
  loc : ∃ m, s.heap.Ns X.env.locals m /\ ∀ (i : Nat) (x : Str) (v : V), X.N[i]? = some x -> σ[i]? = some (some v) -> Vis X.env.scope x -> ∃ u, RelV v u /\ Db X.env s.heap m x u
  cell : ∀ x c, X.env.cells.lookup x = some c -> ∃ v, s.heap.IsCell c v
  free : H X.env.locals = none
  freeC : ∀ x c, X.env.cells.lookup x = some c -> H c = none
  pin : ∀ p ∈ X.pn ++ pins, s.heap.get? p.1 = some p.2 /\ H p.1 = none /\ p.1 ≠ X.env.locals /\ p.1 ∉ X.fs /\ ∀ v, p.2.data ≠ .cell v
  hok : HOk X.prog X.w H s.heap
  len : σ.length = X.N.length

section
variable {X : Cx} {pins : List (Addr × Obj)} {σ : List (Option V)} {H H' : Hp} {s : Shared} {h' : Heap}

theorem Cx.Ok.nofr (ok : X.Ok) {b : Addr} {o : Obj} (e : X.base.get? b = some o) : b ∉ X.fs := fun hb => by
  have := (ok.funs.mem hb).1
  rw [e] at this; cases this
theorem Inv.bs (I : Inv X pins σ H s) : ∀ b o, X.base.get? b = some o -> s.heap.get? b = some o /\ H b = none := fun b o e =>
  ⟨I.base.keep b o (I.ok.bs b o e).1 (I.ok.bs b o e).2 (I.ok.nofr e) (I.ok.noex b o e), I.base.free b o (I.ok.bs b o e).1 (I.ok.bs b o e).2 (I.ok.noex b o e)⟩
theorem Inv.bk (I : Inv X pins σ H s) : ∀ b o, X.base.get? b = some o -> s.heap.get? b = some o := fun b o e => (I.bs b o e).1
theorem Inv.mod (I : Inv X pins σ H s) : Mod X.K X.mg X.base := I.ok.mod
theorem Inv.kIn (I : Inv X pins σ H s) : X.K.In s.heap := I.ok.mod.kin.keeps I.bk
theorem Inv.lt (I : Inv X pins σ H s) : X.env.locals < s.heap.objs.size := let ⟨_, hn, _⟩ := I.loc; hn.lt
theorem Inv.sz (I : Inv X pins σ H s) : X.s₀.heap.objs.size <= s.heap.objs.size := Nat.le_trans I.ok.above (Nat.le_of_lt I.lt)
theorem Inv.nofs (I : Inv X pins σ H s) {a : Addr} (h : s.heap.objs.size <= a) : a ∉ X.fs := fun hb => by
  obtain ⟨_, o, ho, _⟩ := I.ok.funs.mem hb
  exact absurd (Nat.lt_of_lt_of_le (Heap.lt_size ho) (Nat.le_trans I.sz h)) (Nat.lt_irrefl _)
theorem Inv.cne (I : Inv X pins σ H s) : ∀ x c, X.env.cells.lookup x = some c -> c ≠ X.env.locals := fun x c e z => by
  obtain ⟨v, o, ho, hd⟩ := I.cell x c e
  obtain ⟨m, ⟨o', es, ep, ho', hd', _⟩, _⟩ := I.loc
  rw [z, ho'] at ho; cases ho; rw [hd'] at hd; cases hd
theorem Inv.funs (I : Inv X pins σ H s) : s.heap.FunFrames X.base X.outer := by
  have all : ∀ (l : List Env), (∀ b ∈ frs l, b ∈ X.fs) -> X.s₀.heap.FunFrames X.base l -> s.heap.FunFrames X.base l := by
    intro l
    induction l with
    | nil => intro _ _; trivial
    | cons env r ih =>
      intro hs hl
      obtain ⟨hk, ⟨L, o, hf, hn, ho, hd⟩, hr⟩ := hl
      have hL : L ∈ X.fs := hs L (by unfold frs; rw [List.filterMap_cons, hf]; exact List.mem_cons_self)
      obtain ⟨sl, e⟩ := I.base.slot L o ho (I.ok.frf L hL) hL fun z => I.ok.exfs L z hL
      exact ⟨hk, ⟨L, _, hf, hn, e, hd⟩, ih (fun b hb => hs b (by unfold frs; rw [List.filterMap_cons, hf]; exact List.mem_cons_of_mem _ hb)) hr⟩
  exact all X.outer (fun _ hb => hb) I.ok.funs

theorem Inv.stack (I : Inv X pins σ H s) : s.heap.FunFrames X.base X.stack := by
  rcases I.ok.stk with e | ⟨e, hf⟩
  . rw [e]; exact I.funs
  . rw [e]
    obtain ⟨m, hn, _⟩ := I.loc
    refine .cons (by rw [I.ok.kind]; decide) hf hn ?_ I.funs
    exact Heap.get?_none_of_le (Nat.le_trans I.ok.bsz I.ok.above)
theorem Inv.stkSub (I : Inv X pins σ H s) : ∀ b ∈ frs X.stack, b ∈ X.env.locals :: X.fs := fun b hb => by
  rcases I.ok.stk with e | ⟨e, hf⟩
  . rw [e] at hb; exact List.mem_cons_of_mem _ hb
  . rw [e] at hb
    unfold frs at hb
    rw [List.filterMap_cons, hf] at hb
    exact hb
theorem Inv.stkFree (I : Inv X pins σ H s) : ∀ b ∈ frs X.stack, H b = none := fun b hb => by
  rcases List.mem_cons.mp (I.stkSub b hb) with e | hb
  . rw [e]; exact I.free
  . obtain ⟨_, o, ho, _⟩ := I.ok.funs.mem hb
    exact I.base.free b o ho (I.ok.frf b hb) fun z => I.ok.exfs b z hb

theorem Inv.step {g' : Array GenState} {t' : Nat} {d' : Drawn} {ch : List Addr} (I : Inv X pins σ H s)
    (hch : ∀ b ∈ ch, (b ∈ X.ex \/ X.s₀.heap.objs.size <= b) /\ b ≠ X.env.locals /\ (∀ x c, X.env.cells.lookup x = some c -> c ≠ b) /\ ∀ p ∈ X.pn ++ pins, p.1 ≠ b)
    (keep : ∀ b o, b ≠ X.env.locals -> b ∉ X.fs -> b ∉ ch -> s.heap.get? b = some o -> H b = none -> h'.get? b = some o)
    (slot : ∀ b o, b ≠ X.env.locals -> b ∈ X.fs -> b ∉ ch -> s.heap.get? b = some o -> H b = none -> ∃ sl, h'.get? b = some { o with slots := sl }) (free : ∀ b o, b ∉ ch -> s.heap.get? b = some o -> H b = none -> H' b = none)
    (there : ∀ b o, b ∉ ch -> s.heap.get? b = some o -> ∃ o', h'.get? b = some o')
    (tups : ∀ b xs, H b = some (.tup xs) -> H' b = some (.tup xs)) (frzs : ∀ b o u, H b = some (.frz o u) -> H' b = some (.frz o u)) (tbls : ∀ b ps, H b = some (.tbl ps) -> ∃ more, H' b = some (.tbl (ps ++ more)))
    (ns : ∀ m, s.heap.Ns X.env.locals m -> h'.Ns X.env.locals m) (hok : HOk X.prog X.w H' h') (hg : AllBare g') :
    Inv X pins σ H' { s with heap := h', gens := g', drawn := d', toks := t' } := by
  have neL : ∀ b o, X.s₀.heap.get? b = some o -> b ≠ X.env.locals := fun b o e => Nat.ne_of_lt (Nat.lt_of_lt_of_le (Heap.lt_size e) I.ok.above)
  have neC : ∀ b o, X.s₀.heap.get? b = some o -> b ∉ X.ex -> b ∉ ch := fun b o e hx hb => by
    rcases (hch b hb).1 with z | z
    . exact hx z
    . exact absurd (Nat.lt_of_lt_of_le (Heap.lt_size e) z) (Nat.lt_irrefl _)
  have cellK : ∀ x c, X.env.cells.lookup x = some c -> ∀ v, s.heap.IsCell c v -> h'.IsCell c v := fun x c e v ⟨o, ho, hd⟩ => by
    have nch : c ∉ ch := fun z => (hch c z).2.2.1 x c e rfl
    by_cases hc : c ∈ X.fs
    . obtain ⟨sl, q⟩ := slot c o (I.cne x c e) hc nch ho (I.freeC x c e)
      exact ⟨_, q, hd⟩
    . exact ⟨o, keep c o (I.cne x c e) hc nch ho (I.freeC x c e), hd⟩
  refine ⟨I.ok, I.os, hg, ⟨fun b o e n hb hx => ?_, fun b o e n hb hx => ?_, fun b o e n hx => ?_, fun b o e hx => ?_, fun b xs e => tups b xs (I.base.tups b xs e), fun b o xs e => frzs b o xs (I.base.frzs b o xs e), fun b ps e => ?_⟩, ?_, fun x c e => ?_, ?_, fun x c e => ?_, fun p hp => ?_, hok, I.len⟩
  . exact keep b o (neL b o e) hb (neC b o e hx) (I.base.keep b o e n hb hx) (I.base.free b o e n hx)
  . obtain ⟨sl, e1⟩ := I.base.slot b o e n hb hx
    obtain ⟨sl', e2⟩ := slot b _ (neL b o e) hb (neC b o e hx) e1 (I.base.free b o e n hx)
    exact ⟨sl', e2⟩
  . obtain ⟨o', e1⟩ := I.base.there b o e hx
    exact free b o' (neC b o e hx) e1 (I.base.free b o e n hx)
  . obtain ⟨o', e1⟩ := I.base.there b o e hx
    exact there b o' (neC b o e hx) e1
  . obtain ⟨m1, e1⟩ := I.base.tbls b ps e
    obtain ⟨m2, e2⟩ := tbls b _ e1
    exact ⟨m1 ++ m2, by rw [e2, Array.append_assoc]⟩
  . obtain ⟨m, hn, hl⟩ := I.loc
    refine ⟨m, ns m hn, fun i x v e1 e2 e3 => ?_⟩
    obtain ⟨u, r, l⟩ := hl i x v e1 e2 e3
    refine ⟨u, r, ?_⟩
    rcases l with l | ⟨k, c, e, z⟩
    . exact .inl l
    . exact .inr ⟨k, c, e, cellK x c e _ z⟩
  . obtain ⟨v, z⟩ := I.cell x c e
    exact ⟨v, cellK x c e v z⟩
  . obtain ⟨m, ⟨o, _, _, ho, _⟩, _⟩ := I.loc
    exact free _ o (fun z => (hch _ z).2.1 rfl) ho I.free
  . obtain ⟨v, o, ho, hd⟩ := I.cell x c e
    exact free c o (fun z => (hch c z).2.2.1 x c e rfl) ho (I.freeC x c e)
  . obtain ⟨e, n, ne, nf, d⟩ := I.pin p hp
    have nch : p.1 ∉ ch := fun z => (hch p.1 z).2.2.2 p hp rfl
    exact ⟨keep p.1 p.2 ne nf nch e n, free p.1 p.2 nch e n, ne, nf, d⟩
theorem Inv.un {t' : Nat} (I : Inv X pins σ H s) (u : Un X.fs [] H H' s.heap h') (hok : HOk X.prog X.w H' h') : Inv X pins σ H' { s with heap := h', toks := t' } := by
  obtain ⟨m, ⟨o, es, ep, ho, r⟩, _⟩ := id I.loc
  obtain ⟨sl, hL⟩ := u.any ho I.free (by simp)
  exact I.step (g' := s.gens) (d' := s.drawn) (ch := []) (fun _ z => nomatch z) (fun b o _ hb _ e n => u.keep b o e n hb (by simp)) (fun b o _ hb _ e n => u.slot b o e n hb (by simp)) (fun b o _ e n => u.free b o e n (by simp)) (fun b o _ e => u.there b o e (by simp)) u.tups u.frzs u.tbls (fun m' hm => by
    obtain ⟨o', es', ep', ho', r'⟩ := hm
    rw [ho] at ho'; cases ho'
    exact ⟨_, es', ep', hL, r'⟩) hok I.bare
theorem Inv.call {g' : Array GenState} {t' : Nat} {d' : Drawn} {ch : List Addr} (I : Inv X pins σ H s) (u : Un (frs X.stack) ch H H' s.heap h') (hok : HOk X.prog X.w H' h') (hg : AllBare g')
    (hch : ∀ b ∈ ch, (b ∈ X.ex \/ X.s₀.heap.objs.size <= b) /\ b ≠ X.env.locals /\ (∀ x c, X.env.cells.lookup x = some c -> c ≠ b) /\ ∀ p ∈ X.pn ++ pins, p.1 ≠ b) :
    Inv X pins σ H' { s with heap := h', gens := g', drawn := d', toks := t' } := by
  obtain ⟨m, ⟨o, es, ep, ho, r⟩, _⟩ := id I.loc
  obtain ⟨sl, hL⟩ := u.any ho I.free fun z => (hch _ z).2.1 rfl
  exact I.step (ch := ch) hch (fun b o hL hb hc e n => u.keep b o e n (fun z => (List.mem_cons.mp (I.stkSub b z)).elim hL hb) hc) (fun b o _ _ hc e n => u.any e n hc) (fun b o hc e n => u.free b o e n hc) (fun b o hc e => u.there b o e hc) u.tups u.frzs u.tbls (fun m' hm => by
    obtain ⟨o', es', ep', ho', r'⟩ := hm
    rw [ho] at ho'; cases ho'
    exact ⟨_, es', ep', hL, r'⟩) hok hg
theorem Inv.turned {t' : Nat} {it : Addr} (I : Inv X pins σ H s) (k : ∀ b o, b ≠ it -> s.heap.get? b = some o -> h'.get? b = some o) (hn : H it = none) (hL : it ≠ X.env.locals)
    (h1 : it ∈ X.ex \/ X.s₀.heap.objs.size <= it) (h2 : ∀ x c, X.env.cells.lookup x = some c -> c ≠ it) (h3 : ∀ p ∈ X.pn ++ pins, p.1 ≠ it) : Inv X pins σ H { s with heap := h', toks := t' } := by
  have nit : ∀ b u, H b = some u -> b ≠ it := fun b u e z => by rw [z, hn] at e; cases e
  refine I.step (g' := s.gens) (d' := s.drawn) (ch := [it]) (fun b hb => ?_) (fun b o _ _ hc e _ => k b o (fun z => hc (by simp [z])) e) (fun b o _ _ hc e _ => ⟨o.slots, k b o (fun z => hc (by simp [z])) e⟩) (fun _ _ _ _ n => n)
    (fun b o hc e => ⟨o, k b o (fun z => hc (by simp [z])) e⟩) (fun _ _ e => e) (fun _ _ _ e => e) (fun b ps e => ⟨#[], by rw [e]; simp⟩) (fun m hm => ?_) (fun b u e => ?_) I.bare
  . have e : b = it := by simpa using hb
    subst e
    exact ⟨h1, hL, h2, h3⟩
  . obtain ⟨o, es, ep, ho, r⟩ := hm
    exact ⟨o, es, ep, k _ o (Ne.symm hL) ho, r⟩
  . refine (I.hok b u e).stay (fun c v hc q => k c v ?_ q) (fun _ q => q) fun _ _ q => q
    rcases hc with z | z
    . rw [z]; exact nit b u e
    . exact nit c _ z
theorem Inv.tok (I : Inv X pins σ H s) (t : Nat) : Inv X pins σ H { s with toks := t } := I.un (h' := s.heap) (t' := t) Un.refl I.hok
theorem Inv.kept {t' : Nat} (I : Inv X pins σ H s) (k : ∀ b u, s.heap.get? b = some u -> h'.get? b = some u) : Inv X pins σ H { s with heap := h', toks := t' } := I.un (Un.kept k) (I.hok.kept k)
theorem Inv.laid {a : Addr} {o : HO} {t' : Nat} (I : Inv X pins σ H s) (k : ∀ b u, s.heap.get? b = some u -> h'.get? b = some u) (hp : s.heap.objs.size <= a) (new : ObjOk X.prog X.w (upd H a o) h' a o) :
    Inv X pins σ (upd H a o) { s with heap := h', toks := t' } := I.un (Un.laid k hp (I.hok.fresh hp)) (I.hok.laid k hp new)
theorem Inv.write {x e : Addr} {o : HO} {t' : Nat} (I : Inv X pins σ H s) (mu : Mut (H x)) (he : e = x \/ H e = some (.own x)) (k : ∀ b u, b ≠ e -> s.heap.get? b = some u -> h'.get? b = some u) (heo : ∃ u, h'.get? e = some u)
    (new : ObjOk X.prog X.w (upd H x o) h' x o) : Inv X pins σ (upd H x o) { s with heap := h', toks := t' } := I.un (Un.write mu he k heo) (I.hok.write mu he k heo new)
theorem Inv.pins_of {pins' : List (Addr × Obj)} (I : Inv X pins σ H s) (h : ∀ p ∈ pins', s.heap.get? p.1 = some p.2 /\ H p.1 = none /\ p.1 ≠ X.env.locals /\ p.1 ∉ X.fs /\ ∀ v, p.2.data ≠ .cell v) : Inv X pins' σ H s :=
  ⟨I.ok, I.os, I.bare, I.base, I.loc, I.cell, I.free, I.freeC, fun p hp => (List.mem_append.mp hp).elim (fun z => I.pin p (List.mem_append_left _ z)) (h p), I.hok, I.len⟩

theorem kQ {N : List Str} (hN : N.Nodup) {i j : Nat} {x : Str} (a : N[i]? = some x) (b : N[j]? = some x) : i = j := by
  obtain ⟨h1, e1⟩ := List.getElem?_eq_some_iff.mp a
  obtain ⟨h2, e2⟩ := List.getElem?_eq_some_iff.mp b
  exact (List.getElem_inj hN).mp (e1.trans e2.symm)

theorem mq {M : Model} {A : Around} {E : Value -> Shared -> Prop} {i : Nat} {x : Str} {v : V} {u : Value} {Q : Unit -> Shared -> Prop} (I : Inv X pins σ H s) (hN : X.N.Nodup) (hi : X.N[i]? = some x) (hx : Loc X.env.scope x) (r : RelV v u)
    (h : ∀ s', Inv X pins (σ.set i (some v)) H s' -> (∃ a, Heap.SameBut a s.heap s'.heap /\ (a = X.env.locals \/ X.env.cells.lookup x = some a)) -> Q () s') (hf : X.fn x = true \/ X.env.scope.names.lookup x = some .local := by first | exact .inl rfl | exact .inr rfl | assumption) : wpAny M A (storeName X.env x u) Q E s := by
  obtain ⟨m, hn, hl⟩ := id I.loc
  have hcls : (X.env.scope.kind == .class || (X.env.scope.kind == .module && X.env.locals != X.env.globals)) = false := by rw [I.ok.kind]; rfl
  have hiσ : i < σ.length := by rw [I.len]; exact (List.getElem?_eq_some_iff.mp hi).1
  have cne := I.cne
  have tracked : ∀ {a : Addr} {h' : Heap}, (∃ o, s.heap.get? a = some o /\ H a = none) -> Heap.SameBut a s.heap h' -> HOk X.prog X.w H h' := fun {a h'} ha hs b ob e => by
    obtain ⟨_, _, hfree⟩ := ha
    refine (I.hok b ob e).stay (fun c w' hc q => (hs.2 c ?_).trans q) (fun _ q => q) fun _ _ q => q
    rintro rfl
    rcases hc with rfl | hc
    . rw [hfree] at e; cases e
    . rw [hfree] at hc; cases hc
  rcases hx with hk | hk
  . refine wpAny_storeName_local hk hn (fun h' hn' hs => ?_) hcls
    obtain ⟨oL, _, _, hoL, _⟩ := id hn
    refine h _ ⟨I.ok, I.os, I.bare, ⟨fun b o e n hb hx => ?_, fun b o e n hb hx => ?_, I.base.free, fun b o e hx => ?_, I.base.tups, I.base.frzs, I.base.tbls⟩, ⟨_, hn', fun j y v' e1 e2 e3 => ?_⟩, fun y c e => ?_, I.free, I.freeC, fun p hp => ?_, tracked ⟨oL, hoL, I.free⟩ hs, by simpa using I.len⟩ ⟨_, hs, .inl rfl⟩
    . exact (hs.2 b (Nat.ne_of_lt (Nat.lt_of_lt_of_le (Heap.lt_size e) I.ok.above))).trans (I.base.keep b o e n hb hx)
    . obtain ⟨sl, e1⟩ := I.base.slot b o e n hb hx
      exact ⟨sl, (hs.2 b (Nat.ne_of_lt (Nat.lt_of_lt_of_le (Heap.lt_size e) I.ok.above))).trans e1⟩
    . obtain ⟨o', e1⟩ := I.base.there b o e hx
      exact ⟨o', (hs.2 b (Nat.ne_of_lt (Nat.lt_of_lt_of_le (Heap.lt_size e) I.ok.above))).trans e1⟩
    . by_cases hj : j = i
      . subst hj
        rw [hi] at e1; cases e1
        rw [List.getElem?_set_self hiσ] at e2
        cases e2
        exact ⟨u, r, .inl ⟨hk, by simp⟩⟩
      . rw [List.getElem?_set_ne (Ne.symm hj)] at e2
        obtain ⟨u', r', q⟩ := hl j y v' e1 e2 e3
        refine ⟨u', r', ?_⟩
        rcases q with ⟨k, e⟩ | ⟨k, c, e, z⟩
        . refine .inl ⟨k, ?_⟩
          have : y ≠ x := fun e => hj (kQ hN e1 (e ▸ hi))
          simp [this, e]
        . exact .inr ⟨k, c, e, z.sameBut hs (cne y c e)⟩
    . obtain ⟨w', z⟩ := I.cell y c e
      exact ⟨w', z.sameBut hs (cne y c e)⟩
    . obtain ⟨e, n, ne, nf, d⟩ := I.pin p hp
      exact ⟨(hs.2 p.1 ne).trans e, n, ne, nf, d⟩
  . have hfn : X.fn x = true := by
      rcases hf with z | z
      . exact z
      . rw [z] at hk; cases hk
    obtain ⟨c, hc⟩ := I.ok.has x (.inl hk)
    obtain ⟨w', z⟩ := I.cell x c hc
    refine wpAny_storeName_cell I.ok.kind hk hc z (fun h' hc' hs => ?_)
    obtain ⟨oc, hoc, hocd⟩ := id z
    refine h { s with heap := h' } ⟨I.ok, I.os, I.bare, ⟨fun b o e n hb hx => ?_, fun b o e n hb hx => ?_, I.base.free, fun b o e hx => ?_, I.base.tups, I.base.frzs, I.base.tbls⟩, ⟨m, hn.sameBut hs (Ne.symm (cne x c hc)), fun j y v' e1 e2 e3 => ?_⟩, fun y c' e => ?_, I.free, I.freeC, fun p hp => ?_, tracked ⟨oc, hoc, I.freeC x c hc⟩ hs, by simpa using I.len⟩ ⟨c, hs, .inr hc⟩
    . exact (hs.2 b (Nat.ne_of_lt (Nat.lt_of_lt_of_le (Heap.lt_size e) (I.ok.cab x c hfn hc)))).trans (I.base.keep b o e n hb hx)
    . obtain ⟨sl, e1⟩ := I.base.slot b o e n hb hx
      exact ⟨sl, (hs.2 b (Nat.ne_of_lt (Nat.lt_of_lt_of_le (Heap.lt_size e) (I.ok.cab x c hfn hc)))).trans e1⟩
    . obtain ⟨o', e1⟩ := I.base.there b o e hx
      exact ⟨o', (hs.2 b (Nat.ne_of_lt (Nat.lt_of_lt_of_le (Heap.lt_size e) (I.ok.cab x c hfn hc)))).trans e1⟩
    . by_cases hj : j = i
      . subst hj
        rw [hi] at e1; cases e1
        rw [List.getElem?_set_self hiσ] at e2
        cases e2
        exact ⟨u, r, .inr ⟨.inl hk, c, hc, hc'⟩⟩
      . rw [List.getElem?_set_ne (Ne.symm hj)] at e2
        obtain ⟨u', r', q⟩ := hl j y v' e1 e2 e3
        refine ⟨u', r', ?_⟩
        rcases q with q | ⟨k, c', e, z'⟩
        . exact .inl q
        . refine .inr ⟨k, c', e, z'.sameBut hs ?_⟩
          rintro rfl
          exact hj (kQ hN e1 (I.ok.inj _ _ _ e hc ▸ hi))
    . by_cases hcc : c' = c
      . subst hcc; exact ⟨_, hc'⟩
      . obtain ⟨w2, z2⟩ := I.cell y c' e
        exact ⟨w2, z2.sameBut hs hcc⟩
    . obtain ⟨e, n, ne, nf, d⟩ := I.pin p hp
      refine ⟨(hs.2 p.1 ?_).trans e, n, ne, nf, d⟩
      intro q
      rw [q, hoc] at e
      have q' : oc = p.2 := Option.some.inj e
      exact d w' (by rw [<- q']; exact hocd)
theorem pB {M : Model} {A : Around} {E : Value -> Shared -> Prop} {i : Nat} {x : Str} {v : V} {u : Value} {Q : Unit -> Shared -> Prop} (I : Inv X pins σ H s) (hN : X.N.Nodup) (hi : X.N[i]? = some x) (hx : Loc X.env.scope x) (r : RelV v u)
    (h : ∀ s', Inv X pins (σ.set i (some v)) H s' -> Q () s') (hf : X.fn x = true \/ X.env.scope.names.lookup x = some .local := by first | exact .inl rfl | exact .inr rfl | assumption) : wpAny M A (storeName X.env x u) Q E s :=
  mq I hN hi hx r (fun s' I' _ => h s' I') hf
theorem Inv.call' {s' : Shared} {ch : List Addr} (I : Inv X pins σ H s) (ho : s'.os = s.os) (u : Un (frs X.stack) ch H H' s.heap s'.heap) (hok : HOk X.prog X.w H' s'.heap) (hg : AllBare s'.gens)
    (hch : ∀ b ∈ ch, (b ∈ X.ex \/ X.s₀.heap.objs.size <= b) /\ b ≠ X.env.locals /\ (∀ x c, X.env.cells.lookup x = some c -> c ≠ b) /\ ∀ p ∈ X.pn ++ pins, p.1 ≠ b) : Inv X pins σ H' s' := by
  obtain ⟨h', g', d', t', o'⟩ := s'
  have e : o' = s.os := ho
  subst e
  exact I.call (g' := g') (t' := t') (d' := d') u hok hg hch
end

abbrev XK := Value -> Option Addr -> Hp -> Prop
abbrev St := List (Option V)
abbrev VK := V -> Hp -> Prop
abbrev TE := St -> Hp -> VK -> Prop
abbrev TT := St -> Hp -> (Bool -> Hp -> Prop) -> Prop
abbrev TA := St -> Hp -> (List V -> Hp -> Prop) -> Prop
structure Ends where
  nx : St -> Hp -> Prop
  rt : VK
  bk : St -> Hp -> Prop := fun _ _ => False
  ct : St -> Hp -> Prop := fun _ _ => False
abbrev TS := Ends -> St -> Hp -> Prop

def EP (X : Cx) (pins : List (Addr × Obj)) (σ : St) (Q : VK) (u : Value) (s' : Shared) : Prop := ∃ v H', Inv X pins σ H' s' /\ RelV v u /\ Q v H'
def TP (X : Cx) (pins : List (Addr × Obj)) (σ : St) (Q : Bool -> Hp -> Prop) (b : Bool) (s' : Shared) : Prop := ∃ H', Inv X pins σ H' s' /\ Q b H'
def AP (X : Cx) (pins : List (Addr × Obj)) (σ : St) (Q : List V -> Hp -> Prop) (us : List Value) (s' : Shared) : Prop := ∃ vs H', Inv X pins σ H' s' /\ Vals vs us /\ Q vs H'
def SP (X : Cx) (pins : List (Addr × Obj)) (D : Ends) (f : Flow) (s' : Shared) : Prop :=
  match f with
  | .next => ∃ σ' H', Inv X pins σ' H' s' /\ D.nx σ' H'
  | .brk => ∃ σ' H', Inv X pins σ' H' s' /\ D.bk σ' H'
  | .cont => ∃ σ' H', Inv X pins σ' H' s' /\ D.ct σ' H'
  | .ret u => ∃ v σ' H', Inv X pins σ' H' s' /\ RelV v u /\ D.rt v H'

def PE (X : Cx) (e : Expr) (t : TE) : Prop :=
  ∀ (pins : List (Addr × Obj)) (s : Shared) (σ : St) (H : Hp) (Q : VK), Inv X pins σ H s -> t σ H Q -> wpAny (model X.prog X.w) X.A (eval e X.env) (EP X pins σ Q) X.xe s
def PT (X : Cx) (e : Expr) (t : TT) : Prop :=
  ∀ (pins : List (Addr × Obj)) (s : Shared) (σ : St) (H : Hp) (Q : Bool -> Hp -> Prop), Inv X pins σ H s -> t σ H Q -> wpAny (model X.prog X.w) X.A (isTrue e X.env (eval e X.env)) (TP X pins σ Q) X.xe s
def PW (X : Cx) (e : Expr) (t : TT) : Prop :=
  ∀ (whole : Sem Value) (pins : List (Addr × Obj)) (s : Shared) (σ : St) (H : Hp) (Q : Bool -> Hp -> Prop), Inv X pins σ H s -> t σ H Q -> wpAny (model X.prog X.w) X.A (isTrue e X.env whole) (TP X pins σ Q) X.xe s
def PA (X : Cx) (es : List Expr) (t : TA) : Prop :=
  ∀ (pos : Pos) (pins : List (Addr × Obj)) (s : Shared) (σ : St) (H : Hp) (Q : List V -> Hp -> Prop), Inv X pins σ H s -> t σ H Q -> wpAny (model X.prog X.w) X.A (spliced (backTo pos (starEach es X.env))) (AP X pins σ Q) X.xe s
def PS (X : Cx) (st : Stmt) (t : TS) : Prop :=
  ∀ (pins : List (Addr × Obj)) (s : Shared) (σ : St) (H : Hp) (D : Ends), Inv X pins σ H s -> t D σ H -> wpAny (model X.prog X.w) X.A (exec st X.env) (SP X pins D) X.xe s
def PSs (X : Cx) (st : List Stmt) (t : TS) : Prop :=
  ∀ (pins : List (Addr × Obj)) (s : Shared) (σ : St) (H : Hp) (D : Ends), Inv X pins σ H s -> t D σ H -> wpAny (model X.prog X.w) X.A (execs st X.env) (SP X pins D) X.xe s
theorem thn {α : Type} {t : Sem α} {Q Q' : α -> Shared -> Prop} {M : Model} {A : Around} {E : Value -> Shared -> Prop} {s : Shared} (h : wpAny M A t Q E s) (hQ : ∀ a s, Q a s -> Q' a s) : wpAny M A t Q' E s := wpAny_mono h hQ fun _ _ x => x
end L2

namespace L2
open PySem PySem.Spec PyProof.Rows
section
variable {X : Cx}

def Dz (i : Nat) : TE := fun σ H Q => ∃ v, σ[i]? = some (some v) /\ Q v H
def tC (v : V) : TE := fun _ H Q => Q v H
theorem pz {i : Nat} {x : Str} {pos : Pos} (hN : X.N[i]? = some x) (hv : Vis X.env.scope x) (hd : (x == ("__debug__" : Str)) = false := by decide) (hcd : (x == ("__classdict__" : Str)) = false := by decide) : PE X (.Name x pos) (Dz i) := by
  intro pins s σ H Q I h
  obtain ⟨v, e, h⟩ := h
  obtain ⟨m, hn, hl⟩ := I.loc
  obtain ⟨u, r, l⟩ := hl i x v hN e hv
  have fin : EP X pins σ Q u s := ⟨v, H, I, r, h⟩
  rcases l with ⟨hk, hm⟩ | ⟨hk, c, hc, hcell⟩
  . exact wpAny_Name (wpAny_loadName_local I.ok.kind hk hn hm fin) hd
  . rcases hk with hk | hk
    . exact wpAny_Name (wpAny_loadName_cell I.ok.kind hk hc hcell fin) hd
    . exact wpAny_Name (wpAny_loadName_free I.ok.kind hk hc hcell fin hcd) hd
theorem Bd {i j pos} : PE X (.Constant (.int i) j pos) (tC (.int i)) := fun _ _ _ H _ I h => wpAny_Constant_int ⟨.int i, H, I.tok _, ⟨_, rfl⟩, h⟩
theorem BX {b j pos} : PE X (.Constant (.bool b) j pos) (tC (.bl b)) := fun _ _ _ H _ I h => Constant_bool ⟨.bl b, H, I, rfl, h⟩
theorem zu {j pos} : PE X (.Constant .none j pos) (tC .non) := fun _ _ _ H _ I h => Constant_none ⟨.non, H, I, rfl, h⟩
theorem A1 {x j pos} : PE X (.Constant (.str x) j pos) (tC (.str x)) := fun _ _ _ H _ I h => Calls.Constant_str ⟨.str x, H, I.tok _, ⟨_, rfl⟩, h⟩

def Gl (X : Cx) (x : Str) : Prop := X.env.kindOf x = some .globalImplicit
theorem lw {E : Value -> Shared -> Prop} {pins : List (Addr × Obj)} {s : Shared} {σ : St} {H : Hp} {x : Str} {u : Value} {pos : Pos} {Q : Value -> Shared -> Prop} (I : Inv X pins σ H s) (hg : Gl X x) (hm : X.mg x = some u) (h : Q u s)
    (hd : (x == ("__debug__" : Str)) = false := by decide) : wpAny (model X.prog X.w) X.A (eval (.Name x pos) X.env) Q E s :=
  Calls.Name_function_global I.ok.kind hg (Calls.loadGlobal_global (by rw [I.ok.glob]; exact I.mod.glob.keeps I.bk) hm h) hd
theorem oN {E : Value -> Shared -> Prop} {pins : List (Addr × Obj)} {s : Shared} {σ : St} {H : Hp} {x : Str} {u : Value} {pos : Pos} {Q : Value -> Shared -> Prop} (I : Inv X pins σ H s) (hg : Gl X x) (hm : X.mg x = none) (hv : bootBuiltins x = some u) (h : Q u s)
    (hn : x ≠ "__name__" := by decide) (hd : (x == ("__debug__" : Str)) = false := by decide) : wpAny (model X.prog X.w) X.A (eval (.Name x pos) X.env) Q E s := by
  obtain ⟨mb, h1, h2⟩ := I.mod.blt
  exact Calls.Name_function_global I.ok.kind hg (Calls.loadGlobal_builtin (by rw [I.ok.glob]; exact I.mod.glob.keeps I.bk) hm (by rw [I.ok.blt]; exact h1.keeps I.bk) ((h2 x hn).trans hv) h) hd
theorem hW {x : Str} {v : V} {u : Value} {pos : Pos} (hg : Gl X x) (hm : X.mg x = some u) (r : RelV v u) (hd : (x == ("__debug__" : Str)) = false := by decide) : PE X (.Name x pos) (tC v) :=
  fun _ _ _ H _ I h => lw I hg hm ⟨v, H, I, r, h⟩ hd
theorem rE {x : Str} {v : V} {u : Value} {pos : Pos} (hg : Gl X x) (hm : X.mg x = none) (hv : bootBuiltins x = some u) (r : RelV v u) (hn : x ≠ "__name__" := by decide) (hd : (x == ("__debug__" : Str)) = false := by decide) : PE X (.Name x pos) (tC v) :=
  fun _ _ _ H _ I h => oN I hg hm hv ⟨v, H, I, r, h⟩ hn hd

variable {a b : Expr} {ta tb : TE} {pos : Pos}
variable {tA tB' : TT} {de : List Expr}
def Eg (t u : TT) : TT := fun σ H Q => t σ H fun c H1 => if c = true then u σ H1 Q else Q false H1
def tOr (t u : TT) : TT := fun σ H Q => t σ H fun c H1 => if c = true then Q true H1 else u σ H1 Q
def Ec (t : TT) : TT := fun σ H Q => t σ H fun c H1 => Q (!c) H1
theorem yY (ha : PT X a tA) : PW X (.BoolOp .And [a] pos) tA := by
  intro wh pins s σ H Q I h
  refine isTrue_and (thn (ha pins s σ H Q I h) fun c s1 e => ?_)
  cases c with
  | true => exact isTrue_and_nil e
  | false => exact e
theorem AO (ha : PT X a tA) : PW X (.BoolOp .Or [a] pos) tA := by
  intro wh pins s σ H Q I h
  refine isTrue_or (thn (ha pins s σ H Q I h) fun c s1 e => ?_)
  cases c with
  | false => exact isTrue_or_nil e
  | true => exact e
theorem Bo (ha : PT X a tA) (hb : PW X (.BoolOp .And (b :: de) pos) tB') : PW X (.BoolOp .And (a :: b :: de) pos) (Eg tA tB') := by
  intro wh pins s σ H Q I h
  refine isTrue_and (thn (ha pins s σ H _ I h) fun c s1 ⟨H1, I1, q1⟩ => ?_)
  cases c with
  | true => exact hb wh pins s1 σ H1 Q I1 q1
  | false => exact ⟨H1, I1, q1⟩
theorem CK (ha : PT X a tA) (hb : PW X (.BoolOp .Or (b :: de) pos) tB') : PW X (.BoolOp .Or (a :: b :: de) pos) (tOr tA tB') := by
  intro wh pins s σ H Q I h
  refine isTrue_or (thn (ha pins s σ H _ I h) fun c s1 ⟨H1, I1, q1⟩ => ?_)
  cases c with
  | true => exact ⟨H1, I1, q1⟩
  | false => exact hb wh pins s1 σ H1 Q I1 q1
theorem Bn (ha : PT X a tA) : PT X (.UnaryOp .Not a pos) (Ec tA) := by
  intro pins s σ H Q I h
  exact isTrue_not (ha pins s σ H (fun c H1 => Q (!c) H1) I h)
def Cs (ta tb : TE) : TE := fun σ H Q => ta σ H fun x H1 => ∃ c, x = .bl c /\ if c = true then tb σ H1 Q else Q (.bl false) H1
def DJ (ta tb : TE) : TE := fun σ H Q => ta σ H fun x H1 => ∃ c, x = .bl c /\ if c = true then Q (.bl true) H1 else tb σ H1 Q
def BF (ta : TE) : TE := fun σ H Q => ta σ H fun x H1 => ∃ c, x = .bl c /\ Q (.bl (!c)) H1
theorem zj {op} {t : TE} (h : PE X a t) : PE X (.BoolOp op [a] pos) t := fun pins s σ H Q I hw => BoolOp_one (h pins s σ H Q I hw)
theorem zN (ha : PE X a ta) (hb : PE X (.BoolOp .And (b :: de) pos) tb) : PE X (.BoolOp .And (a :: b :: de) pos) (Cs ta tb) := by
  intro pins s σ H Q I h
  refine BoolOp_and (thn (ha pins s σ H _ I h) fun v s1 ⟨x, H1, I1, r1, q1⟩ => ?_)
  obtain ⟨c, rfl, q1⟩ := q1
  cases r1
  refine wpAny_truthy_bool ?_
  cases c with
  | true => exact hb pins s1 σ H1 Q I1 q1
  | false => exact ⟨.bl false, H1, I1, rfl, q1⟩
theorem CC (ha : PE X a ta) (hb : PE X (.BoolOp .Or (b :: de) pos) tb) : PE X (.BoolOp .Or (a :: b :: de) pos) (DJ ta tb) := by
  intro pins s σ H Q I h
  refine BoolOp_or (thn (ha pins s σ H _ I h) fun v s1 ⟨x, H1, I1, r1, q1⟩ => ?_)
  obtain ⟨c, rfl, q1⟩ := q1
  cases r1
  refine wpAny_truthy_bool ?_
  cases c with
  | false => exact hb pins s1 σ H1 Q I1 q1
  | true => exact ⟨.bl true, H1, I1, rfl, q1⟩
theorem zv (ha : PE X a ta) : PE X (.UnaryOp .Not a pos) (BF ta) := by
  intro pins s σ H Q I h
  refine UnaryOp_ (thn (ha pins s σ H _ I h) fun v s1 ⟨x, H1, I1, r1, q1⟩ => ?_)
  obtain ⟨c, rfl, q1⟩ := q1
  cases r1
  exact not_of (wpAny_truthy_bool ⟨.bl (!c), H1, I1, rfl, q1⟩)
def tIf (t : TT) (ta tb : TE) : TE := fun σ H Q => t σ H fun c H1 => if c = true then ta σ H1 Q else tb σ H1 Q
theorem tP {c : Expr} (hc : PT X c tA) (ha : PE X a ta) (hb : PE X b tb) : PE X (.IfExp c a b pos) (tIf tA ta tb) := by
  intro pins s σ H Q I h
  refine wpAny_IfExp (thn (hc pins s σ H _ I h) fun d s1 ⟨H1, I1, q1⟩ => ?_)
  cases d with
  | true => exact ha pins s1 σ H1 Q I1 q1
  | false => exact hb pins s1 σ H1 Q I1 q1
end
end L2

namespace L2
open PySem PySem.Spec PyProof.Rows

def SqL (K : PySem.W.Frag) (H : Hp) (a : Addr) (xs : List V) : Prop :=
  Rd H a (.lst xs) \/
    ∃ (o : Obj) (its : Array Value) (n : Nat), K.lookup a = some o /\ o.cls = .type "list" /\ o.dict = none /\ o.data = .seq its n /\ its.size <= sizeLine /\ Vals xs its.toList
def SqT (K : PySem.W.Frag) (H : Hp) (a : Addr) (xs : List V) : Prop :=
  Rd H a (.tup xs) \/
    ∃ (o : Obj) (its : Array Value) (n : Nat), K.lookup a = some o /\ o.cls = .type "tuple" /\ o.data = .seq its n /\ its.size <= sizeLine /\ Vals xs its.toList
def DS : Value -> Option V
  | .none => some .non
  | .bool b => some (.bl b)
  | .int i _ => some (.int i)
  | .str x _ => some (.str x)
  | .bytes b _ => some (.byt b)
  | .float b _ => some (.flt b)
  | .ref a => some (.ref a)
  | .type n => some (.ty n)
  | _ => none
theorem RelV.abs {x : V} {u : Value} (r : RelV x u) : DS u = some x := by
  cases x with
  | non => cases r; rfl
  | bl _ => cases r; rfl
  | int _ => obtain ⟨t, rfl⟩ := r; rfl
  | str _ => obtain ⟨t, rfl⟩ := r; rfl
  | byt _ => obtain ⟨t, rfl⟩ := r; rfl
  | flt _ => obtain ⟨t, rfl⟩ := r; rfl
  | ref _ => cases r; rfl
  | ty _ => cases r; rfl
theorem RelV.inj {x y : V} {u : Value} (r : RelV x u) (q : RelV y u) : x = y := Option.some.inj (r.abs.symm.trans q.abs)
theorem Vals.inj : ∀ {xs ys : List V} {us : List Value}, Vals xs us -> Vals ys us -> xs = ys
  | _, _, _, .nil, .nil => rfl
  | _, _, _, .cons r t, .cons r' t' => by rw [r.inj r', Vals.inj t t']
section
variable {X : Cx} {pins : List (Addr × Obj)} {σ : St} {H : Hp} {s : Shared} {a : Addr} {xs ys : List V}
theorem SqL.of {K : PySem.W.Frag} (h : H a = some (.lst xs)) : SqL K H a xs := .inl (.inl h)
theorem SqT.of {K : PySem.W.Frag} (h : H a = some (.tup xs)) : SqT K H a xs := .inl (.inl h)
theorem Inv.list (I : Inv X pins σ H s) (h : SqL X.K H a xs) : ∃ its : List Value, Vals xs its /\ PlainL s.heap a its.toArray /\ xs.length <= sizeLine := by
  rcases h with h | ⟨o, its, n, hk, hc, hd, hs, hz, r⟩
  . obtain ⟨z, its, n, r, e⟩ := h.ok I.hok
    exact ⟨its, r, ⟨_, n, e, rfl, rfl, rfl⟩, z⟩
  . refine ⟨its.toList, r, ⟨o, n, I.kIn a o hk, hc, hd, by simpa using hs⟩, ?_⟩
    have e := r.length
    simp only [Array.length_toList] at e
    omega
theorem Inv.tuple (I : Inv X pins σ H s) (h : SqT X.K H a xs) : ∃ its : List Value, Vals xs its /\ IsTup s.heap a its.toArray /\ xs.length <= sizeLine := by
  rcases h with h | ⟨o, its, n, hk, hc, hs, hz, r⟩
  . obtain ⟨z, its, r, p⟩ := h.ok I.hok
    exact ⟨its, r, p, z⟩
  . refine ⟨its.toList, r, ⟨o, I.kIn a o hk, hc, n, by simpa using hs⟩, ?_⟩
    have e := r.length
    simp only [Array.length_toList] at e
    omega
theorem Inv.list_inj (I : Inv X pins σ H s) (h : SqL X.K H a xs) (h' : SqL X.K H a ys) : xs = ys := by
  obtain ⟨its, r, ⟨o, n, e, _, _, d⟩, _⟩ := I.list h
  obtain ⟨its', r', ⟨o', n', e', _, _, d'⟩, _⟩ := I.list h'
  rw [e] at e'; cases e'
  rw [d] at d'
  injection d' with d1 _
  have : its = its' := by simpa using congrArg Array.toList d1
  subst this
  exact r.inj r'
theorem Inv.tuple_inj (I : Inv X pins σ H s) (h : SqT X.K H a xs) (h' : SqT X.K H a ys) : xs = ys := by
  obtain ⟨its, r, ⟨o, e, _, n, d⟩, _⟩ := I.tuple h
  obtain ⟨its', r', ⟨o', e', _, n', d'⟩, _⟩ := I.tuple h'
  rw [e] at e'; cases e'
  rw [d] at d'
  injection d' with d1 _
  have : its = its' := by simpa using congrArg Array.toList d1
  subst this
  exact r.inj r'
end

abbrev Cx.wish (X : Cx) (E : Value -> Shared -> Prop) : Cx := { X with xe := E }
section
variable {X : Cx} {pins : List (Addr × Obj)} {σ : St} {H : Hp} {s : Shared} {E : Value -> Shared -> Prop}
end

section
variable {X : Cx} {st : Stmt} {de : List Stmt} {t u : TS} {e : Expr} {te : TE} {pos : Pos}
def Cd : TS := fun D σ H => D.nx σ H
def DI (t u : TS) : TS := fun D σ H => t { D with nx := u D } σ H
theorem yC : PSs X [] Cd := fun _ _ σ H _ I h => wpAny_execs_nil ⟨σ, H, I, h⟩
theorem vG (h1 : PS X st t) (h2 : PSs X de u) : PSs X (st :: de) (DI t u) := by
  intro pins s σ H D I h
  refine wpAny_execs_cons (thn (h1 pins s σ H { D with nx := u D } I h) fun f s1 q => ?_)
  cases f with
  | next =>
    obtain ⟨σ', H', I', q⟩ := q
    exact h2 pins s1 σ' H' D I' q
  | ret v => exact q
  | brk => exact q
  | cont => exact q
theorem Inv.quiet {pins : List (Addr × Obj)} {σ : St} {H : Hp} {s : Shared} (I : Inv X pins σ H s) : interactive X.env = false := by simp [interactive, I.ok.kind]
def CN (te : TE) : TS := fun D σ H => te σ H fun _ H1 => D.nx σ H1
theorem lP (he : PE X e te) (hs : swapsWith e none pos.line X.env = pure false := by rfl) : PS X (.Expr e pos) (CN te) := by
  intro pins s σ H D I h
  exact wpAny_Expr_any (thn (he pins s σ H _ I h) fun v s1 ⟨x, H1, I1, r1, q1⟩ => ⟨σ, H1, I1, q1⟩) I.quiet hs
def DF (te : TE) : TS := fun D σ H => te σ H D.rt
theorem A2 (he : PE X e te) : PS X (.Return (some e) pos) (DF te) := by
  intro pins s σ H D I h
  exact wpAny_Return_some (thn (he pins s σ H _ I h) fun v s1 ⟨x, H1, I1, r1, q1⟩ => ⟨x, σ, H1, I1, r1, q1⟩)
def Dt (c : TT) (t u : TS) : TS := fun D σ H => c σ H fun b H1 => if b = true then t D σ H1 else u D σ H1
theorem CL {c : Expr} {a b : List Stmt} {tc : TT} (hc : PT X c tc) (ha : PSs X a t) (hb : PSs X b u) : PS X (.If c a b pos) (Dt tc t u) := by
  intro pins s σ H D I h
  refine wpAny_If (thn (hc pins s σ H _ I h) fun d s1 ⟨H1, I1, q1⟩ => ?_)
  cases d with
  | true => exact ha pins s1 σ H1 D I1 q1
  | false => exact hb pins s1 σ H1 D I1 q1
end

abbrev TG := V -> St -> Hp -> (St -> Hp -> Prop) -> Prop
def PG (X : Cx) (target : Expr) (t : TG) : Prop :=
  ∀ (pins : List (Addr × Obj)) (s : Shared) (σ : St) (H : Hp) (v : V) (u : Value) (Q : St -> Hp -> Prop), Inv X pins σ H s -> RelV v u -> t v σ H Q ->
    wpAny (model X.prog X.w) X.A (assign target X.env u) (fun _ s' => ∃ σ' H', Inv X pins σ' H' s' /\ Q σ' H') X.xe s
section
variable {X : Cx} {pos : Pos}
def Ci (i : Nat) : TG := fun v σ H Q => Q (σ.set i (some v)) H
theorem sF {i : Nat} {x : Str} (hN : X.N.Nodup) (hi : X.N[i]? = some x) (hx : Loc X.env.scope x) (hf : X.fn x = true \/ X.env.scope.names.lookup x = some .local := by first | exact .inl rfl | exact .inr rfl | assumption) : PG X (.Name x pos) (Ci i) := by
  intro pins s σ H v u Q I r h
  exact wpAny_assign_Name (pB I hN hi hx r (fun s' I' => ⟨_, H, I', h⟩) hf)
def D9 (te : TE) (g : TG) : TS := fun D σ H => te σ H fun x H1 => g x σ H1 D.nx
theorem wK {tg e : Expr} {te : TE} {g : TG} (he : PE X e te) (hg : PG X tg g) (hs : swapsWithSole [tg] e pos.line X.env = pure false := by rfl) (hw : swappedStores [tg] e X.env = pure none := by rfl)
    (h1 : (assignEach [tg] X.env).map (·.2) = [assign tg X.env] := by rfl) : PS X (.Assign [tg] e pos) (D9 te g) := by
  intro pins s σ H D I h
  refine wpAny_Assign_stores (thn (he pins s σ H _ I h) fun v s1 ⟨x, H1, I1, r1, q1⟩ => ?_) hs hw
  rw [h1]
  exact thn (hg pins s1 σ H1 x v _ I1 r1 q1) fun _ s2 q => q
end

section
variable {X : Cx} {pos : Pos}
end

structure It where
  go : Nat -> Hp -> Prop
  yld : Nat -> Hp -> V -> Hp -> Prop
  stop : Nat -> Hp -> Prop
def pG (X : Cx) (pins : List (Addr × Obj)) (H : Hp) (b : Addr) : Prop :=
  H b = none /\ b ≠ X.env.locals /\ b ∉ X.fs /\ (b ∈ X.ex \/ X.s₀.heap.objs.size <= b) /\ (∀ x c, X.env.cells.lookup x = some c -> c ≠ b) /\ ∀ p ∈ X.pn ++ pins, p.1 ≠ b
theorem Inv.fpOk {X : Cx} {pins : List (Addr × Obj)} {σ : St} {H H' : Hp} {s : Shared} {b : Addr} (I : Inv X pins σ H s) (hb : s.heap.objs.size <= b) (hn : H' b = none) : pG X pins H' b := by
  refine ⟨hn, Nat.ne_of_gt (Nat.lt_of_lt_of_le I.lt hb), I.nofs hb, .inr (Nat.le_trans I.sz hb), fun x c e z => ?_, fun p hp z => ?_⟩
  . obtain ⟨v, q⟩ := I.cell x c e
    exact absurd (Nat.lt_of_lt_of_le q.lt (by rw [z]; exact hb)) (Nat.lt_irrefl _)
  . exact absurd (Nat.lt_of_lt_of_le (Heap.lt_size (I.pin p hp).1) (by rw [z]; exact hb)) (Nat.lt_irrefl _)
structure Turn (P : Program) (w : World) (K : PySem.W.Frag) (tg : Expr) (J : It) (fp : List Addr) (it : Addr) (tn : Nat -> Heap -> Prop) : Prop where
  mem : it ∈ fp
  obj : ∀ i h, tn i h -> ∀ b ∈ fp, ∃ o, h.get? b = some o /\ ∀ v, o.data ≠ .cell v
  keep : ∀ i h h', tn i h -> (∀ b ∈ fp, ∀ o, h.get? b = some o -> h'.get? b = some o) -> tn i h'
  item : ∀ (X : Cx), X.prog = P -> X.w = w -> X.K = K -> X.calm = true -> ∀ (i : Nat) (pins : List (Addr × Obj)) (s : Shared) (σ : St) (H : Hp) (E : Value -> Shared -> Prop), Inv X pins σ H s -> (∀ b ∈ fp, pG X pins H b) -> tn i s.heap -> J.go i H ->
    wpAny (model P w) X.A (pyNext (.ref it)) (fun r s1 => ∃ u, r = some u /\
      wpAny (model P w) X.A (letOwnedTupleGo tg (.ref it) u) (fun _ s2 => ∃ x H', Inv X pins σ H' s2 /\ RelV x u /\ J.yld i H x H' /\ tn (i + 1) s2.heap /\ ∀ b ∈ fp, H' b = none) E s1) E s
  done : ∀ (X : Cx), X.prog = P -> X.w = w -> X.K = K -> X.calm = true -> ∀ (i : Nat) (pins : List (Addr × Obj)) (s : Shared) (σ : St) (H : Hp) (E : Value -> Shared -> Prop), Inv X pins σ H s -> (∀ b ∈ fp, pG X pins H b) -> tn i s.heap -> J.stop i H ->
    wpAny (model P w) X.A (pyNext (.ref it)) (fun r s1 => r = none /\ Inv X pins σ H s1) E s
  self : ∀ (A : Around) (i : Nat) (s : Shared) (Q : Value -> Shared -> Prop) (E : Value -> Shared -> Prop), tn i s.heap -> Q (.ref it) s -> wpAny (model P w) A (pyIter (.ref it)) Q E s
abbrev TI := St -> Hp -> (It -> Hp -> Prop) -> Prop
def PIE (X : Cx) (pins : List (Addr × Obj)) (σ : St) (tg : Expr) (R : It -> Hp -> Prop) (itv : Value) (s2 : Shared) : Prop :=
  ∃ (it : Addr) (fp : List Addr) (tn : Nat -> Heap -> Prop) (J : It) (H' : Hp), itv = .ref it /\ Inv X pins σ H' s2 /\ Turn X.prog X.w X.K tg J fp it tn /\ tn 0 s2.heap /\ (∀ b ∈ fp, pG X pins H' b) /\ R J H'
def PI (X : Cx) (tg iter : Expr) (wi : TI) : Prop :=
  ∀ (pins : List (Addr × Obj)) (s : Shared) (σ : St) (H : Hp) (R : It -> Hp -> Prop), Inv X pins σ H s -> wi σ H R ->
    wpAny (model X.prog X.w) X.A (eval iter X.env) (fun v s1 => wpAny (model X.prog X.w) X.A (pyIter v) (PIE X pins σ tg R) X.xe s1) X.xe s

theorem rL {M : Model} {A : Around} {E : Value -> Shared -> Prop} {s : Shared} {tg : Expr} {it : Addr} {u : Value} {o : Obj} {n : String} {vs : Array Value} {Q : Unit -> Shared -> Prop} (ho : s.heap.get? it = some o) (hc : o.cls = .type n) (hd : o.data = .fields vs)
    (hn : ["enumerate", "zip", "dict_itemiterator", "dict_reverseitemiterator", "odict_iterator", "itertools.zip_longest", "itertools.pairwise"].contains n = false) (hQ : Q () s) : wpAny M A (letOwnedTupleGo tg (.ref it) u) Q E s := by
  unfold letOwnedTupleGo
  cases tg <;> first
    | exact wpAny_pure hQ
    | (cases u <;> first
        | exact wpAny_pure hQ
        | (refine wpAny_bind (wpAny_load ho ?_)
           rw [hc, hd]
           show wpAny M A (if (["enumerate", "zip", "dict_itemiterator", "dict_reverseitemiterator", "odict_iterator", "itertools.zip_longest", "itertools.pairwise"].contains n && vs[0]? == some (rawInt _)) = true then _ else _) Q E s
           rw [if_neg (by intro h; rw [hn, Bool.false_and] at h; cases h)]
           exact wpAny_pure hQ))

def Itl (K : PySem.W.Frag) (a : Addr) : It :=
  ⟨fun i H => ∃ xs x, SqL K H a xs /\ xs[i]? = some x, fun i H x H' => H' = H /\ ∀ xs, SqL K H a xs -> xs[i]? = some x, fun i H => ∃ xs, SqL K H a xs /\ xs.length <= i⟩
def Itt (K : PySem.W.Frag) (a : Addr) : It :=
  ⟨fun i H => ∃ xs x, SqT K H a xs /\ xs[i]? = some x, fun i H x H' => H' = H /\ ∀ xs, SqT K H a xs -> xs[i]? = some x, fun i H => ∃ xs, SqT K H a xs /\ xs.length <= i⟩
def Itr (lo : Int) (n : Nat) : It := ⟨fun i _ => i < n, fun i H x H' => H' = H /\ x = .int (lo + i), fun i _ => n <= i⟩
theorem rn {P : Program} {w : World} {K : PySem.W.Frag} {tg : Expr} (a it : Addr) : Turn P w K tg (Itl K a) [it] it (fun i h => h.IsListIter it a i) where
  mem := by simp
  obj := fun i h st b hb => by
    have e : b = it := by simpa using hb
    subst e
    obtain ⟨o, e, c, d⟩ := st
    exact ⟨o, e, fun v z => by rw [d] at z; cases z⟩
  keep := fun i h h' st k => st.at fun o e => k it (by simp) o e
  item := by
    intro X hP hw hK hc i pins s σ H E I hf st hg
    subst hP hw hK
    obtain ⟨xs, x, hq, hx⟩ := hg
    obtain ⟨its, rv, p, hz⟩ := I.list hq
    obtain ⟨u, hu, ru⟩ := rv.get hx
    obtain ⟨f0, f1, f2, f3, f4, f5⟩ := hf it (by simp)
    refine wpAny_pyNext_list_item st p.isList (x := u) (by simpa using hu) fun h' st' sb => ?_
    have I1 : Inv X pins σ H { s with heap := h' } := I.turned (t' := s.toks) (fun b o hb e => (sb.2 b hb).trans e) f0 f1 f3 f4 f5
    obtain ⟨o, e, c, d⟩ := id st'
    exact ⟨u, rfl, rL (s := { s with heap := h' }) e c d (by decide) ⟨x, H, I1, ru, ⟨rfl, fun ys hy => by rw [I.list_inj hy hq]; exact hx⟩, st', fun b hb => (hf b hb).1⟩⟩
  done := by
    intro X hP hw hK hc i pins s σ H E I hf st hg
    subst hP hw hK
    obtain ⟨xs, hq, hx⟩ := hg
    obtain ⟨its, rv, p, hz⟩ := I.list hq
    obtain ⟨f0, f1, f2, f3, f4, f5⟩ := hf it (by simp)
    have hl := rv.length
    exact wpAny_pyNext_list_end (I.ok.hd hc) st p.isList (by simp; omega) fun h' eb => ⟨rfl, I.turned (t' := s.toks) (fun b o hb e => eb b o hb e) f0 f1 f3 f4 f5⟩
  self := fun _ _ _ _ _ st h => wpAny_pyIter_listiter st h
theorem pF {P : Program} {w : World} {K : PySem.W.Frag} {tg : Expr} (a it : Addr) : Turn P w K tg (Itt K a) [it] it (fun i h => h.IsTupleIter it a i) where
  mem := by simp
  obj := fun i h st b hb => by
    have e : b = it := by simpa using hb
    subst e
    obtain ⟨o, e, c, d⟩ := st
    exact ⟨o, e, fun v z => by rw [d] at z; cases z⟩
  keep := fun i h h' st k => st.at fun o e => k it (by simp) o e
  item := by
    intro X hP hw hK hc i pins s σ H E I hf st hg
    subst hP hw hK
    obtain ⟨xs, x, hq, hx⟩ := hg
    obtain ⟨its, rv, p, hz⟩ := I.tuple hq
    obtain ⟨u, hu, ru⟩ := rv.get hx
    obtain ⟨f0, f1, f2, f3, f4, f5⟩ := hf it (by simp)
    refine wpAny_pyNext_tuple_item st (show s.heap.IsTuple a its.toArray from p) (x := u) (by simpa using hu) fun h' st' sb => ?_
    have I1 : Inv X pins σ H { s with heap := h' } := I.turned (t' := s.toks) (fun b o hb e => (sb.2 b hb).trans e) f0 f1 f3 f4 f5
    obtain ⟨o, e, c, d⟩ := id st'
    exact ⟨u, rfl, rL (s := { s with heap := h' }) e c d (by decide) ⟨x, H, I1, ru, ⟨rfl, fun ys hy => by rw [I.tuple_inj hy hq]; exact hx⟩, st', fun b hb => (hf b hb).1⟩⟩
  done := by
    intro X hP hw hK hc i pins s σ H E I hf st hg
    subst hP hw hK
    obtain ⟨xs, hq, hx⟩ := hg
    obtain ⟨its, rv, p, hz⟩ := I.tuple hq
    obtain ⟨f0, f1, f2, f3, f4, f5⟩ := hf it (by simp)
    have hl := rv.length
    exact wpAny_pyNext_tuple_end (I.ok.hd hc) st (show s.heap.IsTuple a its.toArray from p) (by simp; omega) fun h' eb => ⟨rfl, I.turned (t' := s.toks) (fun b o hb e => eb b o hb e) f0 f1 f3 f4 f5⟩
  self := fun _ _ _ _ _ st h => wpAny_pyIter_tupleiter st h
theorem pW {P : Program} {w : World} {K : PySem.W.Frag} {tg : Expr} (it : Addr) (lo : Int) (n : Nat) : Turn P w K tg (Itr lo n) [it] it (fun i h => IsRangeIter h it (lo + (i : Nat) * 1) ((n : Int) - (i : Nat)) 1) where
  mem := by simp
  obj := fun i h st b hb => by
    have e : b = it := by simpa using hb
    subst e
    exact ⟨_, st, fun v z => by
      have z' : Data.fields _ = Data.cell v := z
      cases z'⟩
  keep := fun i h h' st k => k it (by simp) _ st
  item := by
    intro X hP hw hK hc i pins s σ H E I hf st hg
    subst hP hw hK
    obtain ⟨f0, f1, f2, f3, f4, f5⟩ := hf it (by simp)
    have W := Walks.range (prog := X.prog) (w := X.w) (I.ok.hd hc) it lo 1 n
    refine W.item i s _ _ hg st fun v h' tk hv st' kk => ?_
    obtain ⟨t, rfl⟩ := hv
    have I1 : Inv X pins σ H { s with heap := h', toks := tk } := I.turned (fun b o hb e => kk b o (by simpa using hb) e) f0 f1 f3 f4 f5
    refine ⟨_, rfl, rL (s := { s with heap := h', toks := tk }) (n := "range_iterator") st' rfl rfl (by decide) ⟨.int (lo + i), H, I1, ⟨t, ?_⟩, ⟨rfl, rfl⟩, st', fun b hb => (hf b hb).1⟩⟩
    rw [Int.mul_one]
  done := by
    intro X hP hw hK hc i pins s σ H E I hf st hg
    subst hP hw hK
    obtain ⟨f0, f1, f2, f3, f4, f5⟩ := hf it (by simp)
    exact wpAny_pyNext_range_end (I.ok.hd hc) st (by have : n <= i := hg; omega) fun h' eb => ⟨rfl, I.turned (t' := s.toks) (fun b o hb e => eb b o hb e) f0 f1 f3 f4 f5⟩
  self := fun _ _ _ _ _ st h => wpAny_pyIter_rangeiter st h
end L2

namespace L2
open PySem PySem.Spec PyProof.Rows
section
variable {X : Cx} {tg : Expr}
theorem uh {pins : List (Addr × Obj)} {σ : St} {H : Hp} {s : Shared} {R : It -> Hp -> Prop} {E : Value -> Shared -> Prop} {lo hi : Int} {t u v : Tok} {tk : Nat} (I : Inv X pins σ H s) (h1 : -(2 ^ 62) <= lo) (h2 : lo < 2 ^ 62) (h3 : -(2 ^ 62) <= hi) (h4 : hi < 2 ^ 62)
    (q : R (Itr lo (hi - lo).toNat) H) : wpAny (model X.prog X.w) X.A (pyIter (.ref s.heap.objs.size)) (PIE X pins σ tg R) E { s with heap := s.heap.push { cls := .type "range", data := .fields #[.int lo t, .int hi u, .int 1 v] }, toks := tk } := by
  refine wpAny_pyIter_range (IsRange.new ..) (small_one h1 h2 h3 h4) ?_
  have I1 : Inv X pins σ H { s with heap := s.heap.push { cls := .type "range", data := .fields #[.int lo t, .int hi u, .int 1 v] }, toks := tk } := I.kept fun b o e => Heap.get?_push_of_some _ e
  refine ⟨(s.heap.push { cls := .type "range", data := .fields #[.int lo t, .int hi u, .int 1 v] }).objs.size, [(s.heap.push { cls := .type "range", data := .fields #[.int lo t, .int hi u, .int 1 v] }).objs.size], _, _, H, rfl,
    I1.kept (t' := tk) fun b o e => Heap.get?_push_of_some _ e, pW _ lo (hi - lo).toNat, ?_, fun b hb => ?_, q⟩
  . have e1 : lo + ((0 : Nat) : Int) * 1 = lo := by simp
    have e2 : (((hi - lo).toNat : Nat) : Int) - ((0 : Nat) : Int) = Builtin.Range.rangeSize lo hi 1 := by rw [rangeSize_one]; split <;> omega
    show IsRangeIter _ _ (lo + ((0 : Nat) : Int) * 1) ((((hi - lo).toNat : Nat) : Int) - ((0 : Nat) : Int)) 1
    rw [e1, e2]
    exact Heap.get?_push_size _ rfl
  . have e : b = (s.heap.push { cls := .type "range", data := .fields #[.int lo t, .int hi u, .int 1 v] }).objs.size := by simpa using hb
    subst e
    exact I1.fpOk (Nat.le_refl _) (I1.hok.fresh (Nat.le_refl _))
def Ce (ta : TA) : TI := fun σ H R => ta σ H fun vs H1 => ∃ j : Int, vs = [.int j] /\ -(2 ^ 62) <= j /\ j < 2 ^ 62 /\ R (Itr 0 j.toNat) H1
theorem tj {a : Expr} {ta : TA} {p pos : Pos} (hg : Gl X "range") (hm : X.mg "range" = none) (ha : PA X [a] ta) (hs : starEach [a] X.env = [(false, eval a X.env)] := by rfl) : PI X tg (.Call (.Name "range" p) [a] [] pos) (Ce ta) := by
  intro pins s σ H R I h
  refine Call_ (oN I hg hm boot_range (PyProof.Rows.callWith_type1 (thn (ha pos pins s σ H _ I h) fun us s1 ⟨vs, H1, I1, r1, q1⟩ => ?_) hs rfl))
  obtain ⟨j, e, q1, q2, q⟩ := q1
  subst e
  cases r1 with
  | cons r rr =>
    cases rr
    obtain ⟨t, rfl⟩ := r
    exact call_range_1 (uh I1 (by omega) (by omega) q1 q2 (by simpa using q))
def DM (wi : TI) (g : TG) (tb : TS) : TS := fun D σ H => wi σ H fun J H1 => ∃ W : Nat -> Nat -> St -> Hp -> Prop, (∃ m, W 0 m σ H1) /\ ∀ i m σ H, W i m σ H ->
  (J.stop i H /\ D.nx σ H) \/ (J.go i H /\ ∃ N : St -> Hp -> Prop, (∀ σ' H', N σ' H' -> ∃ m', m' < m /\ W (i + 1) m' σ' H') /\ ∀ x H', J.yld i H x H' -> g x σ H' fun σ2 H2 => tb { D with nx := N, ct := N, bk := D.nx } σ2 H2)
def ee (fp : List Addr) (h : Heap) : List (Addr × Obj) := fp.filterMap fun b => (h.get? b).map fun o => (b, o)
theorem dt {fp : List Addr} {h : Heap} {b : Addr} {o : Obj} (hb : b ∈ fp) (e : h.get? b = some o) : (b, o) ∈ ee fp h := List.mem_filterMap.mpr ⟨b, hb, by rw [e]; rfl⟩
theorem qX {fp : List Addr} {h : Heap} {p : Addr × Obj} (hp : p ∈ ee fp h) : p.1 ∈ fp /\ h.get? p.1 = some p.2 := by
  obtain ⟨b, hb, e⟩ := List.mem_filterMap.mp hp
  cases q : h.get? b with
  | none => rw [q] at e; cases e
  | some o =>
    rw [q] at e
    have e' : (b, o) = p := Option.some.inj e
    subst e'
    exact ⟨hb, q⟩
theorem Inv.pinned {pins : List (Addr × Obj)} {σ : St} {H : Hp} {s : Shared} {fp : List Addr} (I : Inv X pins σ H s) (hf : ∀ b ∈ fp, pG X pins H b) (ho : ∀ b ∈ fp, ∃ o, s.heap.get? b = some o /\ ∀ v, o.data ≠ .cell v) : Inv X (pins ++ ee fp s.heap) σ H s :=
  I.pins_of fun p hp => (List.mem_append.mp hp).elim (fun z => I.pin p (List.mem_append_right _ z)) fun z => by
    obtain ⟨hb, e⟩ := qX z
    obtain ⟨f0, f1, f2, _⟩ := hf p.1 hb
    obtain ⟨o, e', d⟩ := ho p.1 hb
    rw [e] at e'; cases e'
    exact ⟨e, f0, f1, f2, d⟩
theorem Inv.unpinned {pins pl : List (Addr × Obj)} {σ : St} {H : Hp} {s : Shared} (I : Inv X (pins ++ pl) σ H s) : Inv X pins σ H s := I.pins_of fun p hp => I.pin p (List.mem_append_right _ (List.mem_append_left _ hp))
theorem wk {iter : Expr} {body : List Stmt} {wi : TI} {g : TG} {tb : TS} {pos : Pos} (hp : PassesOwn (model X.prog X.w) X.A X.env X.xe) (hc : X.calm = true) (hi : PI X tg iter wi) (hg : PG X tg g) (hb : PSs X body tb)
    (hs : ∀ x, foldedSetIterable iter X.env x = pure x := by intro _; rfl) : PS X (.For tg iter body [] pos) (DM wi g tb) := by
  intro pins s σ H D I h
  refine wpAny_For (thn (hi pins s σ H _ I h) fun v s1 h1 => thn h1 fun itv s2 h2 => ?_) hs
  obtain ⟨it, fp, tn, J, H2, e, I2, T, st2, f2, W, ⟨m0, w0⟩, turn⟩ := h2
  subst e
  -- what stays true of the iterator's objects through the loop
  have stat : ∀ {H' : Hp}, (∀ b ∈ fp, H' b = none) -> ∀ b ∈ fp, pG X pins H' b := fun hn b hb => ⟨hn b hb, (f2 b hb).2⟩
  refine codeAny_forLoop_any (fun n s' => ∃ i σ' H', Inv X pins σ' H' s' /\ tn i s'.heap /\ (∀ b ∈ fp, H' b = none) /\ W i n σ' H') ?_ m0 ⟨0, σ, H2, I2, st2, fun b hb => (f2 b hb).1, w0⟩
  rintro n s3 ⟨i, σ3, H3, I3, st3, fr3, w3⟩
  rcases turn i n σ3 H3 w3 with ⟨stop, qn⟩ | ⟨go, N, hN, step⟩
  . refine wpAny_passesOwn hp (thn (T.done X rfl rfl rfl hc i pins s3 σ3 H3 X.xe I3 (stat fr3) st3 stop) fun r s4 ⟨hr, I4⟩ => ?_)
    subst hr
    exact wpAny_execs_nil ⟨σ3, H3, I4, qn⟩
  . refine wpAny_passesOwn hp (thn (T.item X rfl rfl rfl hc i pins s3 σ3 H3 X.xe I3 (stat fr3) st3 go) fun r s4 ⟨u, hr, h4⟩ => ?_)
    subst hr
    refine wpAny_passesOwn hp (thn h4 fun _ s5 ⟨x, H5, I5, r5, y5, st5, fr5⟩ => ?_)
    have I5' := I5.pinned (stat fr5) (T.obj _ _ st5)
    refine wpAny_passesOwn hp (thn (hg _ s5 σ3 H5 x u _ I5' r5 (step x H5 y5)) fun _ s6 ⟨σ6, H6, I6, q6⟩ => ?_)
    refine wpAny_passesOwn hp (thn (hb _ s6 σ6 H6 _ I6 q6) fun f s7 q7 => ?_)
    have again : ∀ {σ7 : St} {H7 : Hp}, Inv X (pins ++ ee fp s5.heap) σ7 H7 s7 -> N σ7 H7 -> ∃ m, m < n /\ ∃ i σ' H', Inv X pins σ' H' s7 /\ tn i s7.heap /\ (∀ b ∈ fp, H' b = none) /\ W i m σ' H' := fun {σ7 H7} I7 n7 => by
      obtain ⟨m', hm, w7⟩ := hN σ7 H7 n7
      refine ⟨m', hm, i + 1, σ7, H7, I7.unpinned, T.keep _ _ _ st5 fun b hb o e => (I7.pin (b, o) (List.mem_append_right _ (List.mem_append_right _ (dt hb e)))).1, fun b hb => ?_, w7⟩
      obtain ⟨o, e, d⟩ := T.obj _ _ st5 b hb
      exact (I7.pin (b, o) (List.mem_append_right _ (List.mem_append_right _ (dt hb e)))).2.1
    cases f with
    | next => obtain ⟨σ7, H7, I7, n7⟩ := q7; exact again I7 n7
    | cont => obtain ⟨σ7, H7, I7, n7⟩ := q7; exact again I7 n7
    | brk => obtain ⟨σ7, H7, I7, q7⟩ := q7; exact ⟨σ7, H7, I7.unpinned, q7⟩
    | ret v => obtain ⟨x7, σ7, H7, I7, r7, q7⟩ := q7; exact ⟨x7, σ7, H7, I7.unpinned, r7, q7⟩
end

end L2

namespace L2
open PySem PySem.Spec PyProof.Rows

abbrev R2 := V -> V -> Hp -> VK -> Prop
def OpR (X : Cx) (f : Value -> Value -> Sem Value) (r : R2) : Prop :=
  ∀ (pins : List (Addr × Obj)) (s : Shared) (σ : St) (H : Hp) (x y : V) (v u : Value) (Q : VK), Inv X pins σ H s -> RelV x v -> RelV y u -> r x y H Q ->
    wpAny (model X.prog X.w) X.A (f v u) (EP X pins σ Q) X.xe s
def UnR (X : Cx) (f : Value -> Sem Value) (r : V -> Hp -> VK -> Prop) : Prop :=
  ∀ (pins : List (Addr × Obj)) (s : Shared) (σ : St) (H : Hp) (x : V) (v : Value) (Q : VK), Inv X pins σ H s -> RelV x v -> r x H Q ->
    wpAny (model X.prog X.w) X.A (f v) (EP X pins σ Q) X.xe s
def iO (X : Cx) (f : Value) (r : List V -> Hp -> VK -> Prop) : Prop :=
  ∀ (pins : List (Addr × Obj)) (s : Shared) (σ : St) (H : Hp) (xs : List V) (us : List Value) (Q : VK), Inv X pins σ H s -> Vals xs us -> r xs H Q ->
    wpAny (model X.prog X.w) X.A (call f us) (EP X pins σ Q) X.xe s
def Dp (X : Cx) (r : V -> Hp -> (Bool -> Hp -> Prop) -> Prop) : Prop :=
  ∀ (pins : List (Addr × Obj)) (s : Shared) (σ : St) (H : Hp) (x : V) (v : Value) (Q : Bool -> Hp -> Prop), Inv X pins σ H s -> RelV x v -> r x H Q ->
    wpAny (model X.prog X.w) X.A (truthy v) (TP X pins σ Q) X.xe s

def tOp (r : R2) (ta tb : TE) : TE := fun σ H Q => ta σ H fun x H1 => tb σ H1 fun y H2 => r x y H2 Q
def tUn (r : V -> Hp -> VK -> Prop) (ta : TE) : TE := fun σ H Q => ta σ H fun x H1 => r x H1 Q
def rI (C : Int -> Int -> Prop) (g : Int -> Int -> V) : R2 := fun x y H Q => ∃ i j, x = .int i /\ y = .int j /\ C i j /\ Q (g i j) H
def rI0 (g : Int -> Int -> V) : R2 := fun x y H Q => ∃ i j, x = .int i /\ y = .int j /\ Q (g i j) H
def rU (g : Int -> V) : V -> Hp -> VK -> Prop := fun x H Q => ∃ i, x = .int i /\ Q (g i) H

section
variable {X : Cx} {a b c : Expr} {ta tb tc : TE} {pos : Pos}

theorem Cq (ha : PE X a ta) (hb : PE X b tb) {pins : List (Addr × Obj)} {s : Shared} {σ : St} {H : Hp} {R : V -> V -> Hp -> Prop} (I : Inv X pins σ H s)
    (h : ta σ H fun x H1 => tb σ H1 fun y H2 => R x y H2) {Q : Value -> Shared -> Prop} {f : Value -> Value -> Sem Value}
    (hf : ∀ v u s2 x y H2, Inv X pins σ H2 s2 -> RelV x v -> RelV y u -> R x y H2 -> wpAny (model X.prog X.w) X.A (f v u) Q X.xe s2) :
    wpAny (model X.prog X.w) X.A (eval a X.env) (fun v s₁ => wpAny (model X.prog X.w) X.A (eval b X.env) (fun u s₂ => wpAny (model X.prog X.w) X.A (f v u) Q X.xe s₂) X.xe s₁) X.xe s := by
  refine thn (ha pins s σ H _ I h) fun v s1 ⟨x, H1, I1, r1, q1⟩ => ?_
  refine thn (hb pins s1 σ H1 _ I1 q1) fun u s2 ⟨y, H2, I2, r2, q2⟩ => ?_
  exact hf v u s2 x y H2 I2 r1 r2 q2

theorem B7 {op : Operator} {r : R2} (ho : OpR X (binaryOp op) r) (ha : PE X a ta) (hb : PE X b tb) : PE X (.BinOp a op b pos) (tOp r ta tb) := by
  intro pins s σ H Q I h
  exact wpAny_BinOp (Cq ha hb I h fun v u s2 x y H2 I2 rx ry q => ho pins s2 σ H2 x y v u Q I2 rx ry q)
theorem B8 {op : UnaryOp} {r : V -> Hp -> VK -> Prop} (ho : UnR X (unaryOp op) r) (ha : PE X a ta) : PE X (.UnaryOp op a pos) (tUn r ta) := by
  intro pins s σ H Q I h
  exact UnaryOp_ (thn (ha pins s σ H _ I h) fun v s1 ⟨x, H1, I1, r1, q1⟩ => ho pins s1 σ H1 x v Q I1 r1 q1)
theorem opI {f : Value -> Value -> Sem Value} {C : Int -> Int -> Prop} {g : Int -> Int -> Int}
    (rule : ∀ (i j : Int) (t u : Tok) (s : Shared) (Q : Value -> Shared -> Prop) (E : Value -> Shared -> Prop), C i j -> Q (.int (g i j) s.toks) { s with toks := s.toks + 1 } -> wpAny (model X.prog X.w) X.A (f (.int i t) (.int j u)) Q E s) :
    OpR X f (rI C fun i j => .int (g i j)) := by
  intro pins s σ H x y v u Q I rx ry h
  obtain ⟨i, j, rfl, rfl, hc, q⟩ := h
  obtain ⟨t, rfl⟩ := rx
  obtain ⟨t', rfl⟩ := ry
  exact rule i j t t' s _ _ hc ⟨.int (g i j), H, I.tok _, ⟨_, rfl⟩, q⟩
theorem Da {f : Value -> Value -> Sem Value} {g : Int -> Int -> Int}
    (rule : ∀ (i j : Int) (t u : Tok) (s : Shared) (Q : Value -> Shared -> Prop) (E : Value -> Shared -> Prop), Q (.int (g i j) s.toks) { s with toks := s.toks + 1 } -> wpAny (model X.prog X.w) X.A (f (.int i t) (.int j u)) Q E s) :
    OpR X f (rI0 fun i j => .int (g i j)) := by
  intro pins s σ H x y v u Q I rx ry h
  obtain ⟨i, j, rfl, rfl, q⟩ := h
  obtain ⟨t, rfl⟩ := rx
  obtain ⟨t', rfl⟩ := ry
  exact rule i j t t' s _ _ ⟨.int (g i j), H, I.tok _, ⟨_, rfl⟩, q⟩
theorem BH {f : Value -> Value -> Sem Value} {g : Int -> Int -> Bool}
    (rule : ∀ (i j : Int) (t u : Tok) (s : Shared) (Q : Value -> Shared -> Prop) (E : Value -> Shared -> Prop), Q (.bool (g i j)) s -> wpAny (model X.prog X.w) X.A (f (.int i t) (.int j u)) Q E s) :
    OpR X f (rI0 fun i j => .bl (g i j)) := by
  intro pins s σ H x y v u Q I rx ry h
  obtain ⟨i, j, rfl, rfl, q⟩ := h
  obtain ⟨t, rfl⟩ := rx
  obtain ⟨t', rfl⟩ := ry
  exact rule i j t t' s _ _ ⟨.bl (g i j), H, I, rfl, q⟩

def D4 (i j : Int) : Prop := 0 < j /\ j < 1073741824
def CMul (i j : Int) : Prop := (-(2 ^ 64) < i /\ i < 2 ^ 64) \/ (-(2 ^ 64) < j /\ j < 2 ^ 64)
theorem CMul.ok {i j : Int} (h : CMul i j) : IntMulOk i j := by
  rcases h with ⟨h1, h2⟩ | ⟨h1, h2⟩
  . exact .of_left (intBits_le_64 h1 h2)
  . exact .of_right (intBits_le_64 h1 h2)
theorem op_add : OpR X (binaryOp .Add) (rI0 fun i j => .int (i + j)) := Da fun _ _ _ _ _ _ _ q => add_int q
theorem AE : OpR X (binaryOp .Sub) (rI0 fun i j => .int (i - j)) := Da fun _ _ _ _ _ _ _ q => sub_int q
theorem op_mul : OpR X (binaryOp .Mult) (rI CMul fun i j => .int (i * j)) := opI fun _ _ _ _ _ _ _ hc q => mul_int q hc.ok
theorem yF : OpR X (binaryOp .FloorDiv) (rI D4 fun i j => .int (i / j)) := opI fun i j _ _ _ _ _ hc q => by
  have h1 : (0 : Int) < j := hc.1
  have h2 : j < 1073741824 := hc.2
  exact floordiv_int (by omega) (by rw [Int.fdiv_eq_ediv_of_nonneg i (by omega)]; exact q) (.inl (PyProof.noPylong_small (by omega)))
theorem zX : OpR X (binaryOp .Mod) (rI (fun _ j => 0 < j) fun i j => .int (i % j)) := opI fun i j _ _ _ _ _ hc q => by
  have h1 : (0 : Int) < j := hc
  exact mod_int' (by omega) (by rw [Int.fmod_eq_emod_of_nonneg i (by omega)]; exact q)
theorem unI {f : Value -> Sem Value} {g : Int -> Int}
    (rule : ∀ (i : Int) (t : Tok) (s : Shared) (Q : Value -> Shared -> Prop) (E : Value -> Shared -> Prop), Q (.int (g i) s.toks) { s with toks := s.toks + 1 } -> wpAny (model X.prog X.w) X.A (f (.int i t)) Q E s) :
    UnR X f (rU fun i => .int (g i)) := by
  intro pins s σ H x v Q I rx h
  obtain ⟨i, rfl, q⟩ := h
  obtain ⟨t, rfl⟩ := rx
  exact rule i t s _ _ ⟨.int (g i), H, I.tok _, ⟨_, rfl⟩, q⟩
theorem AV : UnR X (unaryOp .USub) (rU fun i => .int (-i)) := unI fun _ _ _ _ _ q => neg_int q
end

section
variable {X : Cx} {a b c : Expr} {ta tb tc : TE} {pos : Pos}
theorem oY {pins : List (Addr × Obj)} {σ : St} {H : Hp} {s : Shared} {Q : VK} {k k' : Bool} (I : Inv X pins σ H s) (q : Q (.bl k) H) (e : k = k') : EP X pins σ Q (.bool k') s := by
  subst e
  exact ⟨.bl k, H, I, rfl, q⟩
theorem op_lt : OpR X (compareOp .Lt) (rI0 fun i j => .bl (decide (i < j))) := BH fun _ _ _ _ _ _ _ q => lt_int q
theorem op_le : OpR X (compareOp .LtE) (rI0 fun i j => .bl (decide (i <= j))) := BH fun _ _ _ _ _ _ _ q => le_int q
theorem CD : OpR X (compareOp .Gt) (rI0 fun i j => .bl (decide (j < i))) := BH fun _ _ _ _ _ _ _ q => gt_int q
theorem rz : OpR X (compareOp .Lt) (fun x y H Q => ∃ i j, x = .str i /\ y = .str j /\ Q (.bl (decide (i.cps.toList < j.cps.toList))) H) := by
  intro pins s σ H x y v u Q I rx ry h
  obtain ⟨i, j, rfl, rfl, q⟩ := h
  obtain ⟨t, rfl⟩ := rx
  obtain ⟨t', rfl⟩ := ry
  exact lt_str (oY I q rfl)
theorem si : OpR X (compareOp .In) (fun x y H Q => ∃ i j, x = .str i /\ y = .str j /\ Q (.bl (!(Builtin.Str.occurrences j i 0 j.length 1).isEmpty)) H) := by
  intro pins s σ H x y v u Q I rx ry h
  obtain ⟨i, j, rfl, rfl, q⟩ := h
  obtain ⟨t, rfl⟩ := rx
  obtain ⟨t', rfl⟩ := ry
  exact in_str (oY I q rfl)

theorem op_isN : OpR X (compareOp .Is) (fun x y H Q => y = .non /\ Q (.bl (decide (x = .non))) H) := by
  intro pins s σ H x y v u Q I rx ry h
  obtain ⟨rfl, q⟩ := h
  cases ry
  refine is_none_gen (oY I q ?_)
  cases x <;> first
    | (cases rx; rfl)
    | (obtain ⟨t, rfl⟩ := rx; rfl)
theorem OpR.or {f : Value -> Value -> Sem Value} {r r' : R2} (h : OpR X f r) (h' : OpR X f r') : OpR X f (fun x y H Q => r x y H Q \/ r' x y H Q) := by
  intro pins s σ H x y v u Q I rx ry q
  rcases q with q | q
  . exact h pins s σ H x y v u Q I rx ry q
  . exact h' pins s σ H x y v u Q I rx ry q

theorem iC (b : Expr) {op : CmpOp} (h : op ≠ .In := by decide) (h2 : op ≠ .NotIn := by decide) : behindInMarks op b = false := by
  have e1 : (op == CmpOp.In) = false := by cases op <;> first | rfl | exact absurd rfl h
  have e2 : (op == CmpOp.NotIn) = false := by cases op <;> first | rfl | exact absurd rfl h2
  cases b <;> simp [behindInMarks, e1, e2]
theorem xl {op : CmpOp} {r : R2} (ho : OpR X (compareOp op) r) (ha : PE X a ta) (hb : PE X b tb) (hm : behindInMarks op b = false) : PE X (.Compare a [op] [b] pos) (tOp r ta tb) := by
  intro pins s σ H Q I h
  exact wpAny_Compare1 (Cq ha hb I h fun v u s2 x y H2 I2 rx ry q => ho pins s2 σ H2 x y v u Q I2 rx ry q) hm
def AU (t : TE) : TT := fun σ H Q => t σ H fun x H' => ∃ k, x = .bl k /\ Q k H'
theorem wV {op : CmpOp} {r : R2} (ho : OpR X (compareOp op) r) (ha : PE X a ta) (hb : PE X b tb) (hm : behindInMarks op b = false) : PT X (.Compare a [op] [b] pos) (AU (tOp r ta tb)) := by
  intro pins s σ H Q I h
  refine wpAny_isTrue_Compare1 (thn (ha pins s σ H _ I h) fun v s1 ⟨x, H1, I1, r1, q1⟩ => thn (hb pins s1 σ H1 _ I1 q1) fun u s2 ⟨y, H2, I2, r2, q2⟩ =>
    thn (ho pins s2 σ H2 x y v u _ I2 r1 r2 q2) fun c s3 ⟨z, H3, I3, r3, k, e, q3⟩ => ?_) hm
  subst e
  cases r3
  exact wpAny_truthy_bool ⟨H3, I3, q3⟩
def vU (r r' : R2) (ta tb tc : TE) : TE := fun σ H Q => ta σ H fun x H1 => tb σ H1 fun y H2 => r x y H2 fun z H3 => ∃ k, z = .bl k /\
  (if k = true then tc σ H3 fun w' H4 => r' y w' H4 Q else Q (.bl false) H3)
theorem uo {op op' : CmpOp} {r r' : R2} (ho : OpR X (compareOp op) r) (ho' : OpR X (compareOp op') r') (ha : PE X a ta) (hb : PE X b tb) (hc : PE X c tc)
    (hm : lastMarks [op, op'] [b, c] = false := by with_unfolding_all rfl) : PE X (.Compare a [op, op'] [b, c] pos) (vU r r' ta tb tc) := by
  intro pins s σ H Q I h
  refine Compare_chain (thn (ha pins s σ H _ I h) fun v s1 ⟨x, H1, I1, r1, q1⟩ => chain_link (thn (hb pins s1 σ H1 _ I1 q1) fun u s2 ⟨y, H2, I2, r2, q2⟩ =>
    thn (ho pins s2 σ H2 x y v u _ I2 r1 r2 q2) fun d s3 ⟨z, H3, I3, r3, k, e, q3⟩ => ?_)) hm
  subst e
  cases r3
  refine wpAny_truthy_bool ?_
  cases k with
  | false => exact ite_ff ⟨.bl false, H3, I3, rfl, q3⟩
  | true => exact ite_tt (chain_last (thn (hc pins s3 σ H3 _ I3 q3) fun w' s4 ⟨z', H4, I4, r4, q4⟩ => ho' pins s4 σ H4 y z' u w' Q I4 r2 r4 q4))
theorem ub {op op' : CmpOp} {r r' : R2} (ho : OpR X (compareOp op) r) (ho' : OpR X (compareOp op') r') (ha : PE X a ta) (hb : PE X b tb) (hc : PE X c tc)
    (hm : lastMarks [op, op'] [b, c] = false := by with_unfolding_all rfl) : PT X (.Compare a [op, op'] [b, c] pos) (AU (vU r r' ta tb tc)) := by
  intro pins s σ H Q I h
  refine isTrue_chain (thn (ha pins s σ H _ I h) fun v s1 ⟨x, H1, I1, r1, q1⟩ => test_link (thn (hb pins s1 σ H1 _ I1 q1) fun u s2 ⟨y, H2, I2, r2, q2⟩ =>
    thn (ho pins s2 σ H2 x y v u _ I2 r1 r2 q2) fun d s3 ⟨z, H3, I3, r3, k, e, q3⟩ => ?_)) hm
  subst e
  cases r3
  refine wpAny_truthy_bool ?_
  cases k with
  | false =>
    obtain ⟨k', e', q'⟩ := q3
    cases e'
    exact ite_ff ⟨H3, I3, q'⟩
  | true =>
    refine ite_tt (test_last (thn (hc pins s3 σ H3 _ I3 q3) fun w' s4 ⟨z', H4, I4, r4, q4⟩ => thn (ho' pins s4 σ H4 y z' u w' _ I4 r2 r4 q4) fun d' s5 ⟨z2, H5, I5, r5, k2, e2, q5⟩ => ?_))
    subst e2
    cases r5
    exact wpAny_truthy_bool ⟨H5, I5, q5⟩

def C8 (K : PySem.W.Frag) (x : V) (H : Hp) (k : Bool) : Prop :=
  match x with
  | .non => k = false
  | .bl b => k = b
  | .int i => k = (i != 0)
  | .str y => y.length <= sizeLine /\ k = ((y.length : Int) != 0)
  | .byt y => y.size <= sizeLine /\ k = ((y.size : Int) != 0)
  | .ref p => (∃ xs, SqL K H p xs /\ k = !xs.isEmpty) \/ (∃ xs, SqT K H p xs /\ k = !xs.isEmpty) \/ ∃ kvs, H p = some (.dK kvs) /\ k = !kvs.isEmpty
  | _ => False
theorem pI {κ : Type} {kvs : List (κ × V)} {vs : List (κ × Value)} (r : KV kvs vs) : (!vs.isEmpty) = !kvs.isEmpty := by
  cases r <;> rfl
theorem kH {xs : List V} {its : List Value} (r : Vals xs its) : (!its.toArray.isEmpty) = !xs.isEmpty := by
  cases r <;> simp
theorem kL : (sizeLine : Nat) < 2 ^ 63 := by rw [sizeLine_eq]; decide
theorem zV : Dp X (fun x H Q => ∃ k, C8 X.K x H k /\ Q k H) := by
  intro pins s σ H x v Q I rx h
  obtain ⟨k, e, q⟩ := h
  have hl := kL
  have hs : sizeLine = 16777216 := sizeLine_eq
  cases x with
  | non =>
    cases rx
    have e' : k = false := e
    subst e'
    exact truthy_none ⟨H, I, q⟩
  | bl b =>
    cases rx
    have e' : k = b := e
    subst e'
    exact wpAny_truthy_bool ⟨H, I, q⟩
  | int i =>
    obtain ⟨t, rfl⟩ := rx
    have e' : k = (i != 0) := e
    subst e'
    exact PySem.P.truthy_int ⟨H, I, q⟩
  | str y =>
    obtain ⟨t, rfl⟩ := rx
    obtain ⟨hy, e'⟩ : y.length <= sizeLine /\ k = ((y.length : Int) != 0) := e
    subst e'
    exact PySem.P.truthy_str (by omega) ⟨H, I.tok _, q⟩
  | byt y =>
    obtain ⟨t, rfl⟩ := rx
    obtain ⟨hy, e'⟩ : y.size <= sizeLine /\ k = ((y.size : Int) != 0) := e
    subst e'
    exact PySem.W.truthy_bytes (by omega) ⟨H, I.tok _, q⟩
  | ref p =>
    cases rx
    have e' : (∃ xs, SqL X.K H p xs /\ k = !xs.isEmpty) \/ (∃ xs, SqT X.K H p xs /\ k = !xs.isEmpty) \/ ∃ kvs, H p = some (.dK kvs) /\ k = !kvs.isEmpty := e
    rcases e' with ⟨xs, hx, e'⟩ | ⟨xs, hx, e'⟩ | ⟨kvs, hx, e'⟩
    . subst e'
      obtain ⟨its, r, pl, hz⟩ := I.list hx
      have hlen := r.length
      exact wpAny_truthy_list pl.isList (by simp only [List.size_toArray]; omega) ⟨H, I.tok _, by rw [kH r]; exact q⟩
    . subst e'
      obtain ⟨its, r, pl, hz⟩ := I.tuple hx
      have hlen := r.length
      exact truthy_tuple pl (by simp only [List.size_toArray]; omega) ⟨H, I.tok _, by rw [kH r]; exact q⟩
    . subst e'
      obtain ⟨hz, hS, vs, r, m⟩ : kvs.length <= sizeLine /\ (p == sysModules) = false /\ ∃ vs, KV kvs vs /\ s.heap.DictOf (nu X.prog X.w) p vs := I.hok p _ hx
      have hlen : kvs.length = vs.length := Paired.length r
      exact wpAny_truthy_dict hS m (by omega) ⟨H, I.tok _, by rw [pI r]; exact q⟩
  | _ => exact (show False from e).elim
theorem vO (ha : PE X a ta) (he : ∀ whole, isTrue a X.env whole = (do let v <- whole; standAt a.pos; holding [v] (truthy v))) :
    PT X a (fun σ H Q => ta σ H fun x H' => ∃ k, C8 X.K x H' k /\ Q k H') := by
  intro pins s σ H Q I h
  exact isTrue_plain (thn (ha pins s σ H _ I h) fun v s1 ⟨x, H1, I1, r1, q1⟩ => zV pins s1 σ H1 x v Q I1 r1 q1) (he _)

theorem op_add_str : OpR X (binaryOp .Add) (fun x y H Q => ∃ i j, x = .str i /\ y = .str j /\ i.length + j.length <= sizeLine /\ Q (.str (i ++ j)) H) := by
  intro pins s σ H x y v u Q I rx ry h
  obtain ⟨i, j, rfl, rfl, hz, q⟩ := h
  obtain ⟨t, rfl⟩ := rx
  obtain ⟨t', rfl⟩ := ry
  exact add_str (fun t' tk => ⟨.str (i ++ j), H, I.tok _, ⟨_, rfl⟩, q⟩) hz
theorem AB {x : V} {us : List Value} (r : Vals [x] us) : ∃ u, us = [u] /\ RelV x u := by
  cases r with
  | cons r1 r2 => cases r2; exact ⟨_, rfl, r1⟩
theorem tZ : iO X (.builtin "ord") (fun xs H Q => ∃ x, xs = [.str x] /\ x.length = 1 /\ Q (.int (x.cps.getD 0 0 : Nat)) H) := by
  intro pins s σ H xs us Q I r h
  obtain ⟨x, rfl, hz, q⟩ := h
  obtain ⟨u, rfl, t, rfl⟩ := AB r
  exact ord_of_one hz ⟨.int _, H, I.tok _, ⟨_, rfl⟩, q⟩
def DC (K : PySem.W.Frag) (x : V) (H : Hp) (n : Nat) : Prop :=
  match x with
  | .str y => y.length <= sizeLine /\ n = y.length
  | .byt y => y.size <= sizeLine /\ n = y.size
  | .ref p => (∃ xs, SqL K H p xs /\ n = xs.length) \/ ∃ xs, SqT K H p xs /\ n = xs.length
  | _ => False
theorem tM : iO X (.builtin "len") (fun xs H Q => ∃ x n, xs = [x] /\ DC X.K x H n /\ Q (.int n) H) := by
  intro pins s σ H xs us Q I r h
  obtain ⟨x, n, rfl, e, q⟩ := h
  obtain ⟨u, rfl, rx⟩ := AB r
  have hl := kL
  have hs : sizeLine = 16777216 := sizeLine_eq
  cases x with
  | str y =>
    obtain ⟨t, rfl⟩ := rx
    obtain ⟨hy, e'⟩ : y.length <= sizeLine /\ n = y.length := e
    subst e'
    exact len_str (by omega) ⟨.int _, H, I.tok _, ⟨_, rfl⟩, q⟩
  | byt y =>
    obtain ⟨t, rfl⟩ := rx
    obtain ⟨hy, e'⟩ : y.size <= sizeLine /\ n = y.size := e
    subst e'
    exact PySem.W.len_bytes (by omega) ⟨.int _, H, I.tok _, ⟨_, rfl⟩, q⟩
  | ref p =>
    cases rx
    have e' : (∃ xs, SqL X.K H p xs /\ n = xs.length) \/ ∃ xs, SqT X.K H p xs /\ n = xs.length := e
    rcases e' with ⟨xs, hx, e'⟩ | ⟨xs, hx, e'⟩
    . subst e'
      obtain ⟨its, r', pl, hz⟩ := I.list hx
      have hlen := r'.length
      exact Calls.call_len_list pl.isList (by simp only [List.size_toArray]; omega) ⟨.int xs.length, H, I.tok _, ⟨_, by simp only [List.size_toArray]; rw [hlen]⟩, q⟩
    . subst e'
      obtain ⟨its, r', pl, hz⟩ := I.tuple hx
      have hlen := r'.length
      exact len_tuple pl (by simp only [List.size_toArray]; omega) ⟨.int xs.length, H, I.tok _, ⟨_, by simp only [List.size_toArray]; rw [hlen]⟩, q⟩
  | _ => exact (show False from e).elim
end
end L2

namespace L2
open PySem PySem.Spec PyProof.Rows

structure ObjM (h : Heap) (x dx C : Addr) (mA : Str -> Option Value) : Prop where
  obj : h.get? x = some (PySem.W.instObj C dx)
  ns : h.Ns1 dx mA
  ne : dx ≠ x

section
variable {prog : Program} {w : World} {A : Around} {E : Value -> Shared -> Prop} {s : Shared} {K : PySem.W.Frag} {x dx C f : Addr} {mA : Str -> Option Value} {name : Str} {v : Value}

end

def jx (f : Str) (v : V) : List (Str × V) -> List (Str × V)
  | [] => [(f, v)]
  | (g, x) :: r => if g = f then (g, v) :: r else (g, x) :: jx f v r
section
variable {P : Program} {w : World} {H H' : Hp} {h h' : Heap} {a C dx : Addr} {fs fs' : List (Str × V)}
end

structure Cls (K : PySem.W.Frag) (C : Addr) : Prop where
  pg : PySem.W.plainGet K C Str.empty = true
  hd : PySem.W.hasDictIn K C = true
  po : PySem.W.plainOver K C = true
  sa : PySem.W.findIn K (.ref C) "__setattr__" = some (some (.builtin "object.__setattr__"))
structure Con (K : PySem.W.Frag) (C : Addr) (f : Str) (v : V) (u : Value) : Prop where
  at_ : PySem.W.findIn K (.ref C) f = some (some u)
  rel : RelV v u
  get : PySem.W.specialIn K u "__get__" = some none
  cp : PySem.W.copiedNames.contains f = false
structure Meth (K : PySem.W.Frag) (C : Addr) (m : Str) (f : Addr) : Prop where
  at_ : PySem.W.findIn K (.ref C) m = some (some (.ref f))
  fn : PySem.W.isFn K (.ref f) = true
  kp : PySem.W.keepIn K (.ref f) = true

section
variable {X : Cx} {pins : List (Addr × Obj)} {σ : St} {H : Hp} {s : Shared} {a C dx : Addr} {fs : List (Str × V)} {f : Str} {v : V} {A : Around} {E : Value -> Shared -> Prop}

end

section
variable {X : Cx} {o e value : Expr} {f : Str} {pos pos' tpos : Pos} {ta tv : TE}
end

section
variable {X : Cx} {pins : List (Addr × Obj)} {σ : St} {H : Hp} {s : Shared} {A : Around} {E : Value -> Shared -> Prop} {Q : Value -> Shared -> Prop} {c : Value} {b : Bool}
inductive TyOf (K : PySem.W.Frag) (H : Hp) : V -> Value -> Prop where
  | non : TyOf K H .non (.type "NoneType")
  | bl (x : Bool) : TyOf K H (.bl x) (.type "bool")
  | int (i : Int) : TyOf K H (.int i) (.type "int")
  | str (x : Str) : TyOf K H (.str x) (.type "str")
  | flt (x : UInt64) : TyOf K H (.flt x) (.type "float")
  | lst {a : Addr} {xs : List V} (e : H a = some (.lst xs)) : TyOf K H (.ref a) (.type "list")
  | frz {a : Addr} {o : Obj} {xs : List V} (e : H a = some (.frz o (.lst xs))) : TyOf K H (.ref a) (.type "list")
  | tup {a : Addr} {xs : List V} (e : H a = some (.tup xs)) : TyOf K H (.ref a) (.type "tuple")
  | dK {a : Addr} {kvs : List (Key × V)} (e : H a = some (.dK kvs)) : TyOf K H (.ref a) (.type "dict")
  | dT {a : Addr} {kvs : List (List Key × V)} (e : H a = some (.dT kvs)) : TyOf K H (.ref a) (.type "dict")
  | ins {a C dx : Addr} {fs : List (Str × V)} (e : H a = some (.ins C dx fs)) (cl : Cls K C) (ha : PySem.W.findIn K (.ref C) "__class__" = some (some (.builtin "object.__class__")))
      (hn : PySem.W.specialIn K (.builtin "object.__class__") "__get__" = some (some (.builtin "getset_descriptor.__get__"))) (htk : PySem.W.takesIn K (.builtin "object.__class__") = some true)
      (hm : PySem.W.mroIn K C (.type "object") = some true) : TyOf K H (.ref a) (.ref C)
end
end L2

namespace L2
open PySem PySem.Spec PyProof.Rows

structure Room (k : Nat) (A : Around) : Prop where
  hd : A.handled = none
  dp : A.depth + 3 * k + 5 < recursionLimit
  un : A.units + 16 * k + 200 < cLine
theorem Room.mono {j k : Nat} {A : Around} (r : Room k A) (h : j <= k) : Room j A := ⟨r.hd, by have := r.dp; omega, by have := r.un; omega⟩
theorem Room.deeper {k : Nat} {A : Around} (r : Room (k + 1) A) (env : Env) : Room k (A.deeper env) :=
  ⟨r.hd, by have := r.dp; show A.depth + 1 + 3 * k + 5 < _; omega, by have := r.un; show A.units + 3 + 16 * k + 200 < _; omega⟩
theorem Room.depth {k : Nat} {A : Around} (r : Room k A) : A.depth < recursionLimit := by have := r.dp; omega
theorem Room.units {k : Nat} {A : Around} (r : Room k A) : A.units + 64 < cLine := by have := r.un; omega
def CW : TA := fun _ H Q => Q [] H
def ug (ta : TE) (tr : TA) : TA := fun σ H Q => ta σ H fun x H1 => tr σ H1 fun xs H2 => Q (x :: xs) H2
section
variable {X : Cx} {e : Expr} {es : List Expr} {te : TE} {t : TA} {pos : Pos}
theorem iY : PA X [] CW := fun _ _ _ _ H Q I h => Calls.spliced_nil ⟨[], H, I, .nil, h⟩
theorem dw (ha : PE X e te) (hr : PA X es t) (hs : starEach (e :: es) X.env = (false, eval e X.env) :: starEach es X.env := by rfl) : PA X (e :: es) (ug te t) := by
  intro pos pins s σ H Q I h
  rw [hs]
  show wpAny _ _ (spliced ((false, eval e X.env) :: backTo pos (starEach es X.env))) _ _ s
  refine Calls.spliced_cons (thn (ha pins s σ H _ I h) fun u s1 ⟨x, H1, I1, r1, q1⟩ => ?_)
  exact thn (hr pos pins s1 σ H1 _ I1 q1) fun us s2 ⟨xs, H2, I2, r2, q2⟩ => ⟨x :: xs, H2, I2, .cons r1 r2, q2⟩

def DL (t : TA) : TE := fun σ H Q => t σ H fun xs H1 => xs.length <= sizeLine /\ ∀ p, H1 p = none -> Q (.ref p) (upd H1 p (.tup xs))
def CY (t : TA) : TE := fun σ H Q => t σ H fun xs H1 => xs.length <= sizeLine /\ ∀ p, H1 p = none -> Q (.ref p) (upd H1 p (.lst xs))
theorem Bm {x1} (h : PA X es t) : PE X (.Tuple es x1 pos) (DL t) := by
  intro pins s σ H Q I hq
  refine wpAny_Tuple_spliced (thn (h pos pins s σ H _ I hq) fun us s1 ⟨xs, H1, I1, r, z, q⟩ => ⟨by rw [<- r.length]; exact z, ?_⟩)
  have hf : H1 s1.heap.objs.size = none := I1.hok.fresh (Nat.le_refl _)
  refine ⟨.ref s1.heap.objs.size, upd H1 s1.heap.objs.size (.tup xs), I1.laid (t' := s1.toks) (fun b u e => Heap.get?_push_of_some _ e) (Nat.le_refl _) ?_, rfl, q _ hf⟩
  exact ⟨z, us, r, ⟨_, Heap.get?_push_size _ rfl, rfl, _, rfl⟩⟩
theorem wl (h : PA X es t) : PE X (.List es pos) (CY t) := by
  intro pins s σ H Q I hq
  refine wpAny_List_spliced (thn (h pos pins s σ H _ I hq) fun us s1 ⟨xs, H1, I1, r, z, q⟩ => ⟨by rw [<- r.length]; exact z, ?_⟩)
  have hf : H1 s1.heap.objs.size = none := I1.hok.fresh (Nat.le_refl _)
  refine ⟨.ref s1.heap.objs.size, upd H1 s1.heap.objs.size (.lst xs), I1.laid (t' := s1.toks) (fun b u e => Heap.get?_push_of_some _ e) (Nat.le_refl _) ?_, rfl, q _ hf⟩
  exact ⟨z, us, 0, r, Heap.get?_push_size _ rfl⟩
end

abbrev Sp := List V -> Hp -> VK -> XK -> Prop
abbrev CXT := List Env -> Hp -> Shared -> XK -> Value -> Shared -> Prop

structure Env0 (P : Program) (w : World) (K : PySem.W.Frag) (mg : Str -> Option Value) (base : Heap) (A : Around) (outer : List Env) (s : Shared) (H : Hp) : Prop where
  frames : A.frames = some outer
  mod : Mod K mg base
  bs : ∀ b o, base.get? b = some o -> s.heap.get? b = some o /\ H b = none
  bsz : base.objs.size <= s.heap.objs.size
  funs : s.heap.FunFrames base outer
  frf : ∀ b ∈ frs outer, H b = none
  hok : HOk P w H s.heap
  bare : AllBare s.gens
def CE (outer : List Env) (P : Program) (w : World) (H : Hp) (s : Shared) (Q : VK) (u : Value) (s' : Shared) : Prop :=
  ∃ v H', s'.os = s.os /\ AllBare s'.gens /\ Un (frs outer) [] H H' s.heap s'.heap /\ HOk P w H' s'.heap /\ RelV v u /\ Q v H'
def CR (CX : CXT) (outer : List Env) (P : Program) (w : World) (H : Hp) (s : Shared) (Q : VK) (E : XK) (r : Result) (s' : Shared) : Prop :=
  match r with
  | .ok (.ret u) => CE outer P w H s Q u s'
  | .ok _ => False
  | .error e => CX outer H s E e s'
structure FnOk (P : Program) (w : World) (K : PySem.W.Frag) (mg : Str -> Option Value) (base : Heap) (CX : CXT) (k : Nat) (f : Addr) (fd : FuncData) (ps : List Str) (sp : Sp) : Prop where
  len : ∀ vs H Q E, sp vs H Q E -> vs.length = ps.length
  run : ∀ (A : Around) (outer : List Env) (s : Shared) (H : Hp) (args : Args) (us : List Value) (vs : List V) (Q : VK) (E : XK), Room k A -> Env0 P w K mg base A outer s H -> BindsTo s fd args (ps.zip us) -> Vals vs us -> sp vs H Q E ->
    codeAny (model P w) A (.call (.ref f) args) (CR CX outer P w H s Q E) s
theorem FnOk.imp {P : Program} {w : World} {K : PySem.W.Frag} {mg : Str -> Option Value} {base : Heap} {CX : CXT} {k : Nat} {f : Addr} {fd : FuncData} {ps : List Str} {sp sp' : Sp} (F : FnOk P w K mg base CX k f fd ps sp)
    (h : ∀ vs H Q E, sp' vs H Q E -> sp vs H Q E) : FnOk P w K mg base CX k f fd ps sp' :=
  ⟨fun vs H Q E q => F.len vs H Q E (h _ _ _ _ q), fun A outer s H args us vs Q E hr he hb hv hs => F.run A outer s H args us vs Q E hr he hb hv (h _ _ _ _ hs)⟩

section
variable {X : Cx} {pins : List (Addr × Obj)} {σ : St} {H : Hp} {s s' : Shared}
theorem Inv.env0 (I : Inv X pins σ H s) : Env0 X.prog X.w X.K X.mg X.base X.A X.stack s H :=
  ⟨I.ok.frames, I.ok.mod, I.bs, Nat.le_trans I.ok.bsz I.sz, I.stack, I.stkFree, I.hok, I.bare⟩
theorem Inv.after {Q : VK} {u : Value} (I : Inv X pins σ H s) (h : CE X.stack X.prog X.w H s Q u s') : EP X pins σ Q u s' := by
  obtain ⟨v, H', os, bare, un, hok, r, q⟩ := h
  obtain ⟨hh, g, d, t, os'⟩ := s'
  obtain rfl : os' = s.os := os
  exact ⟨v, H', I.call (h' := hh) (g' := g) (d' := d) (t' := t) (ch := []) un hok bare (fun b z => absurd z (by simp)), r, q⟩
end

def Binds (K : PySem.W.Frag) (fd : FuncData) (ps : List Str) (ds : List Value) : Prop :=
  ∀ (s : Shared) (us : List Value), K.In s.heap -> (us ++ ds).length = ps.length -> BindsTo s fd ⟨us, []⟩ (ps.zip (us ++ ds))
theorem Binds.all {K : PySem.W.Frag} {fd : FuncData} {ps : List Str} (h : ∀ us : List Value, us.length = ps.length -> bindArgs fd ⟨us, []⟩ = pure (ps.zip us)) : Binds K fd ps [] := fun s us _ hl => by
  rw [List.append_nil] at hl ⊢
  exact .of_eq (h us hl)

section
variable {X : Cx} {CX : CXT} {k : Nat} {f C : Addr} {fd : FuncData} {ps : List Str} {sp : Sp} {dvs : List V} {ds : List Value} {E : XK} {x m : Str} {p pos apos : Pos} {e o : Expr} {es : List Expr} {ta : TE} {t : TA}

structure Mk (K : PySem.W.Frag) (C f : Addr) : Prop where
  makes : PySem.W.makesIn K C = true
  init : PySem.W.findIn K (.ref C) "__init__" = some (some (.ref f))
  fn : PySem.W.isFn K (.ref f) = true
  kp : PySem.W.keepIn K (.ref C) = true

end

section
variable {X : Cx} {CX : CXT} {k : Nat} {f C : Addr} {fd : FuncData} {ps ks : List Str} {sp : Sp} {E : XK} {x m : Str} {p pos apos kpos : Pos} {e o : Expr} {es : List Expr} {kws : List Keyword} {te ta : TE} {t tk : TA} {nm : Option Str}
structure KBinds (K : PySem.W.Frag) (fd : FuncData) (ps ks : List Str) (g : List Value -> List Value -> List Value) (gV : List V -> List V -> List V) : Prop where
  to : ∀ (s : Shared) (us ws : List Value), K.In s.heap -> (g us ws).length = ps.length -> BindsTo s fd ⟨us, ks.zip ws⟩ (ps.zip (g us ws))
  rel : ∀ {vs : List V} {us : List Value} {zs : List V} {ws : List Value}, Vals vs us -> Vals zs ws -> Vals (gV vs zs) (g us ws)
variable {g : List Value -> List Value -> List Value} {gV : List V -> List V -> List V}
end

structure FnScope (N P : List Str) (sc : Scope) : Prop where
  kind : sc.kind = .function
  co : sc.isCoroutine = false
  gen : sc.isGenerator = false
  nd : N.Nodup
  pre : N.take P.length = P
  par : ∀ x ∈ P, sc.names.lookup x = some .local \/ sc.names.lookup x = some .cell
  nofree : ∀ y ∈ sc.names, y.2 ≠ .free

theorem mh {kindOf : Str -> Option NameKind} {x : Str} : ∀ {binds : List (Str × Value)} {m : Str -> Option Value}, (∀ v, (x, v) ∉ binds) -> bindL kindOf binds m x = m x
  | [], _, _ => rfl
  | (n, v) :: r, m, h => by
    unfold bindL
    rw [mh fun w hw => h w (List.mem_cons_of_mem _ hw)]
    split
    . have : x ≠ n := by rintro rfl; exact h v List.mem_cons_self
      simp [this]
    . rfl
theorem mF {kindOf : Str -> Option NameKind} {x : Str} : ∀ {binds : List (Str × Value)} {m : Str -> Option Value}, (∀ v, (x, v) ∉ binds) -> bindC kindOf binds m x = m x
  | [], _, _ => rfl
  | (n, v) :: r, m, h => by
    unfold bindC
    rw [mF fun w hw => h w (List.mem_cons_of_mem _ hw)]
    split
    . rfl
    . have : x ≠ n := by rintro rfl; exact h v List.mem_cons_self
      simp [this]
theorem mT {kindOf : Str -> Option NameKind} {x : Str} {v : Value} : ∀ {P : List Str} {vs : List Value} {i : Nat} {m : Str -> Option Value}, P.Nodup -> P[i]? = some x -> vs[i]? = some v -> kindOf x = some .local ->
    bindL kindOf (P.zip vs) m x = some v
  | [], _, _, _, _, h, _, _ => by simp at h
  | _ :: _, [], _, _, _, _, h, _ => by simp at h
  | p :: P, w :: vs, 0, m, nd, h1, h2, hk => by
    simp at h1 h2; subst h1; subst h2
    show bindL kindOf ((p, w) :: P.zip vs) m p = _
    unfold bindL
    rw [mh fun v hv => (List.nodup_cons.mp nd).1 (List.of_mem_zip hv).1, if_pos hk]
    simp
  | p :: P, w :: vs, i + 1, m, nd, h1, h2, hk => by
    show bindL kindOf ((p, w) :: P.zip vs) m x = _
    unfold bindL
    exact mT (i := i) (List.nodup_cons.mp nd).2 (by simpa using h1) (by simpa using h2) hk
theorem mC {kindOf : Str -> Option NameKind} {x : Str} {v : Value} : ∀ {P : List Str} {vs : List Value} {i : Nat} {m : Str -> Option Value}, P.Nodup -> P[i]? = some x -> vs[i]? = some v -> kindOf x ≠ some .local ->
    bindC kindOf (P.zip vs) m x = some v
  | [], _, _, _, _, h, _, _ => by simp at h
  | _ :: _, [], _, _, _, _, h, _ => by simp at h
  | p :: P, w :: vs, 0, m, nd, h1, h2, hk => by
    simp at h1 h2; subst h1; subst h2
    show bindC kindOf ((p, w) :: P.zip vs) m p = _
    unfold bindC
    rw [mF fun v hv => (List.nodup_cons.mp nd).1 (List.of_mem_zip hv).1, if_neg hk]
    simp
  | p :: P, w :: vs, i + 1, m, nd, h1, h2, hk => by
    show bindC kindOf ((p, w) :: P.zip vs) m x = _
    unfold bindC
    exact mC (i := i) (List.nodup_cons.mp nd).2 (by simpa using h1) (by simpa using h2) hk

def kn (N : List Str) (vs : List V) : St := vs.map some ++ List.replicate (N.length - vs.length) none

def bP (CX : CXT) (P : Program) (w : World) (K : PySem.W.Frag) (mg : Str -> Option Value) (base : Heap) (N : List Str) (qual : Str) (scope : Scope) (f : Addr) (cd : Value) (A : Around) (outer : List Env) (s : Shared) (H : Hp) (E : XK) : Cx where
  prog := P
  w := w
  K := K
  mg := mg
  base := base
  A := A.deeper (envOfC qual scope s.heap.objs.size f cd)
  N := N
  s₀ := s
  H₀ := H
  env := envOfC qual scope s.heap.objs.size f cd
  outer := outer
  stack := envOfC qual scope s.heap.objs.size f cd :: outer
  ex := []
  calm := true
  fn := fun _ => true
  pn := []
  xe := fun e s' => wpAny (model P w) (A.deeper (envOfC qual scope s.heap.objs.size f cd)) (leaving (envOfC qual scope s.heap.objs.size f cd) e) (fun _ s'' => CX outer H s E e s'') (fun e' s'' => CX outer H s E e' s'') s'

theorem oJ {sc : Scope} {n : Nat} {x : Str} (h : sc.names.lookup x = some .cell) : ∃ c, (cellsFrom n sc.names []).lookup x = some c := by
  have q := PySem.W.cellsFrom_some sc.names n [] (.inl h)
  exact Option.isSome_iff_exists.mp q

theorem tz {CX : CXT} {P : Program} {w : World} {K : PySem.W.Frag} {mg : Str -> Option Value} {base : Heap} {N ps : List Str} {qual : Str} {scope : Scope} {f : Addr} {cd : Value} {A : Around} {outer : List Env} {s s1 : Shared} {H : Hp} {E : XK} {us : List Value} {vs : List V}
    (S : FnScope N ps scope) (hd : A.handled = none) (e0 : Env0 P w K mg base A outer s H) (hl : vs.length = ps.length) (r : Vals vs us)
    (x : InCallC s s.heap.objs.size (bindL (envOfC qual scope s.heap.objs.size f cd).kindOf (ps.zip us) fun _ => none) (cellsFrom (s.heap.objs.size + 1) scope.names []) (bindC (envOfC qual scope s.heap.objs.size f cd).kindOf (ps.zip us) fun _ => none) s1) :
    Inv (bP CX P w K mg base N qual scope f cd A outer s H E) [] (kn N vs) H s1 := by
  have hpl : ps.length <= N.length := by have := congrArg List.length S.pre; rw [List.length_take] at this; omega
  obtain ⟨h1, tk, rfl, hk⟩ := x.done
  have noA : ∀ b : Addr, b ∉ (bP CX P w K mg base N qual scope f cd A outer s H E).ex := fun b z => absurd (show b ∈ ([] : List Addr) from z) (by simp)
  refine ⟨⟨e0.mod, S.kind, rfl, rfl, Nat.le_refl _, fun y z c h1 h2 => ?_, fun y hy => ?_, fun y c _ h => ?_, fun _ => hd, Around.frames_deeper e0.frames, .inr ⟨rfl, rfl⟩, fun b z => absurd z (noA b), e0.bs, e0.bsz, fun b _ _ => noA b, fun b z => absurd z (noA b), e0.funs, e0.frf⟩,
    rfl, e0.bare, Un.kept hk, ⟨_, x.toInCall.ns, fun i y v h1 h2 h3 => ?_⟩, fun y c h => ⟨_, x.cell y c h⟩, e0.hok.fresh (Nat.le_refl _), fun y c h => ?_, fun p hp => absurd (show p ∈ ([] : List (Addr × Obj)) from hp) (by simp), e0.hok.kept hk, ?_⟩
  . exact name_of_addr x.apart (PySem.mem_of_lookup h1) (PySem.mem_of_lookup h2)
  . have hy : scope.names.lookup y = some .cell \/ scope.names.lookup y = some .free := hy
    rcases hy with hy | hy
    . exact oJ hy
    . exact absurd rfl (S.nofree _ (PySem.mem_of_lookup hy))
  . exact Nat.le_of_lt (x.above y c (PySem.mem_of_lookup h))
  . have hi : i < vs.length := by
      unfold kn at h2
      by_cases hi : i < vs.length
      . exact hi
      . rw [List.getElem?_append_right (by simpa using hi)] at h2
        rw [List.getElem?_replicate] at h2
        split at h2 <;> cases h2
    have ha : vs[i]? = some v := by
      unfold kn at h2
      rw [List.getElem?_append_left (by simpa using hi), List.getElem?_map] at h2
      cases e : vs[i]? with
      | none => rw [e] at h2; cases h2
      | some a => rw [e] at h2; cases h2; rfl
    obtain ⟨u, hu, rv⟩ := r.get ha
    have hp : ps[i]? = some y := by
      rw [<- S.pre, List.getElem?_take_of_lt (by omega)]; exact h1
    have ndP : ps.Nodup := by rw [<- S.pre]; exact S.nd.sublist (List.take_sublist _ _)
    refine ⟨u, rv, ?_⟩
    rcases S.par y (List.mem_of_getElem? hp) with k | k
    . exact .inl ⟨k, mT ndP hp hu k⟩
    . obtain ⟨c, e⟩ := oJ (n := s.heap.objs.size + 1) k
      refine .inr ⟨.inl k, c, e, ?_⟩
      have q := x.cell y c e
      rw [mC ndP hp hu (by show scope.names.lookup y ≠ _; rw [k]; decide)] at q
      exact q
  . exact e0.hok.fresh (Nat.le_of_lt (x.above y c (PySem.mem_of_lookup h)))
  . unfold kn
    show _ = N.length
    rw [List.length_append, List.length_map, List.length_replicate]
    omega

theorem zP {CX : CXT} {P : Program} {w : World} {K : PySem.W.Frag} {mg : Str -> Option Value} {base : Heap} {k : Nat} {f : Addr} {name qual : Str} {params : Arguments} {body : List Stmt} {scope : Scope} {dV kV doc pm cdv ct oc : Value} {an od : Option Addr}
    {osl : Array (Option Value)} {N ps : List Str} {sp : Sp} (lk : K.lookup f = some ⟨oc, od, .func (PySem.W.fnOf name qual params body scope dV kV doc pm an cdv ct), osl⟩) (hcd : PySem.W.codeIn K cdv qual = true) (S : FnScope N ps scope)
    (len : ∀ vs H Q E, sp vs H Q E -> vs.length = ps.length)
    (hbody : ∀ (A : Around) (outer : List Env) (s : Shared) (H : Hp) (vs : List V) (Q : VK) (E : XK), Room k (A.deeper (envOfC qual scope s.heap.objs.size f cdv)) -> sp vs H Q E ->
      ∃ t, PSs (bP CX P w K mg base N qual scope f cdv A outer s H E) body t /\ t { nx := fun _ H' => Q .non H', rt := Q } (kn N vs) H) :
    FnOk P w K mg base CX (k + 1) f (PySem.W.fnOf name qual params body scope dV kV doc pm an cdv ct) ps sp := by
  refine ⟨len, fun A outer s H args us vs Q E hr e0 hb r hsp => ?_⟩
  have hl := len _ _ _ _ hsp
  have KX : K.In s.heap := e0.mod.kin.keeps fun b o e => (e0.bs b o e).1
  have lim : s.heap.NoLimit := e0.mod.nolimit.keeps fun b o e => (e0.bs b o e).1
  have hkind : ∀ y ∈ ps.zip us, scope.names.lookup y.1 = some .local \/ (scope.names.lookup y.1 = some .cell /\ ((cellsFrom (s.heap.objs.size + 1) scope.names []).lookup y.1).isSome = true) := fun ⟨n, v⟩ hy => by
    rcases S.par n (List.of_mem_zip hy).1 with q | q
    . exact .inl q
    . exact .inr ⟨q, PySem.W.cellsFrom_some _ _ _ (.inl q)⟩
  refine codeAny_call_function hr.depth (KX _ _ lk) rfl S.co S.gen rfl (PySem.W.codeRec_of KX hcd) (hb _ _ _ _ ?_)
  refine wpAny_newFunctionEnv_cells S.kind hkind fun env he s1 x => ?_
  subst he
  refine ⟨lim.keeps x.toInCall.keep, codeAny_func ?_⟩
  obtain ⟨t, ht, hq⟩ := hbody A outer s H vs Q E (hr.deeper _) hsp
  have I : Inv (bP CX P w K mg base N qual scope f cdv A outer s H E) [] (kn N vs) H s1 := tz S hr.hd e0 hl r x
  refine wpAny_mono (ht [] s1 (kn N vs) H _ I hq) (fun fl s' hs => ?_) fun e s' hs => hs
  have fin : ∀ {σ' : St} {H' : Hp} {v : V} {u : Value}, Inv (bP CX P w K mg base N qual scope f cdv A outer s H E) [] σ' H' s' -> RelV v u -> Q v H' -> CE outer P w H s Q u s' :=
    fun {σ' H' v u} J rv q => ⟨v, H', J.os, J.bare, J.base, J.hok, rv, q⟩
  cases fl with
  | ret u =>
    obtain ⟨v, σ', H', J, rv, q⟩ := hs
    exact fin J rv q
  | next =>
    obtain ⟨σ', H', J, q⟩ := hs
    exact fin (v := V.non) (u := Value.none) J rfl q
  | brk =>
    obtain ⟨_, _, _, q⟩ := hs
    exact False.elim q
  | cont =>
    obtain ⟨_, _, _, q⟩ := hs
    exact False.elim q
end L2

namespace L2
open PySem PySem.Spec PyProof.Rows
section
variable {X : Cx} {x : Str} {p pos : Pos} {e : Expr} {es : List Expr} {t : TA} {id T : String} {r : List V -> Hp -> VK -> Prop}

def tCB (r : List V -> Hp -> VK -> Prop) (t : TA) : TE := fun σ H Q => t σ H fun vs H1 => r vs H1 Q
theorem lf (hc : iO X (.builtin id) r) (hg : Gl X x) (hm : X.mg x = none) (hv : bootBuiltins x = some (.builtin id)) (ha : PA X (e :: es) t) (hn : x ≠ "__name__" := by decide) (hdb : (x == ("__debug__" : Str)) = false := by decide)
    (he : starEach (e :: es) X.env = (false, eval e X.env) :: starEach es X.env := by rfl) (hpl : (backTo pos (starEach es X.env)).any (·.1) = false := by rfl) : PE X (.Call (.Name x p) (e :: es) [] pos) (tCB r t) := by
  intro pins s σ H Q I h
  refine wpAny_Call_Name_kw (oN I hg hm hv ?_ hn hdb)
  exact PyProof.Rows.callWith_builtin1 (thn (ha pos pins s σ H _ I h) fun us s1 ⟨vs, H1, I1, r1, q1⟩ => hc pins s1 σ H1 vs us Q I1 r1 q1) he hpl
theorem qE (hc : iO X (.type T) r) (hg : Gl X x) (hm : X.mg x = none) (hv : bootBuiltins x = some (.type T)) (ha : PA X (e :: es) t) (hn : x ≠ "__name__" := by decide) (hdb : (x == ("__debug__" : Str)) = false := by decide)
    (he : starEach (e :: es) X.env = (false, eval e X.env) :: starEach es X.env := by rfl) (hpl : (backTo pos (starEach es X.env)).any (·.1) = false := by rfl) : PE X (.Call (.Name x p) (e :: es) [] pos) (tCB r t) := by
  intro pins s σ H Q I h
  refine wpAny_Call_Name_kw (oN I hg hm hv ?_ hn hdb)
  exact PyProof.Rows.callWith_type1 (thn (ha pos pins s σ H _ I h) fun us s1 ⟨vs, H1, I1, r1, q1⟩ => hc pins s1 σ H1 vs us Q I1 r1 q1) he hpl
end
end L2

namespace HT
open PySem PyProof.Rows

section
open PySem.SeqAt
open PySem.AutoSeq1 (wpAny_loadPart')
open PySem.MeetsSeq PySem.MeetsSeq2 PySem.MeetsSeq3

end

section
variable {prog : Program} {w : World} {A : Around} {E : Value -> Shared -> Prop} {s : Shared}

theorem cat_tup {t b : Addr} {vs ws : List Value} {Q : Value -> Shared -> Prop} (ht : IsTup s.heap t vs.toArray) (hb : IsTup s.heap b ws.toArray) (hv : vs ≠ [])
    (h1 : ws = [] -> Q (.ref t) s) (h2 : ws ≠ [] -> Q (.ref s.heap.objs.size) { s with heap := s.heap.push { cls := .type "tuple", data := .seq (vs ++ ws).toArray } })
    (hsz : vs.length + ws.length <= sizeLine) : wpAny (model prog w) A (binaryOp .Add (.ref t) (.ref b)) Q E s := by
  obtain ⟨⟨cls, dd, data, sl⟩, ho, hc, n, hd⟩ := id ht
  obtain ⟨⟨cls2, dd2, data2, sl2⟩, ho2, hc2, n2, hd2⟩ := id hb
  simp only at hc hd hc2 hd2
  subst hc hd hc2 hd2
  have e : vs.toArray ++ ws.toArray = (vs ++ ws).toArray := by simp
  by_cases hw : ws = []
  . exact concat_meets ⟨_, ho, rfl⟩ ⟨_, ho2, rfl⟩ noFill_tuple_add seq_tuple_add PySem.F.slot_tuple_add PySem.F.entry_tuple_add (PySem.F.args_tuple_add_2 _ _)
      (tuple_addW1 t b vs.toArray ws.toArray n n2 dd dd2 sl sl2 (by simpa using hv) (by simp [hw])) ⟨ho, ho2, h1 hw⟩
  . refine concat_meets ⟨_, ho, rfl⟩ ⟨_, ho2, rfl⟩ noFill_tuple_add seq_tuple_add PySem.F.slot_tuple_add PySem.F.entry_tuple_add (PySem.F.args_tuple_add_2 _ _)
      (tuple_addW2 t b vs.toArray ws.toArray n n2 dd dd2 sl sl2 (by simpa using hv) (by simpa using hw) (by rw [List.size_toArray, List.size_toArray]; exact hsz)) ⟨ho, ho2, ?_⟩
    rw [e]
    exact h2 hw

def sIx (n d : Nat) : Option Int -> Nat
  | none => d
  | some v => if v < 0 then (v + (n : Int)).toNat else min v.toNat n
theorem sIx_none (n d : Nat) : sIx n d none = d := rfl
theorem sIx_nat (n d k : Nat) : sIx n d (some (k : Int)) = min k n := by
  show (if (k : Int) < 0 then ((k : Int) + (n : Int)).toNat else min (k : Int).toNat n) = min k n
  rw [if_neg (by omega), Int.toNat_natCast]
theorem sIx_le (n d : Nat) (hd : d <= n) (o : Option Int) : sIx n d o <= n := by
  cases o with
  | none => exact hd
  | some v =>
    show (if v < 0 then (v + (n : Int)).toNat else min v.toNat n) <= n
    by_cases hv : v < 0
    . rw [if_pos hv]; omega
    . rw [if_neg hv]; exact Nat.min_le_right _ _
theorem qV (v : Int) (n d : Nat) : (if v < 0 then max (v + (n : Int)) 0 else min v (n : Int)) = ((sIx n d (some v) : Nat) : Int) := by
  show (if v < 0 then max (v + (n : Int)) 0 else min v (n : Int)) = (((if v < 0 then (v + (n : Int)).toNat else min v.toNat n) : Nat) : Int)
  by_cases hv : v < 0
  . simp only [if_pos hv]; omega
  . simp only [if_neg hv]; omega
theorem qa (lo hi : Option Int) (n : Nat) : Builtin.Slice.sliceAdjust lo hi 1 (n : Int) = (((sIx n 0 lo : Nat) : Int), ((sIx n n hi : Nat) : Int)) := by
  have h1 : ¬ ((1 : Int) < 0) := by omega
  unfold Builtin.Slice.sliceAdjust
  simp only [h1, if_false]
  refine Prod.ext ?_ ?_
  . cases lo with
    | none => rfl
    | some v => exact qV v n 0
  . cases hi with
    | none => rfl
    | some v => exact qV v n n
theorem qd (i j : Nat) : Builtin.Slice.slicePlaces (i : Int) (j : Int) 1 = j - i := by
  unfold Builtin.Slice.slicePlaces
  have h1 : (1 : Int) > 0 := by omega
  simp only [h1, if_true, Int.ediv_one]
  split <;> omega
theorem kG {v : Value} {o : Option Int} {Q : Option Int -> Shared -> Prop} (p : IsPart v o) (h : Q o s) : wpAny (model prog w) A (Builtin.Slice.slicePartIndex v) Q E s := by
  cases p with
  | none => exact slicePart_none h
  | int i t => exact slicePart_int h
theorem sliceApplied_gen {sl : Addr} {vl vu : Value} {lo hi : Option Int} {n : Nat} {Q : Int × Int × Nat -> Shared -> Prop} (hs : s.heap.IsSliceOf sl vl vu .none) (pl : IsPart vl lo) (pu : IsPart vu hi)
    (h : Q (((sIx n 0 lo : Nat) : Int), 1, sIx n n hi - sIx n 0 lo) s) : wpAny (model prog w) A (Builtin.Slice.sliceApplied (.ref sl) (pure (n : Int))) Q E s := by
  obtain ⟨os, hos, hcs, hds⟩ := id hs
  unfold Builtin.Slice.sliceApplied Builtin.Slice.sliceFields
  refine wpAny_bind (wpAny_bind (wpAny_field hos hds (x := vl) rfl (wpAny_bind (wpAny_field hos hds (x := vu) rfl (wpAny_bind (wpAny_field hos hds (x := .none) rfl (wpAny_pure ?_)))))))
  refine wpAny_bind (slicePart_none ?_)
  show wpAny _ _ (if ((1 : Int) == 0) = true then _ else _) _ _ s
  rw [if_neg (by decide)]
  refine wpAny_bind (kG pl (wpAny_bind (kG pu (wpAny_bind (wpAny_pure ?_)))))
  show wpAny _ _ (match Builtin.Slice.sliceAdjust lo hi 1 (n : Int) with | (lo, hi) => pure (lo, (1 : Int), Builtin.Slice.slicePlaces lo hi 1)) _ _ s
  rw [qa lo hi n]
  show wpAny _ _ (pure (((sIx n 0 lo : Nat) : Int), (1 : Int), Builtin.Slice.slicePlaces ((sIx n 0 lo : Nat) : Int) ((sIx n n hi : Nat) : Int) 1)) _ _ s
  rw [qd]
  exact wpAny_pure h
theorem vE (xs : Array Value) (i k : Nat) : ((List.range k).filterMap fun (m : Nat) => xs[((i : Int) + (m : Int) * 1).toNat]?).toArray = ((xs.toList.drop i).take k).toArray := by
  have e : (fun (m : Nat) => xs[((i : Int) + (m : Int) * 1).toNat]?) = fun m => xs[i + m]? := by
    funext m
    have : ((i : Int) + (m : Int) * 1).toNat = i + m := by omega
    rw [this]
  rw [e]
  have := pick_run xs i k
  rw [List.filterMap_map] at this
  have e2 : ((fun x => xs[x]?) ∘ fun x => i + x) = fun m => xs[i + m]? := rfl
  rw [e2] at this
  rw [this]

theorem getItem_tuple_cut {t sl : Addr} {items : Array Value} {vl vu : Value} {lo hi : Option Int} {Q : Value -> Shared -> Prop} (ht : IsTup s.heap t items) (hs : s.heap.IsSliceOf sl vl vu .none) (pl : IsPart vl lo) (pu : IsPart vu hi)
    (hw : ¬ (sIx items.size 0 lo = 0 /\ sIx items.size items.size hi = items.size))
    (h : Q (.ref s.heap.objs.size) { s with heap := s.heap.push { cls := .type "tuple", data := .seq ((items.toList.drop (sIx items.size 0 lo)).take (sIx items.size items.size hi - sIx items.size 0 lo)).toArray } })
    (hsz : items.size <= sizeLine) : wpAny (model prog w) A (getItem (.ref t) (.ref sl)) Q E s := by
  have htake : sizeOk (.seq ((items.toList.drop (sIx items.size 0 lo)).take (sIx items.size items.size hi - sIx items.size 0 lo)).toArray) := by
    show ((items.toList.drop (sIx items.size 0 lo)).take (sIx items.size items.size hi - sIx items.size 0 lo)).toArray.size <= sizeLine
    rw [List.size_toArray, List.length_take, List.length_drop, Array.length_toList]
    omega
  have hj : sIx items.size items.size hi <= items.size := sIx_le _ _ (Nat.le_refl _) hi
  obtain ⟨os, hos, hcs, hds⟩ := id hs
  have hTs : s.TypeIs (.ref sl) "slice" := ⟨os, hos, hcs⟩
  unfold getItem
  try with_reducible refine wpAny_holding ?_
  first | refine wpAny_bind (wpAny_pure ?_) | skip
  refine wpAny_bind (wpAny_sequenceKey ht.typeIs (by decide) ?_)
  refine wpAny_bind (wpAny_callSpecial?_slot (name := Str.ofString "__getitem__") ht.typeIs PyProof.Rows.slot_tuple_getitem
    (wpAny_call_entry PyProof.Rows.slot_tuple_getitem ht.typeIs entry_tuple_getitem ?_ (args_tuple_getitem _ _)))
  show wpAny _ _ (Builtin.Tuple.tupleItemsOf (.ref t) >>= _) _ _ s
  refine wpAny_bind (tupleItemsOf_ ht ?_)
  refine wpAny_bind (wpAny_typeOf hTs ?_)
  rw [if_pos (by decide)]
  refine wpAny_bind (sliceApplied_gen hs pl pu ?_)
  have hno : ¬ ((((sIx items.size 0 lo : Nat) : Int) == 0 && (1 : Int) == 1 && (sIx items.size items.size hi - sIx items.size 0 lo) == items.size) = true) := by
    intro q
    rw [Bool.and_eq_true, Bool.and_eq_true] at q
    have q1 : ((sIx items.size 0 lo : Nat) : Int) = 0 := eq_of_beq q.1.1
    have q2 : sIx items.size items.size hi - sIx items.size 0 lo = items.size := eq_of_beq q.2
    exact hw ⟨by omega, by omega⟩
  show wpAny _ _ (if (((sIx items.size 0 lo : Nat) : Int) == 0 && (1 : Int) == 1 && (sIx items.size items.size hi - sIx items.size 0 lo) == items.size) = true then _ else _) _ _ s
  rw [if_neg hno, vE]
  first
    | exact wpAny_bind (m := Builtin.Tuple.tupleExact _) (wpAny_newObj_type (wpAny_pure ⟨_, rfl, wpAny_pure h⟩) htake)
    | exact wpAny_bind (m := Builtin.Tuple.tupleExact _) (wpAny_newObj_type (wpAny_bind (wpAny_pure (wpAny_pure ⟨_, rfl, wpAny_pure h⟩))) htake)
    | exact wpAny_bind (wpAny_bind (m := Builtin.Tuple.tupleExact _) (wpAny_newObj_type (wpAny_pure (wpAny_pure ⟨_, rfl, wpAny_pure h⟩)) htake))
    | exact wpAny_bind (wpAny_bind (m := Builtin.Tuple.tupleExact _) (wpAny_newObj_type (wpAny_pure ⟨_, rfl, wpAny_pure h⟩) htake))
end
end HT

namespace L2
open PySem PySem.Spec PyProof.Rows

abbrev TO := St -> Hp -> (Option Int -> Hp -> Prop) -> Prop
def PO (X : Cx) (e : Option Expr) (t : TO) : Prop :=
  ∀ (pins : List (Addr × Obj)) (s : Shared) (σ : St) (H : Hp) (Q : Option Int -> Hp -> Prop), Inv X pins σ H s -> t σ H Q ->
    wpAny (model X.prog X.w) X.A (evalPart e X.env) (fun u s' => ∃ o H', Inv X pins σ H' s' /\ IsPart u o /\ Q o H') X.xe s
def xT : TO := fun _ H Q => Q none H
def Cf (t : TE) : TO := fun σ H Q => t σ H fun x H1 => ∃ i, x = .int i /\ Q (some i) H1

section
variable {X : Cx} {e : Expr} {te : TE} {lo hi : Option Expr} {tl th : TO} {pos p2 : Pos}

theorem yW : PO X none xT := by
  intro pins s σ H Q I h
  rw [evalPart_none]
  exact wpAny_pure ⟨none, H, I, .none, h⟩
theorem xN (h : PE X e te) : PO X (some e) (Cf te) := by
  intro pins s σ H Q I hw
  rw [evalPart_some]
  refine thn (h pins s σ H _ I hw) fun u s1 ⟨x, H1, I1, r1, q1⟩ => ?_
  obtain ⟨i, rfl, q⟩ := q1
  obtain ⟨t, rfl⟩ := r1
  exact ⟨some i, H1, I1, .int i t, q⟩

def SlR (X : Cx) (r : V -> Option Int -> Option Int -> Hp -> VK -> Prop) : Prop :=
  ∀ (pins : List (Addr × Obj)) (s : Shared) (σ : St) (H : Hp) (x : V) (v vl vu : Value) (lo hi : Option Int) (sl : Addr) (Q : VK), Inv X pins σ H s -> RelV x v -> s.heap.IsSliceOf sl vl vu .none -> IsPart vl lo -> IsPart vu hi -> r x lo hi H Q ->
    ∃ T id, typeLookup (.type T) "__getitem__" = pure (some (.builtin id)) /\ s.TypeIs v T /\ wpAny (model X.prog X.w) X.A (getItem v (.ref sl)) (EP X pins σ Q) X.xe s
theorem SlR.or {r r' : V -> Option Int -> Option Int -> Hp -> VK -> Prop} (h : SlR X r) (h' : SlR X r') : SlR X (fun x lo hi H Q => r x lo hi H Q \/ r' x lo hi H Q) := by
  intro pins s σ H x v vl vu lo hi sl Q I rx hs pl pu q
  rcases q with q | q
  . exact h pins s σ H x v vl vu lo hi sl Q I rx hs pl pu q
  . exact h' pins s σ H x v vl vu lo hi sl Q I rx hs pl pu q
def tSl (r : V -> Option Int -> Option Int -> Hp -> VK -> Prop) (te : TE) (tl th : TO) : TE := fun σ H Q => te σ H fun x H1 => tl σ H1 fun l H2 => th σ H2 fun u H3 => r x l u H3 Q
theorem uW {r : V -> Option Int -> Option Int -> Hp -> VK -> Prop} (hr : SlR X r) (he : PE X e te) (hl : PO X lo tl) (hu : PO X hi th) : PE X (.Subscript e (.Slice lo hi none p2) pos) (tSl r te tl th) := by
  intro pins s σ H Q I h
  refine Subscript_ (thn (he pins s σ H _ I h) fun v s1 ⟨x, H1, I1, r1, q1⟩ => ?_)
  refine wpAny_Slice (thn (hl pins s1 σ H1 _ I1 q1) fun vl s2 ⟨l, H2, I2, pl, q2⟩ => thn (hu pins s2 σ H2 _ I2 q2) fun vu s3 ⟨u, H3, I3, pu, q3⟩ => ?_)
  rw [evalPart_none]
  refine wpAny_pure ?_
  have I4 : Inv X pins σ H3 { s3 with heap := s3.heap.push { cls := .type "slice", data := .fields #[vl, vu, .none] } } := I3.kept (t' := s3.toks) fun b ob q => Heap.get?_push_of_some _ q
  obtain ⟨T, id, hT, ht, hg⟩ := hr pins { s3 with heap := s3.heap.push { cls := .type "slice", data := .fields #[vl, vu, .none] } } σ H3 x v vl vu l u s3.heap.objs.size Q I4 r1 (Heap.IsSliceOf.new ..) pl pu q3
  show wpAny (model X.prog X.w) X.A (subscriptTail e (.Slice lo hi none p2) v (.ref s3.heap.objs.size)) (EP X pins σ Q) X.xe { s3 with heap := s3.heap.push { cls := .type "slice", data := .fields #[vl, vu, .none] } }
  exact tail_any (ops := [.ref s3.heap.objs.size, v]) ht hT hg (by with_unfolding_all rfl)

def wm (xs : List V) (lo hi : Option Int) : List V := (xs.drop (HT.sIx xs.length 0 lo)).take (HT.sIx xs.length xs.length hi - HT.sIx xs.length 0 lo)
theorem jM (xs : List V) (lo hi : Option Int) : (wm xs lo hi).length <= xs.length := by
  unfold wm
  rw [List.length_take, List.length_drop]
  omega
def C9 (K : PySem.W.Frag) : V -> Option Int -> Option Int -> Hp -> VK -> Prop := fun x lo hi H Q => ∃ a xs, x = .ref a /\ SqT K H a xs /\
  ¬ (HT.sIx xs.length 0 lo = 0 /\ HT.sIx xs.length xs.length hi = xs.length) /\ ∀ p, H p = none -> Q (.ref p) (upd H p (.tup (wm xs lo hi)))
theorem sl_tup : SlR X (C9 X.K) := by
  intro pins s σ H x v vl vu lo hi sl Q I rx hs pl pu h
  obtain ⟨a, xs, rfl, hx, hw, q⟩ := h
  cases rx
  obtain ⟨its, r, ht, hz⟩ := I.tuple hx
  have hlen : its.toArray.size = xs.length := by rw [List.size_toArray]; exact r.length.symm
  refine ⟨"tuple", _, PyProof.Rows.slot_tuple_getitem.lookup, ht.typeIs, ?_⟩
  refine HT.getItem_tuple_cut ht hs pl pu (by rw [hlen]; exact hw) ?_ (by rw [hlen]; exact hz)
  rw [hlen]
  refine ⟨.ref s.heap.objs.size, _, I.laid (t' := s.toks) (o := .tup (wm xs lo hi)) (fun b ob q => Heap.get?_push_of_some _ q) (Nat.le_refl _) ?_, rfl, q _ (I.hok.fresh (Nat.le_refl _))⟩
  exact ⟨Nat.le_trans (jM xs lo hi) hz, _, (r.drop (HT.sIx xs.length 0 lo)).take (HT.sIx xs.length xs.length hi - HT.sIx xs.length 0 lo), IsTup.new _ _⟩

def Cp (K : PySem.W.Frag) : R2 := fun x y H Q => ∃ a b xs ys, x = .ref a /\ y = .ref b /\ SqT K H a xs /\ SqT K H b ys /\ xs ≠ [] /\ xs.length + ys.length <= sizeLine /\
  (ys = [] -> Q (.ref a) H) /\ (ys ≠ [] -> ∀ p, H p = none -> Q (.ref p) (upd H p (.tup (xs ++ ys))))
theorem Vals.nil_iff {xs : List V} {us : List Value} (r : Vals xs us) : us = [] ↔ xs = [] := by
  cases r with
  | nil => simp
  | cons _ _ => simp
theorem yS : OpR X (binaryOp .Add) (Cp X.K) := by
  intro pins s σ H x y v u Q I rx ry h
  obtain ⟨a, b, xs, ys, rfl, rfl, ha, hb, hx, hz, q1, q2⟩ := h
  cases rx
  cases ry
  obtain ⟨its, r1, p1, _⟩ := I.tuple ha
  obtain ⟨its2, r2, p2, _⟩ := I.tuple hb
  refine HT.cat_tup p1 p2 (fun z => hx (r1.nil_iff.mp z)) (fun z => ⟨.ref a, H, I, rfl, q1 (r2.nil_iff.mp z)⟩) (fun z => ?_) (by rw [<- r1.length, <- r2.length]; exact hz)
  refine ⟨.ref s.heap.objs.size, _, I.laid (t' := s.toks) (o := .tup (xs ++ ys)) (fun b ob q => Heap.get?_push_of_some _ q) (Nat.le_refl _) ?_, rfl, q2 (fun w => z (r2.nil_iff.mpr w)) _ (I.hok.fresh (Nat.le_refl _))⟩
  exact ⟨by rw [List.length_append]; exact hz, _, r1.append r2, IsTup.new _ _⟩
end
end L2

namespace L2
open PySem PySem.Spec PyProof.Rows

def ixN (n : Nat) (i : Int) : Option Nat := if 0 <= i then (if i < n then some i.toNat else none) else if -(n : Int) <= i then some (i + n).toNat else none
def atI {α : Type} (xs : List α) (i : Int) : Option α := (ixN xs.length i).bind fun j => xs[j]?
theorem wR {n : Nat} {i : Int} {j : Nat} (h : ixN n i = some j) : seqIndex? i n = some j /\ j < n /\ -(n : Int) <= i /\ i < n := by
  unfold ixN at h
  by_cases h0 : 0 <= i
  . rw [if_pos h0] at h
    by_cases h1 : i < n
    . rw [if_pos h1] at h
      have e : i.toNat = j := Option.some.inj h
      exact ⟨by rw [seqIndex_of h0 h1, e], by omega, by omega, h1⟩
    . rw [if_neg h1] at h; cases h
  . rw [if_neg h0] at h
    by_cases h1 : -(n : Int) <= i
    . rw [if_pos h1] at h
      have e : (i + n).toNat = j := Option.some.inj h
      exact ⟨by rw [seqIndex_neg (by omega) h1, e], by omega, h1, by omega⟩
    . rw [if_neg h1] at h; cases h
theorem oA {α : Type} {xs : List α} {i : Int} {v : α} (h : atI xs i = some v) : ∃ j, seqIndex? i xs.length = some j /\ xs[j]? = some v /\ j < xs.length /\ -(xs.length : Int) <= i /\ i < xs.length := by
  unfold atI at h
  cases e : ixN xs.length i with
  | none => rw [e] at h; cases h
  | some j =>
    rw [e] at h
    obtain ⟨h1, h2, h3, h4⟩ := wR e
    exact ⟨j, h1, h, h2, h3, h4⟩
theorem qG {α : Type} {xs : List α} {j : Nat} {v : α} (h : xs[j]? = some v) : atI xs (j : Int) = some v := by
  have hj : j < xs.length := (List.getElem?_eq_some_iff.mp h).1
  have e : ixN xs.length (j : Int) = some j := by
    unfold ixN
    rw [if_pos (by omega), if_pos (by omega)]; simp
  unfold atI; rw [e]; exact h
def jT (b : Expr) : Prop := ∀ o i, subscripted b false o i = operate [o, i] (getItem o i)
def IxR (X : Cx) (r : R2) : Prop :=
  ∀ (value slice : Expr) (pins : List (Addr × Obj)) (s : Shared) (σ : St) (H : Hp) (x y : V) (v u : Value) (Q : VK), Inv X pins σ H s -> RelV x v -> RelV y u -> r x y H Q ->
    subscripted slice false v u = operate [v, u] (getItem v u) -> wpAny (model X.prog X.w) X.A (subscriptTail value slice v u) (EP X pins σ Q) X.xe s
def MtR (X : Cx) (id : String) (r : V -> List V -> Hp -> VK -> Prop) : Prop :=
  ∀ (pins : List (Addr × Obj)) (s : Shared) (σ : St) (H : Hp) (x : V) (xs : List V) (v : Value) (us : List Value) (Q : VK), Inv X pins σ H s -> RelV x v -> Vals xs us -> r x xs H Q ->
    wpAny (model X.prog X.w) X.A (call (.builtin id) (v :: us)) (EP X pins σ Q) X.xe s
section
variable {X : Cx} {a b : Expr} {ta tb : TE} {pos : Pos}
theorem IxR.or {r r' : R2} (h : IxR X r) (h' : IxR X r') : IxR X (fun x y H Q => r x y H Q \/ r' x y H Q) := by
  intro value slice pins s σ H x y v u Q I rx ry q hs
  rcases q with q | q
  . exact h value slice pins s σ H x y v u Q I rx ry q hs
  . exact h' value slice pins s σ H x y v u Q I rx ry q hs
theorem Aj {r : R2} (hr : IxR X r) (ha : PE X a ta) (hb : PE X b tb) (hs : jT b) : PE X (.Subscript a b pos) (tOp r ta tb) := by
  intro pins s σ H Q I h
  exact Subscript_ (Cq ha hb I h fun v u s2 x y H2 I2 rx ry q => hr a b pins s2 σ H2 x y v u Q I2 rx ry q (hs _ _))

def BP (K : PySem.W.Frag) : R2 := fun x y H Q => ∃ p xs i v, x = .ref p /\ y = .int i /\ SqL K H p xs /\ atI xs i = some v /\ Q v H
def C4 (K : PySem.W.Frag) : R2 := fun x y H Q => ∃ p xs i v, x = .ref p /\ y = .int i /\ SqT K H p xs /\ atI xs i = some v /\ Q v H
def C1 : R2 := fun x y H Q => ∃ z i c, x = .str z /\ y = .int i /\ z.length <= sizeLine /\ atI z.cps.toList i = some c /\ Q (.str ⟨#[c]⟩) H
theorem ix_list : IxR X (BP X.K) := by
  intro value slice pins s σ H x y v u Q I rx ry h hs
  obtain ⟨p, xs, i, z, rfl, rfl, hq, he, q⟩ := h
  cases rx
  obtain ⟨t, rfl⟩ := ry
  obtain ⟨its, r, pl, hz⟩ := I.list hq
  obtain ⟨j, h1, h2, h3, h4, h5⟩ := oA he
  obtain ⟨w, ew, rw'⟩ := r.get h2
  have hl := r.length
  have hn := kL
  have fin : EP X pins σ Q w s := ⟨z, H, I, rw', q⟩
  by_cases h0 : 0 <= i
  . have hj : i.toNat = j := by
      rw [seqIndex_of h0 h5] at h1
      exact Option.some.inj h1
    exact item_listR pl.isList h0 (by omega) (by rw [hj]; simpa using ew) fin hs
  . have hj : (i + (its.toArray.size : Int)).toNat = j := by
      rw [seqIndex_neg (by omega) h4] at h1
      rw [List.size_toArray, <- hl]
      exact Option.some.inj h1
    exact subscriptTail_builtinR (x := w) pl.isList.typeIs slot_list_getitem.lookup
      (wpAny_getItem_list_neg (Q := fun r s' => r = w /\ EP X pins σ Q r s') pl.isList (by omega) (by rw [List.size_toArray] <;> omega) (by omega) (by rw [hj]; simpa using ew) ⟨rfl, fin⟩) hs
theorem ix_tup : IxR X (C4 X.K) := by
  intro value slice pins s σ H x y v u Q I rx ry h hs
  obtain ⟨p, xs, i, z, rfl, rfl, hq, he, q⟩ := h
  cases rx
  obtain ⟨t, rfl⟩ := ry
  obtain ⟨its, r, pl, hz⟩ := I.tuple hq
  obtain ⟨j, h1, h2, h3, h4, h5⟩ := oA he
  obtain ⟨w, ew, rw'⟩ := r.get h2
  have hl := r.length
  have hn := kL
  have fin : EP X pins σ Q w s := ⟨z, H, I, rw', q⟩
  exact subscriptTail_builtinR (x := w) pl.typeIs slot_tuple_getitem.lookup
    (getItem_tuple (j := j) (Q := fun r s' => r = w /\ EP X pins σ Q r s') pl (by omega) (by omega) (by rw [List.size_toArray, <- hl]; exact h1) (by simpa using ew) ⟨rfl, fin⟩) hs
theorem zi : IxR X C1 := by
  intro value slice pins s σ H x y v u Q I rx ry h hs
  obtain ⟨z, i, c, rfl, rfl, hz, he, q⟩ := h
  obtain ⟨t, rfl⟩ := rx
  obtain ⟨t', rfl⟩ := ry
  obtain ⟨j, h1, h2, h3, h4, h5⟩ := oA he
  have hl : z.cps.toList.length = z.length := by simp [Str.length]
  rw [hl] at h1 h4 h5
  have hn := kL
  exact tail_any (typeIs_str s z t) slot_str_getitem.lookup (getItem_str (c := c) (by
    have e1 : decide (i < -(2 ^ 63 : Int)) = false := decide_eq_false (by omega)
    have e2 : decide (i ≥ 2 ^ 63) = false := decide_eq_false (by omega)
    rw [e1, e2, Bool.or_false]) (by rw [h1]; simpa using h2) ⟨.str ⟨#[c]⟩, H, I.tok _, ⟨_, rfl⟩, q⟩) hs
def rIx (K : PySem.W.Frag) : R2 := fun x y H Q => BP K x y H Q \/ C4 K x y H Q \/ C1 x y H Q
theorem Bp : IxR X (rIx X.K) := ix_list.or (ix_tup.or zi)

theorem mw (lo hi : Option Int) (n : Nat) : (sliceBounds lo hi none n).1 = ((HT.sIx n 0 lo : Nat) : Int) /\ (sliceBounds lo hi none n).2.1 = ((HT.sIx n n hi : Nat) : Int) /\ (sliceBounds lo hi none n).2.2 = 1 := by
  refine ⟨?_, ?_, rfl⟩
  . cases lo with
    | none => simp [sliceBounds, HT.sIx]
    | some i =>
      simp only [sliceBounds, HT.sIx, Option.getD_none, show (1 : Int) > 0 by decide, if_true]
      by_cases h : i < 0
      . simp only [h, if_true] <;> omega
      . simp only [h, if_false] <;> omega
  . cases hi with
    | none => simp [sliceBounds, HT.sIx]
    | some i =>
      simp only [sliceBounds, HT.sIx, Option.getD_none, show (1 : Int) > 0 by decide, if_true]
      by_cases h : i < 0
      . simp only [h, if_true] <;> omega
      . simp only [h, if_false] <;> omega
theorem lA (its : List Value) (lo hi : Option Int) : slicePick its.toArray lo hi none = ((its.drop (HT.sIx its.length 0 lo)).take (HT.sIx its.length its.length hi - HT.sIx its.length 0 lo)).toArray := by
  obtain ⟨h1, h2, h3⟩ := mw lo hi its.toArray.size
  unfold slicePick
  rw [h1, h2, h3]
  simp only [sliceRange_one, pick_run, List.size_toArray] <;> rfl
def C3 (K : PySem.W.Frag) : V -> Option Int -> Option Int -> Hp -> VK -> Prop := fun x lo hi H Q => ∃ a xs, x = .ref a /\ SqL K H a xs /\ ∀ p, H p = none -> Q (.ref p) (upd H p (.lst (wm xs lo hi)))
theorem xB : SlR X (C3 X.K) := by
  intro pins s σ H x v vl vu lo hi sl Q I rx hs pl pu h
  obtain ⟨a, xs, rfl, hx, q⟩ := h
  cases rx
  obtain ⟨its, r, ht, hz⟩ := I.list hx
  have hlen := r.length
  refine ⟨"list", _, slot_list_getitem.lookup, ht.isList.typeIs, ?_⟩
  refine wpAny_getItem_list_slice ht.isList hs pl pu .none (by simp) ?_ (by rw [List.size_toArray] <;> omega)
  rw [lA, <- hlen]
  refine ⟨.ref s.heap.objs.size, _, I.laid (t' := s.toks) (o := .lst (wm xs lo hi)) (fun b ob q => Heap.get?_push_of_some _ q) (Nat.le_refl _) ?_, rfl, q _ (I.hok.fresh (Nat.le_refl _))⟩
  exact ⟨Nat.le_trans (jM xs lo hi) hz, _, 0, (r.drop (HT.sIx xs.length 0 lo)).take (HT.sIx xs.length xs.length hi - HT.sIx xs.length 0 lo), Heap.get?_push_size _ rfl⟩

def tyV (K : PySem.W.Frag) (T : String) (x : V) (H : Hp) : Prop := match x with
  | .str _ => T = "str"
  | .int _ => T = "int"
  | .ref p => (T = "list" /\ ∃ xs, SqL K H p xs) \/ (T = "tuple" /\ ∃ o, K.lookup p = some o /\ o.cls = .type "tuple" /\ o.dict = none) \/
      (T = "dict" /\ ((∃ kvs, H p = some (.dK kvs)) \/ ∃ kvs, H p = some (.dT kvs))) \/ (T = "set" /\ ∃ S n, H p = some (.set S n))
  | _ => False
theorem AN {pins : List (Addr × Obj)} {σ : St} {H : Hp} {s : Shared} {T : String} {x : V} {v : Value} (I : Inv X pins σ H s) (r : RelV x v) (ty : tyV X.K T x H) :
    s.TypeIs v T /\ ∀ a, v = .ref a -> ∃ ob, s.heap.get? a = some ob /\ ob.dict = none := by
  cases x with
  | str z =>
    obtain ⟨t, rfl⟩ := r
    cases (show T = "str" from ty)
    exact ⟨typeIs_str s z t, fun _ e => nomatch e⟩
  | int i =>
    obtain ⟨t, rfl⟩ := r
    cases (show T = "int" from ty)
    exact ⟨typeIs_int s i t, fun _ e => nomatch e⟩
  | ref p =>
    cases r
    rcases ty with ⟨rfl, xs, hq⟩ | ⟨rfl, o, hk, hc, hd⟩ | ⟨rfl, hk⟩ | ⟨rfl, S, n, hk⟩
    . obtain ⟨its, _, pl, _⟩ := I.list hq
      refine ⟨pl.isList.typeIs, fun a e => ?_⟩
      cases e
      obtain ⟨o, n, e, c, hd, _⟩ := pl
      exact ⟨o, e, hd⟩
    . refine ⟨⟨o, I.kIn p o hk, hc⟩, fun a e => ?_⟩
      cases e
      exact ⟨o, I.kIn _ o hk, hd⟩
    . have z : ∃ o, s.heap.get? p = some o /\ o.ExactDict := by
        rcases hk with ⟨kvs, hk⟩ | ⟨kvs, hk⟩
        . obtain ⟨_, _, _, _, o, _, _, e, ex, _⟩ := I.hok p _ hk
          exact ⟨o, e, ex⟩
        . obtain ⟨_, _, _, _, o, _, _, e, ex, _⟩ := I.hok p _ hk
          exact ⟨o, e, ex⟩
      obtain ⟨o, e, ex⟩ := z
      refine ⟨⟨o, e, ex.1⟩, fun a e2 => ?_⟩
      cases e2
      exact ⟨o, e, ex.2.1⟩
    . obtain ⟨o, _, _, _, e, ex, _⟩ := I.hok p _ hk
      refine ⟨⟨o, e, ex.1⟩, fun a e2 => ?_⟩
      cases e2
      exact ⟨o, e, ex.2.1⟩
  | _ => exact False.elim ty
def tBM (K : PySem.W.Frag) (T : String) (r : V -> List V -> Hp -> VK -> Prop) (to : TE) (t : TA) : TE := fun σ H Q => to σ H fun x H1 => tyV K T x H1 /\ t σ H1 fun xs H2 => r x xs H2 Q
variable {o e : Expr} {es : List Expr} {to : TE} {t : TA} {name : Str} {apos cpos : Pos} {T id : String} {r : V -> List V -> Hp -> VK -> Prop}
theorem vj (pa : PlainAttrs T) (slot : Slot T name id) (hty : typeOf (.builtin id) = pure (.type "method_descriptor")) (hm : MtR X id r) (ho : PE X o to) (ha : PA X (e :: es) t)
    (hbase : attributeBase o name X.env (eval o X.env) = eval o X.env := by rfl)
    (hfew : ((backTo cpos (starEach (e :: es) X.env)).all (fun x => !x.1) && (backToKw cpos (keywordEach [] X.env)).all (fun x => x.1.isSome)
      && decide ((e :: es).length + ([] : List Keyword).length + (if ([] : List Keyword).isEmpty then 0 else 1) < 30)) = true := by rfl)
    (hline : (apos.endLine == cpos.line) = true := by rfl) (hs : starEach (e :: es) X.env = (false, eval e X.env) :: starEach es X.env := by rfl) (hplain : (backTo cpos (starEach es X.env)).any (·.1) = false := by rfl) :
    PE X (.Call (.Attribute o name apos) (e :: es) [] cpos) (tBM X.K T r to t) := by
  intro pins s σ H Q I h
  refine wpAny_Call_method_late hbase hfew hline rfl (thn (ho pins s σ H _ I h) fun v s1 ⟨x, H1, I1, r1, ty, q1⟩ => ?_)
  obtain ⟨h1, h2⟩ := AN I1 r1 ty
  refine ⟨T, id, pa, slot, hty, h1, h2, ?_⟩
  have hA := ha cpos pins s1 σ H1 _ I1 q1
  rw [hs] at hA ⊢
  refine Calls.callWith_builtin (by show (false || (backTo cpos (starEach es X.env)).any (·.1)) = false; rw [hplain] <;> rfl) (Calls.evalArgs_plain ?_)
  exact thn hA fun us s2 ⟨vs, H2, I2, r2, q2⟩ => hm pins s2 σ H2 x vs v us Q I2 r1 r2 q2
/- xs.append(e), list.index on a module's tuple .. are MtR facts of 06m -/
end
end L2

namespace L2
open PySem PySem.Spec PyProof.Rows

def MtM (X : Cx) (id : String) (r : V -> List V -> Hp -> VK -> Prop) : Prop :=
  ∀ (pins : List (Addr × Obj)) (s : Shared) (σ : St) (H : Hp) (x : V) (xs : List V) (v : Value) (us : List Value) (Q : VK), Inv X pins σ H s -> RelV x v -> Vals xs us -> r x xs H Q ->
    wpAny (model X.prog X.w) X.A (call (.builtin id) (v :: us)) (EP X pins σ Q) X.xe s

theorem Vals.one : ∀ {x : V} {us : List Value}, Vals [x] us -> ∃ u, us = [u] /\ RelV x u
  | _, _, .cons r .nil => ⟨_, rfl, r⟩
theorem Vals.two : ∀ {x y : V} {us : List Value}, Vals [x, y] us -> ∃ u v, us = [u, v] /\ RelV x u /\ RelV y v
  | _, _, _, .cons r (.cons q .nil) => ⟨_, _, rfl, r, q⟩
theorem Vals.rep {xs : List V} {us : List Value} (h : Vals xs us) : ∀ k : Nat, Vals (List.replicate k xs).flatten (List.replicate k us).flatten
  | 0 => .nil
  | k + 1 => by
    rw [List.replicate_succ, List.replicate_succ, List.flatten_cons, List.flatten_cons]
    exact Vals.append h (Vals.rep h k)
theorem gK (its : List Value) : ∀ (k : Nat) (acc : List Value),
    List.foldl (fun x1 x2 => x1 ++ x2) acc.toArray (List.replicate k its.toArray) = (acc ++ (List.replicate k its).flatten).toArray
  | 0, acc => by simp
  | k + 1, acc => by
    have e : acc.toArray ++ its.toArray = (acc ++ its).toArray := by simp
    have e2 : (acc ++ its) ++ (List.replicate k its).flatten = acc ++ (List.replicate (k + 1) its).flatten := by
      rw [List.replicate_succ, List.flatten_cons, List.append_assoc]
    rw [<- e2, <- gK its k (acc ++ its), <- e, List.replicate_succ, List.foldl_cons]

section
variable {X : Cx} {pins : List (Addr × Obj)} {σ : St} {H : Hp} {s : Shared} {l b : Addr} {xs ys zs : List V}

theorem Inv.lset {its its' : List Value} {n : Nat} {f : Array Value -> Array Value} {t' : Nat} (I : Inv X pins σ H s) (hH : H l = some (.lst xs))
    (e : s.heap.get? l = some { cls := .type "list", data := .seq its.toArray n }) (hf : f its.toArray = its'.toArray) (hv : Vals ys its') (hz : ys.length <= sizeLine) :
    Inv X pins σ (upd H l (.lst ys)) { s with heap := s.heap.update l (Obj.mapSeq f), toks := t' } := by
  have q := PySem.IsL.update e f
  rw [hf] at q
  refine I.write (x := l) (e := l) (by rw [hH]; exact trivial) (.inl rfl) (fun b' u hb hu => (Heap.get?_update_other s.heap (Obj.mapSeq f) (Ne.symm hb)).trans hu) ⟨_, q⟩ ?_
  exact ⟨hz, its', _, hv, q⟩
theorem Inv.lnew {its : List Value} {t' : Nat} (I : Inv X pins σ H s) (hv : Vals ys its) (hz : ys.length <= sizeLine) :
    Inv X pins σ (upd H s.heap.objs.size (.lst ys)) { s with heap := s.heap.push { cls := .type "list", data := .seq its.toArray }, toks := t' } :=
  I.laid (fun _ _ q => Heap.get?_push_of_some _ q) (Nat.le_refl _) ⟨hz, its, 0, hv, Heap.get?_push_size _ rfl⟩
theorem Inv.fresh (I : Inv X pins σ H s) : H s.heap.objs.size = none := I.hok.fresh (Nat.le_refl _)
theorem Inv.lstM (I : Inv X pins σ H s) (hH : H l = some (.lst xs)) : xs.length <= sizeLine /\ ∃ (its : List Value) (n : Nat), Vals xs its /\ xs.length = its.length /\ s.heap.get? l = some { cls := .type "list", data := .seq its.toArray n } := by
  obtain ⟨z, its, n, r, e⟩ := I.hok l _ hH
  exact ⟨z, its, n, r, r.length, e⟩

theorem oH {n : Nat} (h : n <= sizeLine) : Builtin.List.listTooLong n = false := by
  unfold Builtin.List.listTooLong
  exact decide_eq_false (by omega)
end

section
variable {X : Cx}

def xM : V -> List V -> Hp -> VK -> Prop := fun x vs H Q => ∃ l xs y, x = .ref l /\ vs = [y] /\ H l = some (.lst xs) /\ xs.length < sizeLine /\ Q .non (upd H l (.lst (xs ++ [y])))
theorem gM : MtM X "list.append" xM := by
  intro pins s σ H x vs v us Q I rx rv h
  obtain ⟨l, xs, y, rfl, rfl, hH, hz, q⟩ := h
  cases rx
  obtain ⟨u, rfl, ru⟩ := rv.one
  obtain ⟨z, its, n, r, hl, e⟩ := I.lstM hH
  refine call_meets F.slot_list_append ⟨_, e, rfl⟩ F.entry_list_append (F.args_list_append_2 _ _) (PySem.list_append l its.toArray n u (by rw [List.size_toArray]; omega)) ⟨e, ?_⟩
  refine ⟨.non, _, I.lset (its' := its ++ [u]) hH e (by simp) (r.append (.cons ru .nil)) ?_, rfl, q⟩
  rw [List.length_append, List.length_singleton]
  omega

def xf : V -> List V -> Hp -> VK -> Prop := fun x vs H Q => ∃ l b xs zs, x = .ref l /\ vs = [.ref b] /\ H l = some (.lst xs) /\ H b = some (.lst zs) /\ xs.length + zs.length <= sizeLine /\ Q .non (upd H l (.lst (xs ++ zs)))
theorem rY : MtM X "list.extend" xf := by
  intro pins s σ H x vs v us Q I rx rv h
  obtain ⟨l, b, xs, zs, rfl, rfl, hH, hB, hz, q⟩ := h
  cases rx
  obtain ⟨u, rfl, ru⟩ := rv.one
  cases ru
  obtain ⟨z, its, n, r, hl, e⟩ := I.lstM hH
  obtain ⟨z2, its2, n2, r2, hl2, e2⟩ := I.lstM hB
  have hsz : its.toArray.size + its2.toArray.size <= sizeLine := by rw [List.size_toArray, List.size_toArray]; omega
  have hlong : ¬ (!its.toArray.isEmpty && Builtin.List.listTooLong (its.toArray.size + its2.toArray.size)) = true := by
    rw [oH hsz, Bool.and_false]
    exact Bool.false_ne_true
  refine call_meets F.slot_list_extend ⟨_, e, rfl⟩ F.entry_list_extend (F.args_list_extend_2 _ _)
    (AutoSeq1.list_extend_list_list_0 l its.toArray n b its2.toArray n2 hlong (by rw [List.size_toArray]; omega) (by omega)) ⟨e, e2, ?_⟩
  refine ⟨.non, _, I.lset (its' := its ++ its2) hH e (by simp) (r.append r2) ?_, rfl, q⟩
  rw [List.length_append]
  omega

def Dg : R2 := fun x y H Q => ∃ l b xs zs, x = .ref l /\ y = .ref b /\ H l = some (.lst xs) /\ H b = some (.lst zs) /\ xs.length + zs.length <= sizeLine /\ ∀ p, H p = none -> Q (.ref p) (upd H p (.lst (xs ++ zs)))
theorem op_cat : OpR X (binaryOp .Add) Dg := by
  intro pins s σ H x y v u Q I rx ry h
  obtain ⟨l, b, xs, zs, rfl, rfl, hH, hB, hz, q⟩ := h
  cases rx
  cases ry
  obtain ⟨z, its, n, r, hl, e⟩ := I.lstM hH
  obtain ⟨z2, its2, n2, r2, hl2, e2⟩ := I.lstM hB
  refine PySem.P.add_list e e2 ?_ (by rw [List.size_toArray, List.size_toArray]; omega)
  have ea : its.toArray ++ its2.toArray = (its ++ its2).toArray := by simp
  rw [ea]
  exact ⟨.ref _, _, I.lnew (t' := s.toks) (r.append r2) (by rw [List.length_append]; omega), rfl, q _ I.fresh⟩
def Di : R2 := fun x y H Q => ∃ l k xs, x = .ref l /\ y = .int k /\ H l = some (.lst xs) /\ -(2 ^ 63) <= k /\ k < 2 ^ 63 /\ xs.length * k.toNat <= sizeLine /\
  ∀ p, H p = none -> Q (.ref p) (upd H p (.lst (List.replicate k.toNat xs).flatten))
theorem lM {α : Type} (xs : List α) (k : Nat) : (List.replicate k xs).flatten.length = k * xs.length := by
  induction k with
  | zero => simp
  | succ k ih => rw [List.replicate_succ, List.flatten_cons, List.length_append, ih, Nat.succ_mul, Nat.add_comm]
theorem Al : OpR X (binaryOp .Mult) Di := by
  intro pins s σ H x y v u Q I rx ry h
  obtain ⟨l, k, xs, rfl, rfl, hH, h1, h2, hz, q⟩ := h
  cases rx
  obtain ⟨t, rfl⟩ := ry
  obtain ⟨z, its, n, r, hl, e⟩ := I.lstM hH
  have hlen : its.toArray.size * k.toNat <= sizeLine := by rw [List.size_toArray, <- hl]; exact hz
  have hcap : ¬ its.toArray.size * k.toNat > (2 ^ 63 - 1) / 8 := by
    have : (sizeLine : Nat) <= (2 ^ 63 - 1) / 8 := by decide
    omega
  have hfit : ¬ (!Builtin.List.listFitsIndex k) = true := by
    rw [fitsIndex_both h1 h2]
    exact Bool.false_ne_true
  have hlong : ¬ Builtin.List.listTooLong (its.toArray.size * k.toNat) = true := by
    rw [oH hlen]
    exact Bool.false_ne_true
  have hnew : List.foldl (fun x1 x2 => x1 ++ x2) #[] (List.replicate (if its.toArray.isEmpty = true then 0 else k.toNat) its.toArray) = (List.replicate k.toNat its).flatten.toArray := by
    have f0 : ∀ m : Nat, List.foldl (fun x1 x2 => x1 ++ x2) #[] (List.replicate m its.toArray) = (List.replicate m its).flatten.toArray := fun m => by
      have := gK its m []
      rw [List.nil_append] at this
      exact this
    rw [f0]
    cases its with
    | nil => simp
    | cons a r' => rw [if_neg (by simp)]
  refine wpAny_binaryOp_repeat_ref (T := "list") (U := "int") (by decide) ⟨_, e, rfl⟩ (fun s' => typeIs_int s' k t) noFill_list_mul F.fills_int_mul F.slot_int_rmul repeat_list F.slot_int_index.lookup
    (call_meets F.slot_int_rmul (typeIs_int s k t) F.entry_int_rmul (F.args_int_rmul_2 _ _) (int___rmul___int_list k t l its.toArray n)
      ⟨e, rfl, ⟨_, e, rfl⟩, call_meets F.slot_list_mul ⟨_, e, rfl⟩ F.entry_list_mul (F.args_list_mul_2 _ _) (AutoListH.list___mul___list_int_3 l its.toArray n k t hfit hcap hlong) ⟨e, ?_⟩⟩)
  rw [hnew]
  exact ⟨.ref _, _, I.lnew (t' := s.toks) (r.rep k.toNat) (by rw [lM, Nat.mul_comm]; exact hz), rfl, q _ I.fresh⟩

end

section
variable {prog : Program} {w : World} {A : Around} {E : Value -> Shared -> Prop} {s : Shared}
end

section
variable {X : Cx}
end
end L2

namespace Att
open PySem PySem.W PySem.Calls PyProof.Rows

theorem ja {P : Params} {h : Heap} : ∀ (ns : List Int) (vs : List Value), WellAll P h vs (ns.map WData.int) -> IntsAre vs ns := by
  intro ns
  induction ns with
  | nil =>
    intro vs w
    rw [List.map_nil] at w
    cases w
    exact .nil
  | cons n ns ih =>
    intro vs w
    rw [List.map_cons] at w
    cases w with
    | cons a b =>
      cases a
      exact .cons _ _ (ih _ b)

theorem qY {l : OpenLaw} {n : Nat} (hn : l.most = some n) {P : Params} {h : Heap} {args : List WData} {vals : List Value}
    (hpre : l.row.toRowW.claim.pre args = true) (hwl : WellAll P h vals args) :
    ∃ a vs ns, vals = [Value.ref a] /\ args = [WData.list (ns.map WData.int)] /\ h.get? a = some { cls := .type "list", data := .seq vs.toArray } /\ IntsAre vs ns /\ ns.length <= n := by
  have hsh : WShape.hasAll [] args [.list .int] = true := (pre_splitW hpre).1
  have hc : l.pre.holds [] { args := args } = true := (pre_splitW hpre).2
  obtain ⟨d, r, rfl, h1, h2⟩ := hasAllW_cons hsh
  obtain rfl := hasAllW_nil h2
  obtain ⟨xs, rfl, h3⟩ := hasW_list h1
  obtain ⟨ns, rfl⟩ := items_int h3
  have hlen : ns.length <= n := by
    unfold OpenLaw.pre at hc
    have h4 : (WTm.not (.lt (.lit (.int (n : Int))) (.len (.arg 0)))).holds [] { args := [.list (ns.map .int)] } = true := by
      have h4 := (holds_andW hc).1
      rw [hn] at h4
      exact h4
    have h5 := condW_of h4 (w_not (w_lt w_lit (w_len_list (w_arg rfl))))
    rw [List.length_map] at h5
    refine Nat.le_of_not_lt fun q => ?_
    have q' : (n : Int) < ((ns.length : Nat) : Int) := by omega
    first
      | (rw [decide_eq_true q'] at h5; exact absurd h5 (by decide))
      | (simp at h5; omega)
  cases hwl with
  | cons w1 w2 =>
    cases w2
    cases w1 with
    | list ho hall => exact ⟨_, _, ns, rfl, rfl, ho, ja ns _ hall, hlen⟩

theorem sJ (l : OpenLaw) (args : List WData) : l.row.toRowW.claim.post args (.bool true) args = true :=
  postW_of (r := l.row.toRowW) (X := (true == true))
    (show WShape.has [] (.bool true) .bool = true by first | rfl | decide | simp [WShape.has, WShape.arms, WShape.armsAll])
    (show (WTm.eq .res (.lit (.bool true))).value [] { args := args, res := some (.bool true), after := args } = some (.bool (true == true)) from w_eq_bool (w_res rfl) w_lit) rfl

theorem attach_call {l : OpenLaw} {n : Nat} {q : Program} {loose : List Str} {XP : (Str -> Option Value) -> Heap -> Prop} {YP : World -> Heap -> Prop} {d : DefRec}
    (hn : l.most = some n) (hdf : d.params.defaults = [])
    (call : ∀ (w : World) (s₀ s₁ : Shared) (mg mb : Str -> Option Value) (fa : Addr) (o : Obj) (pm cd doc : Value) (a : Addr) (vs : List Value) (ns : List Int),
      Ground q loose [] XP w s₀ mg mb s₁.heap -> YP w s₁.heap ->
      s₁.heap.get? fa = some o -> o.data = .func (docDef d.name d.params d.body d.scope pm cd doc) -> s₁.heap.CodeRec cd d.name -> mg d.name = some (.ref fa) ->
      s₁.heap.get? a = some { cls := .type "list", data := .seq vs.toArray } -> IntsAre vs ns -> ns.length <= n -> s₁.gens = #[] ->
      codeAny (model l.prog w) callerA (.call (.ref fa) ⟨[.ref a], []⟩) (fun r s' => r = .ok (.ret (.bool true)) /\ OldK s₁.heap s'.heap /\ s'.os = s₁.os /\ AllBare s'.gens) s₁) :
    WalkO q loose XP YP l.row.toRowW d [] (fun f vs => PySem.call f vs) := by
  intro w s₀ s₁ mg mb G Y fa o pm cd doc dV kV ho hd hcd hD hmg hg args vals as hpre hlay hrd hwl hlo
  obtain rfl : dV = .none := Dflts.none hD hdf
  obtain rfl : kV = .none := Dflts.noKw hD
  obtain ⟨a, vs, ns, rfl, rfl, hobj, hints, hlen⟩ := qY hn hpre hwl
  refine enter_call (codeAny_mono (call w s₀ s₁ mg mb fa o pm cd doc a vs ns G Y ho (fd_plain hd) hcd hmg hobj hints hlen hg) fun r s' hq => ?_)
  obtain ⟨rfl, h2, h3, h4⟩ := hq
  exact ⟨.inl ⟨.bool true, .bool true, [], rfl, fun _ => rfl, .bool true, sJ l _, fun _ => ⟨List.Pairwise.nil, fun _ hm => (nomatch hm)⟩⟩, h2, h3, h4⟩

section
variable {prog : Program} {w : World} {A : Around} {E : Value -> Shared -> Prop} {s : Shared} {K : Frag}

def Df (h : Heap) (L d : Addr) : List (Addr × Obj) := (List.range h.objs.size).filterMap fun a => if a = L \/ a = d then none else (h.get? a).map fun o => (a, o)
end
end Att

namespace L2
open PySem PySem.Spec PyProof.Rows

theorem mr : ∀ {vs : List Value} {ns : List Int}, IntsAre vs ns -> Vals (ns.map V.int) vs
  | _, _, .nil => .nil
  | _, _, .cons n t h => .cons ⟨t, rfl⟩ (mr h)

def Ca (H : Hp) : Prop := ∀ b, H b = none \/ ∃ o xs, H b = some (.frz o (.lst xs))

theorem uv {P : Program} {w : World} {K : PySem.W.Frag} {mg mb : Str -> Option Value} {CX : CXT} {k : Nat} {fa a : Addr} {fd : FuncData} {x : Str} {sp : Sp} {s₁ : Shared} {vs : List Value} {ns : List Int}
    (KX : K.In s₁.heap) (hns : s₁.heap.Ns mainGlobals mg) (hb : s₁.heap.Ns builtinsNs mb) (hbb : ∀ x : Str, x ≠ "__name__" -> mb x = bootBuiltins x) (hlim : s₁.heap.NoLimit) (hg : s₁.gens = #[])
    (ha : s₁.heap.get? a = some { cls := .type "list", data := .seq vs.toArray }) (hi : IntsAre vs ns) (hl : ns.length <= sizeLine) (hr : Room k callerA)
    (F : ∀ base : Heap, K.In base -> base.Ns mainGlobals mg -> FnOk P w K mg base CX k fa fd [x] sp) (hbind : ∀ (s : Shared) (u : Value), BindsTo s fd ⟨[u], []⟩ [(x, u)])
    (hsp : ∀ H : Hp, Ca H -> SqL K H a (ns.map V.int) -> sp [.ref a] H (fun v _ => v = .bl true) fun _ _ _ => False)
    (hCX : ∀ H e s', CX [] H s₁ (fun _ _ _ => False) e s' -> False) :
    codeAny (model P w) callerA (.call (.ref fa) ⟨[.ref a], []⟩) (fun r s' => r = .ok (.ret (.bool true)) /\ OldK s₁.heap s'.heap /\ s'.os = s₁.os /\ AllBare s'.gens) s₁ := by
  have rv := mr hi
  have lenV := hi.length
  -- from an abstract heap in which nothing but the script may be tracked
  have core : ∀ H : Hp, Ca H -> SqL K H a (ns.map V.int) -> HOk P w H s₁.heap -> (∀ b, H b ≠ none -> b = a) -> (H a ≠ none -> K.lookup a = none) ->
      codeAny (model P w) callerA (.call (.ref fa) ⟨[.ref a], []⟩) (fun r s' => r = .ok (.ret (.bool true)) /\ OldK s₁.heap s'.heap /\ s'.os = s₁.os /\ AllBare s'.gens) s₁ := by
    intro H hO hS hok hA hK
    have base_of : ∀ {b : Addr} {o : Obj}, s₁.heap.get? b = some o -> H b = none -> (tO s₁.heap H).get? b = some o := fun e n => vw e n
    have noA : ∀ {b : Addr} {o : Obj} {es : Array DictEntry} {ep : Nat}, s₁.heap.get? b = some o -> o.data = .dict es ep -> H b = none := fun {b o es ep} e d => by
      cases q : H b with
      | none => rfl
      | some u =>
        have e' : b = a := hA b (by rw [q]; simp)
        subst e'
        rw [ha] at e; cases e
        have d' : Data.seq vs.toArray _ = Data.dict es ep := d
        cases d'
    have nsK : ∀ {b : Addr} {m : Str -> Option Value}, s₁.heap.Ns b m -> (tO s₁.heap H).Ns b m := fun {b m} ⟨o, es, ep, e, d, r⟩ => ⟨o, es, ep, base_of e (noA e d), d, r⟩
    have hKb : K.In (tO s₁.heap H) := fun b o e => base_of (KX b o e) (by
      cases q : H b with
      | none => rfl
      | some u =>
        have e' : b = a := hA b (by rw [q]; simp)
        subst e'
        rw [hK (by rw [q]; simp)] at e; cases e)
    have hM : Mod K mg (tO s₁.heap H) := ⟨hKb, nsK hns, ⟨mb, nsK hb, hbb⟩, let ⟨mc, h1, h2⟩ := hlim; ⟨mc, nsK h1, h2⟩⟩
    have e0 : Env0 P w K mg (tO s₁.heap H) callerA [] s₁ H := ⟨rfl, hM, fun b o e => yM e, Nat.le_of_eq (qT _ _), trivial, fun b hb => absurd (show b ∈ ([] : List Addr) from hb) (by simp), hok, .of_eq hg⟩
    refine codeAny_mono ((F _ hKb (nsK hns)).run callerA [] s₁ H ⟨[.ref a], []⟩ [.ref a] [.ref a] _ _ hr e0 (hbind s₁ (.ref a)) (.cons rfl .nil) (hsp H hO hS)) fun r s' h => ?_
    cases r with
    | error e => exact (hCX H e s' h).elim
    | ok fl =>
      cases fl with
      | next => exact False.elim h
      | brk => exact False.elim h
      | cont => exact False.elim h
      | ret u =>
        obtain ⟨v, H', os, bare, un, hok', r', q⟩ := h
        have q' : v = .bl true := q
        subst q'
        obtain rfl : u = Value.bool true := r'
        refine ⟨rfl, OldK.of_keep fun b o e => ?_, os, bare⟩
        cases q : H b with
        | none => exact un.keep b o e q (by intro z; exact absurd (show b ∈ ([] : List Addr) from z) (by simp)) (by simp)
        | some u =>
          rcases hO b with z | ⟨ob, xs, z⟩
          . rw [q] at z; cases z
          . have z2 := un.frzs b ob _ z
            obtain ⟨e1, _⟩ := hok b _ z
            obtain ⟨e2, _⟩ := hok' b _ z2
            rw [e] at e1; cases e1
            exact e2
  cases hk : K.lookup a with
  | some o =>
    -- the script is one of the module's own objects
    have e := KX a o hk
    rw [ha] at e
    cases e
    refine core (fun _ => none) (fun _ => .inl rfl) (.inr ⟨_, vs.toArray, _, hk, rfl, rfl, rfl, by rw [List.size_toArray, lenV]; exact hl, by simpa using rv⟩) (fun b u z => by have z' : (none : Option HO) = some u := z; cases z') (fun b z => absurd rfl z) fun z => absurd rfl z
  | none =>
    refine core (fun b => if b = a then some (.frz { cls := .type "list", data := .seq vs.toArray } (.lst (ns.map V.int))) else none) (fun b => ?_) (.inl (.inr ⟨{ cls := .type "list", data := .seq vs.toArray }, if_pos rfl⟩)) (fun b u z => ?_) (fun b z => ?_) fun _ => hk
    . by_cases hb : b = a
      . exact .inr ⟨_, _, if_pos hb⟩
      . exact .inl (if_neg hb)
    . by_cases hb : b = a
      . have z' := (if_pos hb).symm.trans z
        cases z'
        subst hb
        exact ⟨ha, by rw [List.length_map]; exact hl, vs, _, rv, ha⟩
      . have z' := (if_neg hb).symm.trans z
        cases z'
    . by_cases hb : b = a
      . exact hb
      . exact absurd (if_neg hb) z
end L2

namespace L2
open PySem PySem.Spec PyProof.Rows

abbrev KOf {K : PySem.W.Frag} {h : Heap} (_ : K.In h) : PySem.W.Frag := K

theorem qL {l : PySem.W.OpenLaw} {n k : Nat} {q : Program} {loose : List Str} {XP : (Str -> Option Value) -> Heap -> Prop} {YP : World -> Heap -> Prop} {d : DefRec} {K : Params -> PySem.W.Frag} {CX : World -> CXT} {sp : World -> Sp} {x : Str}
    (hn : l.most = some n) (hn2 : n <= sizeLine) (hdf : d.params.defaults = []) (hr : Room k callerA)
    (hY : ∀ (w : World) (h : Heap), YP w h -> (K w.params).In h)
    (F : ∀ (w : World) (mg : Str -> Option Value) (fa : Addr) (h : Heap), (K w.params).In h -> h.Ns mainGlobals mg -> mg d.name = some (.ref fa) ->
      ∃ fd : FuncData, (∀ (s : Shared) (u : Value), BindsTo s fd ⟨[u], []⟩ [(x, u)]) /\
        ∀ base : Heap, (K w.params).In base -> base.Ns mainGlobals mg -> FnOk l.prog w (K w.params) mg base (CX w) k fa fd [x] (sp w))
    (hsp : ∀ (w : World) (H : Hp) (a : Addr) (ns : List Int), ns.length <= n -> Ca H -> SqL (K w.params) H a (ns.map V.int) -> sp w [.ref a] H (fun v _ => v = .bl true) fun _ _ _ => False)
    (hCX : ∀ (w : World) (H : Hp) (s : Shared) (e : Value) (s' : Shared), CX w [] H s (fun _ _ _ => False) e s' -> False) :
    PySem.W.WalkO q loose XP YP l.row.toRowW d [] (fun f vs => PySem.call f vs) := by
  refine Att.attach_call hn hdf fun w s₀ s₁ mg mb fa o pm cd doc a vs ns G Y ho hd hcd hmg hobj hints hlen hg => ?_
  have KX := hY w _ Y
  obtain ⟨fd, hb, hF⟩ := F w mg fa _ KX G.T.g hmg
  exact uv KX G.T.g G.T.b G.T.builtins G.T.nolimit hg hobj hints (Nat.le_trans hlen hn2) hr hF hb (fun H hO hS => hsp w H a ns hlen hO hS) fun H e s' => hCX w H s₁ e s'
end L2

/- THE LAST THEOREM (shape; LID, My.* are yours):
   My.Adr: a structure of the addresses that your layer names (classes, functions); My.Txt K t: a structure (Prop) of the equations over K;
   My.txt_mk : {K} {implicit addresses ..} (e1 : nsIn K mainGlobals "law" = some (some (.ref f))) (e2 : K.lookup f = some ⟨oc, od, .func (fnOf "law" "law" params body scope dV kV doc pm an cdv ct), sl⟩) (e3 : codeIn K cdv "law" = true) .. : ∃ t, My.Txt K t

set_option maxRecDepth 100000 in
set_option maxHeartbeats 0 in
theorem PySem.Challenge.cw_LID_holds : PySem.Challenge.rw_LID.Holds := by
  w_on; o_law; k_head; (case hw => w_witness2)
  k_fill
  refine L2.qL (l := PySem.Challenge.rw_LID) (n := 63) (k := 40) (x := "script") (CX := fun w => ..) (sp := fun _ => My.sp_law) rfl (by decide) rfl ⟨rfl, by decide, by decide⟩ (fun w h Y => PySem.W.kIn_of Y) ?F ?S ?C
  case F =>
    intro w mg fa h KX G hmg
    have T : ∃ t, My.Txt (L2.KOf KX) t := by
      dsimp only [L2.KOf]                          -- K must stand as «<heap const> w.params» for k_is
      refine' My.txt_mk ?e1 ?e2 ?e3 ..
      (case e1 => PySem.W.k_is)                    -- in the order: a name -> its address -> its object -> its parts
      (case e2 => PySem.W.k_is)
      ..
    obtain ⟨t, T⟩ := T
    have e0 := hmg.symm.trans (PySem.W.mg_of KX G T.law)
    cases e0                                       -- fa is the law's own address
    exact ⟨_, fun s u => .of_eq rfl, fun base kb nb => My.law_fn T kb nb⟩     -- if «.of_eq rfl» comes too early: refine' ⟨_, ?b, fun base kb nb => My.law_fn T kb nb⟩; exact fun s u => .of_eq rfl
  case S => exact fun w H a ns hl hO hS => ..
  case C => exact ..
(the tactic k_is has no namespace: write k_is) -/

namespace L2
open PySem PySem.Spec PyProof.Rows

def ia (s : Stmt) : Arguments := match s with
  | .FunctionDef _ a _ _ _ _ _ _ _ _ => a
  | _ => { posonlyargs := [], args := [], vararg := none, kwonlyargs := [], kw_defaults := [], kwarg := none, defaults := [] }
def fu (s : Stmt) : List Stmt := match s with
  | .FunctionDef _ _ b _ _ _ _ _ _ _ => b
  | _ => []
def aI (s : Stmt) : Scope := match s with
  | .FunctionDef _ _ _ _ _ _ sc _ _ _ => sc
  | _ => { kind := .function, names := [], isGenerator := false, isCoroutine := false }

structure Fun (K : PySem.W.Frag) (x qual : Str) (st : Stmt) (f : Addr) (fd : FuncData) : Prop where
  ex : ∃ (oc : Value) (od : Option Addr) (kV doc pm : Value) (an : Option Addr) (cdv ct : Value) (osl : Array (Option Value)),
    fd = PySem.W.fnOf x qual (ia st) (fu st) (aI st) .none kV doc pm an cdv ct /\ K.lookup f = some ⟨oc, od, .func fd, osl⟩ /\ PySem.W.codeIn K cdv qual = true
  kp : PySem.W.keepIn K (.ref f) = true
section
variable {P : Program} {w : World} {K : PySem.W.Frag} {mg : Str -> Option Value} {base : Heap}
theorem Fun.binds {x qual : Str} {st : Stmt} {f : Addr} {fd : FuncData} {ps : List Str} (F : Fun K x qual st f fd)
    (h : ∀ (kV doc pm : Value) (an : Option Addr) (cdv ct : Value) (us : List Value), us.length = ps.length -> bindArgs (PySem.W.fnOf x qual (ia st) (fu st) (aI st) .none kV doc pm an cdv ct) ⟨us, []⟩ = pure (ps.zip us)) : Binds K fd ps [] := by
  obtain ⟨oc, od, kV, doc, pm, an, cdv, ct, osl, rfl, lk, hcd⟩ := F.ex
  exact .all (h kV doc pm an cdv ct)
theorem AD {x qual : Str} {st : Stmt} {f : Addr} {oc : Value} {od an : Option Addr} {osl : Array (Option Value)} {kV doc pm cdv ct : Value} (l : K.lookup f = some ⟨oc, od, .func (PySem.W.fnOf x qual (ia st) (fu st) (aI st) .none kV doc pm an cdv ct), osl⟩)
    (c : PySem.W.codeIn K cdv qual = true) (k : PySem.W.keepIn K (.ref f) = true) : Fun K x qual st f (PySem.W.fnOf x qual (ia st) (fu st) (aI st) .none kV doc pm an cdv ct) := ⟨⟨oc, od, kV, doc, pm, an, cdv, ct, osl, rfl, l, c⟩, k⟩
end
section
variable {X : Cx}
end

def Same (H H' : Hp) : Prop := ∀ b o, H b = some o -> H' b = some o
theorem Same.refl (H : Hp) : Same H H := fun _ _ h => h
theorem Same.trans {H H1 H2 : Hp} (a : Same H H1) (b : Same H1 H2) : Same H H2 := fun c o h => b c o (a c o h)
theorem Same.free {H H' : Hp} (e : Same H H') {l : Addr} (h : H' l = Option.none) : H l = Option.none := by
  cases q : H l with
  | none => rfl
  | some o =>
    rw [e l o q] at h
    cases h
theorem Same.seq {K : PySem.W.Frag} {H H' : Hp} {a : Addr} {xs : List V} (e : Same H H') (h : SqL K H a xs) : SqL K H' a xs := by
  rcases h with (h | ⟨o, h⟩) | h
  . exact .inl (.inl (e _ _ h))
  . exact .inl (.inr ⟨o, e _ _ h⟩)
  . exact .inr h

end L2
set_option maxRecDepth 100000
set_option maxHeartbeats 4000000
namespace L2
open PySem PySem.Spec PyProof.Rows

inductive D where
  | non | bl (b : Bool) | int (i : Int) | str (x : List Nat) | tup (xs : List D) | lst (fz : Bool) (xs : List D) | exc (C : Addr)

def fV (a C : Addr) : Heap -> Prop := fun h => ∃ ob, h.get? a = some ob /\ ob.cls = .ref C

mutual
inductive Rep (K : PySem.W.Frag) (G : Hp) : V -> D -> Prop
  | non : Rep K G .non .non
  | bl (b : Bool) : Rep K G (.bl b) (.bl b)
  | int (i : Int) : Rep K G (.int i) (.int i)
  | str (x : Str) (h : x.length <= sizeLine) : Rep K G (.str x) (.str x.cps.toList)
  | tup {a : Addr} {vs : List V} {ds : List D} (h : SqT K G a vs) (r : Reps K G vs ds) : Rep K G (.ref a) (.tup ds)
  | lst {a : Addr} {vs : List V} {ds : List D} (h : G a = some (.lst vs)) (r : Reps K G vs ds) : Rep K G (.ref a) (.lst false ds)
  | fls {a : Addr} {vs : List V} {ds : List D} (h : SqL K G a vs) (r : Reps K G vs ds) : Rep K G (.ref a) (.lst true ds)
  | exc {a C : Addr} (h : G a = some (.ext (fV a C))) : Rep K G (.ref a) (.exc C)
inductive Reps (K : PySem.W.Frag) (G : Hp) : List V -> List D -> Prop
  | nil : Reps K G [] []
  | cons {v : V} {d : D} {vs : List V} {ds : List D} (r : Rep K G v d) (t : Reps K G vs ds) : Reps K G (v :: vs) (d :: ds)
end

section
variable {K : PySem.W.Frag} {G G' H H' G1 H1 G2 H2 : Hp}
theorem SqT.mono {a : Addr} {xs : List V} (e : Same G G') (h : SqT K G a xs) : SqT K G' a xs := by
  rcases h with (h | ⟨o, h⟩) | h
  . exact .inl (.inl (e _ _ h))
  . exact .inl (.inr ⟨o, e _ _ h⟩)
  . exact .inr h
theorem SqL.mono {a : Addr} {xs : List V} (e : Same G G') (h : SqL K G a xs) : SqL K G' a xs := e.seq h
mutual
theorem Rep.mono (e : Same G G') : ∀ {v : V} {d : D}, Rep K G v d -> Rep K G' v d
  | _, _, .non => .non
  | _, _, .bl b => .bl b
  | _, _, .int i => .int i
  | _, _, .str x h => .str x h
  | _, _, .tup h r => .tup (h.mono e) (Reps.mono e r)
  | _, _, .lst h r => .lst (e _ _ h) (Reps.mono e r)
  | _, _, .fls h r => .fls (h.mono e) (Reps.mono e r)
  | _, _, .exc h => .exc (e _ _ h)
theorem Reps.mono (e : Same G G') : ∀ {vs : List V} {ds : List D}, Reps K G vs ds -> Reps K G' vs ds
  | _, _, .nil => .nil
  | _, _, .cons r t => .cons (Rep.mono e r) (Reps.mono e t)
end
section inv
variable {v : V}
theorem Rep.int_inv {i : Int} (r : Rep K G v (.int i)) : v = .int i := by cases r; rfl
theorem Rep.bl_inv {b : Bool} (r : Rep K G v (.bl b)) : v = .bl b := by cases r; rfl
theorem Rep.non_inv (r : Rep K G v .non) : v = .non := by cases r; rfl
theorem Rep.str_inv {x : List Nat} (r : Rep K G v (.str x)) : ∃ y : Str, v = .str y /\ y.cps.toList = x /\ y.length <= sizeLine := by
  generalize e : D.str x = d at r
  cases r with
  | str y h => cases e; exact ⟨y, rfl, rfl, h⟩
  | _ => cases e
theorem Rep.tup_inv {ds : List D} (r : Rep K G v (.tup ds)) : ∃ a vs, v = .ref a /\ SqT K G a vs /\ Reps K G vs ds := by
  cases r with
  | tup h t => exact ⟨_, _, rfl, h, t⟩
theorem Rep.lst_inv {ds : List D} (r : Rep K G v (.lst false ds)) : ∃ a vs, v = .ref a /\ G a = some (.lst vs) /\ Reps K G vs ds := by
  cases r with
  | lst h t => exact ⟨_, _, rfl, h, t⟩
theorem Rep.seq_inv {f : Bool} {ds : List D} (r : Rep K G v (.lst f ds)) : ∃ a vs, v = .ref a /\ SqL K G a vs /\ Reps K G vs ds := by
  cases r with
  | lst h t => exact ⟨_, _, rfl, .of h, t⟩
  | fls h t => exact ⟨_, _, rfl, h, t⟩
theorem Rep.exc_inv {C : Addr} (r : Rep K G v (.exc C)) : ∃ a, v = .ref a /\ G a = some (.ext (fV a C)) := by
  cases r with
  | exc h => exact ⟨_, rfl, h⟩
theorem Rep.strL {x : List Nat} {y : Str} (e : y.cps.toList = x) (h : x.length <= sizeLine) : Rep K G (.str y) (.str x) := by
  subst e; exact .str y (by simpa [Str.length] using h)
end inv
theorem Reps.length : ∀ {vs : List V} {ds : List D}, Reps K G vs ds -> vs.length = ds.length
  | _, _, .nil => rfl
  | _, _, .cons _ t => by simp [Reps.length t]
theorem Reps.get : ∀ {vs : List V} {ds : List D} {i : Nat} {d : D}, Reps K G vs ds -> ds[i]? = some d -> ∃ v, vs[i]? = some v /\ Rep K G v d
  | _, _, _, _, .nil, e => by simp at e
  | _, _, 0, _, .cons r _, e => by simp at e; subst e; exact ⟨_, rfl, r⟩
  | _, _, i + 1, d, .cons _ t, e => by
    obtain ⟨v, h1, h2⟩ := Reps.get (i := i) (d := d) t (by simpa using e)
    exact ⟨v, by simpa using h1, h2⟩
theorem Reps.append : ∀ {vs ws : List V} {ds es : List D}, Reps K G vs ds -> Reps K G ws es -> Reps K G (vs ++ ws) (ds ++ es)
  | _, _, _, _, .nil, s => s
  | _, _, _, _, .cons r t, s => .cons r (Reps.append t s)
theorem Reps.take : ∀ {vs : List V} {ds : List D} (n : Nat), Reps K G vs ds -> Reps K G (vs.take n) (ds.take n)
  | _, _, 0, _ => by simpa using Reps.nil
  | _, _, _ + 1, .nil => .nil
  | _, _, n + 1, .cons r t => .cons r (Reps.take n t)
theorem Reps.drop : ∀ {vs : List V} {ds : List D} (n : Nat), Reps K G vs ds -> Reps K G (vs.drop n) (ds.drop n)
  | _, _, 0, r => r
  | _, _, _ + 1, .nil => .nil
  | _, _, n + 1, .cons _ t => Reps.drop n t
theorem Reps.rep {vs : List V} {ds : List D} (r : Reps K G vs ds) : ∀ n : Nat, Reps K G (List.replicate n vs).flatten (List.replicate n ds).flatten
  | 0 => .nil
  | n + 1 => by
    simp only [List.replicate_succ, List.flatten_cons]
    exact Reps.append r (Reps.rep r n)

structure Up (G H G' H' : Hp) : Prop where
  sub : Same G' H'
  gg : Same G G'
  hh : Same H H'
  fr : ∀ a o, G' a = some o -> G a = some o \/ H a = none
theorem Up.refl (s : Same G H) : Up G H G H := ⟨s, .refl _, .refl _, fun _ _ h => .inl h⟩
theorem Up.trans (a : Up G H G1 H1) (b : Up G1 H1 G2 H2) : Up G H G2 H2 := ⟨b.sub, a.gg.trans b.gg, a.hh.trans b.hh, fun c o h => by
  rcases b.fr c o h with h | h
  . exact a.fr c o h
  . exact .inr (a.hh.free h)⟩
theorem Same.both {p : Addr} {o : HO} (s : Same G H) : Same (upd G p o) (upd H p o) := fun a u h => by
  unfold L2.upd at h ⊢
  split
  . rename_i e; rw [if_pos e] at h; exact h
  . rename_i e; rw [if_neg e] at h; exact s a u h
theorem Same.into {p : Addr} {o : HO} (h : H p = none) : Same H (upd H p o) := fun a u e => by
  rw [aW (aK e h)]; exact e
theorem Up.new {p : Addr} {o : HO} (s : Same G H) (hp : H p = none) : Up G H (upd G p o) (upd H p o) :=
  ⟨s.both, .into (s.free hp), .into hp, fun a u h => by
    by_cases e : a = p
    . subst e; exact .inr hp
    . rw [aW e] at h; exact .inl h⟩
end

inductive R (α : Type) where
  | ok (a : α) | ex (C : Addr) | no
def R.bind {α β : Type} : R α -> (α -> R β) -> R β
  | .ok a, f => f a
  | .ex C, _ => .ex C
  | .no, _ => .no
instance : Monad R where
  pure := .ok
  bind := R.bind
section
variable {α β : Type}
@[simp] theorem R.ok_bind (a : α) (f : α -> R β) : (R.ok a >>= f) = f a := rfl
@[simp] theorem R.ex_bind (C : Addr) (f : α -> R β) : ((R.ex C : R α) >>= f) = .ex C := rfl
def R.post (m : R α) (P : α -> Prop) (E : Addr -> Prop) : Prop := match m with
  | .ok a => P a
  | .ex C => E C
  | .no => False
theorem R.post.mono {m : R α} {P P' : α -> Prop} {E E' : Addr -> Prop} (h : m.post P E) (hp : ∀ a, P a -> P' a) (he : ∀ C, E C -> E' C) : m.post P' E' := by
  cases m with
  | ok a => exact hp a h
  | ex C => exact he C h
  | no => exact h
def ofO : Option α -> R α
  | some a => .ok a
  | none => .no
@[simp] theorem em (a : α) : ofO (some a) = R.ok a := rfl
theorem ofO.ok {o : Option α} {P : α -> Prop} {E : Addr -> Prop} (h : (ofO o).post P E) : ∃ a, o = some a /\ P a := by
  cases o with
  | none => exact h.elim
  | some a => exact ⟨a, rfl, h⟩
end

inductive Sl where
  | val (d : D)
  /-- a list that no other name, and no datum, holds -/
  | own (ds : List D)
abbrev Ev := List (Option Sl)
def rdV (ρ : Ev) (i : Nat) : R D := match ρ[i]? with
  | some (some (.val d)) => .ok d
  | _ => .no
structure StE (K : PySem.W.Frag) (G H : Hp) (σ : St) (ρ : Ev) : Prop where
  sub : Same G H
  len : σ.length = ρ.length
  val : ∀ (i : Nat) d, ρ[i]? = some (some (.val d)) -> ∃ v, σ[i]? = some (some v) /\ Rep K G v d
theorem StE.up {K : PySem.W.Frag} {G H G' H' : Hp} {σ : St} {ρ : Ev} (s : StE K G H σ ρ) (u : Up G H G' H') : StE K G' H' σ ρ :=
  ⟨u.sub, s.len, fun i d e => let ⟨v, h1, h2⟩ := s.val i d e; ⟨v, h1, h2.mono u.gg⟩⟩

def wW (P : Program) (w : World) (outer : List Env) (H : Hp) (s : Shared) (a C : Addr) (H' : Hp) (s' : Shared) : Prop :=
  s'.os = s.os /\ AllBare s'.gens /\ Un (frs outer) [] H H' s.heap s'.heap /\ HOk P w H' s'.heap /\ H' a = none /\
  ∃ (B : Heap) (a0 : Value), Heap.FlyingW B outer a (.ref C) a0 s'.heap /\ ∀ b o, b ∉ frs outer -> ((∃ o0, s.heap.get? b = some o0) \/ ∃ u, H' b = some u) -> s'.heap.get? b = some o -> B.get? b = some o
def CXo (P : Program) (w : World) : CXT := fun outer H s E e s' => ∃ a C H', e = .ref a /\ wW P w outer H s a C H' s' /\ E (.ref C) none H'
def Ap (X : Cx) (pins : List (Addr × Obj)) (b : Addr) : Prop :=
  (b ∈ X.ex \/ X.s₀.heap.objs.size <= b) /\ b ≠ X.env.locals /\ (∀ x c, X.env.cells.lookup x = some c -> c ≠ b) /\ ∀ p ∈ X.pn ++ pins, p.1 ≠ b
def ww (X : Cx) (pins : List (Addr × Obj)) (L : Addr) (H : Hp) (s : Shared) (a C : Addr) (H' : Hp) (s' : Shared) : Prop :=
  s'.os = s.os /\ AllBare s'.gens /\ (∃ ch, (∀ b ∈ ch, Ap X pins b) /\ Un (frs X.stack) ch H H' s.heap s'.heap) /\ HOk X.prog X.w H' s'.heap /\ H' a = none /\ s.heap.get? a = none /\
  ∃ (B : Heap) (a0 : Value), Heap.HeldW B X.stack a (.ref C) a0 L s'.heap /\ ∀ b o, b ∉ frs X.stack -> ((∃ o0, s.heap.get? b = some o0) \/ ∃ u, H' b = some u) -> s'.heap.get? b = some o -> B.get? b = some o
def Dj (X : Cx) (σ : St) (G₁ H₁ : Hp) (C : Addr) (e : Value) (s' : Shared) : Prop :=
  ∃ pins s₁ a, e = .ref a /\ Inv X pins σ H₁ s₁ /\
    ((∃ h' vs, Heap.MadeExcOf s₁.heap h' a (.ref C) vs /\ s' = { s₁ with heap := h' }) \/ (∃ G' H', wW X.prog X.w X.stack H₁ s₁ a C H' s' /\ Up G₁ H₁ G' H') \/ ∃ G' H' L, X.env.frame = some L /\ ww X pins L H₁ s₁ a C H' s' /\ Up G₁ H₁ G' H')
def Fly (X : Cx) (σ : St) (G H : Hp) (C : Addr) (e : Value) (s' : Shared) : Prop := ∃ G₁ H₁, Up G H G₁ H₁ /\ Dj X σ G₁ H₁ C e s'
theorem Fly.up {X : Cx} {σ : St} {G H G1 H1 : Hp} {C : Addr} {e : Value} {s' : Shared} (u : Up G H G1 H1) (f : Fly X σ G1 H1 C e s') : Fly X σ G H C e s' :=
  let ⟨G2, H2, v, q⟩ := f; ⟨G2, H2, u.trans v, q⟩

section
variable {α β : Type}
def Fin (G H : Hp) (rep : Hp -> β -> α -> Prop) (Q : β -> Hp -> Prop) : α -> Prop := fun d => ∀ v G' H', Up G H G' H' -> rep G' v d -> Q v H'
def Exx (X : Cx) (σ : St) (G H : Hp) : Addr -> Prop := fun C => ∀ e s', Fly X σ G H C e s' -> X.xe e s'
theorem Fin.up {G H G1 H1 : Hp} {rep : Hp -> β -> α -> Prop} {Q : β -> Hp -> Prop} {d : α} (u : Up G H G1 H1) (h : Fin G H rep Q d) : Fin G1 H1 rep Q d := fun v G' H' u' r => h v G' H' (u.trans u') r
theorem Exx.up {X : Cx} {σ : St} {G H G1 H1 : Hp} {C : Addr} (u : Up G H G1 H1) (h : Exx X σ G H C) : Exx X σ G1 H1 C := fun e s' f => h e s' (f.up u)
theorem jL {X : Cx} {σ : St} {G H G1 H1 : Hp} {rep : Hp -> β -> α -> Prop} {Q : β -> Hp -> Prop} {m : R α} (u : Up G H G1 H1) (h : m.post (Fin G H rep Q) (Exx X σ G H)) : m.post (Fin G1 H1 rep Q) (Exx X σ G1 H1) :=
  h.mono (fun _ => Fin.up u) fun _ => Exx.up u
def tG (X : Cx) (rep : Hp -> β -> α -> Prop) (g : Ev -> R α) : St -> Hp -> (β -> Hp -> Prop) -> Prop := fun σ H Q => ∃ G ρ, StE X.K G H σ ρ /\ (g ρ).post (Fin G H rep Q) (Exx X σ G H)
theorem tG.intro {γ δ : Type} {X : Cx} {σ : St} {G H : Hp} {ρ : Ev} {rep : Hp -> β -> α -> Prop} {rep' : Hp -> δ -> γ -> Prop} {g : Ev -> R α} {k : α -> R γ} {Q : β -> Hp -> Prop} {Q' : δ -> Hp -> Prop} (st : StE X.K G H σ ρ)
    (h : (g ρ >>= k).post (Fin G H rep' Q') (Exx X σ G H)) (hk : ∀ a, ∀ v G1 H1, Up G H G1 H1 -> StE X.K G1 H1 σ ρ -> rep G1 v a -> (k a).post (Fin G1 H1 rep' Q') (Exx X σ G1 H1) -> Q v H1) : tG X rep g σ H Q := by
  refine ⟨G, ρ, st, ?_⟩
  cases e : g ρ with
  | ok a => rw [e] at h; exact fun v G' H' u r => hk a v G' H' u (st.up u) r (jL u h)
  | ex C => rw [e] at h; exact h
  | no => rw [e] at h; exact h
theorem tG.last {X : Cx} {σ : St} {G H : Hp} {ρ : Ev} {rep : Hp -> β -> α -> Prop} {g : Ev -> R α} {Q : β -> Hp -> Prop} (st : StE X.K G H σ ρ) (h : (g ρ).post (Fin G H rep Q) (Exx X σ G H)) : tG X rep g σ H Q := ⟨G, ρ, st, h⟩
end
abbrev tF (X : Cx) (g : Ev -> R D) : TE := tG X (Rep X.K) g
abbrev tTF (X : Cx) (g : Ev -> R Bool) : TT := tG X (fun _ b c => b = c) g
abbrev tAF (X : Cx) (g : Ev -> R (List D)) : TA := tG X (Reps X.K) g
def QF (X : Cx) (e : Expr) (g : Ev -> R D) : Prop := PE X e (tF X g)
def QB (X : Cx) (e : Expr) (g : Ev -> R Bool) : Prop := PT X e (tTF X g)
def QBW (X : Cx) (e : Expr) (g : Ev -> R Bool) : Prop := PW X e (tTF X g)
def QFA (X : Cx) (es : List Expr) (g : Ev -> R (List D)) : Prop := PA X es (tAF X g)
end L2
namespace L2
open PySem PySem.Spec PyProof.Rows

theorem rdV.ok {ρ : Ev} {i : Nat} {P : D -> Prop} {E : Addr -> Prop} (h : (rdV ρ i).post P E) : ∃ d, ρ[i]? = some (some (.val d)) /\ P d := by
  unfold rdV at h
  split at h
  . rename_i d e; exact ⟨d, e, h⟩
  . exact h.elim

section
variable {X : Cx} {e a b c : Expr} {ga gb gc : Ev -> R D} {pos : Pos}
theorem gL (i : Nat) {x : Str} (hN : X.N[i]? = some x := by rfl) (hv : Vis X.env.scope x := by first | exact Or.inl rfl | exact Or.inr (Or.inl rfl) | exact Or.inr (Or.inr rfl)) (hd : (x == ("__debug__" : Str)) = false := by decide)
    (hcd : (x == ("__classdict__" : Str)) = false := by decide) : QF X (.Name x pos) (fun ρ => rdV ρ i) := by
  intro pins s σ H Q I h
  obtain ⟨G, ρ, st, h⟩ := h
  refine pz hN hv hd hcd pins s σ H Q I ?_
  obtain ⟨d, e, q⟩ := rdV.ok h
  obtain ⟨v, e', r⟩ := st.val i d e
  exact ⟨v, e', q v G H (.refl st.sub) r⟩
theorem du {v : V} {d : D} (h : PE X e (tC v)) (hr : ∀ K G, Rep K G v d) : QF X e (fun _ => .ok d) := by
  intro pins s σ H Q I q
  obtain ⟨G, ρ, st, q⟩ := q
  exact h pins s σ H Q I (q v G H (.refl st.sub) (hr _ _))
theorem uE {i : Int} {j : Nat} : QF X (.Constant (.int i) j pos) (fun _ => .ok (.int i)) := du Bd fun _ _ => .int i
theorem xO {k : Bool} {j : Nat} : QF X (.Constant (.bool k) j pos) (fun _ => .ok (.bl k)) := du BX fun _ _ => .bl k
theorem uz {j : Nat} : QF X (.Constant .none j pos) (fun _ => .ok .non) := du zu fun _ _ => .non
theorem vp {x : Str} {j : Nat} {l : List Nat} (hl : x.cps.toList = l := by rfl) (hz : l.length <= 1000 := by decide) : QF X (.Constant (.str x) j pos) (fun _ => .ok (.str l)) :=
  du A1 fun _ _ => .strL hl (Nat.le_trans hz (by decide))
theorem qq {x : Str} {i : Int} {t : Tok} (hg : Gl X x) (hm : X.mg x = some (.int i t)) (hd : (x == ("__debug__" : Str)) = false := by decide) : QF X (.Name x pos) (fun _ => .ok (.int i)) :=
  du (hW (v := .int i) hg hm ⟨t, rfl⟩ hd) fun _ _ => .int i

def ROk (K : PySem.W.Frag) (r : R2) (f : D -> D -> Option D) : Prop := ∀ (G H : Hp) (x y : V) (dx dy d : D) (Q : VK), Same G H -> Rep K G x dx -> Rep K G y dy -> f dx dy = some d -> Fin G H (Rep K) Q d -> r x y H Q
def g2 (f : D -> D -> Option D) (ga gb : Ev -> R D) : Ev -> R D := fun ρ => ga ρ >>= fun x => gb ρ >>= fun y => ofO (f x y)
theorem ue {r : R2} {f : D -> D -> Option D} (hf : ROk X.K r f) {σ : St} {H : Hp} {Q : VK} (h : tF X (g2 f ga gb) σ H Q) : tOp r (tF X ga) (tF X gb) σ H Q := by
  obtain ⟨G, ρ, st, h⟩ := h
  refine tG.intro st h fun x v G1 H1 u1 st1 r1 h1 => ?_
  refine tG.intro st1 h1 fun y w G2 H2 u2 st2 r2 h2 => ?_
  obtain ⟨d, e, q⟩ := ofO.ok h2
  exact hf G2 H2 v w x y d Q st2.sub (r1.mono u2.gg) r2 e q
theorem fP {op : Operator} {r : R2} {f : D -> D -> Option D} (ho : OpR X (binaryOp op) r) (hf : ROk X.K r f) (ha : QF X a ga) (hb : QF X b gb) : QF X (.BinOp a op b pos) (g2 f ga gb) :=
  fun pins s σ H Q I h => B7 ho ha hb pins s σ H Q I (ue hf h)
theorem iS {op : CmpOp} {r : R2} {f : D -> D -> Option D} (ho : OpR X (compareOp op) r) (hf : ROk X.K r f) (ha : QF X a ga) (hb : QF X b gb) (hm : behindInMarks op b = false) : QF X (.Compare a [op] [b] pos) (g2 f ga gb) :=
  fun pins s σ H Q I h => xl ho ha hb hm pins s σ H Q I (ue hf h)
def g3 (f f' : D -> D -> Option D) (ga gb gc : Ev -> R D) : Ev -> R D := fun ρ => ga ρ >>= fun x => gb ρ >>= fun y => ofO (f x y) >>= fun z => match z with
  | .bl true => gc ρ >>= fun w => ofO (f' y w)
  | .bl false => .ok (.bl false)
  | _ => .no
theorem kx {op op' : CmpOp} {r r' : R2} {f f' : D -> D -> Option D} (ho : OpR X (compareOp op) r) (ho' : OpR X (compareOp op') r') (hf : ROk X.K r f) (hf' : ROk X.K r' f') (ha : QF X a ga) (hb : QF X b gb) (hc : QF X c gc)
    (hm : lastMarks [op, op'] [b, c] = false := by with_unfolding_all rfl) : QF X (.Compare a [op, op'] [b, c] pos) (g3 f f' ga gb gc) := by
  intro pins s σ H Q I h
  refine uo ho ho' ha hb hc hm pins s σ H Q I ?_
  obtain ⟨G, ρ, st, h⟩ := h
  refine tG.intro st h fun x v G1 H1 u1 st1 r1 h1 => ?_
  refine tG.intro st1 h1 fun y w G2 H2 u2 st2 r2 h2 => ?_
  cases e : f x y with
  | none => rw [e] at h2; exact h2.elim
  | some d =>
    rw [e] at h2
    refine hf G2 H2 v w x y d _ st2.sub (r1.mono u2.gg) r2 e fun z G3 H3 u3 r3 => ?_
    have h3 := jL u3 h2
    have st3 := st2.up u3
    cases r3 with
    | bl k =>
      refine ⟨k, rfl, ?_⟩
      cases k with
      | false => rw [if_neg Bool.false_ne_true]; exact h3 _ G3 H3 (.refl st3.sub) (.bl false)
      | true =>
        rw [if_pos rfl]
        refine tG.intro st3 (show (gc ρ >>= fun w => ofO (f' y w)).post _ _ from h3) fun q vq G4 H4 u4 st4 r4 h4 => ?_
        obtain ⟨d, e', q'⟩ := ofO.ok h4
        exact hf' G4 H4 w vq y q d Q st4.sub ((r2.mono u3.gg).mono u4.gg) r4 e' q'
    | _ => exact h3.elim
end

section
variable {X : Cx}
def bx : D -> D -> Option D
  | .int i, .int j => some (.int (i + j))
  | .str x, .str y => if x.length + y.length <= sizeLine then some (.str (x ++ y)) else none
  | .lst false xs, .lst false ys => if xs.length + ys.length <= sizeLine then some (.lst false (xs ++ ys)) else none
  | .tup xs, .tup ys => if xs.length + ys.length <= sizeLine then some (.tup (xs ++ ys)) else none
  | _, _ => none
def wo (K : PySem.W.Frag) : R2 := fun x y H Q => ∃ a b xs ys, x = .ref a /\ y = .ref b /\ SqT K H a xs /\ SqT K H b ys /\ xs.length + ys.length <= sizeLine /\
  (xs = [] -> Q (.ref b) H) /\ (xs ≠ [] -> ys = [] -> Q (.ref a) H) /\ (xs ≠ [] -> ys ≠ [] -> ∀ p, H p = none -> Q (.ref p) (upd H p (.tup (xs ++ ys))))
theorem vL : OpR X (binaryOp .Add) (wo X.K) := by
  intro pins s σ H x y v u Q I rx ry h
  obtain ⟨a, b, xs, ys, rfl, rfl, ha, hb, hz, q0, q1, q2⟩ := h
  by_cases hx : xs = []
  . cases rx
    cases ry
    obtain ⟨its, r1, p1, _⟩ := I.tuple ha
    obtain ⟨its2, r2, p2, _⟩ := I.tuple hb
    have hi : its = [] := r1.nil_iff.mpr hx
    obtain ⟨⟨cls, dd, data, sl⟩, ho, hc, n, hd⟩ := id p1
    obtain ⟨⟨cls2, dd2, data2, sl2⟩, ho2, hc2, n2, hd2⟩ := id p2
    simp only at hc hd hc2 hd2
    subst hc hd hc2 hd2
    exact concat_meets ⟨_, ho, rfl⟩ ⟨_, ho2, rfl⟩ noFill_tuple_add seq_tuple_add PySem.F.slot_tuple_add PySem.F.entry_tuple_add (PySem.F.args_tuple_add_2 _ _)
      (tuple_addW0 a b its.toArray its2.toArray n n2 dd dd2 sl sl2 (by simp [hi])) ⟨ho, ho2, .ref b, H, I, rfl, q0 hx⟩
  . exact yS pins s σ H _ _ v u Q I rx ry ⟨a, b, xs, ys, rfl, rfl, ha, hb, hx, hz, q1 hx, q2 hx⟩
def A8 (K : PySem.W.Frag) : R2 := fun x y H Q => (rI0 fun i j => .int (i + j)) x y H Q \/ (∃ i j, x = .str i /\ y = .str j /\ i.length + j.length <= sizeLine /\ Q (.str (i ++ j)) H) \/ Dg x y H Q \/ wo K x y H Q
theorem xx : OpR X (binaryOp .Add) (A8 X.K) := op_add.or (op_add_str.or (op_cat.or vL))
theorem Str.app_list (x y : Str) : (x ++ y).cps.toList = x.cps.toList ++ y.cps.toList := by
  show (x.cps ++ y.cps).toList = _
  simp
theorem Str.len_list (x : Str) : x.cps.toList.length = x.length := by simp [Str.length]
theorem zp (K : PySem.W.Frag) : ROk K (A8 K) bx := by
  intro G H x y dx dy d Q s rx ry e q
  unfold bx at e
  split at e
  . cases e
    exact .inl ⟨_, _, rx.int_inv, ry.int_inv, q _ G H (.refl s) (.int _)⟩
  . split at e
    . rename_i hz
      cases e
      obtain ⟨i, rfl, ei, hi⟩ := rx.str_inv
      obtain ⟨j, rfl, ej, hj⟩ := ry.str_inv
      subst ei ej
      rw [Str.len_list, Str.len_list] at hz
      exact .inr (.inl ⟨i, j, rfl, rfl, hz, q _ G H (.refl s) (.strL (Str.app_list i j) (by rw [List.length_append, Str.len_list, Str.len_list]; exact hz))⟩)
    . cases e
  . split at e
    . rename_i hz
      cases e
      obtain ⟨a, vs, rfl, ha, ra⟩ := rx.lst_inv
      obtain ⟨b, ws, rfl, hb, rb⟩ := ry.lst_inv
      refine .inr (.inr (.inl ⟨a, b, vs, ws, rfl, rfl, s _ _ ha, s _ _ hb, by rw [ra.length, rb.length]; exact hz, fun p hp => q _ _ _ (.new s hp) (.lst bf ?_)⟩))
      exact (ra.append rb).mono (.into (s.free hp))
    . cases e
  . split at e
    . rename_i hz
      cases e
      obtain ⟨a, vs, rfl, ha, ra⟩ := rx.tup_inv
      obtain ⟨b, ws, rfl, hb, rb⟩ := ry.tup_inv
      refine .inr (.inr (.inr ⟨a, b, vs, ws, rfl, rfl, ha.mono s, hb.mono s, by rw [ra.length, rb.length]; exact hz, fun z => ?_, fun _ z => ?_, fun _ _ p hp => ?_⟩))
      . subst z
        cases ra
        exact q _ G H (.refl s) (.tup hb rb)
      . subst z
        cases rb
        rw [List.append_nil] at q
        exact q _ G H (.refl s) (.tup ha ra)
      . exact q _ _ _ (.new s hp) (.tup (.of bf) ((ra.append rb).mono (.into (s.free hp))))
    . cases e
  . cases e
theorem uA {a b : Expr} {ga gb : Ev -> R D} {pos : Pos} (ha : QF X a ga) (hb : QF X b gb) : QF X (.BinOp a .Add b pos) (g2 bx ga gb) := fP xx (zp _) ha hb
def yn : D -> D -> Option D
  | .int i, .int j => some (.int (i - j))
  | _, _ => none
theorem vB {a b : Expr} {ga gb : Ev -> R D} {pos : Pos} (ha : QF X a ga) (hb : QF X b gb) : QF X (.BinOp a .Sub b pos) (g2 yn ga gb) := fP AE (by
  intro G H x y dx dy d Q s rx ry e q
  unfold yn at e
  split at e
  . cases e
    exact ⟨_, _, rx.int_inv, ry.int_inv, q _ G H (.refl s) (.int _)⟩
  . cases e) ha hb
def gS : D -> D -> Option D
  | .int i, .int j => if 0 < j /\ j < 1073741824 then some (.int (i / j)) else none
  | _, _ => none
theorem sN {a b : Expr} {ga gb : Ev -> R D} {pos : Pos} (ha : QF X a ga) (hb : QF X b gb) : QF X (.BinOp a .FloorDiv b pos) (g2 gS ga gb) := fP yF (by
  intro G H x y dx dy d Q s rx ry e q
  unfold gS at e
  split at e
  . split at e
    . rename_i hc
      cases e
      exact ⟨_, _, rx.int_inv, ry.int_inv, hc, q _ G H (.refl s) (.int _)⟩
    . cases e
  . cases e) ha hb
def hU : D -> D -> Option D
  | .int i, .int j => if 0 < j then some (.int (i % j)) else none
  | _, _ => none
theorem vt {a b : Expr} {ga gb : Ev -> R D} {pos : Pos} (ha : QF X a ga) (hb : QF X b gb) : QF X (.BinOp a .Mod b pos) (g2 hU ga gb) := fP zX (by
  intro G H x y dx dy d Q s rx ry e q
  unfold hU at e
  split at e
  . split at e
    . rename_i hc
      cases e
      exact ⟨_, _, rx.int_inv, ry.int_inv, hc, q _ G H (.refl s) (.int _)⟩
    . cases e
  . cases e) ha hb
end
end L2
namespace L2
open PySem PySem.Spec PyProof.Rows

section
variable {X : Cx} {a b c e : Expr} {ga gb gc : Ev -> R D} {pos : Pos}
def leD : D -> D -> Option D
  | .int i, .int j => some (.bl (decide (i <= j)))
  | .str x, .str y => some (.bl (!decide (y < x)))
  | _, _ => none
def ltD : D -> D -> Option D
  | .int i, .int j => some (.bl (decide (i < j)))
  | .str x, .str y => some (.bl (decide (x < y)))
  | _, _ => none
def gtD : D -> D -> Option D
  | .int i, .int j => some (.bl (decide (j < i)))
  | _, _ => none
def geD : D -> D -> Option D
  | .int i, .int j => some (.bl (decide (j <= i)))
  | _, _ => none
theorem sO : OpR X (compareOp .LtE) (fun x y H Q => ∃ i j : Str, x = .str i /\ y = .str j /\ Q (.bl (!decide (j.cps.toList < i.cps.toList))) H) := by
  intro pins s σ H x y v u Q I rx ry h
  obtain ⟨i, j, rfl, rfl, q⟩ := h
  obtain ⟨t, rfl⟩ := rx
  obtain ⟨t', rfl⟩ := ry
  exact PySem.P.le_str (oY I q rfl)
theorem sk (K : PySem.W.Frag) : ROk K (fun x y H Q => (rI0 fun i j => .bl (decide (i <= j))) x y H Q \/ ∃ i j : Str, x = .str i /\ y = .str j /\ Q (.bl (!decide (j.cps.toList < i.cps.toList))) H) leD := by
  intro G H x y dx dy d Q s rx ry e q
  unfold leD at e
  split at e
  . cases e
    exact .inl ⟨_, _, rx.int_inv, ry.int_inv, q _ G H (.refl s) (.bl _)⟩
  . cases e
    obtain ⟨i, rfl, ei, hi⟩ := rx.str_inv
    obtain ⟨j, rfl, ej, hj⟩ := ry.str_inv
    subst ei ej
    exact .inr ⟨i, j, rfl, rfl, q _ G H (.refl s) (.bl _)⟩
  . cases e
theorem xq (K : PySem.W.Frag) : ROk K (fun x y H Q => (rI0 fun i j => .bl (decide (i < j))) x y H Q \/ ∃ i j : Str, x = .str i /\ y = .str j /\ Q (.bl (decide (i.cps.toList < j.cps.toList))) H) ltD := by
  intro G H x y dx dy d Q s rx ry e q
  unfold ltD at e
  split at e
  . cases e
    exact .inl ⟨_, _, rx.int_inv, ry.int_inv, q _ G H (.refl s) (.bl _)⟩
  . cases e
    obtain ⟨i, rfl, ei, hi⟩ := rx.str_inv
    obtain ⟨j, rfl, ej, hj⟩ := ry.str_inv
    subst ei ej
    exact .inr ⟨i, j, rfl, rfl, q _ G H (.refl s) (.bl _)⟩
  . cases e
theorem CT (K : PySem.W.Frag) : ROk K (rI0 fun i j => .bl (decide (j < i))) gtD := by
  intro G H x y dx dy d Q s rx ry e q
  unfold gtD at e
  split at e
  . cases e
    exact ⟨_, _, rx.int_inv, ry.int_inv, q _ G H (.refl s) (.bl _)⟩
  . cases e
theorem me : OpR X (compareOp .LtE) (fun x y H Q => (rI0 fun i j => .bl (decide (i <= j))) x y H Q \/ ∃ i j : Str, x = .str i /\ y = .str j /\ Q (.bl (!decide (j.cps.toList < i.cps.toList))) H) := op_le.or sO
theorem qP : OpR X (compareOp .Lt) (fun x y H Q => (rI0 fun i j => .bl (decide (i < j))) x y H Q \/ ∃ i j : Str, x = .str i /\ y = .str j /\ Q (.bl (decide (i.cps.toList < j.cps.toList))) H) := op_lt.or rz
theorem yz (ha : QF X a ga) (hb : QF X b gb) : QF X (.Compare a [.LtE] [b] pos) (g2 leD ga gb) := iS me (sk _) ha hb (iC _)
theorem rT (ha : QF X a ga) (hb : QF X b gb) (hc : QF X c gc) (hm : lastMarks [.LtE, .LtE] [b, c] = false := by with_unfolding_all rfl) : QF X (.Compare a [.LtE, .LtE] [b, c] pos) (g3 leD leD ga gb gc) := kx me me (sk _) (sk _) ha hb hc hm
theorem sZ (ha : QF X a ga) (hb : QF X b gb) (hc : QF X c gc) (hm : lastMarks [.Lt, .Lt] [b, c] = false := by with_unfolding_all rfl) : QF X (.Compare a [.Lt, .Lt] [b, c] pos) (g3 ltD ltD ga gb gc) := kx qP qP (xq _) (xq _) ha hb hc hm
end

def eqZ (f : D -> D -> Option Bool) : List D -> List D -> Option (List Bool)
  | x :: xs, y :: ys => (f x y).bind fun b => (eqZ f xs ys).map (b :: ·)
  | _, _ => some []
def eqD : Nat -> D -> D -> Option Bool
  | 0, _, _ => none
  | n + 1, a, b => match a, b with
    | .non, .non => some true
    | .bl x, .bl y => some (x == y)
    | .int i, .int j => some (i == j)
    | .str x, .str y => some (x == y)
    | .bl x, .int j => some ((if x then 1 else 0) == j)
    | .int i, .bl y => some (i == (if y then 1 else 0))
    | .lst _ xs, .lst _ ys => if xs.length = ys.length then (eqZ (eqD n) xs ys).map fun bs => bs.all id else some false
    | .tup xs, .tup ys => (eqZ (eqD n) xs ys).map fun bs => bs.all id && xs.length == ys.length
    | .exc _, _ => none
    | _, .exc _ => none
    | _, _ => some false
theorem eqZ.get {f : D -> D -> Option Bool} : ∀ {xs ys : List D} {bs : List Bool}, eqZ f xs ys = some bs -> bs.length = min xs.length ys.length /\ ∀ (j : Nat) (x y : D), xs[j]? = some x -> ys[j]? = some y -> ∃ b, bs[j]? = some b /\ f x y = some b
  | [], _, _, e => by simp [eqZ] at e; subst e; exact ⟨by simp, fun j x y h => by simp at h⟩
  | _ :: _, [], _, e => by simp [eqZ] at e; subst e; exact ⟨by simp, fun j x y _ h => by simp at h⟩
  | x :: xs, y :: ys, bs, e => by
    unfold eqZ at e
    cases e1 : f x y with
    | none => rw [e1] at e; cases e
    | some b =>
      rw [e1] at e
      cases e2 : eqZ f xs ys with
      | none => rw [e2] at e; cases e
      | some cs =>
        rw [e2] at e
        cases e
        obtain ⟨h1, h2⟩ := eqZ.get e2
        refine ⟨by simp [h1], fun j => ?_⟩
        cases j with
        | zero => intro x' y' hx hy; simp at hx hy; subst hx hy; exact ⟨b, rfl, e1⟩
        | succ j => intro x' y' hx hy; exact h2 j x' y' (by simpa using hx) (by simpa using hy)
theorem jh {bs : List Bool} {n : Nat} (h : bs.length = n) : (List.range n).all (fun j => bs.getD j true) = bs.all id := by
  subst h
  rw [Bool.eq_iff_iff, List.all_eq_true, List.all_eq_true]
  constructor
  . intro h b hb
    obtain ⟨i, hi, rfl⟩ := List.mem_iff_getElem.mp hb
    have := h i (by simpa using hi)
    simpa [List.getD_eq_getElem?_getD, hi] using this
  . intro h j hj
    have hj' : j < bs.length := by simpa using hj
    have := h bs[j] (List.getElem_mem hj')
    simpa [List.getD_eq_getElem?_getD, hj'] using this
theorem cT : (Value.type "list" : Value) ≠ .type "tuple" := by
  intro h
  injection h with h
  exact absurd h (by decide)
section
variable {X : Cx} {pins : List (Addr × Obj)} {σ : St} {G H : Hp} {s : Shared}
open SeqAt
theorem eT (I : Inv X pins σ H s) (sub : Same G H) : ∀ (n : Nat) (a b : D) (k : Bool) (x : V), eqD n a b = some k -> Rep X.K G x a -> Rep X.K G x b -> k = true := by
  intro n
  induction n with
  | zero => intro a b k x e; cases e
  | succ n ih =>
    have sq : ∀ (vs : List V) (xs ys : List D), Reps X.K G vs xs -> Reps X.K G vs ys -> ∀ bs, eqZ (eqD n) xs ys = some bs -> bs.all id = true := by
      intro vs
      induction vs with
      | nil => intro xs ys h1 h2 bs e; cases h1; cases h2; simp [eqZ] at e; subst e; rfl
      | cons v vs ihv =>
        intro xs ys h1 h2 bs e
        cases h1 with
        | cons r1 t1 =>
          cases h2 with
          | cons r2 t2 =>
            unfold eqZ at e
            rename_i d1 ds1 d2 ds2
            cases e1 : eqD n d1 d2 with
            | none => rw [e1] at e; cases e
            | some b =>
              rw [e1] at e
              cases e2 : eqZ (eqD n) ds1 ds2 with
              | none => rw [e2] at e; cases e
              | some cs =>
                rw [e2] at e
                cases e
                rw [List.all_cons, ih _ _ _ _ e1 r1 r2, ihv _ _ t1 t2 _ e2]
                rfl
    intro a b k x e ra rb
    cases ra with
    | non => cases rb; simp [eqD] at e; exact e
    | bl y => cases rb; simp [eqD] at e; exact e
    | int i => cases rb; simp [eqD] at e; exact e
    | str y h =>
      cases rb with
      | str z h' => simp [eqD] at e; exact e
    | tup h r =>
      cases rb with
      | tup h' r' =>
        have q := I.tuple_inj (h.mono sub) (h'.mono sub)
        subst q
        simp only [eqD] at e
        rename_i ds es
        cases e2 : eqZ (eqD n) ds es with
        | none => rw [e2] at e; cases e
        | some cs =>
          rw [e2] at e
          have this : (cs.all id && ds.length == es.length) = k := Option.some.inj e
          rw [sq _ _ _ r r' _ e2, Bool.true_and] at this
          rw [<- this, <- r.length, <- r'.length]
          simp
      | lst h' r' =>
        obtain ⟨its, _, ⟨o, e1, c1, _⟩, _⟩ := I.tuple (h.mono sub)
        obtain ⟨_, its', n', _, e2⟩ := I.hok _ _ (sub _ _ h')
        rw [e1] at e2; cases e2; exact absurd c1 cT
      | fls h' r' =>
        obtain ⟨its, _, ⟨o, e1, c1, _⟩, _⟩ := I.tuple (h.mono sub)
        obtain ⟨its', _, ⟨o', n', e2, c2, _⟩, _⟩ := I.list (h'.mono sub)
        rw [e1] at e2; cases e2; rw [c1] at c2; exact absurd c2.symm cT
      | exc h' => simp [eqD] at e
    | lst h r =>
      have hl : SqL X.K G _ _ := SqL.of h
      cases rb with
      | tup h' r' =>
        obtain ⟨its, _, ⟨o, e1, c1, _⟩, _⟩ := I.tuple (h'.mono sub)
        obtain ⟨_, its', n', _, e2⟩ := I.hok _ _ (sub _ _ h)
        rw [e1] at e2; cases e2; exact absurd c1 cT
      | lst h' r' =>
        rw [h] at h'; cases h'
        simp only [eqD] at e
        rw [if_pos (by rw [<- r.length, <- r'.length])] at e
        rename_i ds es
        cases e2 : eqZ (eqD n) ds es with
        | none => rw [e2] at e; cases e
        | some cs => rw [e2] at e; have := Option.some.inj e; rw [<- this]; exact sq _ _ _ r r' _ e2
      | fls h' r' =>
        have q := I.list_inj (hl.mono sub) (h'.mono sub)
        subst q
        simp only [eqD] at e
        rw [if_pos (by rw [<- r.length, <- r'.length])] at e
        rename_i ds es
        cases e2 : eqZ (eqD n) ds es with
        | none => rw [e2] at e; cases e
        | some cs => rw [e2] at e; have := Option.some.inj e; rw [<- this]; exact sq _ _ _ r r' _ e2
      | exc h' => simp [eqD] at e
    | fls h r =>
      cases rb with
      | tup h' r' =>
        obtain ⟨its, _, ⟨o, e1, c1, _⟩, _⟩ := I.tuple (h'.mono sub)
        obtain ⟨its', _, ⟨o', n', e2, c2, _⟩, _⟩ := I.list (h.mono sub)
        rw [e1] at e2; cases e2; rw [c1] at c2; exact absurd c2.symm cT
      | lst h' r' =>
        have q := I.list_inj (h.mono sub) ((SqL.of h' : SqL X.K G _ _).mono sub)
        subst q
        simp only [eqD] at e
        rw [if_pos (by rw [<- r.length, <- r'.length])] at e
        rename_i ds es
        cases e2 : eqZ (eqD n) ds es with
        | none => rw [e2] at e; cases e
        | some cs => rw [e2] at e; have := Option.some.inj e; rw [<- this]; exact sq _ _ _ r r' _ e2
      | fls h' r' =>
        have q := I.list_inj (h.mono sub) (h'.mono sub)
        subst q
        simp only [eqD] at e
        rw [if_pos (by rw [<- r.length, <- r'.length])] at e
        rename_i ds es
        cases e2 : eqZ (eqD n) ds es with
        | none => rw [e2] at e; cases e
        | some cs => rw [e2] at e; have := Option.some.inj e; rw [<- this]; exact sq _ _ _ r r' _ e2
      | exc h' => simp [eqD] at e
    | exc h => simp [eqD] at e

structure Eqs (A : Around) (s : Shared) (v u : Value) (k : Bool) : Prop where
  eq : EqAt A s v u k
  rc : RcAt A s v u k
  ne : RcNeAt A s v u (!k)
theorem gn {f : Bool} {x : V} {u : Value} {ds : List D} (I : Inv X pins σ H s) (sub : Same G H) (r : Rep X.K G x (.lst f ds)) (ru : RelV x u) : ∃ a its vs, u = .ref a /\ s.heap.IsList a (List.toArray its) /\ Vals vs its /\ Reps X.K G vs ds := by
  obtain ⟨a, vs, rfl, h, t⟩ := r.seq_inv
  cases ru
  obtain ⟨its, rv, ⟨o, n, e1, c1, _, d1⟩, _⟩ := I.list (h.mono sub)
  exact ⟨a, its, vs, rfl, ⟨o, e1, c1, n, d1⟩, rv, t⟩
theorem jy {x : V} {u : Value} {ds : List D} (I : Inv X pins σ H s) (sub : Same G H) (r : Rep X.K G x (.tup ds)) (ru : RelV x u) : ∃ a its vs, u = .ref a /\ s.heap.IsTuple a (List.toArray its) /\ Vals vs its /\ Reps X.K G vs ds := by
  obtain ⟨a, vs, rfl, h, t⟩ := r.tup_inv
  cases ru
  obtain ⟨its, rv, p, _⟩ := I.tuple (h.mono sub)
  exact ⟨a, its, vs, rfl, p, rv, t⟩
theorem sd (I : Inv X pins σ H s) (sub : Same G H) : ∀ (n : Nat) (A : Around) (a b : D) (k : Bool) (x y : V) (v u : Value), A.units + n < cLine -> eqD n a b = some k -> Rep X.K G x a -> Rep X.K G y b -> RelV x v -> RelV y u -> Eqs A s v u k := by
  intro n
  induction n with
  | zero => intro A a b k x y v u _ e; cases e
  | succ n ih =>
    have sq : ∀ (A : Around) (vs ws : List V) (xs ys : List D) (is js : List Value) (bs : List Bool), A.units + (n + 1) < cLine -> Reps X.K G vs xs -> Reps X.K G ws ys -> Vals vs is -> Vals ws js -> eqZ (eqD n) xs ys = some bs ->
        bs.length = min is.length js.length /\ ∀ j (h1 : j < is.toArray.size) (h2 : j < js.toArray.size), EqAt A.in1 s is.toArray[j] js.toArray[j] (bs.getD j true) := by
      intro A vs ws xs ys is js bs hA r1 r2 v1 v2 e
      obtain ⟨h1, h2⟩ := eqZ.get e
      refine ⟨by rw [h1, <- r1.length, <- r2.length, v1.length, v2.length], fun j q1 q2 => ?_⟩
      rw [List.size_toArray] at q1 q2
      have p1 : j < xs.length := by rw [<- r1.length, v1.length]; exact q1
      have p2 : j < ys.length := by rw [<- r2.length, v2.length]; exact q2
      obtain ⟨b, e1, e2⟩ := h2 j xs[j] ys[j] (by simp [p1]) (by simp [p2])
      obtain ⟨x', ex, rx⟩ := r1.get (i := j) (d := xs[j]) (by simp [p1])
      obtain ⟨y', ey, ry⟩ := r2.get (i := j) (d := ys[j]) (by simp [p2])
      obtain ⟨u1, eu1, ru1⟩ := v1.get ex
      obtain ⟨u2, eu2, ru2⟩ := v2.get ey
      have g1 : is.toArray[j] = u1 := by simpa [q1] using eu1
      have g2 : js.toArray[j] = u2 := by simpa [q2] using eu2
      rw [List.getD_eq_getElem?_getD, e1]
      simp only [List.getElem_toArray] at g1 g2 ⊢
      rw [g1, g2]
      exact (ih A.in1 _ _ b x' y' u1 u2 (by show A.units + 1 + n < cLine; omega) e2 rx ry ru1 ru2).eq
    intro A a b k x y v u hA e ra rb rv ru
    have hu : A.units < cLine := by omega
    have same : ∀ c d : Addr, v = .ref c -> u = .ref d -> c = d -> k = true := fun c d h1 h2 h3 => by
      subst h1 h2 h3
      cases ra with
      | tup h r => cases rv; cases rb with
        | tup h' r' => cases ru; exact eT I sub (n + 1) _ _ k _ e (.tup h r) (.tup h' r')
        | lst h' r' => cases ru; exact eT I sub (n + 1) _ _ k _ e (.tup h r) (.lst h' r')
        | fls h' r' => cases ru; exact eT I sub (n + 1) _ _ k _ e (.tup h r) (.fls h' r')
        | exc h' => simp [eqD] at e
        | str _ _ => obtain ⟨t, z⟩ := ru; cases z
        | int _ => obtain ⟨t, z⟩ := ru; cases z
        | non => cases ru
        | bl _ => cases ru
      | lst h r => cases rv; cases rb with
        | tup h' r' => cases ru; exact eT I sub (n + 1) _ _ k _ e (.lst h r) (.tup h' r')
        | lst h' r' => cases ru; exact eT I sub (n + 1) _ _ k _ e (.lst h r) (.lst h' r')
        | fls h' r' => cases ru; exact eT I sub (n + 1) _ _ k _ e (.lst h r) (.fls h' r')
        | exc h' => simp [eqD] at e
        | str _ _ => obtain ⟨t, z⟩ := ru; cases z
        | int _ => obtain ⟨t, z⟩ := ru; cases z
        | non => cases ru
        | bl _ => cases ru
      | fls h r => cases rv; cases rb with
        | tup h' r' => cases ru; exact eT I sub (n + 1) _ _ k _ e (.fls h r) (.tup h' r')
        | lst h' r' => cases ru; exact eT I sub (n + 1) _ _ k _ e (.fls h r) (.lst h' r')
        | fls h' r' => cases ru; exact eT I sub (n + 1) _ _ k _ e (.fls h r) (.fls h' r')
        | exc h' => simp [eqD] at e
        | str _ _ => obtain ⟨t, z⟩ := ru; cases z
        | int _ => obtain ⟨t, z⟩ := ru; cases z
        | non => cases ru
        | bl _ => cases ru
      | exc h => simp [eqD] at e
      | str _ _ => obtain ⟨t, z⟩ := rv; cases z
      | int _ => obtain ⟨t, z⟩ := rv; cases z
      | non => cases rv
      | bl _ => cases rv
    have refs : ∀ c d : Addr, v = .ref c -> u = .ref d -> RcAt A s v u k -> EqAt A s v u k := fun c d h1 h2 h => by
      subst h1 h2
      by_cases h3 : c = d
      . have := same c d rfl rfl h3
        subst h3 this
        exact EqAt.same _
      . exact EqAt.of_refs h3 h
    cases a with
    | exc C => simp [eqD] at e
    | non =>
      obtain rfl := ra.non_inv
      cases rv
      cases b with
      | exc C => simp [eqD] at e
      | non => obtain rfl := rb.non_inv; cases ru; simp [eqD] at e; subst e; exact ⟨EqAt.same _, RcAt.none_none, RcNeAt.none_none⟩
      | bl z => obtain rfl := rb.bl_inv; cases ru; simp [eqD] at e; subst e; exact ⟨EqAt.none_bool _, RcAt.none_bool _, RcNeAt.none_bool _⟩
      | int z => obtain rfl := rb.int_inv; obtain ⟨t, rfl⟩ := ru; simp [eqD] at e; subst e; exact ⟨EqAt.none_int _ _, RcAt.none_int _ _, RcNeAt.none_int _ _⟩
      | str z => obtain ⟨z, rfl, -, -⟩ := rb.str_inv; obtain ⟨t, rfl⟩ := ru; simp [eqD] at e; subst e; exact ⟨EqAt.none_str _ _, RcAt.none_str _ _, RcNeAt.none_str _ _⟩
      | tup ds => obtain ⟨c, its, vs, rfl, p, _, _⟩ := jy I sub rb ru; simp [eqD] at e; subst e; exact ⟨EqAt.none_tuple p hu, RcAt.none_tuple p hu, RcNeAt.none_tuple p hu⟩
      | lst f ds => obtain ⟨c, its, vs, rfl, p, _, _⟩ := gn I sub rb ru; simp [eqD] at e; subst e; exact ⟨EqAt.none_list p hu, RcAt.none_list p hu, RcNeAt.none_list p hu⟩
    | bl w =>
      obtain rfl := ra.bl_inv
      cases rv
      cases b with
      | exc C => simp [eqD] at e
      | non => obtain rfl := rb.non_inv; cases ru; simp [eqD] at e; subst e; exact ⟨EqAt.bool_none _, RcAt.bool_none _, RcNeAt.bool_none _⟩
      | bl z => obtain rfl := rb.bl_inv; cases ru; simp only [eqD] at e; cases e; exact ⟨EqAt.bool_bool _ _, RcAt.bool_bool _ _, RcNeAt.bool_bool _ _⟩
      | int z => obtain rfl := rb.int_inv; obtain ⟨t, rfl⟩ := ru; simp only [eqD] at e; cases e; exact ⟨EqAt.bool_int _ _ _, RcAt.bool_int _ _ _, RcNeAt.bool_int _ _ _⟩
      | str z => obtain ⟨z, rfl, -, -⟩ := rb.str_inv; obtain ⟨t, rfl⟩ := ru; simp [eqD] at e; subst e; exact ⟨EqAt.bool_str _ _ _, RcAt.bool_str _ _ _, RcNeAt.bool_str _ _ _⟩
      | tup ds => obtain ⟨c, its, vs, rfl, p, _, _⟩ := jy I sub rb ru; simp [eqD] at e; subst e; exact ⟨EqAt.bool_tuple _ p hu, RcAt.bool_tuple _ p hu, RcNeAt.bool_tuple _ p hu⟩
      | lst f ds => obtain ⟨c, its, vs, rfl, p, _, _⟩ := gn I sub rb ru; simp [eqD] at e; subst e; exact ⟨EqAt.bool_list _ p hu, RcAt.bool_list _ p hu, RcNeAt.bool_list _ p hu⟩
    | int w =>
      obtain rfl := ra.int_inv
      obtain ⟨t0, rfl⟩ := rv
      cases b with
      | exc C => simp [eqD] at e
      | non => obtain rfl := rb.non_inv; cases ru; simp [eqD] at e; subst e; exact ⟨EqAt.int_none _ _, RcAt.int_none _ _, RcNeAt.int_none _ _⟩
      | bl z => obtain rfl := rb.bl_inv; cases ru; simp only [eqD] at e; cases e; exact ⟨EqAt.int_bool _ _ _, RcAt.int_bool _ _ _, RcNeAt.int_bool _ _ _⟩
      | int z => obtain rfl := rb.int_inv; obtain ⟨t, rfl⟩ := ru; simp only [eqD] at e; cases e; exact ⟨EqAt.int_int _ _ _ _, RcAt.int_int _ _ _ _, RcNeAt.int_int _ _ _ _⟩
      | str z => obtain ⟨z, rfl, -, -⟩ := rb.str_inv; obtain ⟨t, rfl⟩ := ru; simp [eqD] at e; subst e; exact ⟨EqAt.int_str _ _ _ _, RcAt.int_str _ _ _ _, RcNeAt.int_str _ _ _ _⟩
      | tup ds => obtain ⟨c, its, vs, rfl, p, _, _⟩ := jy I sub rb ru; simp [eqD] at e; subst e; exact ⟨EqAt.int_tuple _ _ p hu, RcAt.int_tuple _ _ p hu, RcNeAt.int_tuple _ _ p hu⟩
      | lst f ds => obtain ⟨c, its, vs, rfl, p, _, _⟩ := gn I sub rb ru; simp [eqD] at e; subst e; exact ⟨EqAt.int_list _ _ p hu, RcAt.int_list _ _ p hu, RcNeAt.int_list _ _ p hu⟩
    | str w =>
      obtain ⟨w, rfl, ew, -⟩ := ra.str_inv
      obtain ⟨t0, rfl⟩ := rv
      cases b with
      | exc C => simp [eqD] at e
      | non => obtain rfl := rb.non_inv; cases ru; simp [eqD] at e; subst e; exact ⟨EqAt.str_none _ _, RcAt.str_none _ _, RcNeAt.str_none _ _⟩
      | bl z => obtain rfl := rb.bl_inv; cases ru; simp [eqD] at e; subst e; exact ⟨EqAt.str_bool _ _ _, RcAt.str_bool _ _ _, RcNeAt.str_bool _ _ _⟩
      | int z => obtain rfl := rb.int_inv; obtain ⟨t, rfl⟩ := ru; simp [eqD] at e; subst e; exact ⟨EqAt.str_int _ _ _ _, RcAt.str_int _ _ _ _, RcNeAt.str_int _ _ _ _⟩
      | str z =>
        obtain ⟨z, rfl, ez, -⟩ := rb.str_inv; obtain ⟨t, rfl⟩ := ru
        simp only [eqD] at e
        subst ew ez
        rw [str_beq] at e
        cases e
        exact ⟨EqAt.str_str _ _ _ _, RcAt.str_str _ _ _ _, RcNeAt.str_str _ _ _ _⟩
      | tup ds => obtain ⟨c, its, vs, rfl, p, _, _⟩ := jy I sub rb ru; simp [eqD] at e; subst e; exact ⟨EqAt.str_tuple _ _ p hu, RcAt.str_tuple _ _ p hu, RcNeAt.str_tuple _ _ p hu⟩
      | lst f ds => obtain ⟨c, its, vs, rfl, p, _, _⟩ := gn I sub rb ru; simp [eqD] at e; subst e; exact ⟨EqAt.str_list _ _ p hu, RcAt.str_list _ _ p hu, RcNeAt.str_list _ _ p hu⟩
    | tup ds1 =>
      obtain ⟨c1, its1, vs1, rfl, p1, w1, q1⟩ := jy I sub ra rv
      cases b with
      | exc C => simp [eqD] at e
      | non => obtain rfl := rb.non_inv; cases ru; simp [eqD] at e; subst e; exact ⟨EqAt.tuple_none p1 hu, RcAt.tuple_none p1 hu, RcNeAt.tuple_none p1 hu⟩
      | bl z => obtain rfl := rb.bl_inv; cases ru; simp [eqD] at e; subst e; exact ⟨EqAt.tuple_bool _ p1 hu, RcAt.tuple_bool _ p1 hu, RcNeAt.tuple_bool _ p1 hu⟩
      | int z => obtain rfl := rb.int_inv; obtain ⟨t, rfl⟩ := ru; simp [eqD] at e; subst e; exact ⟨EqAt.tuple_int _ _ p1 hu, RcAt.tuple_int _ _ p1 hu, RcNeAt.tuple_int _ _ p1 hu⟩
      | str z => obtain ⟨z, rfl, -, -⟩ := rb.str_inv; obtain ⟨t, rfl⟩ := ru; simp [eqD] at e; subst e; exact ⟨EqAt.tuple_str _ _ p1 hu, RcAt.tuple_str _ _ p1 hu, RcNeAt.tuple_str _ _ p1 hu⟩
      | lst f ds => obtain ⟨c, its, vs, rfl, p, _, _⟩ := gn I sub rb ru; simp [eqD] at e; subst e; exact ⟨EqAt.tuple_list p1 p hu, RcAt.tuple_list p1 p hu, RcNeAt.tuple_list p1 p hu⟩
      | tup ds2 =>
        obtain ⟨c2, its2, vs2, rfl, p2, w2, q2⟩ := jy I sub rb ru
        simp only [eqD] at e
        cases e2 : eqZ (eqD n) ds1 ds2 with
        | none => rw [e2] at e; cases e
        | some bs =>
          rw [e2] at e
          have ek := Option.some.inj e
          obtain ⟨hl, he⟩ := sq A _ _ _ _ _ _ bs hA q1 q2 w1 w2 e2
          have e3 : ((List.range (min its1.toArray.size its2.toArray.size)).all (fun j => bs.getD j true) && its1.toArray.size == its2.toArray.size) = k := by
            rw [<- ek, List.size_toArray, List.size_toArray, jh hl, <- w1.length, <- w2.length, q1.length, q2.length]
          have hrc : RcAt A s (.ref c1) (.ref c2) k := by rw [<- e3]; exact RcAt.tuples p1 p2 hu he
          have hne : RcNeAt A s (.ref c1) (.ref c2) (!k) := by rw [<- e3]; exact RcNeAt.tuples p1 p2 hu he
          exact ⟨refs _ _ rfl rfl hrc, hrc, hne⟩
    | lst f1 ds1 =>
      obtain ⟨c1, its1, vs1, rfl, p1, w1, q1⟩ := gn I sub ra rv
      cases b with
      | exc C => simp [eqD] at e
      | non => obtain rfl := rb.non_inv; cases ru; simp [eqD] at e; subst e; exact ⟨EqAt.list_none p1 hu, RcAt.list_none p1 hu, RcNeAt.list_none p1 hu⟩
      | bl z => obtain rfl := rb.bl_inv; cases ru; simp [eqD] at e; subst e; exact ⟨EqAt.list_bool _ p1 hu, RcAt.list_bool _ p1 hu, RcNeAt.list_bool _ p1 hu⟩
      | int z => obtain rfl := rb.int_inv; obtain ⟨t, rfl⟩ := ru; simp [eqD] at e; subst e; exact ⟨EqAt.list_int _ _ p1 hu, RcAt.list_int _ _ p1 hu, RcNeAt.list_int _ _ p1 hu⟩
      | str z => obtain ⟨z, rfl, -, -⟩ := rb.str_inv; obtain ⟨t, rfl⟩ := ru; simp [eqD] at e; subst e; exact ⟨EqAt.list_str _ _ p1 hu, RcAt.list_str _ _ p1 hu, RcNeAt.list_str _ _ p1 hu⟩
      | tup ds => obtain ⟨c, its, vs, rfl, p, _, _⟩ := jy I sub rb ru; simp [eqD] at e; subst e; exact ⟨EqAt.list_tuple p1 p hu, RcAt.list_tuple p1 p hu, RcNeAt.list_tuple p1 p hu⟩
      | lst f2 ds2 =>
        obtain ⟨c2, its2, vs2, rfl, p2, w2, q2⟩ := gn I sub rb ru
        simp only [eqD] at e
        by_cases hlen : ds1.length = ds2.length
        . rw [if_pos hlen] at e
          cases e2 : eqZ (eqD n) ds1 ds2 with
          | none => rw [e2] at e; cases e
          | some bs =>
            rw [e2] at e
            have ek := Option.some.inj e
            obtain ⟨hl, he⟩ := sq A _ _ _ _ _ _ bs hA q1 q2 w1 w2 e2
            have hz : its1.toArray.size = its2.toArray.size := by rw [List.size_toArray, List.size_toArray, <- w1.length, <- w2.length, q1.length, q2.length]; exact hlen
            have e3 : (List.range its1.toArray.size).all (fun j => bs.getD j true) = k := by
              rw [<- ek, jh]
              rw [hl, List.size_toArray]
              simp only [List.size_toArray] at hz
              omega
            have hrc : RcAt A s (.ref c1) (.ref c2) k := by rw [<- e3]; exact RcAt.lists p1 p2 hz hu he
            have hne : RcNeAt A s (.ref c1) (.ref c2) (!k) := by rw [<- e3]; exact RcNeAt.lists p1 p2 hz hu he
            exact ⟨refs _ _ rfl rfl hrc, hrc, hne⟩
        . rw [if_neg hlen] at e
          cases e
          have hz : (its1.toArray.size != its2.toArray.size) = true := by
            rw [List.size_toArray, List.size_toArray, <- w1.length, <- w2.length, q1.length, q2.length]
            simpa using hlen
          have hrc : RcAt A s (.ref c1) (.ref c2) false := RcAt.lists_lengths p1 p2 hz hu
          exact ⟨refs _ _ rfl rfl hrc, hrc, RcNeAt.lists_lengths p1 p2 hz hu⟩
end
section
variable {X : Cx} {a b : Expr} {ga gb : Ev -> R D} {pos : Pos}
def eqF (x y : D) : Option D := (eqD 40 x y).map .bl
def neF (x y : D) : Option D := (eqD 40 x y).map fun k => .bl (!k)
def CA (K : PySem.W.Frag) (neg : Bool) : R2 := fun x y H Q => ∃ G dx dy k, Same G H /\ Rep K G x dx /\ Rep K G y dy /\ eqD 40 dx dy = some k /\ Q (.bl (if neg then !k else k)) H
theorem vW (hu : X.A.units + 64 < cLine) : OpR X (compareOp .Eq) (CA X.K false) := by
  intro pins s σ H x y v u Q I rx ry h
  obtain ⟨G, dx, dy, k, sub, r1, r2, e, q⟩ := h
  exact (sd I sub 40 X.A dx dy k x y v u (by omega) e r1 r2 rx ry).rc _ _ _ _ ⟨.bl k, H, I, rfl, q⟩
theorem we (hu : X.A.units + 64 < cLine) : OpR X (compareOp .NotEq) (CA X.K true) := by
  intro pins s σ H x y v u Q I rx ry h
  obtain ⟨G, dx, dy, k, sub, r1, r2, e, q⟩ := h
  exact (sd I sub 40 X.A dx dy k x y v u (by omega) e r1 r2 rx ry).ne _ _ _ _ ⟨.bl (!k), H, I, rfl, q⟩
theorem xX (hu : X.A.units + 64 < cLine) (ha : QF X a ga) (hb : QF X b gb) : QF X (.Compare a [.Eq] [b] pos) (g2 eqF ga gb) := iS (vW hu) (by
  intro G H x y dx dy d Q s rx ry e q
  unfold eqF at e
  cases e1 : eqD 40 dx dy with
  | none => rw [e1] at e; cases e
  | some k => rw [e1] at e; cases e; exact ⟨G, dx, dy, k, s, rx, ry, e1, q _ G H (.refl s) (.bl k)⟩) ha hb (iC _)
theorem wT (hu : X.A.units + 64 < cLine) (ha : QF X a ga) (hb : QF X b gb) : QF X (.Compare a [.NotEq] [b] pos) (g2 neF ga gb) := iS (we hu) (by
  intro G H x y dx dy d Q s rx ry e q
  unfold neF at e
  cases e1 : eqD 40 dx dy with
  | none => rw [e1] at e; cases e
  | some k => rw [e1] at e; cases e; exact ⟨G, dx, dy, k, s, rx, ry, e1, q _ G H (.refl s) (.bl (!k))⟩) ha hb (iC _)
end
end L2
namespace L2
open PySem PySem.Spec PyProof.Rows
section
variable {X : Cx} {a b c e : Expr} {es de : List Expr} {ga gb gc : Ev -> R D} {gt gu : Ev -> R Bool} {gl : Ev -> R (List D)} {pos : Pos}

def isD : D -> D -> Option Bool
  | .non, .non => some true
  | _, .non => some false
  | .bl x, .bl y => some (x == y)
  | _, _ => none
def isF (x y : D) : Option D := (isD x y).map .bl
def rIs (neg : Bool) : R2 := fun x y H Q => (y = .non /\ Q (.bl (if neg then !decide (x = .non) else decide (x = .non))) H) \/ ∃ i j, x = .bl i /\ y = .bl j /\ Q (.bl (if neg then !(i == j) else (i == j))) H
theorem zW : OpR X (compareOp .Is) (rIs false) := op_isN.or (r' := fun x y H Q => ∃ i j, x = .bl i /\ y = .bl j /\ Q (.bl (i == j)) H) (by
  intro pins s σ H x y v u Q I rx ry h
  obtain ⟨i, j, rfl, rfl, q⟩ := h
  cases rx
  cases ry
  exact is_bool ⟨.bl _, H, I, rfl, q⟩)
theorem Cw (K : PySem.W.Frag) (neg : Bool) : ROk K (rIs neg) (fun x y => (isD x y).map fun k => .bl (if neg then !k else k)) := by
  intro G H x y dx dy d Q s rx ry e q
  dsimp only at e
  cases e1 : isD dx dy with
  | none => rw [e1] at e; cases e
  | some k =>
    rw [e1] at e
    have ed : D.bl (if neg = true then !k else k) = d := Option.some.inj e
    subst ed
    unfold isD at e1
    split at e1
    . cases e1
      exact .inl ⟨ry.non_inv, by rw [rx.non_inv]; exact q _ G H (.refl s) (.bl _)⟩
    . rename_i hx
      cases e1
      have hn : x ≠ .non := fun z => by subst z; cases rx; exact hx rfl
      refine .inl ⟨ry.non_inv, ?_⟩
      rw [decide_eq_false hn]
      exact q _ G H (.refl s) (.bl _)
    . cases e1
      exact .inr ⟨_, _, rx.bl_inv, ry.bl_inv, q _ G H (.refl s) (.bl _)⟩
    . cases e1
def asB : D -> R Bool
  | .bl k => .ok k
  | _ => .no
def jc (ga gb : Ev -> R D) : Ev -> R D := fun ρ => ga ρ >>= fun x => asB x >>= fun k => if k = true then gb ρ else .ok (.bl false)
def gOr (ga gb : Ev -> R D) : Ev -> R D := fun ρ => ga ρ >>= fun x => asB x >>= fun k => if k = true then .ok (.bl true) else gb ρ
def zc (ga : Ev -> R D) : Ev -> R D := fun ρ => ga ρ >>= fun x => asB x >>= fun k => .ok (.bl (!k))
theorem asB.ok {β : Type} {K : PySem.W.Frag} {G : Hp} {v : V} {d : D} {k : Bool -> R β} {P : β -> Prop} {E : Addr -> Prop} (r : Rep K G v d) (h : (asB d >>= k).post P E) : ∃ c, v = .bl c /\ d = .bl c /\ (k c).post P E := by
  cases r with
  | bl c => exact ⟨c, rfl, rfl, h⟩
  | _ => exact h.elim
theorem ua {op : BoolOp} (h : QF X a ga) : QF X (.BoolOp op [a] pos) ga := zj h
theorem uJ (ha : QF X a ga) (hb : QF X (.BoolOp .And (b :: de) pos) gb) : QF X (.BoolOp .And (a :: b :: de) pos) (jc ga gb) := by
  intro pins s σ H Q I h
  refine zN ha hb pins s σ H Q I ?_
  obtain ⟨G, ρ, st, h⟩ := h
  refine tG.intro st h fun x v G1 H1 u1 st1 r1 h1 => ?_
  obtain ⟨c, ec, ed, h2⟩ := asB.ok r1 h1
  subst ec ed
  refine ⟨c, rfl, ?_⟩
  cases c with
  | true => rw [if_pos rfl] at h2 ⊢; exact tG.last st1 h2
  | false => rw [if_neg Bool.false_ne_true] at h2 ⊢; exact h2 _ G1 H1 (.refl st1.sub) (.bl false)
theorem xU (ha : QF X a ga) (hb : QF X (.BoolOp .Or (b :: de) pos) gb) : QF X (.BoolOp .Or (a :: b :: de) pos) (gOr ga gb) := by
  intro pins s σ H Q I h
  refine CC ha hb pins s σ H Q I ?_
  obtain ⟨G, ρ, st, h⟩ := h
  refine tG.intro st h fun x v G1 H1 u1 st1 r1 h1 => ?_
  obtain ⟨c, ec, ed, h2⟩ := asB.ok r1 h1
  subst ec ed
  refine ⟨c, rfl, ?_⟩
  cases c with
  | true => rw [if_pos rfl] at h2 ⊢; exact h2 _ G1 H1 (.refl st1.sub) (.bl true)
  | false => rw [if_neg Bool.false_ne_true] at h2 ⊢; exact tG.last st1 h2
theorem vx (ha : QF X a ga) : QF X (.UnaryOp .Not a pos) (zc ga) := by
  intro pins s σ H Q I h
  refine zv ha pins s σ H Q I ?_
  obtain ⟨G, ρ, st, h⟩ := h
  refine tG.intro st h fun x v G1 H1 u1 st1 r1 h1 => ?_
  obtain ⟨c, ec, ed, h2⟩ := asB.ok r1 h1
  subst ec ed
  exact ⟨c, rfl, h2 _ G1 H1 (.refl st1.sub) (.bl _)⟩
def qA : D -> R D
  | .int i => .ok (.int (-i))
  | _ => .no
theorem vN (ha : QF X a ga) : QF X (.UnaryOp .USub a pos) (fun ρ => ga ρ >>= qA) := by
  intro pins s σ H Q I h
  refine B8 AV ha pins s σ H Q I ?_
  obtain ⟨G, ρ, st, h⟩ := h
  refine tG.intro st h fun x v G1 H1 u1 st1 r1 h1 => ?_
  cases r1 with
  | int i => exact ⟨i, rfl, h1 _ G1 H1 (.refl st1.sub) (.int _)⟩
  | _ => exact h1.elim

def iu : D -> R Bool
  | .non => .ok false
  | .bl k => .ok k
  | .int i => .ok (i != 0)
  | .str x => .ok (!x.isEmpty)
  | .tup xs => .ok (!xs.isEmpty)
  | .lst _ xs => .ok (!xs.isEmpty)
  | .exc _ => .no
theorem Reps.isEmpty {K : PySem.W.Frag} {G : Hp} {vs : List V} {ds : List D} (r : Reps K G vs ds) : vs.isEmpty = ds.isEmpty := by cases r <;> rfl
theorem vb (h : QF X e ga) (he : ∀ whole, isTrue e X.env whole = (do let v <- whole; standAt e.pos; holding [v] (truthy v)) := by intro _; rfl) : QB X e (fun ρ => ga ρ >>= iu) := by
  intro pins s σ H Q I hq
  refine vO h he pins s σ H Q I ?_
  obtain ⟨G, ρ, st, hq⟩ := hq
  refine tG.intro st hq fun x v G1 H1 u1 st1 r1 h1 => ?_
  have fin : ∀ k, iu x = .ok k -> Q k H1 := fun k ek => by rw [ek] at h1; exact h1 k G1 H1 (.refl st1.sub) rfl
  cases r1 with
  | non => exact ⟨_, rfl, fin _ rfl⟩
  | bl k => exact ⟨_, rfl, fin _ rfl⟩
  | int i => exact ⟨_, rfl, fin _ rfl⟩
  | str y hy =>
    refine ⟨_, ⟨hy, rfl⟩, fin _ ?_⟩
    show R.ok _ = R.ok _
    congr 1
    have : y.cps.toList.length = y.length := Str.len_list y
    cases h : y.cps.toList with
    | nil => rw [h] at this; rw [<- this]; rfl
    | cons c cs => rw [h] at this; rw [<- this]; simp; omega
  | tup h r => exact ⟨_, .inr (.inl ⟨_, h.mono st1.sub, rfl⟩), fin _ (by show R.ok _ = R.ok _; rw [r.isEmpty])⟩
  | lst h r => exact ⟨_, .inl ⟨_, .of (st1.sub _ _ h), rfl⟩, fin _ (by show R.ok _ = R.ok _; rw [r.isEmpty])⟩
  | fls h r => exact ⟨_, .inl ⟨_, h.mono st1.sub, rfl⟩, fin _ (by show R.ok _ = R.ok _; rw [r.isEmpty])⟩
  | exc h => exact h1.elim
theorem gP {op : CmpOp} {r : R2} {f : D -> D -> Option D} (ho : OpR X (compareOp op) r) (hf : ROk X.K r f) (ha : QF X a ga) (hb : QF X b gb) (hm : behindInMarks op b = false) : QB X (.Compare a [op] [b] pos) (fun ρ => g2 f ga gb ρ >>= asB) := by
  intro pins s σ H Q I h
  refine wV ho ha hb hm pins s σ H Q I ?_
  obtain ⟨G, ρ, st, h⟩ := h
  refine ue hf ?_
  refine tG.intro st h fun x v G1 H1 u1 st1 r1 h1 => ?_
  cases r1 with
  | bl k => exact ⟨k, rfl, h1 k G1 H1 (.refl st1.sub) rfl⟩
  | _ => exact h1.elim
theorem yV (ha : QF X a ga) (hb : QF X b gb) : QB X (.Compare a [.Lt] [b] pos) (fun ρ => g2 ltD ga gb ρ >>= asB) := gP qP (xq _) ha hb (iC _)
theorem yU (ha : QF X a ga) (hb : QF X b gb) : QB X (.Compare a [.Gt] [b] pos) (fun ρ => g2 gtD ga gb ρ >>= asB) := gP CD (CT _) ha hb (iC _)
theorem wC (K : PySem.W.Frag) (neg : Bool) : ROk K (CA K neg) (fun x y => (eqD 40 x y).map fun k => .bl (if neg then !k else k)) := by
  intro G H x y dx dy d Q s rx ry e q
  dsimp only at e
  cases e1 : eqD 40 dx dy with
  | none => rw [e1] at e; cases e
  | some k => rw [e1] at e; cases e; exact ⟨G, dx, dy, k, s, rx, ry, e1, q _ G H (.refl s) (.bl _)⟩
theorem yO (hu : X.A.units + 64 < cLine) (ha : QF X a ga) (hb : QF X b gb) : QB X (.Compare a [.Eq] [b] pos) (fun ρ => g2 eqF ga gb ρ >>= asB) := gP (vW hu) (wC _ false) ha hb (iC _)
theorem yq (hu : X.A.units + 64 < cLine) (ha : QF X a ga) (hb : QF X b gb) : QB X (.Compare a [.NotEq] [b] pos) (fun ρ => g2 neF ga gb ρ >>= asB) := gP (we hu) (wC _ true) ha hb (iC _)
theorem xI (ha : QF X a ga) (hb : QF X b gb) : QB X (.Compare a [.Is] [b] pos) (fun ρ => g2 isF ga gb ρ >>= asB) := gP zW (Cw _ false) ha hb (iC _)
theorem qk {op op' : CmpOp} {r r' : R2} {f f' : D -> D -> Option D} (ho : OpR X (compareOp op) r) (ho' : OpR X (compareOp op') r') (hf : ROk X.K r f) (hf' : ROk X.K r' f') (ha : QF X a ga) (hb : QF X b gb) (hc : QF X c gc)
    (hm : lastMarks [op, op'] [b, c] = false := by with_unfolding_all rfl) : QB X (.Compare a [op, op'] [b, c] pos) (fun ρ => g3 f f' ga gb gc ρ >>= asB) := by
  intro pins s σ H Q I h
  refine ub ho ho' ha hb hc hm pins s σ H Q I ?_
  obtain ⟨G, ρ, st, h⟩ := h
  have h' : (ga ρ >>= fun x => gb ρ >>= fun y => ofO (f x y) >>= fun z => (match z with | .bl true => gc ρ >>= fun w => ofO (f' y w) | .bl false => .ok (.bl false) | _ => .no) >>= asB).post (Fin G H (fun _ b c => b = c) Q) (Exx X σ G H) := by
    have e : (g3 f f' ga gb gc ρ >>= asB) = (ga ρ >>= fun x => gb ρ >>= fun y => ofO (f x y) >>= fun z => (match z with | .bl true => gc ρ >>= fun w => ofO (f' y w) | .bl false => .ok (.bl false) | _ => .no) >>= asB) := by
      unfold g3
      cases ga ρ with
      | ok x => cases gb ρ with
        | ok y => simp only [R.ok_bind]; cases ofO (f x y) <;> rfl
        | _ => rfl
      | _ => rfl
    rw [<- e]; exact h
  refine tG.intro st h' fun x v G1 H1 u1 st1 r1 h1 => ?_
  refine tG.intro st1 h1 fun y w G2 H2 u2 st2 r2 h2 => ?_
  cases e : f x y with
  | none => rw [e] at h2; exact h2.elim
  | some d =>
    rw [e] at h2
    refine hf G2 H2 v w x y d _ st2.sub (r1.mono u2.gg) r2 e fun z G3 H3 u3 r3 => ?_
    have h3 := jL u3 h2
    have st3 := st2.up u3
    cases r3 with
    | bl k =>
      refine ⟨k, rfl, ?_⟩
      cases k with
      | false => rw [if_neg Bool.false_ne_true]; exact ⟨false, rfl, h3 _ G3 H3 (.refl st3.sub) rfl⟩
      | true =>
        rw [if_pos rfl]
        have h3' : (gc ρ >>= fun w => ofO (f' y w) >>= asB).post (Fin G3 H3 (fun _ b c => b = c) Q) (Exx X σ G3 H3) := by
          have e : ((gc ρ >>= fun w => ofO (f' y w)) >>= asB) = (gc ρ >>= fun w => ofO (f' y w) >>= asB) := by cases gc ρ <;> rfl
          rw [<- e]; exact h3
        refine tG.intro st3 h3' fun q vq G4 H4 u4 st4 r4 h4 => ?_
        cases e' : f' y q with
        | none => rw [e'] at h4; exact h4.elim
        | some d' =>
          rw [e'] at h4
          refine hf' G4 H4 w vq y q d' _ st4.sub ((r2.mono u3.gg).mono u4.gg) r4 e' fun z' G5 H5 u5 r5 => ?_
          have h5 := jL u5 h4
          cases r5 with
          | bl k' => exact ⟨k', rfl, h5 k' G5 H5 (.refl u5.sub) rfl⟩
          | _ => exact h5.elim
    | _ => exact h3.elim
theorem rG (ha : QF X a ga) (hb : QF X b gb) (hc : QF X c gc) (hm : lastMarks [.LtE, .LtE] [b, c] = false := by with_unfolding_all rfl) : QB X (.Compare a [.LtE, .LtE] [b, c] pos) (fun ρ => g3 leD leD ga gb gc ρ >>= asB) := qk me me (sk _) (sk _) ha hb hc hm
def nH (t u : Ev -> R Bool) : Ev -> R Bool := fun ρ => t ρ >>= fun k => if k = true then u ρ else .ok false
def rF (t u : Ev -> R Bool) : Ev -> R Bool := fun ρ => t ρ >>= fun k => if k = true then .ok true else u ρ
theorem pZ (ha : QB X a gt) : QBW X (.BoolOp .And [a] pos) gt := yY ha
theorem sY (ha : QB X a gt) : QBW X (.BoolOp .Or [a] pos) gt := AO ha
theorem sU (ha : QB X a gt) (hb : QBW X (.BoolOp .And (b :: de) pos) gu) : QBW X (.BoolOp .And (a :: b :: de) pos) (nH gt gu) := by
  intro whole pins s σ H Q I h
  refine Bo ha hb whole pins s σ H Q I ?_
  obtain ⟨G, ρ, st, h⟩ := h
  refine tG.intro st h fun x v G1 H1 u1 st1 r1 h1 => ?_
  subst r1
  cases v with
  | true => rw [if_pos rfl] at h1 ⊢; exact tG.last st1 h1
  | false => rw [if_neg Bool.false_ne_true] at h1 ⊢; exact h1 _ G1 H1 (.refl st1.sub) rfl
theorem va (ha : QB X a gt) (hb : QBW X (.BoolOp .Or (b :: de) pos) gu) : QBW X (.BoolOp .Or (a :: b :: de) pos) (rF gt gu) := by
  intro whole pins s σ H Q I h
  refine CK ha hb whole pins s σ H Q I ?_
  obtain ⟨G, ρ, st, h⟩ := h
  refine tG.intro st h fun x v G1 H1 u1 st1 r1 h1 => ?_
  subst r1
  cases v with
  | true => rw [if_pos rfl] at h1 ⊢; exact h1 _ G1 H1 (.refl st1.sub) rfl
  | false => rw [if_neg Bool.false_ne_true] at h1 ⊢; exact tG.last st1 h1
theorem tV (ha : QB X a gt) : QB X (.UnaryOp .Not a pos) (fun ρ => gt ρ >>= fun k => .ok (!k)) := by
  intro pins s σ H Q I h
  refine Bn ha pins s σ H Q I ?_
  obtain ⟨G, ρ, st, h⟩ := h
  refine tG.intro st h fun x v G1 H1 u1 st1 r1 h1 => ?_
  subst r1
  exact h1 _ G1 H1 (.refl st1.sub) rfl
def gIf (gt : Ev -> R Bool) (ga gb : Ev -> R D) : Ev -> R D := fun ρ => gt ρ >>= fun k => if k = true then ga ρ else gb ρ
theorem yE (hc : QB X c gt) (ha : QF X a ga) (hb : QF X b gb) : QF X (.IfExp c a b pos) (gIf gt ga gb) := by
  intro pins s σ H Q I h
  refine tP hc ha hb pins s σ H Q I ?_
  obtain ⟨G, ρ, st, h⟩ := h
  refine tG.intro st h fun x v G1 H1 u1 st1 r1 h1 => ?_
  subst r1
  cases v with
  | true => rw [if_pos rfl] at h1 ⊢; exact tG.last st1 h1
  | false => rw [if_neg Bool.false_ne_true] at h1 ⊢; exact tG.last st1 h1

theorem lW : QFA X [] (fun _ => .ok []) := by
  intro pos pins s σ H Q I h
  obtain ⟨G, ρ, st, h⟩ := h
  exact iY pos pins s σ H Q I (h [] G H (.refl st.sub) .nil)
theorem pQ (ha : QF X e ga) (hr : QFA X es gl) (hs : starEach (e :: es) X.env = (false, eval e X.env) :: starEach es X.env := by rfl) : QFA X (e :: es) (fun ρ => ga ρ >>= fun x => gl ρ >>= fun xs => .ok (x :: xs)) := by
  intro pos pins s σ H Q I h
  refine dw ha hr hs pos pins s σ H Q I ?_
  obtain ⟨G, ρ, st, h⟩ := h
  refine tG.intro st h fun x v G1 H1 u1 st1 r1 h1 => ?_
  refine tG.intro st1 h1 fun y w G2 H2 u2 st2 r2 h2 => ?_
  exact h2 _ G2 H2 (.refl st2.sub) (.cons (r1.mono u2.gg) r2)
def mkT (ds : List D) : R D := if ds.length <= sizeLine then .ok (.tup ds) else .no
theorem uM {k : Nat} (h : QFA X es gl) : QF X (.Tuple es k pos) (fun ρ => gl ρ >>= mkT) := by
  intro pins s σ H Q I hq
  refine Bm h pins s σ H Q I ?_
  obtain ⟨G, ρ, st, hq⟩ := hq
  refine tG.intro st hq fun ds vs G1 H1 u1 st1 r1 h1 => ?_
  unfold mkT at h1
  split at h1
  . rename_i hz
    exact ⟨by rw [r1.length]; exact hz, fun p hp => h1 _ _ _ (.new st1.sub hp) (.tup (.of bf) (r1.mono (.into (st1.sub.free hp))))⟩
  . exact h1.elim
theorem wu {c : Nat} : [c].length <= sizeLine := by show 1 <= sizeLine; decide
def ixD : D -> D -> Option D
  | .lst _ xs, .int i => atI xs i
  | .tup xs, .int i => atI xs i
  | .str x, .int i => (atI x i).map fun c => .str [c]
  | _, _ => none
theorem Reps.atI {K : PySem.W.Frag} {G : Hp} {vs : List V} {ds : List D} {i : Int} {d : D} (r : Reps K G vs ds) (h : atI ds i = some d) : ∃ v, atI vs i = some v /\ Rep K G v d := by
  unfold L2.atI at h ⊢
  rw [r.length]
  cases e : ixN ds.length i with
  | none => rw [e] at h; cases h
  | some j => rw [e] at h; exact r.get h
theorem BC (K : PySem.W.Frag) : ROk K (rIx K) ixD := by
  intro G H x y dx dy d Q s rx ry e q
  unfold ixD at e
  split at e
  . obtain ⟨a, vs, rfl, h, r⟩ := rx.seq_inv
    obtain ⟨v, e1, r1⟩ := r.atI e
    exact .inl ⟨a, vs, _, v, rfl, ry.int_inv, h.mono s, e1, q v G H (.refl s) r1⟩
  . obtain ⟨a, vs, rfl, h, r⟩ := rx.tup_inv
    obtain ⟨v, e1, r1⟩ := r.atI e
    exact .inr (.inl ⟨a, vs, _, v, rfl, ry.int_inv, h.mono s, e1, q v G H (.refl s) r1⟩)
  . rename_i z i
    obtain ⟨y', rfl, ey, hy⟩ := rx.str_inv
    subst ey
    cases e1 : L2.atI y'.cps.toList i with
    | none => rw [e1] at e; cases e
    | some c =>
      rw [e1] at e
      cases e
      exact .inr (.inr ⟨y', i, c, rfl, ry.int_inv, hy, e1, q _ G H (.refl s) (.strL (by simp) wu)⟩)
  . cases e
theorem yj (ha : QF X a ga) (hb : QF X b gb) (hs : jT b := by exact fun _ _ => rfl) : QF X (.Subscript a b pos) (g2 ixD ga gb) :=
  fun pins s σ H Q I h => Aj Bp ha hb hs pins s σ H Q I (ue (BC _) h)
end
end L2
namespace L2
open PySem PySem.Spec PyProof.Rows
def fL {α : Type} (xs : List α) (lo hi : Option Int) : List α := (xs.drop (HT.sIx xs.length 0 lo)).take (HT.sIx xs.length xs.length hi - HT.sIx xs.length 0 lo)
theorem hV {α : Type} (xs : List α) (lo hi : Option Int) : (fL xs lo hi).length <= xs.length := by
  unfold fL
  rw [List.length_take, List.length_drop]
  omega
theorem Reps.cut {K : PySem.W.Frag} {G : Hp} {vs : List V} {ds : List D} (r : Reps K G vs ds) (lo hi : Option Int) : Reps K G (wm vs lo hi) (fL ds lo hi) := by
  unfold wm fL
  rw [r.length]
  exact (r.drop _).take _
section
variable {X : Cx} {a b c e : Expr} {es de : List Expr} {lo hi : Option Expr} {ga gb gc : Ev -> R D} {go gp : Ev -> R (Option Int)} {gl : Ev -> R (List D)} {pos p2 : Pos}
def A0 (K : PySem.W.Frag) : V -> Option Int -> Option Int -> Hp -> VK -> Prop := fun x lo hi H Q => ∃ a xs, x = .ref a /\ SqT K H a xs /\
  (HT.sIx xs.length 0 lo = 0 /\ HT.sIx xs.length xs.length hi = xs.length) /\ Q (.ref a) H
theorem sl_tup_whole : SlR X (A0 X.K) := by
  intro pins s σ H x v vl vu lo hi sl Q I rx hs pl pu h
  obtain ⟨a, xs, rfl, hx, ⟨hw1, hw2⟩, q⟩ := h
  cases rx
  obtain ⟨its, r, ht, hz⟩ := I.tuple hx
  have hlen : its.toArray.size = xs.length := by rw [List.size_toArray]; exact r.length.symm
  refine ⟨"tuple", _, PyProof.Rows.slot_tuple_getitem.lookup, ht.typeIs, ?_⟩
  obtain ⟨os, hos, hcs, hds⟩ := id hs
  have hTs : s.TypeIs (.ref sl) "slice" := ⟨os, hos, hcs⟩
  unfold getItem
  try with_reducible refine wpAny_holding ?_
  first | refine wpAny_bind (wpAny_pure ?_) | skip
  refine wpAny_bind (wpAny_sequenceKey ht.typeIs (by decide) ?_)
  refine wpAny_bind (wpAny_callSpecial?_slot (name := Str.ofString "__getitem__") ht.typeIs PyProof.Rows.slot_tuple_getitem
    (wpAny_call_entry PyProof.Rows.slot_tuple_getitem ht.typeIs entry_tuple_getitem ?_ (args_tuple_getitem _ _)))
  show wpAny _ _ (Builtin.Tuple.tupleItemsOf (.ref a) >>= _) _ _ s
  refine wpAny_bind (tupleItemsOf_ ht ?_)
  refine wpAny_bind (wpAny_typeOf hTs ?_)
  rw [if_pos (by decide)]
  refine wpAny_bind (HT.sliceApplied_gen hs pl pu ?_)
  rw [hlen, hw1, hw2]
  dsimp only
  rw [if_pos (by simp)]
  have fin : EP X pins σ Q (.ref a) s := ⟨.ref a, H, I, rfl, q⟩
  obtain ⟨o, ho, hc, n, hd⟩ := id ht
  unfold Builtin.Tuple.tupleIsExact
  refine wpAny_bind (wpAny_bind (wpAny_typeOf ht.typeIs (wpAny_pure ?_)))
  rw [if_pos (by decide)]
  exact wpAny_bind (wpAny_rule (wpAny_pure ⟨_, rfl, wpAny_pure fin⟩))
theorem Ax {α : Type} (xs : List α) (a : Nat) : ∀ k : Nat, ((List.range k).map (a + ·)).filterMap (fun i : Nat => xs[i]?) = (xs.drop a).take k
  | 0 => by simp
  | k + 1 => by
    rw [List.range_succ, List.map_append, List.filterMap_append, Ax xs a k, List.take_add_one, List.getElem?_drop]
    congr 1
    try (simp only [List.map_cons, List.map_nil, List.filterMap_cons, List.filterMap_nil]; cases xs[a + k]? <;> rfl)
theorem oX (n d : Nat) (v : Option Int) : (match v with | none => (d : Int) | some i => max 0 (min (if i < 0 then i + (n : Int) else i) (n : Int))) = ((HT.sIx n d v : Nat) : Int) := by
  cases v with
  | none => rfl
  | some i =>
    show max 0 (min (if i < 0 then i + (n : Int) else i) (n : Int)) = (((if i < 0 then (i + (n : Int)).toNat else min i.toNat n) : Nat) : Int)
    split <;> omega
theorem yH (lo hi : Option Int) (n : Nat) : Builtin.Str.strSliceIndices lo hi 1 n = (List.range (HT.sIx n n hi - HT.sIx n 0 lo)).map (HT.sIx n 0 lo + ·) := by
  have e : Builtin.Str.strSliceIndices lo hi 1 n = sliceRange ((HT.sIx n 0 lo : Nat) : Int) ((HT.sIx n n hi : Nat) : Int) 1 := by
    rw [<- oX n 0 lo, <- oX n n hi]
    rfl
  rw [e]
  generalize HT.sIx n 0 lo = a
  generalize HT.sIx n n hi = b
  unfold sliceRange
  have hc : (if (1 : Int) > 0 then (if (a : Int) < (b : Int) then ((b : Int) - (a : Int) + 1 - 1) / 1 else 0) else (if (a : Int) > (b : Int) then ((a : Int) - (b : Int) - 1 - 1) / (-1) else 0)).toNat = b - a := by
    rw [if_pos (by decide)]
    split
    . rw [Int.ediv_one]; omega
    . omega
  simp only [hc]
  apply List.map_congr_left
  intro k _
  omega
theorem sG (x : Str) (lo hi : Option Int) : (Txt.slice x lo hi).cps.toList = fL x.cps.toList lo hi := by
  have hn : x.cps.toList.length = x.length := Str.len_list x
  unfold Txt.slice fL
  rw [hn, yH]
  have hb : HT.sIx x.length x.length hi <= x.length := HT.sIx_le _ _ (Nat.le_refl _) hi
  by_cases hc : ((1 : Int) == 1 && ((List.range (HT.sIx x.length x.length hi - HT.sIx x.length 0 lo)).map (HT.sIx x.length 0 lo + ·)).length == x.length) = true
  . rw [if_pos hc]
    have h2 : HT.sIx x.length x.length hi - HT.sIx x.length 0 lo = x.length := by simpa using hc
    have h3 : HT.sIx x.length 0 lo = 0 \/ x.length = 0 := by omega
    rw [h2]
    rcases h3 with h3 | h3
    . rw [h3, List.drop_zero, <- hn, List.take_length]
    . have : x.cps.toList = [] := List.eq_nil_of_length_eq_zero (by rw [hn]; exact h3)
      rw [this]; simp
  . rw [if_neg hc]
    have e : (fun i : Nat => x.cps[i]?) = (fun i : Nat => x.cps.toList[i]?) := by funext i; simp
    show (List.filterMap (fun i : Nat => x.cps[i]?) _).toArray.toList = _
    rw [List.toList_toArray, e, Ax]
def CZ : V -> Option Int -> Option Int -> Hp -> VK -> Prop := fun x lo hi H Q => ∃ y : Str, x = .str y /\ y.length <= sizeLine /\ Q (.str (Txt.slice y lo hi)) H
theorem sl_str : SlR X CZ := by
  intro pins s σ H x v vl vu lo hi sl Q I rx hs pl pu h
  obtain ⟨y, rfl, hz, q⟩ := h
  obtain ⟨t, rfl⟩ := rx
  refine ⟨"str", _, F.slot_str_getitem.lookup, typeIs_str _ _ _, ?_⟩
  cases pl with
  | none =>
    cases pu with
    | none => exact wpAny_getItem_str_slice (l := none) (u := none) (st := none) hs rfl (post_val_or_str ⟨Nat.le_trans (Txt.slice_le y _ _) hz, fun t' k => ⟨.str _, H, I.tok k, ⟨t', rfl⟩, q⟩⟩)
    | int j uj => exact wpAny_getItem_str_slice (l := none) (u := some (j, uj)) (st := none) hs rfl (post_val_or_str ⟨Nat.le_trans (Txt.slice_le y _ _) hz, fun t' k => ⟨.str _, H, I.tok k, ⟨t', rfl⟩, q⟩⟩)
  | int i ui =>
    cases pu with
    | none => exact wpAny_getItem_str_slice (l := some (i, ui)) (u := none) (st := none) hs rfl (post_val_or_str ⟨Nat.le_trans (Txt.slice_le y _ _) hz, fun t' k => ⟨.str _, H, I.tok k, ⟨t', rfl⟩, q⟩⟩)
    | int j uj => exact wpAny_getItem_str_slice (l := some (i, ui)) (u := some (j, uj)) (st := none) hs rfl (post_val_or_str ⟨Nat.le_trans (Txt.slice_le y _ _) hz, fun t' k => ⟨.str _, H, I.tok k, ⟨t', rfl⟩, q⟩⟩)
def tH (lo hi : Option Int) : D -> Option D
  | .str x => some (.str (fL x lo hi))
  | .tup xs => some (.tup (fL xs lo hi))
  | .lst _ xs => some (.lst false (fL xs lo hi))
  | _ => none
def rSl (K : PySem.W.Frag) : V -> Option Int -> Option Int -> Hp -> VK -> Prop := fun x lo hi H Q => CZ x lo hi H Q \/ A0 K x lo hi H Q \/ C9 K x lo hi H Q \/ C3 K x lo hi H Q
theorem Ae : SlR X (rSl X.K) := sl_str.or (sl_tup_whole.or (sl_tup.or xB))
def QFO (X : Cx) (o : Option Expr) (g : Ev -> R (Option Int)) : Prop := PO X o (tG X (fun _ b c => b = c) g)
theorem ql : QFO X none (fun _ => .ok none) := by
  intro pins s σ H Q I h
  obtain ⟨G, ρ, st, h⟩ := h
  exact yW pins s σ H Q I (h none G H (.refl st.sub) rfl)
def asI : D -> R Int
  | .int i => .ok i
  | _ => .no
theorem qw (h : QF X e ga) : QFO X (some e) (fun ρ => ga ρ >>= fun x => asI x >>= fun i => .ok (some i)) := by
  intro pins s σ H Q I hq
  refine xN h pins s σ H Q I ?_
  obtain ⟨G, ρ, st, hq⟩ := hq
  refine tG.intro st hq fun x v G1 H1 u1 st1 r1 h1 => ?_
  cases r1 with
  | int i => exact ⟨i, rfl, h1 (some i) G1 H1 (.refl st1.sub) rfl⟩
  | _ => exact h1.elim
def gSl (ga : Ev -> R D) (go gp : Ev -> R (Option Int)) : Ev -> R D := fun ρ => ga ρ >>= fun x => go ρ >>= fun l => gp ρ >>= fun u => ofO (tH l u x)
theorem pR (ha : QF X a ga) (hl : QFO X lo go) (hu : QFO X hi gp) : QF X (.Subscript a (.Slice lo hi none p2) pos) (gSl ga go gp) := by
  intro pins s σ H Q I h
  refine uW Ae ha hl hu pins s σ H Q I ?_
  obtain ⟨G, ρ, st, h⟩ := h
  refine tG.intro st h fun x v G1 H1 u1 st1 r1 h1 => ?_
  refine tG.intro st1 h1 fun l l' G2 H2 u2 st2 r2 h2 => ?_
  subst r2
  refine tG.intro st2 h2 fun u u' G3 H3 u3 st3 r3 h3 => ?_
  subst r3
  obtain ⟨d, e, q⟩ := ofO.ok h3
  have r := (r1.mono u2.gg).mono u3.gg
  unfold tH at e
  split at e
  . cases e
    obtain ⟨y, rfl, ey, hy⟩ := r.str_inv
    subst ey
    exact .inl ⟨y, rfl, hy, q _ G3 H3 (.refl st3.sub) (.strL (sG y _ _) (Nat.le_trans (hV _ _ _) (by rw [Str.len_list]; exact hy)))⟩
  . rename_i xs0
    cases e
    obtain ⟨a, vs, rfl, h, t⟩ := r.tup_inv
    by_cases hw : HT.sIx vs.length 0 l' = 0 /\ HT.sIx vs.length vs.length u' = vs.length
    . refine .inr (.inl ⟨a, vs, rfl, h.mono st3.sub, hw, q _ G3 H3 (.refl st3.sub) ?_⟩)
      have e1 : fL xs0 l' u' = xs0 := by
        unfold fL
        rw [<- t.length, hw.1, hw.2, List.drop_zero, Nat.sub_zero, t.length, List.take_length]
      rw [e1]
      exact .tup h t
    . exact .inr (.inr (.inl ⟨a, vs, rfl, h.mono st3.sub, hw, fun p hp => q _ _ _ (.new st3.sub hp) (.tup (.of bf) ((t.cut _ _).mono (.into (st3.sub.free hp))))⟩))
  . cases e
    obtain ⟨a, vs, rfl, h, t⟩ := r.seq_inv
    exact .inr (.inr (.inr ⟨a, vs, rfl, h.mono st3.sub, fun p hp => q _ _ _ (.new st3.sub hp) (.lst bf ((t.cut _ _).mono (.into (st3.sub.free hp))))⟩))
  . cases e

def zg (K : PySem.W.Frag) (r : List V -> Hp -> VK -> Prop) (f : List D -> Option D) : Prop := ∀ (G H : Hp) (xs : List V) (ds : List D) (d : D) (Q : VK), Same G H -> Reps K G xs ds -> f ds = some d -> Fin G H (Rep K) Q d -> r xs H Q
theorem ig {id : String} {x : Str} {p : Pos} {r : List V -> Hp -> VK -> Prop} {f : List D -> Option D} (hc : iO X (.builtin id) r) (hf : zg X.K r f) (hg : Gl X x) (hm : X.mg x = none) (hv : bootBuiltins x = some (.builtin id)) (ha : QFA X (e :: es) gl)
    (hn : x ≠ "__name__" := by decide) (hdb : (x == ("__debug__" : Str)) = false := by decide)
    (he : starEach (e :: es) X.env = (false, eval e X.env) :: starEach es X.env := by rfl) (hpl : (backTo pos (starEach es X.env)).any (·.1) = false := by rfl) : QF X (.Call (.Name x p) (e :: es) [] pos) (fun ρ => gl ρ >>= fun ds => ofO (f ds)) := by
  intro pins s σ H Q I h
  refine lf hc hg hm hv ha hn hdb he hpl pins s σ H Q I ?_
  obtain ⟨G, ρ, st, h⟩ := h
  refine tG.intro st h fun ds vs G1 H1 u1 st1 r1 h1 => ?_
  obtain ⟨d, e, q⟩ := ofO.ok h1
  exact hf G1 H1 vs ds d Q st1.sub r1 e q
theorem jv {T : String} {x : Str} {p : Pos} {r : List V -> Hp -> VK -> Prop} {f : List D -> Option D} (hc : iO X (.type T) r) (hf : zg X.K r f) (hg : Gl X x) (hm : X.mg x = none) (hv : bootBuiltins x = some (.type T)) (ha : QFA X (e :: es) gl)
    (hn : x ≠ "__name__" := by decide) (hdb : (x == ("__debug__" : Str)) = false := by decide)
    (he : starEach (e :: es) X.env = (false, eval e X.env) :: starEach es X.env := by rfl) (hpl : (backTo pos (starEach es X.env)).any (·.1) = false := by rfl) : QF X (.Call (.Name x p) (e :: es) [] pos) (fun ρ => gl ρ >>= fun ds => ofO (f ds)) := by
  intro pins s σ H Q I h
  refine qE hc hg hm hv ha hn hdb he hpl pins s σ H Q I ?_
  obtain ⟨G, ρ, st, h⟩ := h
  refine tG.intro st h fun ds vs G1 H1 u1 st1 r1 h1 => ?_
  obtain ⟨d, e, q⟩ := ofO.ok h1
  exact hf G1 H1 vs ds d Q st1.sub r1 e q
theorem Reps.one {K : PySem.W.Frag} {G : Hp} {vs : List V} {d : D} (r : Reps K G vs [d]) : ∃ v, vs = [v] /\ Rep K G v d := by
  cases r with
  | cons r t => cases t; exact ⟨_, rfl, r⟩
def iK : List D -> Option D
  | [.str x] => some (.int x.length)
  | [.tup xs] => some (.int xs.length)
  | [.lst _ xs] => some (.int xs.length)
  | _ => none
theorem uI {p : Pos} (hg : Gl X "len") (hm : X.mg "len" = none) (ha : QFA X [e] gl) (he : starEach [e] X.env = [(false, eval e X.env)] := by rfl) : QF X (.Call (.Name "len" p) [e] [] pos) (fun ρ => gl ρ >>= fun ds => ofO (iK ds)) :=
  ig tM (by
    intro G H xs ds d Q s r e q
    unfold iK at e
    split at e
    . cases e
      obtain ⟨v, rfl, r1⟩ := r.one
      obtain ⟨y, rfl, ey, hy⟩ := r1.str_inv
      subst ey
      exact ⟨_, y.length, rfl, ⟨hy, rfl⟩, by rw [<- Str.len_list]; exact q _ G H (.refl s) (.int _)⟩
    . cases e
      obtain ⟨v, rfl, r1⟩ := r.one
      obtain ⟨a, vs, rfl, h, t⟩ := r1.tup_inv
      exact ⟨_, vs.length, rfl, .inr ⟨vs, h.mono s, rfl⟩, by rw [t.length]; exact q _ G H (.refl s) (.int _)⟩
    . cases e
      obtain ⟨v, rfl, r1⟩ := r.one
      obtain ⟨a, vs, rfl, h, t⟩ := r1.seq_inv
      exact ⟨_, vs.length, rfl, .inl ⟨vs, h.mono s, rfl⟩, by rw [t.length]; exact q _ G H (.refl s) (.int _)⟩
    . cases e) hg hm PySem.boot_len ha (he := by rw [he]; rfl)
def zf : List D -> Option D
  | [.str [c]] => some (.int (c : Nat))
  | _ => none
theorem Bl (K : PySem.W.Frag) : zg K (fun xs H Q => ∃ x : Str, xs = [.str x] /\ x.length = 1 /\ Q (.int (x.cps.getD 0 0 : Nat)) H) zf := by
  intro G H xs ds d Q s r e q
  unfold zf at e
  split at e
  . rename_i c
    cases e
    obtain ⟨v, rfl, r1⟩ := r.one
    obtain ⟨y, rfl, ey, hy⟩ := r1.str_inv
    refine ⟨y, rfl, by rw [<- Str.len_list, ey]; rfl, ?_⟩
    have h0 : y.cps = #[c] := by rw [<- Array.toArray_toList (xs := y.cps), ey]
    rw [h0]
    exact q _ G H (.refl s) (.int _)
  . cases e
end
end L2
namespace L2
open PySem PySem.Spec PyProof.Rows
def ItOk (K : PySem.W.Frag) (G₁ : Hp) (J : It) (items : List D) : Prop := ∀ (i : Nat) (G H : Hp), Same G₁ G -> Same G H ->
  (∀ d, items[i]? = some d -> J.go i H /\ ∀ x H', J.yld i H x H' -> ∃ G', Up G H G' H' /\ Rep K G' x d) /\ (items.length <= i -> J.stop i H)
def QIF (X : Cx) (tg iter : Expr) (g : Ev -> R (List D)) : Prop := PI X tg iter (tG X (fun G J items => ItOk X.K G J items) g)
def Its (x : Str) : It := ⟨fun i _ => i < x.cps.size, fun i H v H' => H' = H /\ ∃ c, x.cps[i]? = some c /\ v = .str ⟨#[c]⟩, fun i _ => x.cps.size <= i⟩
section
variable {X : Cx} {tg a e : Expr} {ga : Ev -> R D} {gl : Ev -> R (List D)} {pos : Pos}
theorem re {pins : List (Addr × Obj)} {σ : St} {H : Hp} {s : Shared} {l : Addr} {xs : List V} {Rr : It -> Hp -> Prop} (I : Inv X pins σ H s) (h : SqL X.K H l xs) (q : Rr (Itl X.K l) H) :
    wpAny (model X.prog X.w) X.A (pyIter (.ref l)) (PIE X pins σ tg Rr) X.xe s := by
  obtain ⟨its, rv, p, hz⟩ := I.list h
  refine wpAny_pyIter_list p.isList ?_
  refine ⟨s.heap.objs.size, [s.heap.objs.size], _, _, H, rfl, I.kept (t' := s.toks) fun b o e => Heap.get?_push_of_some _ e, rn l _, ⟨_, Heap.get?_push_size _ rfl, rfl, rfl⟩, fun b hb => ?_, q⟩
  have e : b = s.heap.objs.size := by simpa using hb
  subst e
  exact I.fpOk (Nat.le_refl _) (I.hok.fresh (Nat.le_refl _))
theorem zM {pins : List (Addr × Obj)} {σ : St} {H : Hp} {s : Shared} {l : Addr} {xs : List V} {Rr : It -> Hp -> Prop} (I : Inv X pins σ H s) (h : SqT X.K H l xs) (q : Rr (Itt X.K l) H) :
    wpAny (model X.prog X.w) X.A (pyIter (.ref l)) (PIE X pins σ tg Rr) X.xe s := by
  obtain ⟨its, rv, p, hz⟩ := I.tuple h
  refine wpAny_pyIter_tuple (show s.heap.IsTuple l its.toArray from p) ?_
  refine ⟨s.heap.objs.size, [s.heap.objs.size], _, _, H, rfl, I.kept (t' := s.toks) fun b o e => Heap.get?_push_of_some _ e, pF l _, ⟨_, Heap.get?_push_size _ rfl, rfl, rfl⟩, fun b hb => ?_, q⟩
  have e : b = s.heap.objs.size := by simpa using hb
  subst e
  exact I.fpOk (Nat.le_refl _) (I.hok.fresh (Nat.le_refl _))
theorem pV {P : Program} {w : World} {K : PySem.W.Frag} {tg : Expr} (it : Addr) (x : Str) (t : Tok) : Turn P w K tg (Its x) [it] it (fun i h => h.IsStrIter it "str_ascii_iterator" x t i) where
  mem := by simp
  obj := fun i h st b hb => by
    have e : b = it := by simpa using hb
    subst e
    obtain ⟨o, e, c, d⟩ := st
    exact ⟨o, e, fun v z => by rw [d] at z; cases z⟩
  keep := fun i h h' st k => let ⟨o, ho, r⟩ := st; ⟨o, k it (by simp) o ho, r⟩
  item := by
    intro X hP hw hK hc i pins s σ H E I hf st hg
    subst hP hw hK
    have hg' : i < x.cps.size := hg
    obtain ⟨f0, f1, f2, f3, f4, f5⟩ := hf it (by simp)
    refine wpAny_pyNext_ascii_item st (c := x.cps[i]) (by simp [hg']) fun h' st' sb => ?_
    have I1 : Inv X pins σ H { s with heap := h', toks := s.toks + 1 } := I.turned (t' := s.toks + 1) (fun b o hb e => (sb.2 b hb).trans e) f0 f1 f3 f4 f5
    obtain ⟨o, e, c, d⟩ := id st'
    exact ⟨_, rfl, rL (s := { s with heap := h', toks := s.toks + 1 }) e c d (by decide) ⟨.str ⟨#[x.cps[i]]⟩, H, I1, ⟨_, rfl⟩, ⟨rfl, _, by simp [hg'], rfl⟩, st', fun b hb => (hf b hb).1⟩⟩
  done := by
    intro X hP hw hK hc i pins s σ H E I hf st hg
    subst hP hw hK
    obtain ⟨f0, f1, f2, f3, f4, f5⟩ := hf it (by simp)
    have hg' : x.cps.size <= i := hg
    exact wpAny_pyNext_ascii_end (I.ok.hd hc) st (by simp; omega) fun h' eb => ⟨rfl, I.turned (t' := s.toks) (fun b o hb e => eb b o hb e) f0 f1 f3 f4 f5⟩
  self := fun _ _ _ _ _ st h => wpAny_pyIter_striter_ascii st h
theorem sL {P : Program} {w : World} {K : PySem.W.Frag} {tg : Expr} (it : Addr) (x : Str) (t : Tok) : Turn P w K tg (Its x) [it] it (fun i h => h.IsStrIter it "str_iterator" x t i) where
  mem := by simp
  obj := fun i h st b hb => by
    have e : b = it := by simpa using hb
    subst e
    obtain ⟨o, e, c, d⟩ := st
    exact ⟨o, e, fun v z => by rw [d] at z; cases z⟩
  keep := fun i h h' st k => let ⟨o, ho, r⟩ := st; ⟨o, k it (by simp) o ho, r⟩
  item := by
    intro X hP hw hK hc i pins s σ H E I hf st hg
    subst hP hw hK
    have hg' : i < x.cps.size := hg
    obtain ⟨f0, f1, f2, f3, f4, f5⟩ := hf it (by simp)
    refine wpAny_pyNext_wide_item st (c := x.cps[i]) (by simp [hg']) fun h' st' sb => ?_
    have I1 : Inv X pins σ H { s with heap := h', toks := s.toks + 1 } := I.turned (t' := s.toks + 1) (fun b o hb e => (sb.2 b hb).trans e) f0 f1 f3 f4 f5
    obtain ⟨o, e, c, d⟩ := id st'
    exact ⟨_, rfl, rL (s := { s with heap := h', toks := s.toks + 1 }) e c d (by decide) ⟨.str ⟨#[x.cps[i]]⟩, H, I1, ⟨_, rfl⟩, ⟨rfl, _, by simp [hg'], rfl⟩, st', fun b hb => (hf b hb).1⟩⟩
  done := by
    intro X hP hw hK hc i pins s σ H E I hf st hg
    subst hP hw hK
    obtain ⟨f0, f1, f2, f3, f4, f5⟩ := hf it (by simp)
    have hg' : x.cps.size <= i := hg
    exact wpAny_pyNext_wide_end (I.ok.hd hc) st (by simp; omega) fun h' eb => ⟨rfl, I.turned (t' := s.toks) (fun b o hb e => eb b o hb e) f0 f1 f3 f4 f5⟩
  self := fun _ _ _ _ _ st h => wpAny_pyIter_striter_wide st h
theorem Ai {pins : List (Addr × Obj)} {σ : St} {H : Hp} {s : Shared} {x : Str} {t : Tok} {Rr : It -> Hp -> Prop} (I : Inv X pins σ H s) (q : Rr (Its x) H) :
    wpAny (model X.prog X.w) X.A (pyIter (.str x t)) (PIE X pins σ tg Rr) X.xe s := by
  have fp : ∀ (o : Obj), ∀ b ∈ [s.heap.objs.size], pG X pins H b := fun o b hb => by
    have e : b = s.heap.objs.size := by simpa using hb
    subst e
    exact I.fpOk (Nat.le_refl _) (I.hok.fresh (Nat.le_refl _))
  cases ha : x.cps.all (· < 128)
  . refine wpAny_pyIter_wide ha ⟨s.heap.objs.size, [s.heap.objs.size], _, _, H, rfl, I.kept (t' := s.toks) fun b o e => Heap.get?_push_of_some _ e, sL _ x t, ⟨_, Heap.get?_push_size _ rfl, rfl, rfl⟩, fp default, q⟩
  . refine wpAny_pyIter_ascii ha ⟨s.heap.objs.size, [s.heap.objs.size], _, _, H, rfl, I.kept (t' := s.toks) fun b o e => Heap.get?_push_of_some _ e, pV _ x t, ⟨_, Heap.get?_push_size _ rfl, rfl, rfl⟩, fp default, q⟩
def bn : D -> R (List D)
  | .lst _ xs => .ok xs
  | .tup xs => .ok xs
  | .str x => .ok (x.map fun c => .str [c])
  | _ => .no
theorem ItOk.list {K : PySem.W.Frag} {G : Hp} {l : Addr} {vs : List V} {ds : List D} (h : SqL K G l vs) (r : Reps K G vs ds) : ItOk K G (Itl K l) ds := by
  intro i G1 H1 s1 s2
  refine ⟨fun d e => ?_, fun hl => ⟨vs, (h.mono s1).mono s2, by rw [r.length]; exact hl⟩⟩
  obtain ⟨v, ev, rv⟩ := r.get e
  refine ⟨⟨vs, v, (h.mono s1).mono s2, ev⟩, fun x H' y => ?_⟩
  obtain ⟨rfl, y⟩ := y
  have := y vs ((h.mono s1).mono s2)
  rw [ev] at this
  cases this
  exact ⟨G1, .refl s2, rv.mono s1⟩
theorem ItOk.tup {K : PySem.W.Frag} {G : Hp} {l : Addr} {vs : List V} {ds : List D} (h : SqT K G l vs) (r : Reps K G vs ds) : ItOk K G (Itt K l) ds := by
  intro i G1 H1 s1 s2
  refine ⟨fun d e => ?_, fun hl => ⟨vs, (h.mono s1).mono s2, by rw [r.length]; exact hl⟩⟩
  obtain ⟨v, ev, rv⟩ := r.get e
  refine ⟨⟨vs, v, (h.mono s1).mono s2, ev⟩, fun x H' y => ?_⟩
  obtain ⟨rfl, y⟩ := y
  have := y vs ((h.mono s1).mono s2)
  rw [ev] at this
  cases this
  exact ⟨G1, .refl s2, rv.mono s1⟩
theorem ItOk.str {K : PySem.W.Frag} {G : Hp} (x : Str) : ItOk K G (Its x) (x.cps.toList.map fun c => .str [c]) := by
  intro i G1 H1 s1 s2
  refine ⟨fun d e => ?_, fun hl => show x.cps.size <= i by simpa using hl⟩
  rw [List.getElem?_map] at e
  cases ec : x.cps.toList[i]? with
  | none => rw [ec] at e; cases e
  | some c =>
    rw [ec] at e
    cases e
    have hi : i < x.cps.size := by
      have := (List.getElem?_eq_some_iff.mp ec).1
      simpa using this
    refine ⟨hi, fun v H' y => ?_⟩
    obtain ⟨rfl, c', e', rfl⟩ := y
    have : c' = c := by
      have h2 : x.cps.toList[i]? = x.cps[i]? := by simp
      rw [h2, e'] at ec
      exact Option.some.inj ec
    subst this
    exact ⟨G1, .refl s2, .strL rfl wu⟩
theorem ItOk.range {K : PySem.W.Frag} {G : Hp} (lo : Int) (n : Nat) : ItOk K G (Itr lo n) ((List.range n).map fun i => .int (lo + (i : Nat))) := by
  intro i G1 H1 s1 s2
  refine ⟨fun d e => ?_, fun hl => show n <= i by simpa using hl⟩
  rw [List.getElem?_map] at e
  by_cases hi : i < n
  . rw [List.getElem?_range hi] at e
    cases e
    refine ⟨hi, fun v H' y => ?_⟩
    obtain ⟨rfl, rfl⟩ := y
    exact ⟨G1, .refl s2, .int _⟩
  . rw [List.getElem?_eq_none (by simpa using hi)] at e
    cases e
theorem qS (ha : QF X a ga) : QIF X tg a (fun ρ => ga ρ >>= bn) := by
  intro pins s σ H Rr I h
  obtain ⟨G, ρ, st, h⟩ := h
  have t : tF X ga σ H (fun x H1 => ∃ G1 d, Same G1 H1 /\ Rep X.K G1 x d /\ (bn d).post (Fin G1 H1 (fun G J items => ItOk X.K G J items) Rr) (Exx X σ G1 H1)) :=
    tG.intro st h fun x v G1 H1 u1 st1 r1 h1 => ⟨G1, x, st1.sub, r1, h1⟩
  refine thn (ha pins s σ H _ I t) fun v s1 ⟨x, H1, I1, r1, G1, d, sub, rd, h1⟩ => ?_
  cases rd with
  | lst hh r => cases r1; exact re I1 (.of (sub _ _ hh)) (h1 _ G1 H1 (.refl sub) (.list (.of hh) r))
  | fls hh r => cases r1; exact re I1 (hh.mono sub) (h1 _ G1 H1 (.refl sub) (.list hh r))
  | tup hh r => cases r1; exact zM I1 (hh.mono sub) (h1 _ G1 H1 (.refl sub) (.tup hh r))
  | str y hy => obtain ⟨t, rfl⟩ := r1; exact Ai I1 (h1 _ G1 H1 (.refl sub) (.str y))
  | _ => exact h1.elim
def cy : List D -> R (List D)
  | [.int j] => if -(2 ^ 62) <= j /\ j < 2 ^ 62 then .ok ((List.range j.toNat).map fun i => .int (0 + (i : Nat))) else .no
  | _ => .no
theorem mB {p : Pos} (hg : Gl X "range") (hm : X.mg "range" = none) (ha : QFA X [a] gl) (hs : starEach [a] X.env = [(false, eval a X.env)] := by rfl) : QIF X tg (.Call (.Name "range" p) [a] [] pos) (fun ρ => gl ρ >>= cy) := by
  intro pins s σ H Rr I h
  refine tj hg hm ha hs pins s σ H Rr I ?_
  obtain ⟨G, ρ, st, h⟩ := h
  refine tG.intro st h fun ds vs G1 H1 u1 st1 r1 h1 => ?_
  unfold cy at h1
  split at h1
  . split at h1
    . rename_i hj
      obtain ⟨v, rfl, r⟩ := r1.one
      obtain rfl := r.int_inv
      exact ⟨_, rfl, hj.1, hj.2, h1 _ G1 H1 (.refl st1.sub) (.range 0 _)⟩
    . exact h1.elim
  . exact h1.elim
end

structure StR (K : PySem.W.Frag) (G₀ H₀ G H : Hp) (σ : St) (ρ : Ev) : Prop where
  e : StE K G H σ ρ
  sub0 : Same G₀ H₀
  up : Up G₀ H₀ G H
  own : ∀ (i : Nat) ds, ρ[i]? = some (some (.own ds)) -> ∃ l vs, σ[i]? = some (some (.ref l)) /\ H l = some (.lst vs) /\ G l = none /\ H₀ l = none /\ Reps K G vs ds
  inj : ∀ (i j : Nat) ds es l, ρ[i]? = some (some (.own ds)) -> ρ[j]? = some (some (.own es)) -> σ[i]? = some (some (.ref l)) -> σ[j]? = some (some (.ref l)) -> i = j
section
variable {K : PySem.W.Frag} {G₀ H₀ G H G' H' : Hp} {σ : St} {ρ : Ev}
theorem StR.ups (s : StR K G₀ H₀ G H σ ρ) (u : Up G H G' H') : StR K G₀ H₀ G' H' σ ρ := ⟨s.e.up u, s.sub0, s.up.trans u, (fun i ds e => by
  obtain ⟨l, vs, h1, h2, h3, h4, h5⟩ := s.own i ds e
  refine ⟨l, vs, h1, u.hh _ _ h2, ?_, h4, h5.mono u.gg⟩
  cases q : G' l with
  | none => rfl
  | some o =>
    rcases u.fr l o q with z | z
    . rw [h3] at z; cases z
    . rw [h2] at z; cases z), s.inj⟩
theorem StR.set (s : StR K G₀ H₀ G H σ ρ) {v : V} {d : D} (r : Rep K G v d) (i : Nat) : StR K G₀ H₀ G H (σ.set i (some v)) (ρ.set i (some (.val d))) := by
  have get : ∀ (j : Nat) x, (ρ.set i (some (.val d)))[j]? = some (some x) -> (j = i /\ x = .val d /\ i < σ.length) \/ (j ≠ i /\ ρ[j]? = some (some x) /\ (σ.set i (some v))[j]? = σ[j]?) := fun j x h => by
    by_cases e : i = j
    . subst e
      have hl : i < ρ.length := by
        have := (List.getElem?_eq_some_iff.mp h).1
        simpa using this
      rw [List.getElem?_set_self hl] at h
      exact .inl ⟨rfl, by injection (Option.some.inj h) with q; exact q.symm, by rw [s.e.len]; exact hl⟩
    . rw [List.getElem?_set_ne e] at h
      exact .inr ⟨fun z => e z.symm, h, List.getElem?_set_ne e⟩
  refine ⟨⟨s.e.sub, by simp [s.e.len], fun j d' h => ?_⟩, s.sub0, s.up, fun j ds h => ?_, fun j k ds es l h1 h2 h3 h4 => ?_⟩
  . rcases get j _ h with ⟨rfl, e, hl⟩ | ⟨_, e, e'⟩
    . cases e
      exact ⟨v, List.getElem?_set_self hl, r⟩
    . rw [e']; exact s.e.val j d' e
  . rcases get j _ h with ⟨_, e, _⟩ | ⟨_, e, e'⟩
    . cases e
    . rw [e']; exact s.own j ds e
  . rcases get j _ h1 with ⟨_, e, _⟩ | ⟨_, e, e'⟩
    . cases e
    . rcases get k _ h2 with ⟨_, f, _⟩ | ⟨_, f, f'⟩
      . cases f
      . exact s.inj j k ds es l e f (e' ▸ h3) (f' ▸ h4)
end
def PGF (X : Cx) (tg : Expr) (asg : D -> Ev -> R Ev) : Prop := PG X tg (fun v σ H Q => ∃ G₀ H₀ G ρ d ρ', StR X.K G₀ H₀ G H σ ρ /\ Rep X.K G v d /\ asg d ρ = .ok ρ' /\ ∀ σ', StR X.K G₀ H₀ G H σ' ρ' -> Q σ' H)
section
variable {X : Cx} {pos : Pos}
def fR (i : Nat) : D -> Ev -> R Ev := fun d ρ => .ok (ρ.set i (some (.val d)))
theorem cE (i : Nat) {x : Str} (hN : X.N.Nodup) (hi : X.N[i]? = some x := by rfl) (hx : Loc X.env.scope x := by first | exact Or.inl rfl | exact Or.inr rfl)
    (hf : X.fn x = true \/ X.env.scope.names.lookup x = some .local := by first | exact .inl rfl | exact .inr rfl) : PGF X (.Name x pos) (fR i) := by
  intro pins s σ H v u Q I r h
  obtain ⟨G₀, H₀, G, ρ, d, ρ', st, rd, e, q⟩ := h
  cases e
  exact sF hN hi hx hf pins s σ H v u Q I r (q _ (st.set rd i))
end
end L2
namespace L2
open PySem PySem.Spec PyProof.Rows

def oy (K : PySem.W.Frag) (G H : Hp) (Q : VK) : List D -> Prop := fun ds => ∀ l vs G' H', Up G H G' H' -> H' l = none -> Reps K G' vs ds -> Q (.ref l) (upd H' l (.lst vs))
def tL (X : Cx) (g : Ev -> R (List D)) : TE := fun σ H Q => ∃ G ρ, StE X.K G H σ ρ /\ (g ρ).post (oy X.K G H Q) (Exx X σ G H)
def QFL (X : Cx) (e : Expr) (g : Ev -> R (List D)) : Prop := PE X e (tL X g)
theorem kw {X : Cx} {e : Expr} {g : Ev -> R (List D)} (h : QFL X e g) : QF X e (fun ρ => g ρ >>= fun ds => .ok (.lst false ds)) := by
  intro pins s σ H Q I hq
  refine h pins s σ H Q I ?_
  obtain ⟨G, ρ, st, hq⟩ := hq
  try dsimp only at hq
  refine ⟨G, ρ, st, ?_⟩
  cases e : g ρ with
  | ok ds =>
    rw [e] at hq
    intro l vs G' H' u hl r
    exact hq _ _ _ (u.trans (.new u.sub hl)) (.lst bf (r.mono (.into (u.sub.free hl))))
  | ex C => rw [e] at hq; exact hq
  | no => rw [e] at hq; exact hq
theorem td {X : Cx} {es : List Expr} {gl : Ev -> R (List D)} {pos : Pos} (h : QFA X es gl) : QFL X (.List es pos) (fun ρ => gl ρ >>= fun ds => if ds.length <= sizeLine then .ok ds else .no) := by
  intro pins s σ H Q I hq
  refine wl h pins s σ H Q I ?_
  obtain ⟨G, ρ, st, hq⟩ := hq
  try dsimp only at hq
  refine ⟨G, ρ, st, ?_⟩
  cases e : gl ρ with
  | ok ds =>
    rw [e] at hq
    intro vs G' H' u r
    simp only [R.ok_bind] at hq
    split at hq
    . rename_i hz
      exact ⟨by rw [r.length]; exact hz, fun p hp => hq p vs G' H' u hp r⟩
    . exact hq.elim
  | ex C => rw [e] at hq; exact hq
  | no => rw [e] at hq; exact hq

def jk (env : Env) : List (Str × NameKind) -> List (Str × Addr) -> List (Str × Addr)
  | [], cs => cs
  | (n, k) :: r, cs => jk env r (if (k == .free) = true then (match env.cells.lookup n with | some c => (n, c) :: cs | none => cs) else cs)
theorem pw {env : Env} {F : Str × NameKind -> List (Str × Addr) -> Sem (ForInStep (List (Str × Addr)))}
    (hF : ∀ n k r, (k = NameKind.free -> ∃ c, env.cells.lookup n = some c) -> F (n, k) r = pure (ForInStep.yield (if (k == .free) = true then (match env.cells.lookup n with | some c => (n, c) :: r | none => r) else r))) :
    ∀ (l : List (Str × NameKind)) (cs : List (Str × Addr)), (∀ x ∈ l, x.2 = .free -> ∃ c, env.cells.lookup x.1 = some c) -> forIn l cs F = pure (jk env l cs)
  | [], cs, _ => rfl
  | (n, k) :: l, cs, h => by
    rw [List.forIn_cons, hF n k cs (h (n, k) List.mem_cons_self), pure_bind]
    exact pw hF l _ fun y hy => h y (List.mem_cons_of_mem _ hy)
theorem gE {scope : Scope} {env : Env} (h : ∀ x ∈ scope.names, x.2 = .free -> ∃ c, env.cells.lookup x.1 = some c) : closureFor scope env = pure (jk env scope.names []) := by
  simp only [closureFor]
  rw [pw (env := env) (fun n k r hk => ?_) scope.names [] h]
  . rfl
  . by_cases hf : (k == NameKind.free) = true
    . obtain ⟨c, hc⟩ := hk (by simpa using hf)
      simp only [hf, if_true, cellOf, hc, pure_bind]
    . simp only [hf, if_false]
      rfl
theorem oO {env : Env} : ∀ (l : List (Str × NameKind)) (cs : List (Str × Addr)), (∀ x c, cs.lookup x = some c -> env.cells.lookup x = some c) -> ∀ x c, (jk env l cs).lookup x = some c -> env.cells.lookup x = some c
  | [], cs, h, x, c, e => h x c e
  | (n, k) :: l, cs, h, x, c, e => by
    unfold jk at e
    refine oO l _ (fun y d ed => ?_) x c e
    split at ed
    . split at ed
      . rename_i c' hc'
        rw [List.lookup_cons] at ed
        split at ed
        . rename_i q; rw [eq_of_beq q]; rw [<- Option.some.inj ed]; exact hc'
        . exact h y d ed
      . exact h y d ed
    . exact h y d ed
theorem lN {env : Env} : ∀ (l : List (Str × NameKind)) (cs : List (Str × Addr)) (x : Str), ((∃ c, cs.lookup x = some c) \/ ((x, NameKind.free) ∈ l /\ ∃ c, env.cells.lookup x = some c)) -> ∃ c, (jk env l cs).lookup x = some c
  | [], cs, x, h => by
    rcases h with h | ⟨h, _⟩
    . exact h
    . cases h
  | (n, k) :: l, cs, x, h => by
    unfold jk
    refine lN l _ x ?_
    rcases h with ⟨c, h⟩ | ⟨h, c, hc⟩
    . left
      split
      . split
        . rename_i c' _
          rw [List.lookup_cons]
          split
          . exact ⟨_, rfl⟩
          . exact ⟨c, h⟩
        . exact ⟨c, h⟩
      . exact ⟨c, h⟩
    . rcases List.mem_cons.mp h with e | h
      . cases e
        left
        rw [if_pos (by rfl), hc]
        exact ⟨c, by simp [List.lookup_cons]⟩
      . exact .inr ⟨h, c, hc⟩

def bd (X : Cx) (N' : List Str) (scope : Scope) (C : Addr) (s₂ : Shared) (H₂ : Hp) (fp : List Addr) : Cx :=
  { X with N := N', s₀ := s₂, H₀ := H₂, env := compEnvC scope (jk X.env scope.names []) C X.env, outer := X.stack, stack := X.stack, ex := fp, fn := fun _ => false, pn := [], xe := fun _ _ => False }
def gI {α : Type} : R α -> R α
  | .ok a => .ok a
  | _ => .no
def fh (ix : List Nat) (ρ : Ev) : Ev := none :: ix.map fun (i : Nat) => match ρ[i]? with
  | some (some (.val d)) => some (.val d)
  | _ => none
def dX (n : Nat) (ix : List Nat) (ρ : Ev) : Ev := List.replicate n none ++ ix.map fun (i : Nat) => match ρ[i]? with
  | some (some (.val d)) => some (.val d)
  | _ => none
def gf (asg : D -> Ev -> R Ev) (gt : Ev -> R Bool) (ge : Ev -> R D) : List D -> Ev -> R (List D)
  | [], _ => .ok []
  | d :: ds, ρ => gI (asg d ρ) >>= fun ρ1 => gI (gt ρ1) >>= fun k => if k = true then gI (ge ρ1) >>= fun x => gf asg gt ge ds ρ1 >>= fun xs => .ok (x :: xs) else gf asg gt ge ds ρ1
def fi (gt : Ev -> R Bool) (ge : Ev -> R D) : List D -> Ev -> R (List D) := gf (fR 0) gt ge
theorem ib {asg : D -> Ev -> R Ev} {gt : Ev -> R Bool} {ge : Ev -> R D} : ∀ (ds : List D) (ρ : Ev), (∃ xs, gf asg gt ge ds ρ = .ok xs) \/ gf asg gt ge ds ρ = .no
  | [], ρ => .inl ⟨[], rfl⟩
  | d :: ds, ρ => by
    unfold gf
    cases asg d ρ with
    | ok ρ1 =>
      simp only [gI, R.ok_bind]
      cases gt ρ1 with
      | ok k =>
        simp only [gI, R.ok_bind]
        cases k with
        | true =>
          simp only [if_true]
          cases ge ρ1 with
          | ok x =>
            simp only [gI, R.ok_bind]
            rcases ib (asg := asg) ds ρ1 with ⟨xs, e⟩ | e
            . rw [e]; exact .inl ⟨_, rfl⟩
            . rw [e]; exact .inr rfl
          | ex C => exact .inr rfl
          | no => exact .inr rfl
        | false => simp only [Bool.false_eq_true, if_false]; exact ib ds _
      | ex C => exact .inr rfl
      | no => exact .inr rfl
    | ex C => exact .inr rfl
    | no => exact .inr rfl
def gz (gi : Ev -> R (List D)) (ix : List Nat) (gt : Ev -> R Bool) (ge : Ev -> R D) : Ev -> R (List D) := fun ρ => gi ρ >>= fun items => fi gt ge items (fh ix ρ) >>= fun ds => if ds.length <= sizeLine then .ok ds else .no
def Bf (n : Nat) (asg : D -> Ev -> R Ev) (gi : Ev -> R (List D)) (ix : List Nat) (gt : Ev -> R Bool) (ge : Ev -> R D) : Ev -> R (List D) := fun ρ => gi ρ >>= fun items => gf asg gt ge items (dX n ix ρ) >>= fun ds => if ds.length <= sizeLine then .ok ds else .no
def PTs (X : Cx) (ifs : List Expr) (gt : Ev -> R Bool) : Prop := ∀ (pins : List (Addr × Obj)) (s : Shared) (σ : St) (H : Hp) (Q : Bool -> Hp -> Prop), Inv X pins σ H s -> tTF X gt σ H Q ->
  wpAny (model X.prog X.w) X.A (forIn ifs true fun c r => if r = true then do let ok <- isTrue c X.env (eval c X.env); pure (ForInStep.yield ok) else pure (ForInStep.yield r)) (TP X pins σ Q) X.xe s
theorem fy {X : Cx} : PTs X [] (fun _ => .ok true) := by
  intro pins s σ H Q I h
  obtain ⟨G, ρ, st, h⟩ := h
  exact wpAny_pure ⟨H, I, h true G H (.refl st.sub) rfl⟩
theorem sX {X : Cx} {c : Expr} {gt : Ev -> R Bool} (h : QB X c gt) : PTs X [c] gt := fun pins s σ H Q I q => wpAny_tests_one (h pins s σ H Q I q)
theorem Un.sameBut {fs ex : List Addr} {H H' : Hp} {h h1 h2 : Heap} {C : Addr} (u : Un fs ex H H' h h1) (k : ∀ b o, b ≠ C -> h1.get? b = some o -> h2.get? b = some o) (hC : h.objs.size <= C) : Un fs ex H H' h h2 := by
  have ne : ∀ b o, h.get? b = some o -> b ≠ C := fun b o e => Nat.ne_of_lt (Nat.lt_of_lt_of_le (Heap.lt_size e) hC)
  exact ⟨fun b o e n hb hx => k b o (ne b o e) (u.keep b o e n hb hx), fun b o e n hb hx => let ⟨sl, q⟩ := u.slot b o e n hb hx; ⟨sl, k b _ (ne b o e) q⟩, u.free, fun b o e hx => let ⟨o', q⟩ := u.there b o e hx; ⟨o', k b o' (ne b o e) q⟩, u.tups, u.frzs, u.tbls⟩
theorem HOk.sameBut {P : Program} {w : World} {H : Hp} {h h' : Heap} {C : Addr} (x : HOk P w H h) (k : ∀ b o, b ≠ C -> h.get? b = some o -> h'.get? b = some o) (hC : H C = none) : HOk P w H h' := fun a o e => by
  refine (x a o e).stay (fun b u hb q => k b u ?_ q) (fun _ z => z) (fun _ _ z => z)
  rcases hb with rfl | hb
  . exact aK e hC
  . exact aK hb hC
end L2
namespace L2
open PySem PySem.Spec PyProof.Rows
section
variable {X : Cx} {elt iter : Expr} {ifs : List Expr} {x : Str} {px pos : Pos} {scope : Scope} {N' : List Str} {ix : List Nat} {gi : Ev -> R (List D)} {gt : Ev -> R Bool} {ge : Ev -> R D}
structure CompOk (X : Cx) (scope : Scope) (x : Str) (N' : List Str) (ix : List Nat) : Prop where
  kind : scope.kind = .function
  cell : ∀ y ∈ scope.names, y.2 ≠ .cell
  names : ∀ y ∈ scope.names, y.2 = .local -> scope.names.lookup y.1 = some .local
  loc : scope.names.lookup x = some .local
  fr : ∀ y ∈ scope.names, y.2 = .free -> X.env.kindOf y.1 = some .cell
  nd : N'.Nodup
  hd : N'[0]? = some x
  tl : N'.tail = ix.map fun (i : Nat) => X.N.getD i Str.empty
  lt : ∀ i ∈ ix, i < X.N.length
  fre : ∀ y ∈ N'.tail, scope.names.lookup y = some .free /\ (y, NameKind.free) ∈ scope.names
structure CompOkT (X : Cx) (scope : Scope) (n : Nat) (N' : List Str) (ix : List Nat) : Prop where
  kind : scope.kind = .function
  cell : ∀ y ∈ scope.names, y.2 ≠ .cell
  names : ∀ y ∈ scope.names, y.2 = .local -> scope.names.lookup y.1 = some .local
  fr : ∀ y ∈ scope.names, y.2 = .free -> X.env.kindOf y.1 = some .cell
  le : n <= N'.length
  tl : N'.drop n = ix.map fun (i : Nat) => X.N.getD i Str.empty
  lt : ∀ i ∈ ix, i < X.N.length
  fre : ∀ y ∈ N'.drop n, scope.names.lookup y = some .free /\ (y, NameKind.free) ∈ scope.names
theorem CompOk.t (ok : CompOk X scope x N' ix) : CompOkT X scope 1 N' ix :=
  ⟨ok.kind, ok.cell, ok.names, ok.fr, (List.getElem?_eq_some_iff.mp ok.hd).1, List.drop_one ▸ ok.tl, ok.lt, List.drop_one ▸ ok.fre⟩
theorem ir {env : Env} (hk : env.scope.kind = .function) : ∀ {names : List (Str × NameKind)} {x : Str}, names.lookup x = some .free -> env.kindOf x = some .cell ->
    (names.map fun (n, k) => if (k == NameKind.free && env.scope.kind == .function && env.kindOf n == some .cell) then (n, NameKind.cell) else (n, k)).lookup x = some .cell
  | [], _, h, _ => by simp at h
  | (n, k) :: r, x, h, hc => by
    have ih := @ir env hk r x
    show List.lookup x ((if (k == NameKind.free && env.scope.kind == .function && env.kindOf n == some .cell) = true then (n, NameKind.cell) else (n, k)) :: _) = _
    cases hx : x == n with
    | true =>
      simp only [List.lookup_cons, hx] at h
      cases h
      have e := eq_of_beq hx
      subst e
      rw [if_pos (by rw [hk, hc]; rfl)]
      simp [List.lookup_cons]
    | false =>
      simp only [List.lookup_cons, hx] at h
      by_cases hc' : (k == NameKind.free && env.scope.kind == .function && env.kindOf n == some .cell) = true
      . rw [if_pos hc']; simp only [List.lookup_cons, hx]; exact ih h hc
      . rw [if_neg hc']; simp only [List.lookup_cons, hx]; exact ih h hc
theorem sh {n : Nat} {ix : List Nat} {ρ : Ev} {j : Nat} {d : D} (h : (dX n ix ρ)[j]? = some (some (.val d))) : ∃ k i, j = k + n /\ ix[k]? = some i /\ ρ[i]? = some (some (.val d)) := by
  unfold dX at h
  by_cases hj : j < n
  . rw [List.getElem?_append_left (by simpa using hj), List.getElem?_replicate, if_pos hj] at h; cases h
  . rw [List.getElem?_append_right (by simpa using Nat.not_lt.1 hj), List.length_replicate, List.getElem?_map] at h
    cases e : ix[j - n]? with
    | none => rw [e] at h; cases h
    | some i =>
      rw [e] at h
      refine ⟨j - n, i, by omega, e, ?_⟩
      simp only [Option.map_some, Option.some.injEq] at h
      split at h
      . rename_i d' e'; cases h; exact e'
      . cases h
def eE (n : Nat) (ix : List Nat) (σ : St) : St := List.replicate n none ++ ix.map fun (i : Nat) => (σ[i]?).join
theorem iP {K : PySem.W.Frag} {G H : Hp} {σ : St} {ρ : Ev} (st : StE K G H σ ρ) (n : Nat) (ix : List Nat) : StE K G H (eE n ix σ) (dX n ix ρ) := by
  refine ⟨st.sub, by simp [dX, eE], fun j d h => ?_⟩
  obtain ⟨k, i, rfl, e1, e2⟩ := sh h
  obtain ⟨v, h1, h2⟩ := st.val i d e2
  refine ⟨v, ?_, h2⟩
  unfold eE
  rw [List.getElem?_append_right (by simp), List.length_replicate, Nat.add_sub_cancel, List.getElem?_map, e1]
  simp [h1]
theorem mm {n : Nat} {ix : List Nat} {ρ : Ev} {j : Nat} {ds : List D} (h : (dX n ix ρ)[j]? = some (some (.own ds))) : False := by
  unfold dX at h
  by_cases hj : j < n
  . rw [List.getElem?_append_left (by simpa using hj), List.getElem?_replicate, if_pos hj] at h; cases h
  . rw [List.getElem?_append_right (by simpa using Nat.not_lt.1 hj), List.length_replicate, List.getElem?_map] at h
    cases e : ix[j - n]? with
    | none => rw [e] at h; cases h
    | some i =>
      rw [e] at h
      simp only [Option.map_some, Option.some.injEq] at h
      split at h <;> cases h
theorem pC {pins : List (Addr × Obj)} {σ : St} {H : Hp} {s : Shared} {fp : List Addr} {h₁ : Heap} {tk : Nat} {m : Str -> Option Value} {C : Addr} {H' : Hp} {n : Nat} (ok : CompOkT X scope n N' ix) (hcalm : X.calm = true) (I : Inv X pins σ H s) (hf : ∀ b ∈ fp, pG X pins H b) (hfl : ∀ b ∈ fp, b < s.heap.objs.size)
    (hC : s.heap.objs.size <= C) (hn : h₁.Ns C m) (old : ∀ b o, s.heap.get? b = some o -> h₁.get? b = some o) (un : Un (frs X.stack) fp H H' s.heap h₁) (hok : HOk X.prog X.w H' h₁) (hfC : H' C = none) (hfc : ∀ c : Addr, c < s.heap.objs.size -> H c = none -> H' c = none) :
    Inv (bd X N' scope C s H fp) [] (eE n ix σ) H' { s with heap := h₁, toks := tk } := by
  have cl : ∀ y c, (jk X.env scope.names []).lookup y = some c -> X.env.cells.lookup y = some c := oO scope.names [] (fun y c h => by simp at h)
  have nlt : N'.length = n + ix.length := by
    have h1 := congrArg List.length ok.tl
    rw [List.length_drop, List.length_map] at h1
    have := ok.le
    omega
  refine ⟨⟨I.ok.mod, by show (relabel scope X.env).kind = _; exact ok.kind, I.ok.glob, I.ok.blt, hC, ?_, ?_, ?_, I.ok.hd, I.ok.frames, .inl rfl, ?_, I.bs, Nat.le_trans I.ok.bsz I.sz, ?_, ?_, I.stack, I.stkFree⟩, rfl, I.bare, un, ?_, ?_, hfC, ?_, ?_, hok, ?_⟩
  . intro y z c h1 h2
    exact I.ok.inj y z c (cl y c h1) (cl z c h2)
  . intro y hy
    have h1 : (y, NameKind.free) ∈ scope.names := by
      have hy' : (relabel scope X.env).names.lookup y = some .cell \/ (relabel scope X.env).names.lookup y = some .free := hy
      have mem : ∀ k, (relabel scope X.env).names.lookup y = some k -> (k = .cell \/ k = .free) -> (y, NameKind.free) ∈ scope.names := fun k e hk => by
        have hm := PySem.mem_of_lookup e
        obtain ⟨⟨n, k'⟩, hm1, hm2⟩ := List.mem_map.mp hm
        dsimp only at hm2
        split at hm2
        . rename_i hc
          cases hm2
          have : k' = .free := by
            have := (Bool.and_eq_true _ _ ▸ (Bool.and_eq_true _ _ ▸ hc).1).1
            simpa using this
          rw [<- this]; exact hm1
        . cases hm2
          rcases hk with rfl | rfl
          . exact absurd rfl (ok.cell _ hm1)
          . exact hm1
      rcases hy' with h | h
      . exact mem _ h (.inl rfl)
      . exact mem _ h (.inr rfl)
    have hc := I.ok.has y (.inl (ok.fr _ h1 rfl))
    exact lN scope.names [] y (.inr ⟨h1, hc⟩)
  . intro y c hfn; cases hfn
  . intro b hb
    obtain ⟨f0, f1, f2, f3, f4, f5⟩ := hf b hb
    exact ⟨fun z => absurd (hfl b hb) (by rw [z]; exact Nat.not_lt.mpr hC), fun y c h => f4 y c (cl y c h)⟩
  . intro b o e hb
    obtain ⟨f0, f1, f2, f3, f4, f5⟩ := hf b hb
    rcases f3 with f3 | f3
    . exact I.ok.noex b o e f3
    . exact absurd (Heap.lt_size (I.ok.bs b o e).1) (Nat.not_lt.mpr f3)
  . intro b hb hb'
    obtain ⟨f0, f1, f2, f3, f4, f5⟩ := hf b hb
    rcases List.mem_cons.mp (I.stkSub b hb') with e | e
    . exact f1 e
    . exact f2 e
  . refine ⟨m, hn, fun i y v h1 h2 h3 => ?_⟩
    have h1 : N'[i]? = some y := h1
    have h2 : (eE n ix σ)[i]? = some (some v) := h2
    by_cases hi : i < n
    . unfold eE at h2
      rw [List.getElem?_append_left (by simpa using hi), List.getElem?_replicate, if_pos hi] at h2; cases h2
    . unfold eE at h2
      rw [List.getElem?_append_right (by simpa using Nat.not_lt.1 hi), List.length_replicate, List.getElem?_map] at h2
      cases e : ix[i - n]? with
      | none => rw [e] at h2; cases h2
      | some i0 =>
        rw [e] at h2
        have h2' : σ[i0]? = some (some v) := by
          cases q : σ[i0]? with
          | none => rw [Option.map_some, q] at h2; cases h2
          | some z => rw [Option.map_some, q] at h2; have := Option.some.inj h2; rw [<- this]; rfl
        have ht : (N'.drop n)[i - n]? = some y := by rw [List.getElem?_drop, Nat.add_sub_cancel' (Nat.not_lt.1 hi)]; exact h1
        have hy : X.N[i0]? = some y := by
          have ht2 := ht
          rw [ok.tl, List.getElem?_map, e] at ht2
          have hl := ok.lt i0 (List.mem_of_getElem? e)
          have q := Option.some.inj ht2
          rw [List.getElem?_eq_getElem hl]
          rw [<- q]
          show some X.N[i0] = some (X.N.getD i0 Str.empty)
          rw [List.getD_eq_getElem?_getD, List.getElem?_eq_getElem hl]
          rfl
        obtain ⟨fr1, fr2⟩ := ok.fre y (List.mem_of_getElem? ht)
        have kc := ok.fr _ fr2 rfl
        obtain ⟨m0, hn0, hl⟩ := I.loc
        obtain ⟨u, ru, lk⟩ := hl i0 y v hy h2' (.inr (.inl kc))
        refine ⟨u, ru, .inr ⟨.inl (ir I.ok.kind fr1 kc), ?_⟩⟩
        rcases lk with ⟨z, _⟩ | ⟨_, c, hc, hcell⟩
        . rw [kc] at z; cases z
        . obtain ⟨c', hc'⟩ := lN scope.names [] y (.inr ⟨fr2, c, hc⟩)
          have := cl y c' hc'
          rw [hc] at this
          cases this
          exact ⟨c, hc', hcell.keeps old⟩
  . intro y c h
    obtain ⟨v, q⟩ := I.cell y c (cl y c h)
    exact ⟨v, q.keeps old⟩
  . intro y c h
    obtain ⟨v, q⟩ := I.cell y c (cl y c h)
    exact hfc c q.lt (I.freeC y c (cl y c h))
  . intro p hp
    exact absurd (show p ∈ ([] : List (Addr × Obj)) from hp) (by simp)
  . show (eE n ix σ).length = N'.length
    rw [nlt]; simp [eE]

theorem pN {prog : Program} {w : World} {A : Around} {R' : Result -> Shared -> Prop} {s : Shared} {elt target iter : Expr} {ifs : List Expr} {scope : Scope} {pos : Pos} {it acc : Value} {env : Env} (I : Nat -> Shared -> Prop)
    (turn : ∀ n s, I n s -> wpAny (model prog w) A (pyNext it) (fun r s₁ => match r with
      | none => R' (.ok .next) s₁
      | some v => wpAny (model prog w) A (letOwnedTupleGo target it v) (fun _ s₁' => wpAny (model prog w) A (assign target env v) (fun _ s₂ =>
          wpAny (model prog w) A (forIn ifs true fun c r => if r = true then do let ok <- isTrue c env (eval c env); pure (ForInStep.yield ok) else pure (ForInStep.yield r)) (fun ok s₃ =>
            if ok = true then wpAny (model prog w) A (eval elt env) (fun x s₄ =>
              wpAny (model prog w) A (call (.builtin "list.append") [acc, x]) (fun _ s₅ => ∃ m, m < n /\ I m s₅) (fun _ _ => False) s₄) (fun _ _ => False) s₃
            else ∃ m, m < n /\ I m s₃) (fun _ _ => False) s₂) (fun _ _ => False) s₁') (fun _ _ => False) s₁) (fun _ _ => False) s)
    (n : Nat) (h : I n s) :
    codeAny (model prog w) A (.compLoop (.ListComp elt [⟨target, iter, ifs, 0⟩] scope pos) 0 it acc env) R' s := by
  refine codeAny_loop rfl I (fun n s hI => ?_) n h
  show wpAny _ A ((compTurn (.ListComp elt [⟨target, iter, ifs, 0⟩] scope pos) 0 it acc env).onRaise (fun x => do noteFrame x env; theTreesLotGoes x)) _ _ s
  refine wpAny_noted ?_
  rw [compTurn_list]
  refine wpAny_bind (wpAny_standAt (wpAny_bind (wpAny_mono (turn n s hI) (fun r s₁ h₁ => ?_) fun _ _ z => z.elim)))
  cases r with
  | none => exact wpAny_pure h₁
  | some v =>
    refine wpAny_bind (wpAny_mono h₁ (fun _ s₁' h₁' => ?_) fun _ _ z => z.elim)
    refine wpAny_bind (wpAny_mono h₁' (fun _ s₂ h₂ => wpAny_bind (wpAny_mono h₂ (fun ok s₃ h₃ => ?_) fun _ _ z => z.elim)) fun _ _ z => z.elim)
    cases ok with
    | false => exact wpAny_pure ⟨rfl, h₃⟩
    | true =>
      exact wpAny_bind (wpAny_bind (wpAny_mono h₃ (fun x s₄ h₄ => wpAny_bind (wpAny_mono h₄ (fun _ s₅ h₅ => wpAny_pure (wpAny_pure ⟨rfl, h₅⟩)) fun _ _ z => z.elim)) fun _ _ z => z.elim))

theorem oS {i : Nat} : ∀ d ρ ρ', fR i d ρ = .ok ρ' -> (∀ (j : Nat) ds, ρ[j]? ≠ some (some (.own ds))) -> ∀ (j : Nat) ds, ρ'[j]? ≠ some (some (.own ds)) := by
  intro d ρ ρ' e h j ds q
  have e' : ρ.set i (some (.val d)) = ρ' := R.ok.inj e
  rw [<- e', List.getElem?_set] at q
  split at q
  . split at q
    . cases q
    . cases q
  . exact h j ds q
theorem kO {tgt : Expr} {asg : D -> Ev -> R Ev} {n : Nat} {pins : List (Addr × Obj)} {σ : St} {H : Hp} {s : Shared} {it : Addr} {fp : List Addr} {tn : Nat -> Heap -> Prop} {J : It} {G : Hp} {ρ : Ev} {items : List D} {Q : VK} {RR : Value -> Addr -> Result -> Shared -> Prop} {E : Value -> Shared -> Prop} (ok : CompOkT X scope n N' ix) (hcalm : X.calm = true) (hg : ∀ C s₂ H₂ fp, PGF (bd X N' scope C s₂ H₂ fp) tgt asg) (hown : ∀ d ρ ρ', asg d ρ = .ok ρ' -> (∀ (j : Nat) ds, ρ[j]? ≠ some (some (.own ds))) -> ∀ (j : Nat) ds, ρ'[j]? ≠ some (some (.own ds)))
    (he : ∀ C s₂ H₂ fp, QF (bd X N' scope C s₂ H₂ fp) elt ge) (ht : ∀ C s₂ H₂ fp, PTs (bd X N' scope C s₂ H₂ fp) ifs gt)
    (I : Inv X pins σ H s) (T : Turn X.prog X.w X.K tgt J fp it tn) (st0 : tn 0 s.heap) (hf : ∀ b ∈ fp, pG X pins H b) (st : StE X.K G H σ ρ) (hi : ItOk X.K G J items)
    (h : (gf asg gt ge items (dX n ix ρ) >>= fun ds => if ds.length <= sizeLine then R.ok ds else .no).post (oy X.K G H Q) (Exx X σ G H))
    (hR : ∀ (Dd C : Addr) (s' : Shared) (m : Str -> Option Value) (vs : List V) (G' H' : Hp), Up G H G' H' -> H' Dd = none -> C ≠ Dd -> (∀ ds, Reps X.K G' vs ds -> True) -> Q (.ref Dd) (upd H' Dd (.lst vs)) -> s'.heap.Ns C m -> s'.os = s.os -> AllBare s'.gens -> H' C = none -> s.heap.objs.size <= C ->
      Un (frs X.stack) fp H (upd H' Dd (.lst vs)) s.heap s'.heap -> HOk X.prog X.w (upd H' Dd (.lst vs)) s'.heap -> RR (.ref Dd) C (.ok .next) s') :
    wpAny (model X.prog X.w) X.A (newList []) (fun acc s₃ => wpAny (model X.prog X.w) X.A (newFunctionEnv scope X.env.globals (jk X.env scope.names []) [] X.env.qual none .none (some X.env)) (fun cenv s₄ =>
      codeAny (model X.prog X.w) X.A (.compStart (.ListComp elt [⟨tgt, iter, ifs, 0⟩] scope pos) 0 (.ref it) acc { cenv with scope := relabel scope X.env }) (RR acc cenv.locals) s₄) E s₃) E s := by
  have hfl : ∀ b ∈ fp, b < s.heap.objs.size := fun b hb => let ⟨o, e, _⟩ := T.obj 0 s.heap st0 b hb; Heap.lt_size e
  refine wpAny_newObj_type (wpAny_newFunctionEnv ok.cell (by intro y hy; simp at hy) (fun h₁ hns₁ hsb₁ => ?_) ok.kind)
  dsimp only at hns₁ hsb₁ ⊢
  generalize hH2 : s.heap.push { cls := .type "list", dict := none, data := .seq ([] : List Value).toArray } = Hq at hns₁ hsb₁ ⊢
  have hC : Hq.objs.size = s.heap.objs.size + 1 := by rw [<- hH2, Heap.size_push]
  have hDC : s.heap.objs.size ≠ Hq.objs.size := by rw [hC]; exact Nat.ne_of_lt (Nat.lt_succ_self _)
  have hCle : s.heap.objs.size <= Hq.objs.size := by rw [hC]; exact Nat.le_succ _
  have old : ∀ b o, s.heap.get? b = some o -> h₁.get? b = some o := fun b o e =>
    hsb₁.extBut b o (by rw [hC]; exact Nat.ne_of_lt (Nat.lt_succ_of_lt (Heap.lt_size e))) (Heap.get?_push_of_some _ (hH2 ▸ Heap.get?_push_of_some _ e))
  have hacc : h₁.get? s.heap.objs.size = some { cls := .type "list", data := .seq ([] : List Value).toArray } := hsb₁.extBut _ _ hDC (Heap.get?_push_of_some _ (hH2 ▸ Heap.get?_push_size _ rfl))
  have hD0 : H s.heap.objs.size = none := I.fresh
  have hC0 : H Hq.objs.size = none := I.hok.fresh hCle
  have st0' : tn 0 h₁ := T.keep 0 _ _ st0 fun b hb o e => old b o e
  -- the block's state at its beginning
  have I0 : ∀ tk, Inv (bd X N' scope Hq.objs.size s H fp) [] (eE n ix σ) (upd H s.heap.objs.size (.lst [])) { s with heap := h₁, toks := tk } := fun tk => by
    refine pC ok hcalm I hf hfl hCle hns₁ old (Un.laid old (Nat.le_refl _) hD0) (I.hok.laid old (Nat.le_refl _) ⟨Nat.zero_le _, [], 0, .nil, hacc⟩) (by rw [aW hDC.symm]; exact hC0) fun c hc e => ?_
    rw [aW (Nat.ne_of_lt hc)]; exact e
  have loop : ∀ tk, codeAny (model X.prog X.w) X.A (.compLoop (.ListComp elt [⟨tgt, iter, ifs, 0⟩] scope pos) 0 (.ref it) (.ref s.heap.objs.size) (compEnvC scope (jk X.env scope.names []) Hq.objs.size X.env))
      (RR (.ref s.heap.objs.size) Hq.objs.size) { s with heap := h₁, toks := tk } := fun tk => by
    have fpk : ∀ {pins' : List (Addr × Obj)} {σ' : St} {H' : Hp} {s' : Shared}, Inv (bd X N' scope Hq.objs.size s H fp) pins' σ' H' s' -> pins' = [] -> (∀ b ∈ fp, H' b = none) -> ∀ b ∈ fp, pG (bd X N' scope Hq.objs.size s H fp) pins' H' b := fun I' e hn b hb =>
      ⟨hn b hb, (I'.ok.exf b hb).1, I'.ok.exfs b hb, .inl hb, (I'.ok.exf b hb).2, by subst e; intro p hp; exact absurd (show p ∈ ([] : List (Addr × Obj)) from hp) (by simp)⟩
    refine pN (fun nn s' => ∃ (i : Nat) (σ' : St) (G' H' : Hp) (ρ' : Ev) (vs : List V) (ys : List D), nn = items.length - i /\ i <= items.length /\ Inv (bd X N' scope Hq.objs.size s H fp) [] σ' H' s' /\ tn i s'.heap /\ (∀ b ∈ fp, H' b = none) /\
      H' s.heap.objs.size = some (.lst vs) /\ G' s.heap.objs.size = none /\ Up G H G' H' /\ StE X.K G' H' σ' ρ' /\ (∀ (j : Nat) ds, ρ'[j]? ≠ some (some (.own ds))) /\ Reps X.K G' vs ys /\
      (gf asg gt ge (items.drop i) ρ' >>= fun zs => if (ys ++ zs).length <= sizeLine then R.ok (ys ++ zs) else .no).post (oy X.K G H Q) (Exx X σ G H)) ?_ items.length
      ⟨0, eE n ix σ, G, upd H s.heap.objs.size (.lst []), dX n ix ρ, [], [], by simp, Nat.zero_le _, I0 tk, st0', fun b hb => by rw [aW (Nat.ne_of_lt (hfl b hb))]; exact (hf b hb).1, bf, st.sub.free hD0,
        ⟨fun a o e => by rw [aW (aK e (st.sub.free hD0))]; exact st.sub a o e, .refl _, .into hD0, fun _ _ e => .inl e⟩,
        ⟨fun a o e => by rw [aW (aK e (st.sub.free hD0))]; exact st.sub a o e, (iP st n ix).len, (iP st n ix).val⟩, fun j ds e => mm e, .nil, by simpa using h⟩
    rintro nn s' ⟨i, σ', G', H', ρ', vs, ys, rfl, hil, I', tn', fr', hD', gD', up', st', no', rp', h'⟩
    have hIt := hi i G' H' up'.gg st'.sub
    by_cases hlt : i < items.length
    . -- a turn
      have hd : items.drop i = items[i] :: items.drop (i + 1) := List.drop_eq_getElem_cons hlt
      rw [hd] at h'
      obtain ⟨go, yl⟩ := hIt.1 items[i] (by simp [hlt])
      refine wpAny_mono (T.item (bd X N' scope Hq.objs.size s H fp) rfl rfl rfl hcalm i [] s' σ' H' (fun _ _ => False) I' (fpk I' rfl fr') tn' go) (fun r s1 ⟨u, hr, h1⟩ => ?_) fun _ _ z => z
      subst hr
      refine wpAny_mono h1 (fun _ s2 ⟨x2, H2, I2, r2, y2, tn2, fr2⟩ => ?_) fun _ _ z => z
      obtain ⟨G2, up2, rep2⟩ := yl x2 H2 y2
      have I2p := I2.pinned (fpk I2 rfl fr2) (T.obj _ _ tn2)
      have st2 : StE X.K G2 H2 σ' ρ' := st'.up up2
      have sr2 : StR X.K G2 H2 G2 H2 σ' ρ' := ⟨st2, up2.sub, .refl up2.sub, fun j ds e => absurd e (no' j ds), fun j k ds es l e => absurd e (no' j ds)⟩
      have ea : ∃ ρ1, asg items[i] ρ' = .ok ρ1 := by
        unfold gf at h'
        cases q : asg items[i] ρ' with
        | ok k => exact ⟨k, rfl⟩
        | ex C => rw [q] at h'; exact h'.elim
        | no => rw [q] at h'; exact h'.elim
      obtain ⟨ρ1, ea⟩ := ea
      unfold gf at h'
      rw [ea] at h'
      simp only [gI, R.ok_bind] at h'
      refine wpAny_mono (hg Hq.objs.size s H fp _ s2 σ' H2 x2 u (fun σ3 H3 => H3 = H2 /\ StR X.K G2 H2 G2 H2 σ3 ρ1) I2p r2
        ⟨G2, H2, G2, ρ', items[i], _, sr2, rep2, ea, fun σ3 q => ⟨rfl, q⟩⟩) (fun _ s3 ⟨σ3, H3, I3, e3, sr3⟩ => ?_) fun _ _ z => z
      subst e3
      have no3 := hown _ _ _ ea no'
      have hD2 : H3 s.heap.objs.size = some (.lst vs) := up2.hh _ _ hD'
      have gD2 : G2 s.heap.objs.size = none := by
        cases q : G2 s.heap.objs.size with
        | none => rfl
        | some o =>
          rcases up2.fr _ _ q with z | z
          . rw [gD'] at z; cases z
          . rw [hD'] at z; cases z
      -- the tests
      have ek : ∃ k, gt ρ1 = .ok k := by
        cases q : gt ρ1 with
        | ok k => exact ⟨k, rfl⟩
        | ex C => rw [q] at h'; exact h'.elim
        | no => rw [q] at h'; exact h'.elim
      obtain ⟨k, ek⟩ := ek
      rw [ek] at h'
      simp only [gI, R.ok_bind] at h'
      refine wpAny_mono (ht Hq.objs.size s H fp _ s3 σ3 H3 (fun b H4 => b = k /\ ∃ G4, Up G2 H3 G4 H4) I3 ⟨G2, _, sr3.e, by rw [ek]; exact fun b G4 H4 u4 e4 => ⟨e4, G4, u4⟩⟩) (fun b s4 ⟨H4, I4, eb, G4, up4⟩ => ?_) fun _ _ z => z
      subst eb
      have next : ∀ {H7 : Hp} {s7 : Shared} {G7 : Hp} {vs7 : List V} {ys7 : List D}, Inv (bd X N' scope Hq.objs.size s H fp) ([] ++ ee fp s2.heap) σ3 H7 s7 -> H7 s.heap.objs.size = some (.lst vs7) -> G7 s.heap.objs.size = none -> Up G H G7 H7 -> StE X.K G7 H7 σ3 ρ1 -> Reps X.K G7 vs7 ys7 ->
          (gf asg gt ge (items.drop (i + 1)) ρ1 >>= fun zs => if (ys7 ++ zs).length <= sizeLine then R.ok (ys7 ++ zs) else .no).post (oy X.K G H Q) (Exx X σ G H) ->
          ∃ m, m < items.length - i /\ ∃ (i : Nat) (σ' : St) (G' H' : Hp) (ρ' : Ev) (vs : List V) (ys : List D), m = items.length - i /\ i <= items.length /\ Inv (bd X N' scope Hq.objs.size s H fp) [] σ' H' s7 /\ tn i s7.heap /\ (∀ b ∈ fp, H' b = none) /\
            H' s.heap.objs.size = some (.lst vs) /\ G' s.heap.objs.size = none /\ Up G H G' H' /\ StE X.K G' H' σ' ρ' /\ (∀ (j : Nat) ds, ρ'[j]? ≠ some (some (.own ds))) /\ Reps X.K G' vs ys /\
            (gf asg gt ge (items.drop i) ρ' >>= fun zs => if (ys ++ zs).length <= sizeLine then R.ok (ys ++ zs) else .no).post (oy X.K G H Q) (Exx X σ G H) := fun {H7 s7 G7 vs7 ys7} I7 hD7 gD7 up7 st7 rp7 h7 => by
        have pin : ∀ b ∈ fp, ∀ o, s2.heap.get? b = some o -> s7.heap.get? b = some o /\ H7 b = none := fun b hb o e => by
          have := I7.pin (b, o) (List.mem_append_right _ (List.mem_append_right _ (dt hb e)))
          exact ⟨this.1, this.2.1⟩
        refine ⟨items.length - (i + 1), by omega, i + 1, σ3, G7, H7, _, vs7, ys7, rfl, hlt, I7.unpinned, T.keep _ _ _ tn2 fun b hb o e => (pin b hb o e).1, fun b hb => ?_, hD7, gD7, up7, st7, no3, rp7, h7⟩
        obtain ⟨o, e, _⟩ := T.obj _ _ tn2 b hb
        exact (pin b hb o e).2
      have hD4 : H4 s.heap.objs.size = some (.lst vs) := up4.hh _ _ hD2
      have gD4 : G4 s.heap.objs.size = none := by
        cases q : G4 s.heap.objs.size with
        | none => rfl
        | some o =>
          rcases up4.fr _ _ q with z | z
          . rw [gD2] at z; cases z
          . rw [hD2] at z; cases z
      cases b with
      | false =>
        simp only [Bool.false_eq_true, if_false] at h' ⊢
        exact next I4 hD4 gD4 ((up'.trans up2).trans up4) (sr3.e.up up4) ((rp'.mono up2.gg).mono up4.gg) h'
      | true =>
        simp only [if_true] at h' ⊢
        have ex : ∃ y, ge ρ1 = .ok y := by
          cases q : ge ρ1 with
          | ok y => exact ⟨y, rfl⟩
          | ex C => rw [q] at h'; exact h'.elim
          | no => rw [q] at h'; exact h'.elim
        obtain ⟨y, ey⟩ := ex
        rw [ey] at h'
        simp only [gI, R.ok_bind] at h'
        refine wpAny_mono (he Hq.objs.size s H fp _ s4 σ3 H4 (fun v H5 => ∃ G5, Up G4 H4 G5 H5 /\ Rep X.K G5 v y) I4 ⟨G4, _, sr3.e.up up4, by rw [ey]; exact fun v G5 H5 u5 r5 => ⟨G5, u5, r5⟩⟩) (fun u5 s5 ⟨v5, H5, I5, r5, G5, up5, rep5⟩ => ?_) fun _ _ z => z
        have hD5 : H5 s.heap.objs.size = some (.lst vs) := up5.hh _ _ hD4
        have gD5 : G5 s.heap.objs.size = none := by
          cases q : G5 s.heap.objs.size with
          | none => rfl
          | some o =>
            rcases up5.fr _ _ q with z | z
            . rw [gD4] at z; cases z
            . rw [hD4] at z; cases z
        have ups := ((up'.trans up2).trans up4).trans up5
        rcases ib (asg := asg) (gt := gt) (ge := ge) (items.drop (i + 1)) ρ1 with ⟨zs, ez⟩ | ez
        . rw [ez] at h'
          simp only [R.ok_bind] at h'
          have hz : (ys ++ y :: zs).length <= sizeLine := by
            by_cases hz : (ys ++ y :: zs).length <= sizeLine
            . exact hz
            . rw [if_neg hz] at h'; exact h'.elim
          have hvl : vs.length < sizeLine := by
            rw [rp'.length]
            rw [List.length_append, List.length_cons] at hz
            omega
          refine wpAny_mono (gM (X := bd X N' scope Hq.objs.size s H fp) _ s5 σ3 H5 (.ref s.heap.objs.size) [v5] (.ref s.heap.objs.size) [u5] (fun _ H6 => H6 = upd H5 s.heap.objs.size (.lst (vs ++ [v5]))) I5 rfl (.cons r5 .nil)
            ⟨_, vs, v5, rfl, rfl, hD5, hvl, rfl⟩) (fun _ s6 ⟨_, H6, I6, _, e6⟩ => ?_) fun _ _ z => z
          subst e6
          have sub6 : Same G5 (upd H5 s.heap.objs.size (.lst (vs ++ [v5]))) := fun a o e => by rw [aW (aK e gD5)]; exact up5.sub a o e
          refine next I6 bf gD5 ⟨sub6, ups.gg, fun a o e => ?_, ups.fr⟩ ?_ (ys7 := ys ++ [y]) ((((rp'.mono up2.gg).mono up4.gg).mono up5.gg).append (.cons rep5 .nil)) ?_
          . rw [aW (aK e hD0)]; exact ups.hh a o e
          . exact ⟨sub6, ((sr3.e.up up4).up up5).len, ((sr3.e.up up4).up up5).val⟩
          . rw [ez]
            simp only [R.ok_bind, List.append_assoc, List.singleton_append]
            exact h'
        . rw [ez] at h'; exact h'.elim
    . -- the end
      have hie : i = items.length := by omega
      subst hie
      rw [List.drop_length] at h'
      unfold gf at h'
      simp only [R.ok_bind, List.append_nil] at h'
      refine wpAny_mono (T.done (bd X N' scope Hq.objs.size s H fp) rfl rfl rfl hcalm items.length [] s' σ' H' (fun _ _ => False) I' (fpk I' rfl fr') tn' (hIt.2 (Nat.le_refl _))) (fun r s1 ⟨hr, I1⟩ => ?_) fun _ _ z => z
      subst hr
      have hz : ys.length <= sizeLine := by
        by_cases hz : ys.length <= sizeLine
        . exact hz
        . rw [if_neg hz] at h'; exact h'.elim
      rw [if_pos hz] at h'
      have eH : upd (fun a => if a = s.heap.objs.size then none else H' a) s.heap.objs.size (.lst vs) = H' := by
        funext a
        unfold upd
        by_cases e : a = s.heap.objs.size
        . subst e; rw [if_pos rfl]; exact hD'.symm
        . rw [if_neg e]
          show (if a = s.heap.objs.size then none else H' a) = _
          rw [if_neg e]
      have hn : (fun a => if a = s.heap.objs.size then none else H' a) s.heap.objs.size = none := by simp
      have upn : Up G H G' (fun a => if a = s.heap.objs.size then none else H' a) := by
        refine ⟨fun a o e => ?_, up'.gg, fun a o e => ?_, up'.fr⟩
        . have : a ≠ s.heap.objs.size := aK e gD'
          simp only [this, if_false]; exact up'.sub a o e
        . have : a ≠ s.heap.objs.size := aK e hD0
          simp only [this, if_false]; exact up'.hh a o e
      obtain ⟨m1, hm1, _⟩ := I1.loc
      refine hR s.heap.objs.size Hq.objs.size s1 m1 vs G' _ upn hn hDC.symm (fun _ _ => trivial) (h' _ vs G' _ upn hn rp') hm1 I1.os I1.bare ?_ hCle (by rw [eH]; exact I1.base) (by rw [eH]; exact I1.hok)
      have := I1.free
      show (if Hq.objs.size = s.heap.objs.size then none else H' Hq.objs.size) = none
      rw [if_neg hDC.symm]; exact this
  exact codeAny_compStart_list (loop _) (T.self X.A 0 _ _ _ st0' (loop _))

theorem mJ {pins : List (Addr × Obj)} {σ : St} {H : Hp} {s : Shared} {it : Addr} {fp : List Addr} {tn : Nat -> Heap -> Prop} {J : It} {G : Hp} {ρ : Ev} {items : List D} {Q : VK} {RR : Value -> Addr -> Result -> Shared -> Prop} {E : Value -> Shared -> Prop} (ok : CompOk X scope x N' ix) (hcalm : X.calm = true)
    (he : ∀ C s₂ H₂ fp, QF (bd X N' scope C s₂ H₂ fp) elt ge) (ht : ∀ C s₂ H₂ fp, PTs (bd X N' scope C s₂ H₂ fp) ifs gt)
    (I : Inv X pins σ H s) (T : Turn X.prog X.w X.K (.Name x px) J fp it tn) (st0 : tn 0 s.heap) (hf : ∀ b ∈ fp, pG X pins H b) (st : StE X.K G H σ ρ) (hi : ItOk X.K G J items)
    (h : (fi gt ge items (fh ix ρ) >>= fun ds => if ds.length <= sizeLine then R.ok ds else .no).post (oy X.K G H Q) (Exx X σ G H))
    (hR : ∀ (Dd C : Addr) (s' : Shared) (m : Str -> Option Value) (vs : List V) (G' H' : Hp), Up G H G' H' -> H' Dd = none -> C ≠ Dd -> (∀ ds, Reps X.K G' vs ds -> True) -> Q (.ref Dd) (upd H' Dd (.lst vs)) -> s'.heap.Ns C m -> s'.os = s.os -> AllBare s'.gens -> H' C = none -> s.heap.objs.size <= C ->
      Un (frs X.stack) fp H (upd H' Dd (.lst vs)) s.heap s'.heap -> HOk X.prog X.w (upd H' Dd (.lst vs)) s'.heap -> RR (.ref Dd) C (.ok .next) s') :
    wpAny (model X.prog X.w) X.A (newList []) (fun acc s₃ => wpAny (model X.prog X.w) X.A (newFunctionEnv scope X.env.globals (jk X.env scope.names []) [] X.env.qual none .none (some X.env)) (fun cenv s₄ =>
      codeAny (model X.prog X.w) X.A (.compStart (.ListComp elt [⟨.Name x px, iter, ifs, 0⟩] scope pos) 0 (.ref it) acc { cenv with scope := relabel scope X.env }) (RR acc cenv.locals) s₄) E s₃) E s :=
  kO (n := 1) (asg := fR 0) ok.t hcalm (fun C s₂ H₂ fp => cE (X := bd X N' scope C s₂ H₂ fp) (pos := px) 0 ok.nd ok.hd (.inl (lookup_relabel_local ok.loc)) (.inr (lookup_relabel_local ok.loc))) oS he ht I T st0 hf st hi h hR

theorem pL (ok : CompOk X scope x N' ix) (hcalm : X.calm = true) (hi : QIF X (.Name x px) iter gi) (he : ∀ C s₂ H₂ fp, QF (bd X N' scope C s₂ H₂ fp) elt ge) (ht : ∀ C s₂ H₂ fp, PTs (bd X N' scope C s₂ H₂ fp) ifs gt)
    (hs : ∀ x, foldedSetIterable iter X.env x = pure x := by intro _; rfl) : QFL X (.ListComp elt [⟨.Name x px, iter, ifs, 0⟩] scope pos) (gz gi ix gt ge) := by
  intro pins s σ H Q I h
  obtain ⟨G, ρ, st, h⟩ := h
  rw [eval_ListComp]
  refine wpAny_comprehension_free (use := none) rfl hs (gE fun y hy hy2 => I.ok.has y.1 (.inl (ok.fr y hy hy2))) ok.kind ok.names ?_
  have t : tG X (fun G J items => ItOk X.K G J items) gi σ H (fun J H1 => ∃ G1 items, Up G H G1 H1 /\ StE X.K G1 H1 σ ρ /\ ItOk X.K G1 J items /\ (fi gt ge items (fh ix ρ) >>= fun ds => if ds.length <= sizeLine then R.ok ds else .no).post (oy X.K G H Q) (Exx X σ G H)) := by
    refine ⟨G, ρ, st, ?_⟩
    unfold gz at h
    cases e : gi ρ with
    | ok items => rw [e] at h; exact fun J G1 H1 u r => ⟨G1, items, u, st.up u, r, h⟩
    | ex C => rw [e] at h; exact h
    | no => rw [e] at h; exact h
  refine thn (hi pins s σ H _ I t) fun v s1 h1 => thn h1 fun itv s2 h2 => ?_
  obtain ⟨it, fp, tn, J, H2, e, I2, T, st2, f2, G2, items, u2, sE2, iok, h2⟩ := h2
  subst e
  have h2' : (fi gt ge items (fh ix ρ) >>= fun ds => if ds.length <= sizeLine then R.ok ds else .no).post (oy X.K G2 H2 Q) (Exx X σ G2 H2) :=
    h2.mono (fun ds q l vs G' H' u hl r => q l vs G' H' (u2.trans u) hl r) fun C q => q.up u2
  refine mJ (iter := iter) (pos := pos) (RR := fun acc C => compPost (model X.prog X.w) X.A X.xe none (EP X pins σ Q) acc C) ok hcalm he ht I2 T st2 f2 sE2 iok h2' ?_
  intro Dd C s' m vs G' H' up hd hCD _ q hm hos hb hC hCl un hok
  refine ⟨m, hm, fun h' hs' => ?_⟩
  have I3 := I2.call' (H' := upd H' Dd (.lst vs)) (s' := { s' with heap := h' }) (ch := fp) hos (un.sameBut (fun b o hbc e => hs'.extBut b o hbc e) hCl) (hok.sameBut (fun b o hbc e => hs'.extBut b o hbc e) (by rw [aW hCD]; exact hC)) hb fun b hb' => by
    obtain ⟨f0, f1, f2', f3, f4, f5⟩ := f2 b hb'
    exact ⟨f3, f1, f4, f5⟩
  exact ⟨.ref Dd, _, I3, rfl, q⟩
end
end L2
namespace L2
open PySem PySem.Spec PyProof.Rows
inductive O where
  | nx (ρ : Ev) | rt (d : D) | bk (ρ : Ev) | ct (ρ : Ev) | ex (C : Addr) (ρ : Ev) | no
def De (X : Cx) (G₀ H₀ : Hp) (ρ : Ev) (C : Addr) (e : Value) (s' : Shared) : Prop := ∃ σ G₁ H₁, StR X.K G₀ H₀ G₁ H₁ σ ρ /\ Dj X σ G₁ H₁ C e s'
def tE (X : Cx) (G₀ H₀ : Hp) (D : Ends) (o : O) : Prop := match o with
  | .nx ρ => ∀ σ G H, StR X.K G₀ H₀ G H σ ρ -> D.nx σ H
  | .rt d => ∀ v G H, Up G₀ H₀ G H -> Rep X.K G v d -> D.rt v H
  | .bk ρ => ∀ σ G H, StR X.K G₀ H₀ G H σ ρ -> D.bk σ H
  | .ct ρ => ∀ σ G H, StR X.K G₀ H₀ G H σ ρ -> D.ct σ H
  | .ex C ρ => ∀ e s', De X G₀ H₀ ρ C e s' -> X.xe e s'
  | .no => False
def tS (X : Cx) (G₀ H₀ : Hp) (g : Ev -> O) : TS := fun D σ H => ∃ G ρ, StR X.K G₀ H₀ G H σ ρ /\ tE X G₀ H₀ D (g ρ)
def QSF (X : Cx) (st : Stmt) (g : Ev -> O) : Prop := ∀ G₀ H₀, PS X st (tS X G₀ H₀ g)
def jX (X : Cx) (st : List Stmt) (g : Ev -> O) : Prop := ∀ G₀ H₀, PSs X st (tS X G₀ H₀ g)
def R.out {α : Type} (m : R α) (ρ : Ev) (k : α -> O) : O := match m with
  | .ok a => k a
  | .ex C => .ex C ρ
  | .no => .no
def O.seq (o : O) (k : Ev -> O) : O := match o with
  | .nx ρ => k ρ
  | o => o
section
variable {X : Cx} {st : Stmt} {de body a b : List Stmt} {e c tg : Expr} {g g1 g2 : Ev -> O} {ga : Ev -> R D} {gt : Ev -> R Bool} {gl : Ev -> R (List D)} {pos : Pos}
theorem Exx.of {G₀ H₀ G H : Hp} {D : Ends} {σ : St} {ρ : Ev} {C : Addr} (sr : StR X.K G₀ H₀ G H σ ρ) (h : tE X G₀ H₀ D (.ex C ρ)) : Exx X σ G H C := fun e s' ⟨G1, H1, u, f⟩ => h e s' ⟨σ, G1, H1, sr.ups u, f⟩
theorem oE : jX X [] (fun ρ => .nx ρ) := fun G₀ H₀ pins s σ H D I h => by
  obtain ⟨G, ρ, sr, h⟩ := h
  try dsimp only at h
  exact yC pins s σ H D I (h σ G H sr)
theorem mV (h1 : QSF X st g1) (h2 : jX X de g2) : jX X (st :: de) (fun ρ => (g1 ρ).seq g2) := fun G₀ H₀ pins s σ H D I h => by
  refine vG (h1 G₀ H₀) (h2 G₀ H₀) pins s σ H D I ?_
  obtain ⟨G, ρ, sr, h⟩ := h
  try dsimp only at h
  refine ⟨G, ρ, sr, ?_⟩
  cases q : g1 ρ with
  | nx ρ' => rw [q] at h; exact fun σ' G' H' sr' => ⟨G', ρ', sr', h⟩
  | rt d => rw [q] at h; exact h
  | bk ρ' => rw [q] at h; exact h
  | ct ρ' => rw [q] at h; exact h
  | ex C ρ' => rw [q] at h; exact h
  | no => rw [q] at h; exact h
theorem qc (he : QF X e ga) : QSF X (.Return (some e) pos) (fun ρ => (ga ρ).out ρ .rt) := fun G₀ H₀ pins s σ H D I h => by
  refine A2 he pins s σ H D I ?_
  obtain ⟨G, ρ, sr, h⟩ := h
  try dsimp only at h
  refine ⟨G, ρ, sr.e, ?_⟩
  cases q : ga ρ with
  | ok d => rw [q] at h; exact fun v G' H' u r => h v G' H' (sr.up.trans u) r
  | ex C => rw [q] at h; exact Exx.of sr h
  | no => rw [q] at h; exact h
theorem ou (he : QF X e ga) (hs : swapsWith e none pos.line X.env = pure false := by rfl) : QSF X (.Expr e pos) (fun ρ => (ga ρ).out ρ fun _ => .nx ρ) := fun G₀ H₀ pins s σ H D I h => by
  refine lP he hs pins s σ H D I ?_
  obtain ⟨G, ρ, sr, h⟩ := h
  try dsimp only at h
  refine ⟨G, ρ, sr.e, ?_⟩
  cases q : ga ρ with
  | ok d => rw [q] at h; exact fun v G' H' u r => h σ G' H' (sr.ups u)
  | ex C => rw [q] at h; exact Exx.of sr h
  | no => rw [q] at h; exact h
theorem ti (hc : QB X c gt) (ha : jX X a g1) (hb : jX X b g2) : QSF X (.If c a b pos) (fun ρ => (gt ρ).out ρ fun k => if k = true then g1 ρ else g2 ρ) := fun G₀ H₀ pins s σ H D I h => by
  refine CL hc (ha G₀ H₀) (hb G₀ H₀) pins s σ H D I ?_
  obtain ⟨G, ρ, sr, h⟩ := h
  try dsimp only at h
  refine ⟨G, ρ, sr.e, ?_⟩
  cases q : gt ρ with
  | ok k =>
    rw [q] at h
    intro b' G' H' u r
    subst r
    cases b' with
    | true => rw [if_pos rfl]; exact ⟨G', ρ, sr.ups u, by simpa [R.out] using h⟩
    | false => rw [if_neg Bool.false_ne_true]; exact ⟨G', ρ, sr.ups u, by simpa [R.out] using h⟩
  | ex C => rw [q] at h; exact Exx.of sr h
  | no => rw [q] at h; exact h
theorem pK {asg : D -> Ev -> R Ev} (he : QF X e ga) (hg : PGF X tg asg) (hs : swapsWithSole [tg] e pos.line X.env = pure false := by rfl) (hw : swappedStores [tg] e X.env = pure none := by rfl)
    (hn : ∀ d ρ C, asg d ρ ≠ .ex C := by intro _ _ _ z; cases z) (h1 : (assignEach [tg] X.env).map (·.2) = [assign tg X.env] := by rfl) : QSF X (.Assign [tg] e pos) (fun ρ => (ga ρ).out ρ fun d => (asg d ρ).out ρ .nx) := fun G₀ H₀ pins s σ H D I h => by
  refine wK he hg hs hw h1 pins s σ H D I ?_
  obtain ⟨G, ρ, sr, h⟩ := h
  try dsimp only at h
  refine ⟨G, ρ, sr.e, ?_⟩
  cases q : ga ρ with
  | ok d =>
    rw [q] at h
    simp only [R.out] at h
    intro v G' H' u r
    cases q2 : asg d ρ with
    | ok ρ' => rw [q2] at h; exact ⟨G₀, H₀, G', ρ, d, ρ', sr.ups u, r, q2, fun σ' sr' => h σ' G' H' sr'⟩
    | ex C => exact absurd q2 (hn d ρ C)
    | no => rw [q2] at h; exact h.elim
  | ex C => rw [q] at h; exact Exx.of sr h
  | no => rw [q] at h; exact h
theorem pO (i : Nat) {x : Str} {p : Pos} (hN : X.N.Nodup) (he : QF X e ga) (hi : X.N[i]? = some x := by rfl) (hx : Loc X.env.scope x := by first | exact Or.inl rfl | exact Or.inr rfl)
    (hs : swapsWithSole [.Name x p] e pos.line X.env = pure false := by rfl) (hw : swappedStores [.Name x p] e X.env = pure none := by rfl) (hf : X.fn x = true \/ X.env.scope.names.lookup x = some .local := by first | exact .inl rfl | exact .inr rfl) :
    QSF X (.Assign [.Name x p] e pos) (fun ρ => (ga ρ).out ρ fun d => .nx (ρ.set i (some (.val d)))) := pK he (cE i hN hi hx hf) hs hw
theorem StR.setOwn {K : PySem.W.Frag} {G₀ H₀ G H : Hp} {σ : St} {ρ : Ev} (s : StR K G₀ H₀ G H σ ρ) {l : Addr} {vs : List V} {ds : List D} (hl : H l = none) (r : Reps K G vs ds) (i : Nat) :
    StR K G₀ H₀ G (upd H l (.lst vs)) (σ.set i (some (.ref l))) (ρ.set i (some (.own ds))) := by
  have gl : G l = none := s.e.sub.free hl
  have sub : Same G (upd H l (.lst vs)) := fun a o e => by rw [aW (aK e gl)]; exact s.e.sub a o e
  have get : ∀ (j : Nat) x, (ρ.set i (some (.own ds)))[j]? = some (some x) -> (j = i /\ x = .own ds /\ i < σ.length) \/ (j ≠ i /\ ρ[j]? = some (some x) /\ (σ.set i (some (.ref l)))[j]? = σ[j]?) := fun j x h => by
    by_cases e : i = j
    . subst e
      have hl : i < ρ.length := by
        have := (List.getElem?_eq_some_iff.mp h).1
        simpa using this
      rw [List.getElem?_set_self hl] at h
      exact .inl ⟨rfl, by injection (Option.some.inj h) with q; exact q.symm, by rw [s.e.len]; exact hl⟩
    . rw [List.getElem?_set_ne e] at h
      exact .inr ⟨fun z => e z.symm, h, List.getElem?_set_ne e⟩
  refine ⟨⟨sub, by simp [s.e.len], fun j d' h => ?_⟩, s.sub0, ⟨sub, s.up.gg, fun a o e => ?_, s.up.fr⟩, fun j es h => ?_, fun j k es fs l' h1 h2 h3 h4 => ?_⟩
  . rcases get j _ h with ⟨_, e, _⟩ | ⟨_, e, e'⟩
    . cases e
    . rw [e']; exact s.e.val j d' e
  . rw [aW (aK (s.up.hh a o e) hl)]; exact s.up.hh a o e
  . rcases get j _ h with ⟨rfl, e, hj⟩ | ⟨_, e, e'⟩
    . cases e
      exact ⟨l, vs, List.getElem?_set_self hj, bf, gl, s.up.hh.free hl, r⟩
    . obtain ⟨l', vs', h1, h2, h3, h4, h5⟩ := s.own j es e
      exact ⟨l', vs', by rw [e']; exact h1, by rw [aW (aK h2 hl)]; exact h2, h3, h4, h5⟩
  . rcases get j _ h1 with ⟨rfl, e, hj⟩ | ⟨nj, e, e'⟩
    . rcases get k _ h2 with ⟨rfl, f, _⟩ | ⟨nk, f, f'⟩
      . rfl
      . obtain ⟨l2, vs2, q1, q2, _⟩ := s.own k fs f
        rw [List.getElem?_set_self hj] at h3
        rw [f', q1] at h4
        cases h3
        cases h4
        rw [hl] at q2; cases q2
    . rcases get k _ h2 with ⟨rfl, f, hk⟩ | ⟨nk, f, f'⟩
      . obtain ⟨l2, vs2, q1, q2, _⟩ := s.own j es e
        rw [List.getElem?_set_self hk] at h4
        rw [e', q1] at h3
        cases h3
        cases h4
        rw [hl] at q2; cases q2
      . exact s.inj j k es fs l' e f (e' ▸ h3) (f' ▸ h4)
theorem qr (i : Nat) {x : Str} {p : Pos} (hN : X.N.Nodup) (he : QFL X e gl) (hi : X.N[i]? = some x := by rfl) (hx : Loc X.env.scope x := by first | exact Or.inl rfl | exact Or.inr rfl)
    (hs : swapsWithSole [.Name x p] e pos.line X.env = pure false := by rfl) (hw : swappedStores [.Name x p] e X.env = pure none := by rfl) (hf : X.fn x = true \/ X.env.scope.names.lookup x = some .local := by first | exact .inl rfl | exact .inr rfl) :
    QSF X (.Assign [.Name x p] e pos) (fun ρ => (gl ρ).out ρ fun ds => .nx (ρ.set i (some (.own ds)))) := fun G₀ H₀ pins s σ H D I h => by
  refine wK he (sF (i := i) hN hi hx hf) hs hw rfl pins s σ H D I ?_
  obtain ⟨G, ρ, sr, h⟩ := h
  try dsimp only at h
  refine ⟨G, ρ, sr.e, ?_⟩
  cases q : gl ρ with
  | ok ds => rw [q] at h; exact fun l vs G' H' u hl r => h _ G' _ ((sr.ups u).setOwn hl r i)
  | ex C => rw [q] at h; exact Exx.of sr h
  | no => rw [q] at h; exact h
theorem StR.mut {K : PySem.W.Frag} {G₀ H₀ G H : Hp} {σ : St} {ρ : Ev} (s : StR K G₀ H₀ G H σ ρ) {i : Nat} {l : Addr} {ds es : List D} {vs : List V} (e : ρ[i]? = some (some (.own ds))) (hs : σ[i]? = some (some (.ref l))) (r : Reps K G vs es) :
    StR K G₀ H₀ G (upd H l (.lst vs)) σ (ρ.set i (some (.own es))) := by
  obtain ⟨l0, vs0, h1, h2, h3, h4, h5⟩ := s.own i ds e
  rw [hs] at h1
  cases h1
  have sub : Same G (upd H l (.lst vs)) := fun a o e => by rw [aW (aK e h3)]; exact s.e.sub a o e
  have hl : i < ρ.length := (List.getElem?_eq_some_iff.mp e).1
  have get : ∀ (j : Nat) x, (ρ.set i (some (.own es)))[j]? = some (some x) -> (j = i /\ x = .own es) \/ (j ≠ i /\ ρ[j]? = some (some x)) := fun j x h => by
    by_cases e : i = j
    . subst e
      rw [List.getElem?_set_self hl] at h
      exact .inl ⟨rfl, by injection (Option.some.inj h) with q; exact q.symm⟩
    . rw [List.getElem?_set_ne e] at h
      exact .inr ⟨fun z => e z.symm, h⟩
  refine ⟨⟨sub, by simp [s.e.len], fun j d' h => ?_⟩, s.sub0, ⟨sub, s.up.gg, fun a o e => ?_, s.up.fr⟩, fun j fs h => ?_, fun j k fs gs l' q1 q2 q3 q4 => ?_⟩
  . rcases get j _ h with ⟨_, e⟩ | ⟨_, e⟩
    . cases e
    . exact s.e.val j d' e
  . rw [aW (aK e h4)]; exact s.up.hh a o e
  . rcases get j _ h with ⟨rfl, e'⟩ | ⟨nj, e'⟩
    . cases e'
      exact ⟨l, vs, hs, bf, h3, h4, r⟩
    . obtain ⟨l', vs', p1, p2, p3, p4, p5⟩ := s.own j fs e'
      have : l' ≠ l := fun z => by subst z; exact nj (s.inj j i fs ds l' e' e p1 hs)
      exact ⟨l', vs', p1, by rw [aW this]; exact p2, p3, p4, p5⟩
  . rcases get j _ q1 with ⟨rfl, _⟩ | ⟨nj, f1⟩
    . rcases get k _ q2 with ⟨rfl, _⟩ | ⟨nk, f2⟩
      . rfl
      . exact s.inj j k ds gs l' e f2 q3 q4
    . rcases get k _ q2 with ⟨rfl, _⟩ | ⟨nk, f2⟩
      . exact s.inj j k fs ds l' f1 e q3 q4
      . exact s.inj j k fs gs l' f1 f2 q3 q4
def frz (i : Nat) (ρ : Ev) : Ev := match ρ[i]? with
  | some (some (.own ds)) => ρ.set i (some (.val (.lst false ds)))
  | _ => ρ
theorem StR.frzTo {K : PySem.W.Frag} {G₀ H₀ G H : Hp} {σ : St} {ρ : Ev} (s : StR K G₀ H₀ G H σ ρ) (i : Nat) : ∃ G', StR K G₀ H₀ G' H σ (L2.frz i ρ) /\ (G' = G \/ ∃ l vs, G l = none /\ G' = upd G l (.lst vs)) := by
  unfold L2.frz
  split
  . rename_i ds e
    obtain ⟨l, vs, h1, h2, h3, h4, h5⟩ := s.own i ds e
    have hl : i < ρ.length := (List.getElem?_eq_some_iff.mp e).1
    have g0 : G₀ l = none := s.sub0.free h4
    have into : Same G (upd G l (.lst vs)) := .into h3
    have sub : Same (upd G l (.lst vs)) H := fun a o q => by
      by_cases ea : a = l
      . subst ea; rw [bf] at q; rw [<- q]; exact h2
      . rw [aW ea] at q; exact s.e.sub a o q
    have get : ∀ (j : Nat) x, (ρ.set i (some (.val (.lst false ds))))[j]? = some (some x) -> (j = i /\ x = .val (.lst false ds)) \/ (j ≠ i /\ ρ[j]? = some (some x)) := fun j x h => by
      by_cases e : i = j
      . subst e
        rw [List.getElem?_set_self hl] at h
        exact .inl ⟨rfl, by injection (Option.some.inj h) with q; exact q.symm⟩
      . rw [List.getElem?_set_ne e] at h
        exact .inr ⟨fun z => e z.symm, h⟩
    refine ⟨upd G l (.lst vs), ⟨⟨sub, by simp [s.e.len], fun j d' h => ?_⟩, s.sub0, ⟨sub, s.up.gg.trans into, s.up.hh, fun a o q => ?_⟩, fun j fs h => ?_, fun j k fs gs l' q1 q2 q3 q4 => ?_⟩, .inr ⟨l, vs, h3, rfl⟩⟩
    . rcases get j _ h with ⟨rfl, e'⟩ | ⟨_, e'⟩
      . cases e'
        exact ⟨.ref l, h1, .lst bf (h5.mono into)⟩
      . obtain ⟨v, p1, p2⟩ := s.e.val j d' e'
        exact ⟨v, p1, p2.mono into⟩
    . by_cases ea : a = l
      . subst ea; exact .inr h4
      . rw [aW ea] at q; exact s.up.fr a o q
    . rcases get j _ h with ⟨_, e'⟩ | ⟨nj, e'⟩
      . cases e'
      . obtain ⟨l', vs', p1, p2, p3, p4, p5⟩ := s.own j fs e'
        have : l' ≠ l := fun z => by subst z; exact nj (s.inj j i fs ds l' e' e p1 h1)
        exact ⟨l', vs', p1, p2, by rw [aW this]; exact p3, p4, p5.mono into⟩
    . rcases get j _ q1 with ⟨_, e'⟩ | ⟨nj, f1⟩
      . cases e'
      . rcases get k _ q2 with ⟨_, e'⟩ | ⟨nk, f2⟩
        . cases e'
        . exact s.inj j k fs gs l' f1 f2 q3 q4
  . exact ⟨G, s, .inl rfl⟩
theorem StR.frz {K : PySem.W.Frag} {G₀ H₀ G H : Hp} {σ : St} {ρ : Ev} (s : StR K G₀ H₀ G H σ ρ) (i : Nat) : ∃ G', StR K G₀ H₀ G' H σ (L2.frz i ρ) :=
  let ⟨G', h, _⟩ := s.frzTo i; ⟨G', h⟩
theorem nl {sts : List Stmt} (i : Nat) (h : jX X sts g) : jX X sts (fun ρ => g (frz i ρ)) := fun G₀ H₀ pins s σ H D I q => by
  obtain ⟨G, ρ, sr, q⟩ := q
  obtain ⟨G', sr'⟩ := sr.frz i
  exact h G₀ H₀ pins s σ H D I ⟨G', _, sr', q⟩
def ownAt (ρ : Ev) (i : Nat) : R (List D) := match ρ[i]? with
  | some (some (.own ds)) => .ok ds
  | _ => .no
theorem ownAt.ok {ρ : Ev} {i : Nat} {k : List D -> O} {D : Ends} {G₀ H₀ : Hp} (h : tE X G₀ H₀ D ((ownAt ρ i).out ρ k)) : ∃ ds, ρ[i]? = some (some (.own ds)) /\ tE X G₀ H₀ D (k ds) := by
  unfold ownAt at h
  split at h
  . rename_i ds e; exact ⟨ds, e, h⟩
  . exact h.elim
theorem lQ (i : Nat) {x : Str} {p ap cp : Pos} (he : QF X e ga) (hi : X.N[i]? = some x := by rfl) (hv : Vis X.env.scope x := by first | exact Or.inl rfl | exact Or.inr (Or.inl rfl))
    (hd : (x == ("__debug__" : Str)) = false := by decide) (hcd : (x == ("__classdict__" : Str)) = false := by decide) (hs1 : starEach [e] X.env = (false, eval e X.env) :: starEach [] X.env := by rfl)
    (hbase : attributeBase (.Name x p) "append" X.env (eval (.Name x p) X.env) = eval (.Name x p) X.env := by rfl)
    (hfew : ((backTo cp (starEach [e] X.env)).all (fun x => !x.1) && (backToKw cp (keywordEach [] X.env)).all (fun x => x.1.isSome)
      && decide ([e].length + ([] : List Keyword).length + (if ([] : List Keyword).isEmpty then 0 else 1) < 30)) = true := by rfl)
    (hline : (ap.endLine == cp.line) = true := by rfl)
    (hs : swapsWith (.Call (.Attribute (.Name x p) "append" ap) [e] [] cp) none pos.line X.env = pure false := by rfl) :
    QSF X (.Expr (.Call (.Attribute (.Name x p) "append" ap) [e] [] cp) pos) (fun ρ => (ownAt ρ i).out ρ fun ds => (ga ρ).out ρ fun d => if ds.length < sizeLine then .nx (ρ.set i (some (.own (ds ++ [d])))) else .no) := fun G₀ H₀ pins s σ H D I h => by
  refine lP (vj PySem.F.plainAttrs_list PySem.F.slot_list_append PySem.F.type_list_append gM (pz hi hv hd hcd) (dw he iY hs1) hbase hfew hline hs1 rfl) hs pins s σ H D I ?_
  obtain ⟨G, ρ, sr, h⟩ := h
  try dsimp only at h
  obtain ⟨ds, e1, h⟩ := ownAt.ok h
  obtain ⟨l, vs, h1, h2, h3, h4, h5⟩ := sr.own i ds e1
  refine ⟨.ref l, h1, .inl ⟨rfl, vs, .of h2⟩, G, ρ, sr.e, ?_⟩
  cases q : ga ρ with
  | ok d =>
    rw [q] at h
    simp only [R.out] at h
    intro v G' H' u r
    by_cases hz : ds.length < sizeLine
    . rw [if_pos hz] at h
      refine ⟨l, vs, v, rfl, rfl, u.hh _ _ h2, by rw [h5.length]; exact hz, h _ G' _ ?_⟩
      exact (sr.ups u).mut e1 h1 ((h5.mono u.gg).append (.cons r .nil))
    . rw [if_neg hz] at h; exact h.elim
  | ex C => rw [q] at h; exact Exx.of sr h
  | no => rw [q] at h; exact h
def asL : D -> R (List D)
  | .lst false xs => .ok xs
  | _ => .no
theorem lg (i : Nat) {x : Str} {p ap cp : Pos} (he : QF X e ga) (hi : X.N[i]? = some x := by rfl) (hv : Vis X.env.scope x := by first | exact Or.inl rfl | exact Or.inr (Or.inl rfl))
    (hd : (x == ("__debug__" : Str)) = false := by decide) (hcd : (x == ("__classdict__" : Str)) = false := by decide) (hs1 : starEach [e] X.env = (false, eval e X.env) :: starEach [] X.env := by rfl)
    (hbase : attributeBase (.Name x p) "extend" X.env (eval (.Name x p) X.env) = eval (.Name x p) X.env := by rfl)
    (hfew : ((backTo cp (starEach [e] X.env)).all (fun x => !x.1) && (backToKw cp (keywordEach [] X.env)).all (fun x => x.1.isSome)
      && decide ([e].length + ([] : List Keyword).length + (if ([] : List Keyword).isEmpty then 0 else 1) < 30)) = true := by rfl)
    (hline : (ap.endLine == cp.line) = true := by rfl)
    (hs : swapsWith (.Call (.Attribute (.Name x p) "extend" ap) [e] [] cp) none pos.line X.env = pure false := by rfl) :
    QSF X (.Expr (.Call (.Attribute (.Name x p) "extend" ap) [e] [] cp) pos) (fun ρ => (ownAt ρ i).out ρ fun ds => (ga ρ).out ρ fun d => (asL d).out ρ fun es => if ds.length + es.length <= sizeLine then .nx (ρ.set i (some (.own (ds ++ es)))) else .no) := fun G₀ H₀ pins s σ H D I h => by
  refine lP (vj PySem.F.plainAttrs_list PySem.F.slot_list_extend PySem.F.type_list_extend rY (pz hi hv hd hcd) (dw he iY hs1) hbase hfew hline hs1 rfl) hs pins s σ H D I ?_
  obtain ⟨G, ρ, sr, h⟩ := h
  try dsimp only at h
  obtain ⟨ds, e1, h⟩ := ownAt.ok h
  obtain ⟨l, vs, h1, h2, h3, h4, h5⟩ := sr.own i ds e1
  refine ⟨.ref l, h1, .inl ⟨rfl, vs, .of h2⟩, G, ρ, sr.e, ?_⟩
  cases q : ga ρ with
  | ok d =>
    rw [q] at h
    simp only [R.out] at h
    intro v G' H' u r
    cases r with
    | lst hb t =>
      rename_i b ws es
      have h : tE X G₀ H₀ D (if ds.length + es.length <= sizeLine then .nx (ρ.set i (some (.own (ds ++ es)))) else .no) := h
      by_cases hz : ds.length + es.length <= sizeLine
      . rw [if_pos hz] at h
        refine ⟨l, b, vs, ws, rfl, rfl, u.hh _ _ h2, u.sub _ _ hb, by rw [h5.length, t.length]; exact hz, h _ G' _ ?_⟩
        exact (sr.ups u).mut e1 h1 ((h5.mono u.gg).append t)
      . rw [if_neg hz] at h; exact h.elim
    | _ => exact h.elim
  | ex C => rw [q] at h; exact Exx.of sr h
  | no => rw [q] at h; exact h
def cC (asg : D -> Ev -> R Ev) (g : Ev -> O) : List D -> Ev -> O
  | [], ρ => .nx ρ
  | d :: ds, ρ => (asg d ρ).out ρ fun ρ1 => match g ρ1 with
    | .nx ρ2 => cC asg g ds ρ2
    | .ct ρ2 => cC asg g ds ρ2
    | .bk ρ2 => .nx ρ2
    | .rt d => .rt d
    | .ex C ρ2 => .ex C ρ2
    | .no => .no
def mix (H₀ G₁ : Hp) : Hp := fun a => match G₁ a with
  | some o => some o
  | none => H₀ a
theorem pD {H₀ G₁ : Hp} {a : Addr} (h : mix H₀ G₁ a = none) : G₁ a = none /\ H₀ a = none := by
  unfold mix at h
  cases q : G₁ a with
  | none => rw [q] at h; exact ⟨rfl, h⟩
  | some o => rw [q] at h; cases h
section
variable {K : PySem.W.Frag} {G₀ H₀ G₁ H₁ G H : Hp} {σ : St} {ρ : Ev}
theorem StR.to (s : StR K G₀ H₀ G₁ H₁ σ ρ) : StR K G₁ (mix H₀ G₁) G₁ H₁ σ ρ := by
  refine ⟨s.e, fun a o e => ?_, ⟨s.e.sub, .refl _, fun a o e => ?_, fun _ _ e => .inl e⟩, fun i ds e => ?_, s.inj⟩
  . unfold mix; rw [e]
  . unfold mix at e
    cases q : G₁ a with
    | none => rw [q] at e; exact s.up.hh a o e
    | some o' => rw [q] at e; cases e; exact s.e.sub a o q
  . obtain ⟨l, vs, h1, h2, h3, h4, h5⟩ := s.own i ds e
    exact ⟨l, vs, h1, h2, h3, by unfold mix; rw [h3]; exact h4, h5⟩
theorem Up.back (u : Up G₀ H₀ G₁ H₁) (v : Up G₁ (mix H₀ G₁) G H) : Up G₀ H₀ G H := by
  refine ⟨v.sub, u.gg.trans v.gg, fun a o e => ?_, fun a o e => ?_⟩
  . cases q : G₁ a with
    | none => exact v.hh a o (by unfold mix; rw [q]; exact e)
    | some o' =>
      have h1 := u.sub a o' q
      have h2 := u.hh a o e
      rw [h1] at h2
      cases h2
      exact v.hh a o (by unfold mix; rw [q])
  . rcases v.fr a o e with h | h
    . exact u.fr a o h
    . exact .inr (pD h).2
theorem StR.back (s0 : Same G₀ H₀) (u : Up G₀ H₀ G₁ H₁) (s : StR K G₁ (mix H₀ G₁) G H σ ρ) : StR K G₀ H₀ G H σ ρ :=
  ⟨s.e, s0, u.back s.up, fun i ds e => let ⟨l, vs, h1, h2, h3, h4, h5⟩ := s.own i ds e; ⟨l, vs, h1, h2, h3, (pD h4).2, h5⟩, s.inj⟩
end
theorem qe {iter : Expr} {gi : Ev -> R (List D)} {asg : D -> Ev -> R Ev} (hp : PassesOwn (model X.prog X.w) X.A X.env X.xe) (hcalm : X.calm = true) (hi : QIF X tg iter gi) (hg : PGF X tg asg) (hb : jX X body g)
    (hs : ∀ x, foldedSetIterable iter X.env x = pure x := by intro _; rfl) (hn : ∀ d ρ C, asg d ρ ≠ .ex C := by intro _ _ _ z; cases z) : QSF X (.For tg iter body [] pos) (fun ρ => (gi ρ).out ρ fun items => cC asg g items ρ) := fun G₀ H₀ pins s σ H D I h => by
  obtain ⟨G, ρ, sr, h⟩ := h
  try dsimp only at h
  cases q : gi ρ with
  | ok items =>
    rw [q] at h
    simp only [R.out] at h
    -- the loop by its invariant, whatever the iterator's heap is
    have key : ∀ (J : It) (G1 H1 : Hp), Up G H G1 H1 -> ItOk X.K G1 J items -> ∃ W : Nat -> Nat -> St -> Hp -> Prop, (∃ m, W 0 m σ H1) /\ ∀ i m σ H, W i m σ H ->
        (J.stop i H /\ D.nx σ H) \/ (J.go i H /\ ∃ N : St -> Hp -> Prop, (∀ σ' H', N σ' H' -> ∃ m', m' < m /\ W (i + 1) m' σ' H') /\ ∀ x H', J.yld i H x H' -> (fun v σ H Q => ∃ G₀ H₀ G ρ d ρ', StR X.K G₀ H₀ G H σ ρ /\ Rep X.K G v d /\ asg d ρ = .ok ρ' /\ ∀ σ', StR X.K G₀ H₀ G H σ' ρ' -> Q σ' H) x σ H' fun σ2 H2 => (fun D σ H => ∃ G₀ H₀, tS X G₀ H₀ g D σ H) { D with nx := N, ct := N, bk := D.nx } σ2 H2) := by
      intro J G1 H1 u1 iok
      have sr1 := sr.ups u1
      refine ⟨fun i m σ' H' => m = items.length - i /\ i <= items.length /\ ∃ G' ρ', StR X.K G1 (mix H₀ G1) G' H' σ' ρ' /\ tE X G₀ H₀ D (cC asg g (items.drop i) ρ'), ⟨items.length, by simp, Nat.zero_le _, G1, ρ, sr1.to, by simpa using h⟩, ?_⟩
      rintro i m σ' H' ⟨rfl, hil, G', ρ', sr', h'⟩
      have hIt := iok i G' H' sr'.up.gg sr'.e.sub
      by_cases hlt : i < items.length
      . have hd : items.drop i = items[i] :: items.drop (i + 1) := List.drop_eq_getElem_cons hlt
        rw [hd] at h'
        obtain ⟨go, yl⟩ := hIt.1 items[i] (by simp [hlt])
        refine .inr ⟨go, fun σ2 H2 => i + 1 <= items.length /\ ∃ G2 ρ2, StR X.K G1 (mix H₀ G1) G2 H2 σ2 ρ2 /\ tE X G₀ H₀ D (cC asg g (items.drop (i + 1)) ρ2), fun σ2 H2 q2 => ⟨items.length - (i + 1), by omega, rfl, q2⟩, fun x H2 y => ?_⟩
        obtain ⟨G2, up2, rep2⟩ := yl x H2 y
        unfold cC at h'
        cases q2 : asg items[i] ρ' with
        | ok ρ1 =>
          rw [q2] at h'
          simp only [R.out] at h'
          refine ⟨G1, mix H₀ G1, G2, ρ', items[i], ρ1, sr'.ups up2, rep2, q2, fun σ3 sr3 => ⟨G1, mix H₀ G1, G2, ρ1, sr3, ?_⟩⟩
          cases q3 : g ρ1 with
          | nx ρ2 => rw [q3] at h'; exact fun σ4 G4 H4 sr4 => ⟨hlt, G4, ρ2, sr4, h'⟩
          | ct ρ2 => rw [q3] at h'; exact fun σ4 G4 H4 sr4 => ⟨hlt, G4, ρ2, sr4, h'⟩
          | bk ρ2 => rw [q3] at h'; exact fun σ4 G4 H4 sr4 => h' σ4 G4 H4 (sr4.back sr.sub0 sr1.up)
          | rt d => rw [q3] at h'; exact fun v G4 H4 u4 r4 => h' v G4 H4 (sr1.up.back u4) r4
          | ex C ρ2 => rw [q3] at h'; exact fun e s' ⟨σ4, G4, H4, sr4, f4⟩ => h' e s' ⟨σ4, G4, H4, sr4.back sr.sub0 sr1.up, f4⟩
          | no => rw [q3] at h'; exact h'
        | ex C => exact absurd q2 (hn _ _ C)
        | no => rw [q2] at h'; exact h'.elim
      . have hie : i = items.length := by omega
        subst hie
        rw [List.drop_length] at h'
        exact .inl ⟨hIt.2 (Nat.le_refl _), h' σ' G' H' (sr'.back sr.sub0 sr1.up)⟩
    have hb' : PSs X body (fun D σ H => ∃ G₀ H₀, tS X G₀ H₀ g D σ H) := fun pins s σ H D I ⟨G₀, H₀, q⟩ => hb G₀ H₀ pins s σ H D I q
    refine wk hp hcalm hi hg hb' hs pins s σ H D I ⟨G, ρ, sr.e, ?_⟩
    rw [q]
    exact fun J G1 H1 u1 iok => key J G1 H1 u1 iok
  | ex C =>
    rw [q] at h
    have hb' : PSs X body (fun D σ H => ∃ G₀ H₀, tS X G₀ H₀ g D σ H) := fun pins s σ H D I ⟨G₀, H₀, q⟩ => hb G₀ H₀ pins s σ H D I q
    refine wk hp hcalm hi hg hb' hs pins s σ H D I ⟨G, ρ, sr.e, ?_⟩
    rw [q]
    exact Exx.of sr h
  | no => rw [q] at h; exact h.elim
end
end L2
namespace L2
open PySem PySem.Spec PyProof.Rows
def spF (K : PySem.W.Frag) (f : List D -> R D) : Sp := fun vs H Q E => ∃ G ds, Same G H /\ Reps K G vs ds /\ (f ds).post (Fin G H (Rep K) Q) (fun C => ∀ G' H', Up G H G' H' -> E (.ref C) none H')
abbrev FnF (P : Program) (w : World) (K : PySem.W.Frag) (mg : Str -> Option Value) (base : Heap) (k : Nat) (f : Addr) (fd : FuncData) (ps : List Str) (g : List D -> R D) : Prop := FnOk P w K mg base (CXo P w) k f fd ps (fun vs H Q E => vs.length = ps.length /\ spF K g vs H Q E)
section
variable {X : Cx} {k : Nat} {f : Addr} {fd : FuncData} {ps : List Str} {x : Str} {p pos : Pos} {e : Expr} {es : List Expr} {gl : Ev -> R (List D)} {g : List D -> R D}
theorem rh (F : FnF X.prog X.w X.K X.mg X.base k f fd ps g) (hr : Room k X.A) (hg : Gl X x) (hm : X.mg x = some (.ref f)) (hk : PySem.W.keepIn X.K (.ref f) = true) (hb : Binds X.K fd ps []) (ha : QFA X (e :: es) gl)
    (hdb : (x == ("__debug__" : Str)) = false := by decide) (he : starEach (e :: es) X.env = (false, eval e X.env) :: starEach es X.env := by rfl) (hpl : (backTo pos (starEach es X.env)).any (·.1) = false := by rfl) :
    QF X (.Call (.Name x p) (e :: es) [] pos) (fun ρ => gl ρ >>= fun ds => if ds.length = ps.length then g ds else .no) := by
  intro pins s σ H Q I h
  obtain ⟨G, ρ, st, h⟩ := h
  have t : tAF X gl σ H (fun vs H1 => ∃ G1 ds, Up G H G1 H1 /\ Same G1 H1 /\ Reps X.K G1 vs ds /\ ds.length = ps.length /\ (g ds).post (Fin G1 H1 (Rep X.K) Q) (Exx X σ G1 H1)) := by
    refine tG.intro st h fun ds vs G1 H1 u1 st1 r1 h1 => ?_
    by_cases hl : ds.length = ps.length
    . rw [if_pos hl] at h1; exact ⟨G1, ds, u1, st1.sub, r1, hl, h1⟩
    . rw [if_neg hl] at h1; exact h1.elim
  refine wpAny_Call_Name_kw (lw I hg hm ?_ hdb)
  refine PySem.W.callWith_K (h₀ := X.base) I.ok.mod.kin hk (thn (ha pos pins s σ H _ I t) fun us s1 q => ⟨?_, ?_⟩) he hpl
  . obtain ⟨vs, H1, I1, r, _⟩ := q; exact I1.kIn
  obtain ⟨vs, H1, I1, r, G1, ds, u1, sub1, rp, hl, h1⟩ := q
  have hvl : vs.length = ps.length := by rw [rp.length]; exact hl
  have hul : (us ++ []).length = ps.length := by rw [List.append_nil, <- r.length]; exact hvl
  have hbb := hb s1 us I1.kIn hul
  rw [List.append_nil] at hbb
  refine wpAny_call (codeAny_mono (F.run X.A X.stack s1 H1 ⟨us, []⟩ us vs Q (fun c _ H' => ∃ C G', c = .ref C /\ Up G1 H1 G' H' /\ Exx X σ G1 H1 C) hr I1.env0 hbb r ⟨hvl, G1, ds, sub1, rp, h1.mono (fun _ q => q) fun C q G' H' u => ⟨C, G', rfl, u, q⟩⟩) fun r' s' hq => ?_)
  cases r' with
  | error e' =>
    obtain ⟨a, C, H', rfl, fl, C', G', ec, u, q⟩ := hq
    cases ec
    exact q _ _ ⟨G1, H1, .refl sub1, pins, s1, a, rfl, I1, .inr (.inl ⟨G', H', fl, u⟩)⟩
  | ok fl =>
    cases fl with
    | ret u => exact I1.after hq
    | next => exact False.elim hq
    | brk => exact False.elim hq
    | cont => exact False.elim hq
end

theorem ObjOk.there {P : Program} {w : World} {H : Hp} {h : Heap} {a : Addr} {o : HO} (x : ObjOk P w H h a o) : ∃ ob, h.get? a = some ob := by
  cases o with
  | lst xs => obtain ⟨_, _, _, _, e⟩ := x; exact ⟨_, e⟩
  | tup xs => obtain ⟨_, _, _, o, e, _⟩ := x; exact ⟨_, e⟩
  | dK kvs => obtain ⟨_, _, _, _, o, _, _, e, _⟩ := x; exact ⟨_, e⟩
  | dT kvs => obtain ⟨_, _, _, _, o, _, _, e, _⟩ := x; exact ⟨_, e⟩
  | set S n => obtain ⟨o, _, _, _, e, _⟩ := x; exact ⟨_, e⟩
  | ins C dx fs => obtain ⟨_, _, _, e, _⟩ := x; exact ⟨_, e⟩
  | own y => obtain ⟨_, e⟩ := x; exact ⟨_, e⟩
  | xd fs => obtain ⟨_, ⟨_, _, _, e, _⟩, _⟩ := x; exact ⟨_, e⟩
  | rng lo hi => obtain ⟨_, _, _, e⟩ := x; exact ⟨_, e⟩
  | frz ob u => obtain ⟨e, _⟩ := x; exact ⟨_, e⟩
  | tbl ps => exact ⟨_, show h.get? a = some _ from x⟩
  | met f y => exact ⟨_, show h.get? a = some _ from x⟩
  | ext φ => obtain ⟨_, ⟨_, e⟩, _⟩ := x; exact ⟨_, e⟩
theorem kN {env : Env} {outer : List Env} {L : Addr} (h : env.frame = some L) : frs (env :: outer) = L :: frs outer := by
  unfold frs
  rw [List.filterMap_cons, h]
section
variable {P : Program} {w : World} {H H' : Hp} {h h1 h2 hm : Heap} {l l' : List Addr} {B : Heap}
theorem HOk.flight (x : HOk P w H' h1) (hb : B.StaysIn h2) (hk : ∀ b o, b ∉ l -> ((∃ o0, hm.get? b = some o0) \/ ∃ u, H' b = some u) -> h1.get? b = some o -> B.get? b = some o) (hl : ∀ b ∈ l, H' b = none) : HOk P w H' h2 := fun a o e => by
  refine (x a o e).stay (fun b u hbb q => hb b u (hk b u (fun z => ?_) (.inr ?_) q)) (fun _ z => z) (fun _ _ z => z)
  . rcases hbb with rfl | hbb
    . rw [hl _ z] at e; cases e
    . rw [hl _ z] at hbb; cases hbb
  . rcases hbb with rfl | hbb
    . exact ⟨_, e⟩
    . exact ⟨_, hbb⟩
theorem Un.flight {ex : List Addr} (u : Un l' ex H H' h h1) (hb : B.StaysIn h2) (sm : h1.UpToSlots h2) (hk : ∀ b o, b ∉ l -> ((∃ o0, hm.get? b = some o0) \/ ∃ u, H' b = some u) -> h1.get? b = some o -> B.get? b = some o) (lt : ∀ b o, h.get? b = some o -> ∃ o0, hm.get? b = some o0)
    (hl : ∀ b ∈ l, b ∈ l' \/ h.objs.size <= b) (hd : ∀ b ∈ l, ∀ o, h1.get? b = some o -> ∀ vs, o.data ≠ .fields vs) : Un l' ex H H' h h2 := by
  refine ⟨fun b o e nn hb' hx => ?_, fun b o e nn hb' hx => ?_, u.free, fun b o e hx => ?_, u.tups, u.frzs, u.tbls⟩
  . have q := u.keep b o e nn hb' hx
    refine hb b o (hk b o (fun z => ?_) (.inl (lt b o e)) q)
    rcases hl b z with z | z
    . exact hb' z
    . exact absurd (Heap.lt_size e) (Nat.not_lt.mpr z)
  . obtain ⟨sl, q⟩ := u.slot b o e nn hb' hx
    by_cases z : b ∈ l
    . obtain ⟨sl', q'⟩ := sm b _ q (hd b z _ q)
      exact ⟨sl', q'⟩
    . exact ⟨sl, hb b _ (hk b _ z (.inl (lt b o e)) q)⟩
  . obtain ⟨o', q⟩ := u.there b o e hx
    by_cases z : b ∈ l
    . obtain ⟨sl', q'⟩ := sm b _ q (hd b z _ q)
      exact ⟨_, q'⟩
    . exact ⟨o', hb b _ (hk b _ z (.inl (lt b o e)) q)⟩
end
theorem FunFrames.data {h base : Heap} : ∀ {l : List Env}, h.FunFrames base l -> ∀ b ∈ frs l, ∃ o, h.get? b = some o /\ (∀ vs, o.data ≠ .fields vs) /\ base.get? b = none := fun {l} hf b hb => by
  obtain ⟨h1, o, h2, h3⟩ := hf.mem hb
  exact ⟨o, h2, h3, h1⟩

theorem tX {P : Program} {w : World} {K : PySem.W.Frag} {mg : Str -> Option Value} {base : Heap} {N : List Str} {qual : Str} {scope : Scope} {f : Addr} {cd : Value} {A : Around} {outer : List Env} {s : Shared} {H : Hp} {E : XK} {G : Hp} {ρ : Ev} {C : Addr} {e : Value} {s' : Shared}
    (fl : De (bP (CXo P w) P w K mg base N qual scope f cd A outer s H E) G H ρ C e s') (hE : ∀ G' H', Up G H G' H' -> E (.ref C) none H') : (bP (CXo P w) P w K mg base N qual scope f cd A outer s H E).xe e s' := by
  obtain ⟨σ, G₁, H₁, sr, pins, s₁, a, rfl, I, way⟩ := fl
  have hfr : (A.deeper (envOfC qual scope s.heap.objs.size f cd)).frames = some (envOfC qual scope s.heap.objs.size f cd :: outer) := I.ok.frames
  have hf : (envOfC qual scope s.heap.objs.size f cd).frame = some s.heap.objs.size := rfl
  have hst : frs (envOfC qual scope s.heap.objs.size f cd :: outer) = s.heap.objs.size :: frs outer := kN hf
  have old : ∀ b o, s.heap.get? b = some o -> ∃ o0, s₁.heap.get? b = some o0 := fun b o e => I.base.there b o e (by show b ∉ ([] : List Addr); simp)
  show wpAny (model P w) (A.deeper (envOfC qual scope s.heap.objs.size f cd)) (leaving (envOfC qual scope s.heap.objs.size f cd) (.ref a)) (fun _ s'' => CXo P w outer H s E (.ref a) s'') (fun e' s'' => CXo P w outer H s E e' s'') s'
  -- the end, from the heap behind
  have fin : ∀ {H' : Hp} {G' : Hp} {s' : Shared} {h'' B : Heap} {a0 : Value}, Inv (bP (CXo P w) P w K mg base N qual scope f cd A outer s H E) pins σ H' s' -> Up G₁ H₁ G' H' -> H' a = none -> Heap.FlyingW B outer a (.ref C) a0 h'' -> s'.heap.UpToSlots h'' ->
      (∀ b o, b ∉ s.heap.objs.size :: frs outer -> ((∃ o0, s₁.heap.get? b = some o0) \/ ∃ u, H' b = some u) -> s'.heap.get? b = some o -> B.get? b = some o) -> CXo P w outer H s E (.ref a) { s' with heap := h'' } := by
    intro H' G' s' h'' B a0 J up ha fl sm hk
    have J0 : H' s.heap.objs.size = none := J.free
    have fr0 : ∀ b ∈ frs outer, H' b = none := fun b hb => J.stkFree b (by show b ∈ frs (envOfC qual scope s.heap.objs.size f cd :: outer); rw [hst]; exact List.mem_cons_of_mem _ hb)
    have frA : ∀ b ∈ s.heap.objs.size :: frs outer, H' b = none := fun b hb => by
      rcases List.mem_cons.mp hb with rfl | hb
      . exact J0
      . exact fr0 b hb
    have dat : ∀ b ∈ s.heap.objs.size :: frs outer, ∀ o, s'.heap.get? b = some o -> ∀ vs, o.data ≠ .fields vs := fun b hb o e => by
      obtain ⟨o', e', d', _⟩ := FunFrames.data J.stack b (by show b ∈ frs (envOfC qual scope s.heap.objs.size f cd :: outer); rw [hst]; exact hb)
      rw [e] at e'; cases e'; exact d'
    have hok : HOk P w H' h'' := J.hok.flight fl.1 hk frA
    have un : Un (frs outer) [] H H' s.heap h'' := Un.flight J.base fl.1 sm hk old (fun b hb => (List.mem_cons.mp hb).elim (fun z => .inr (by rw [z]; exact Nat.le_refl _)) .inl) dat
    refine ⟨a, C, H', rfl, ⟨J.os, J.bare, un, hok, ha, B, a0, fl, fun b o hb ho e => ?_⟩, hE G' H' (sr.up.trans up)⟩
    have nb : b ∉ s.heap.objs.size :: frs outer := fun z => by
      rcases List.mem_cons.mp z with z | z
      . rcases ho with ⟨o0, ho⟩ | ⟨u, ho⟩
        . rw [z] at ho; exact Nat.lt_irrefl _ (Heap.lt_size ho)
        . rw [z, J0] at ho; cases ho
      . exact hb z
    have ho' : (∃ o0, s₁.heap.get? b = some o0) \/ ∃ u, H' b = some u := ho.imp (fun ⟨o0, z⟩ => old b o0 z) id
    have ex : ∃ o', s'.heap.get? b = some o' := by
      rcases ho with ⟨o0, ho⟩ | ⟨u, ho⟩
      . exact J.base.there b o0 ho (by show b ∉ ([] : List Addr); simp)
      . exact (J.hok b u ho).there
    obtain ⟨o', e'⟩ := ex
    have q := hk b o' nb ho' e'
    have q2 := fl.1 b o' q
    have e2 : h''.get? b = some o := e
    rw [q2] at e2
    cases e2
    exact q
  rcases way with ⟨h', vs, made, rfl⟩ | ⟨G', H', ⟨os, bare, un, hok, ha, B, a0, fl, hk⟩, up⟩ | ⟨G', H', L', hL, ⟨os, bare, ⟨ch, hch, un⟩, hok, ha, _, B, a0, fl, hk⟩, up⟩
  . -- made here
    have J : Inv (bP (CXo P w) P w K mg base N qual scope f cd A outer s H E) pins σ H₁ { s₁ with heap := h' } := I.kept (t' := s₁.toks) made.keeps
    have hin : ∀ env ∈ (envOfC qual scope s.heap.objs.size f cd :: outer), ∀ b, env.frame = some b -> b ∈ s.heap.objs.size :: frs outer := fun env he b hb => by
      rw [<- hst]; exact List.mem_filterMap.mpr ⟨env, he, hb⟩
    refine wpAny_leaves_madeW (base := PySem.W.hideAll s₁.heap (s.heap.objs.size :: frs outer)) hfr hf (fun b o q => PySem.W.of_hideAll _ q) (PySem.W.funFrames_hide I.stack hin) made fun h'' t fl' _ _ sm => ?_
    have ha : H₁ a = none := by
      cases q : H₁ a with
      | none => rfl
      | some u =>
        obtain ⟨ob, e⟩ := (I.hok a u q).there
        rw [made.new] at e; cases e
    refine fin J (.refl sr.e.sub) ha fl' sm fun b o hb ho e => ?_
    have e1 : s₁.heap.get? b = some o := by
      rcases ho with ⟨o0, ho⟩ | ⟨u, ho⟩
      . have q := made.keeps b o0 ho
        have e' : h'.get? b = some o := e
        rw [q] at e'; cases e'; exact ho
      . obtain ⟨ob, ho⟩ := (I.hok b u ho).there
        have q := made.keeps b ob ho
        have e' : h'.get? b = some o := e
        rw [q] at e'; cases e'; exact ho
    exact PySem.W.hideAll_get _ e1 hb
  . have J := I.call' (s' := s') (ch := []) os un hok bare (fun b z => absurd z (by simp))
    exact wpAny_leaves_onW hfr hf fl fun h'' fl' sm => fin J up ha fl' sm fun b o hb ho e => hk b o (by show b ∉ frs (envOfC qual scope s.heap.objs.size f cd :: outer); rw [hst]; exact hb) ho e
  . have J := I.call' (s' := s') (ch := ch) os un hok bare hch
    have eL : s.heap.objs.size = L' := Option.some.inj (hf.symm.trans hL)
    rw [<- eL] at fl
    refine wpAny_bind (wpAny_noteFrame_againW hf fl.2.2.2 (wpAny_landsW fl fun h'' fl' sm => ?_))
    obtain ⟨k1, k2, ⟨_, _, k3⟩, k4⟩ := fl'
    exact fin J up ha ⟨k1, k2, k3, k4⟩ sm fun b o hb ho e => hk b o (by show b ∉ frs (envOfC qual scope s.heap.objs.size f cd :: outer); rw [hst]; exact hb) ho e

def aF (n : Nat) (ds : List D) : Ev := ds.map (fun d => some (.val d)) ++ List.replicate (n - ds.length) none
def aC (o : O) : R D := match o with
  | .rt d => .ok d
  | .nx _ => .ok .non
  | .ex C _ => .ex C
  | _ => .no
theorem vM {K : PySem.W.Frag} {G H : Hp} {N : List Str} {vs : List V} {ds : List D} (sub : Same G H) (r : Reps K G vs ds) : StR K G H G H (kn N vs) (aF N.length ds) := by
  have hl := r.length
  have get : ∀ (i : Nat) x, (aF N.length ds)[i]? = some (some x) -> ∃ d, ds[i]? = some d /\ x = .val d := fun i x e => by
    unfold aF at e
    by_cases hi : i < ds.length
    . rw [List.getElem?_append_left (by simpa using hi), List.getElem?_map] at e
      cases q : ds[i]? with
      | none => rw [q] at e; cases e
      | some d => rw [q] at e; cases e; exact ⟨d, rfl, rfl⟩
    . rw [List.getElem?_append_right (by simpa using hi), List.getElem?_replicate] at e
      split at e <;> cases e
  refine ⟨⟨sub, by simp [kn, aF, hl], fun i d e => ?_⟩, sub, .refl sub, fun i es e => ?_, fun i j es fs l e => ?_⟩
  . obtain ⟨d', e', q⟩ := get i _ e
    cases q
    obtain ⟨v, ev, rv⟩ := r.get e'
    refine ⟨v, ?_, rv⟩
    unfold kn
    rw [List.getElem?_append_left (by have := (List.getElem?_eq_some_iff.mp ev).1; simpa using this), List.getElem?_map, ev]
    rfl
  . obtain ⟨d', _, q⟩ := get i _ e; cases q
  . obtain ⟨d', _, q⟩ := get i _ e; cases q
theorem Fun.okF_0 {P : Program} {w : World} {K : PySem.W.Frag} {mg : Str -> Option Value} {base : Heap} {x qual : Str} {st : Stmt} {f : Addr} {fd : FuncData} {N ps : List Str} {k : Nat} (F : Fun K x qual st f fd) (S : FnScope N ps (aI st)) {g : Ev -> O}
    (hbody : ∀ (cdv : Value) (A : Around) (outer : List Env) (s : Shared) (H : Hp) (E : XK), Room k (A.deeper (envOfC qual (aI st) s.heap.objs.size f cdv)) -> jX (bP (CXo P w) P w K mg base N qual (aI st) f cdv A outer s H E) (fu st) g) :
    FnF P w K mg base (k + 1) f fd ps (fun ds => aC (g (aF N.length ds))) := by
  obtain ⟨oc, od, kV, doc, pm, an, cdv, ct, osl, rfl, lk, hcd⟩ := F.ex
  refine zP lk hcd S (fun vs H Q E h => h.1) fun A outer s H vs Q E hr hsp => ?_
  obtain ⟨hl, G, ds, sub, r, h⟩ := hsp
  refine ⟨_, hbody cdv A outer s H E hr G H, G, aF N.length ds, vM sub r, ?_⟩
  dsimp only at h
  cases q : g (aF N.length ds) with
  | nx ρ => rw [q] at h; exact fun σ G' H' sr => h .non G' H' sr.up .non
  | rt d => rw [q] at h; exact fun v G' H' u rv => h v G' H' u rv
  | bk ρ => rw [q] at h; exact h.elim
  | ct ρ => rw [q] at h; exact h.elim
  | ex C ρ => rw [q] at h; exact fun e s' fl => tX fl h
  | no => rw [q] at h; exact h.elim
end L2
namespace L2
open PySem PySem.Spec PyProof.Rows
theorem kr : fillsNumberSlot (.type "tuple") "mul" = pure false :=
  PySem.fillsNumberSlot_seq (id := "tuple.__mul__") (r := some (.builtin "tuple.__rmul__")) F.slot_tuple_mul.lookup (by decide +kernel) F.slot_tuple_rmul.lookup (by decide +kernel)
theorem xP : seqRepeat? (.type "tuple") = pure (some (.builtin "tuple.__mul__")) := by
  unfold seqRepeat?
  rw [PySem.seqSlot_of (T := "tuple") (name := "__mul__") (id := "tuple.__mul__") F.slot_tuple_mul.lookup (by decide +kernel), PySem.seqSlot_of (T := "tuple") (name := "__rmul__") (id := "tuple.__rmul__") F.slot_tuple_rmul.lookup (by decide +kernel)]
  rfl
open Builtin in
theorem mi (a : Int) (t : Tok) (l : Addr) (items : Array Value) (n : Nat) (dd : Option Addr) (sl : Array (Option Value)) :
    Meets (Builtin.«int.__rmul__» ⟨[.int a t, .ref l], []⟩) (fun _ Rr s => s.heap.get? l = some { cls := .type "tuple", dict := dd, data := .seq items n, slots := sl } /\ Rr (.ok (.ret Value.notImplemented)) s) :=
  .of_wp fun prog w A Rr s h => by obtain ⟨hp, g, d, tk, os⟩ := s; obtain ⟨hl, h⟩ := h; wp_walk; exact ⟨_, rfl, h⟩
section
open Builtin AutoSeq1
variable (l : Addr) (items : Array Value) (n : Nat) (dd : Option Addr) (sl : Array (Option Value)) (x : Int) (u : Tok) (h1 : (decide (x < -(2 ^ 63)) || decide (x ≥ 2 ^ 63)) = false)
include h1
theorem ux (hc : (items.isEmpty || x == 1) = true) :
    Meets (Builtin.«tuple.__mul__» ⟨[.ref l, .int x u], []⟩) (fun _ Rr s => s.heap.get? l = some { cls := .type "tuple", dict := dd, data := .seq items n, slots := sl } /\ Rr (.ok (.ret (.ref l))) s) :=
  .of_wp fun prog w A Rr s h => by
    obtain ⟨hp, g, d, tk, os⟩ := s; obtain ⟨hl, h⟩ := h
    have f1 := idx_int
    wp_walk
    refine wpAny_ite_false (by rw [h1]; rfl) ?_
    refine wpAny_bind (tupleItemsOf_ (show IsTup hp l items from ⟨_, hl, rfl, n, rfl⟩) ?_)
    dsimp only
    rw [if_pos hc]
    unfold Tuple.tupleIsExact
    refine wpAny_bind (wpAny_bind (wpAny_typeOf ⟨_, hl, rfl⟩ (wpAny_pure ?_)))
    rw [if_pos (by decide)]
    exact wpAny_bind (wpAny_rule (wpAny_pure ⟨_, rfl, h⟩))
theorem uQ (hc : ¬ (items.isEmpty || x == 1) = true) (h2 : (decide (x <= 0) || items.isEmpty) = true) :
    Meets (Builtin.«tuple.__mul__» ⟨[.ref l, .int x u], []⟩) (fun _ Rr s => s.heap.get? l = some { cls := .type "tuple", dict := dd, data := .seq items n, slots := sl } /\ Rr (.ok (.ret (.ref s.heap.objs.size))) { s with heap := s.heap.push { cls := .type "tuple", data := .seq #[] } }) :=
  .of_wp fun prog w A Rr s h => by
    obtain ⟨hp, g, d, tk, os⟩ := s; obtain ⟨hl, h⟩ := h
    have f1 := idx_int
    wp_walk
    refine wpAny_ite_false (by rw [h1]; rfl) ?_
    refine wpAny_bind (tupleItemsOf_ (show IsTup hp l items from ⟨_, hl, rfl, n, rfl⟩) ?_)
    dsimp only
    rw [if_neg hc, if_pos h2]
    exact wpAny_bind (m := Builtin.Tuple.tupleExact _) (wpAny_newObj_type (wpAny_pure ⟨_, rfl, h⟩) (Nat.zero_le _))
theorem uF (hc : ¬ (items.isEmpty || x == 1) = true) (h2 : ¬ (decide (x <= 0) || items.isEmpty) = true) (hz : items.size * x.toNat <= sizeLine) :
    Meets (Builtin.«tuple.__mul__» ⟨[.ref l, .int x u], []⟩) (fun _ Rr s => s.heap.get? l = some { cls := .type "tuple", dict := dd, data := .seq items n, slots := sl } /\
      Rr (.ok (.ret (.ref s.heap.objs.size))) { s with heap := s.heap.push { cls := .type "tuple", data := .seq (List.foldl (fun x1 x2 => x1 ++ x2) #[] (List.replicate x.toNat items)) } }) :=
  .of_wp fun prog w A Rr s h => by
    obtain ⟨hp, g, d, tk, os⟩ := s; obtain ⟨hl, h⟩ := h
    have f1 := idx_int
    have hx : 0 < x := by
      cases q : decide (x <= 0) with
      | true => rw [q] at h2; exact absurd rfl h2
      | false => exact Int.not_le.mp (of_decide_eq_false q)
    have ez : (items.size : Int) * x = ((items.size * x.toNat : Nat) : Int) := by
      rw [Int.natCast_mul, Int.toNat_of_nonneg (Int.le_of_lt hx)]
    have hlim : (sizeLine : Nat) <= (2 ^ 63 - 1) / 8 := by decide
    have h3 : ¬ ((items.size : Int) * x > (2 ^ 63 - 1) / 8) := by
      rw [ez]
      have : ((sizeLine : Nat) : Int) <= (2 ^ 63 - 1) / 8 := by decide
      omega
    have h4 : ¬ (Tuple.tupleTooMany ((items.size : Int) * x) = true) := by
      unfold Tuple.tupleTooMany
      rw [ez]
      intro q
      have := of_decide_eq_true q
      omega
    have hfz : (List.foldl (fun x1 x2 => x1 ++ x2) #[] (List.replicate x.toNat items)).size <= sizeLine := by
      have e := gK items.toList x.toNat []
      simp only [List.nil_append, Array.toArray_toList] at e
      rw [e, List.size_toArray, lM, Array.length_toList, Nat.mul_comm]
      exact hz
    wp_walk
    refine wpAny_ite_false (by rw [h1]; rfl) ?_
    refine wpAny_bind (tupleItemsOf_ (show IsTup hp l items from ⟨_, hl, rfl, n, rfl⟩) ?_)
    dsimp only
    rw [if_neg hc, if_neg h2, if_neg h3, if_neg h4]
    exact wpAny_bind (m := Builtin.Tuple.tupleExact _) (wpAny_newObj_type (wpAny_pure ⟨_, rfl, h⟩) hfz)
end
section
variable {X : Cx}
def Br (K : PySem.W.Frag) : R2 := fun x y H Q => ∃ l k xs, x = .ref l /\ y = .int k /\ SqT K H l xs /\ -(2 ^ 63) <= k /\ k < 2 ^ 63 /\ xs.length * k.toNat <= sizeLine /\
  (xs = [] \/ k = 1 -> Q (.ref l) H) /\ (xs ≠ [] -> k ≠ 1 -> ∀ p, H p = none -> Q (.ref p) (upd H p (.tup (List.replicate k.toNat xs).flatten)))
theorem op_repT : OpR X (binaryOp .Mult) (Br X.K) := by
  intro pins s σ H x y v u Q I rx ry h
  obtain ⟨l, k, xs, rfl, rfl, hH, h1, h2, hz, q0, q1⟩ := h
  cases rx
  obtain ⟨t, rfl⟩ := ry
  obtain ⟨its, r, p, hzz⟩ := I.tuple hH
  obtain ⟨⟨cls, dd, data, sl⟩, ho, hc, n, hd⟩ := id p
  simp only at hc hd
  subst hc hd
  have hlen : its.length = xs.length := r.length.symm
  have hin : (decide (k < -(2 ^ 63)) || decide (k ≥ 2 ^ 63)) = false := by
    rw [decide_eq_false (by omega), decide_eq_false (by omega)]; rfl
  have emp : its.toArray.isEmpty = decide (xs = []) := by
    cases its with
    | nil => cases r; rfl
    | cons a b => cases r; rfl
  refine wpAny_binaryOp_repeat_ref (T := "tuple") (U := "int") (by decide) ⟨_, ho, rfl⟩ (fun s' => typeIs_int s' k t) kr F.fills_int_mul F.slot_int_rmul xP F.slot_int_index.lookup
    (call_meets F.slot_int_rmul (typeIs_int s k t) F.entry_int_rmul (F.args_int_rmul_2 _ _) (mi k t l its.toArray n dd sl) ⟨ho, rfl, ⟨_, ho, rfl⟩, ?_⟩)
  by_cases hc : (its.toArray.isEmpty || k == 1) = true
  . refine call_meets F.slot_tuple_mul ⟨_, ho, rfl⟩ F.entry_tuple_mul (F.args_tuple_mul_2 _ _) (ux l its.toArray n dd sl k t hin hc) ⟨ho, .ref l, H, I, rfl, q0 ?_⟩
    rw [emp] at hc
    simpa using hc
  . have hne : xs ≠ [] /\ k ≠ 1 := by
      rw [emp] at hc
      simpa using hc
    have fin : ∀ its', its' = (List.replicate k.toNat its).flatten -> EP X pins σ Q (.ref s.heap.objs.size) { s with heap := s.heap.push { cls := .type "tuple", data := .seq its'.toArray } } := fun its' e => by
      subst e
      refine ⟨.ref s.heap.objs.size, _, I.laid (t' := s.toks) (o := .tup (List.replicate k.toNat xs).flatten) (fun b ob q => Heap.get?_push_of_some _ q) (Nat.le_refl _) ?_, rfl, q1 hne.1 hne.2 _ I.fresh⟩
      exact ⟨by rw [lM, Nat.mul_comm]; exact hz, _, r.rep k.toNat, IsTup.new _ _⟩
    by_cases h0 : (decide (k <= 0) || its.toArray.isEmpty) = true
    . refine call_meets F.slot_tuple_mul ⟨_, ho, rfl⟩ F.entry_tuple_mul (F.args_tuple_mul_2 _ _) (uQ l its.toArray n dd sl k t hin hc h0) ⟨ho, ?_⟩
      refine fin [] ?_
      have : k <= 0 := by
        rw [emp, decide_eq_false hne.1, Bool.or_false] at h0
        exact of_decide_eq_true h0
      rw [Int.toNat_of_nonpos this]
      rfl
    . refine call_meets F.slot_tuple_mul ⟨_, ho, rfl⟩ F.entry_tuple_mul (F.args_tuple_mul_2 _ _) (uF l its.toArray n dd sl k t hin hc h0 (by rw [List.size_toArray, hlen]; exact hz)) ⟨ho, ?_⟩
      have e := gK its k.toNat []
      simp only [List.nil_append] at e
      rw [e]
      exact fin _ rfl
theorem yp (x : Str) (n : Int) : (Txt.mul x n).cps.toList = (List.replicate n.toNat x.cps.toList).flatten := by
  unfold Txt.mul
  by_cases h1 : n < 1
  . rw [if_pos h1, Int.toNat_of_nonpos (by omega)]; rfl
  . rw [if_neg h1]
    by_cases h2 : (n == 1 || x.length == 0) = true
    . rw [if_pos h2]
      rcases Bool.or_eq_true_iff.mp h2 with h | h
      . have : n = 1 := by simpa using h
        subst this
        show _ = (List.replicate 1 x.cps.toList).flatten
        simp
      . have : x.cps.toList = [] := List.eq_nil_of_length_eq_zero (by rw [Str.len_list]; simpa using h)
        rw [this]; simp
    . rw [if_neg h2]
      have : ∀ (m : Nat) (acc : Array Nat), ((List.replicate m x.cps).foldl (· ++ ·) acc).toList = acc.toList ++ (List.replicate m x.cps.toList).flatten := by
        intro m
        induction m with
        | zero => intro acc; simp
        | succ m ih => intro acc; rw [List.replicate_succ, List.foldl_cons, ih, List.replicate_succ, List.flatten_cons]; simp
      simpa using this n.toNat #[]
theorem op_mul_str : OpR X (binaryOp .Mult) (fun x y H Q => ∃ (i : Str) (k : Int), x = .str i /\ y = .int k /\ -(2 ^ 63) <= k /\ k < 2 ^ 63 /\ i.length * k.toNat <= sizeLine /\ Q (.str (Txt.mul i k)) H) := by
  intro pins s σ H x y v u Q I rx ry h
  obtain ⟨i, k, rfl, rfl, h1, h2, hz, q⟩ := h
  obtain ⟨t, rfl⟩ := rx
  obtain ⟨t', rfl⟩ := ry
  refine SB.mul ⟨by rw [decide_eq_false (by omega), decide_eq_false (by omega)]; rfl, fun h3 h4 => ?_, fun h3 h4 => ?_⟩ fun t'' n => ⟨.str _, H, I.tok _, ⟨_, rfl⟩, q⟩
  . have hk : 0 < k := by omega
    intro h5
    have h6 : (2 ^ 63 - 1) / k * k <= 2 ^ 63 - 1 := Int.ediv_mul_le _ (by omega)
    have h7 : (((i.length * k.toNat : Nat)) : Int) = (i.length : Int) * k := by rw [Int.natCast_mul, Int.toNat_of_nonneg (by omega)]
    have h8 : ((2 ^ 63 - 1) / k + 1) * k <= (i.length : Int) * k := Int.mul_le_mul_of_nonneg_right (by omega) (by omega)
    have h9 : 2 ^ 63 - 1 < ((2 ^ 63 - 1) / k + 1) * k := Int.lt_ediv_add_one_mul_self _ hk
    have h10 : ((sizeLine : Nat) : Int) < 2 ^ 63 - 1 := by decide
    omega
  . unfold Builtin.Str.tooLong
    exact decide_eq_false (by omega)
def kM : D -> D -> Option D
  | .int i, .int j => if (-(2 ^ 64) < i /\ i < 2 ^ 64) \/ (-(2 ^ 64) < j /\ j < 2 ^ 64) then some (.int (i * j)) else none
  | .str x, .int k => if -(2 ^ 63) <= k /\ k < 2 ^ 63 /\ x.length * k.toNat <= sizeLine then some (.str (List.replicate k.toNat x).flatten) else none
  | .tup xs, .int k => if -(2 ^ 63) <= k /\ k < 2 ^ 63 /\ xs.length * k.toNat <= sizeLine then some (.tup (List.replicate k.toNat xs).flatten) else none
  | .lst false xs, .int k => if -(2 ^ 63) <= k /\ k < 2 ^ 63 /\ xs.length * k.toNat <= sizeLine then some (.lst false (List.replicate k.toNat xs).flatten) else none
  | _, _ => none
def Ay (K : PySem.W.Frag) : R2 := fun x y H Q => rI CMul (fun i j => .int (i * j)) x y H Q \/ (∃ (i : Str) (k : Int), x = .str i /\ y = .int k /\ -(2 ^ 63) <= k /\ k < 2 ^ 63 /\ i.length * k.toNat <= sizeLine /\ Q (.str (Txt.mul i k)) H) \/ Br K x y H Q \/ Di x y H Q
theorem yI : OpR X (binaryOp .Mult) (Ay X.K) := op_mul.or (op_mul_str.or (op_repT.or Al))
theorem AS (K : PySem.W.Frag) : ROk K (Ay K) kM := by
  intro G H x y dx dy d Q s rx ry e q
  unfold kM at e
  split at e
  . split at e
    . rename_i hc
      cases e
      exact .inl ⟨_, _, rx.int_inv, ry.int_inv, hc, q _ G H (.refl s) (.int _)⟩
    . cases e
  . split at e
    . rename_i hc
      cases e
      obtain ⟨i, rfl, ei, hi⟩ := rx.str_inv
      subst ei
      rw [Str.len_list] at hc
      exact .inr (.inl ⟨i, _, rfl, ry.int_inv, hc.1, hc.2.1, hc.2.2, q _ G H (.refl s) (.strL (yp i _) (by rw [lM, Str.len_list, Nat.mul_comm]; exact hc.2.2))⟩)
    . cases e
  . split at e
    . rename_i k hc
      cases e
      obtain ⟨a, vs, rfl, ha, ra⟩ := rx.tup_inv
      refine .inr (.inr (.inl ⟨a, _, vs, rfl, ry.int_inv, ha.mono s, hc.1, hc.2.1, by rw [ra.length]; exact hc.2.2, fun z => ?_, fun _ _ p hp => q _ _ _ (.new s hp) (.tup (.of bf) ((ra.rep _).mono (.into (s.free hp))))⟩))
      rcases z with z | z
      . subst z
        cases ra
        have e : (List.replicate k.toNat ([] : List D)).flatten = [] := by simp
        rw [e] at q
        exact q _ G H (.refl s) (.tup ha .nil)
      . subst z
        have e : ∀ l : List D, (List.replicate (1 : Int).toNat l).flatten = l := fun l => by show (List.replicate 1 l).flatten = l; simp
        rw [e] at q
        exact q _ G H (.refl s) (.tup ha ra)
    . cases e
  . split at e
    . rename_i hc
      cases e
      obtain ⟨a, vs, rfl, ha, ra⟩ := rx.lst_inv
      exact .inr (.inr (.inr ⟨a, _, vs, rfl, ry.int_inv, s _ _ ha, hc.1, hc.2.1, by rw [ra.length]; exact hc.2.2, fun p hp => q _ _ _ (.new s hp) (.lst bf ((ra.rep _).mono (.into (s.free hp))))⟩))
    . cases e
  . cases e
theorem vc {a b : Expr} {ga gb : Ev -> R D} {pos : Pos} (ha : QF X a ga) (hb : QF X b gb) : QF X (.BinOp a .Mult b pos) (g2 kM ga gb) := fP yI (AS _) ha hb
end
end L2
namespace L2
open PySem PySem.W PySem.Spec PySem.Calls PyProof.Rows
structure ExcCls (K : Frag) (C : Addr) : Prop where
  ga : findIn K (.ref C) "__getattribute__" = some (some (.builtin "BaseException.__getattribute__"))
  gt : findIn K (.ref C) "__getattr__" = some none
  cl : findIn K (.ref C) "__class__" = some (some (.builtin "object.__class__"))
  sp : specialIn K (.builtin "object.__class__") "__get__" = some (some (.builtin "getset_descriptor.__get__"))
  tk : takesIn K (.builtin "object.__class__") = some true
  mo : mroIn K C (.type "object") = some true
  be : subIn K (.ref C) (.type "BaseException") = some true
  some : (clsIn K C).isSome = true
section
variable {prog : Program} {w : World} {A : Around} {E : Value -> Shared -> Prop} {s : Shared} {K : Frag} {a C : Addr}
section
open Builtin Builtin.ObjectAttr Builtin.Getset_descriptor
theorem xY {tp : Value} {Rr : Result -> Shared -> Prop} (X : K.In s.heap) (L0 : Looks (model prog w) s.heap (typeOf (.ref a)) (.ref C)) (hm : mroIn K C (.type "object") = some true) (h : Rr (.ok (.ret (.ref C))) s) :
    codeAny (model prog w) A (.call (.builtin "getset_descriptor.__get__") ⟨[.builtin "object.__class__", .ref a, tp], []⟩) Rr s := by
  obtain ⟨hh, gg, dd, tt, oo⟩ := s
  have L1 := looks_mroIn (M := model prog w) X hm
  refine codeAny_call_builtin KF.slot_gs.plain KF.entry_gs
    (KF.slot_gs.check _ _ _ _ _ _ _ _ KF.type_class (KF.args_gs _ _ _) ?_)
  unfold Builtin.«getset_descriptor.__get__» descrGet
  rw [dga_obj]
  refine wpAny_bind (wpAny_pure ?_)
  unfold descrGetter descrCheckInstance descrNameAndClass isInstance
  simp only [KF.owner_class]
  repeat lk
  refine ⟨Code.quiet_builtin _ (by decide +kernel),
    codeAny_builtin KF.entry_class ?_⟩
  unfold Builtin.«object.__class__» shownTypeOf
  repeat lk
  exact h
end
theorem qF {Q : Option Value -> Shared -> Prop} (X : K.In s.heap) (T : ExcCls K C) (L0 : Looks (model prog w) s.heap (typeOf (.ref a)) (.ref C))
    (h : Q (some (.ref C)) { s with toks := s.toks + 1 }) : wpAny (model prog w) A (getAttr? (.ref a) "__class__") Q E s := by
  obtain ⟨hh, g, d, t, os⟩ := s
  have L1 := looks_findIn (M := model prog w) X T.ga
  have L2 := looks_findIn (M := model prog w) X T.gt
  have L3 : Looks (model prog w) hh (Builtin.ObjectAttr.find (.ref a) (.ref C) "__class__") (.bind (.builtin "getset_descriptor.__get__") (.builtin "object.__class__")) := by
    have M1 := looks_findIn (M := model prog w) X T.cl
    have M2 : Looks (model prog w) hh (Builtin.ObjectAttr.getOf (some (.builtin "object.__class__"))) (some (.builtin "getset_descriptor.__get__")) := looks_specialIn X T.sp
    have M3 := looks_takesIn (M := model prog w) X T.tk
    refine M1.andThen (M2.andThen ?_)
    exact (show Looks (model prog w) hh (Builtin.ObjectAttr.dataDescriptor? (some (.builtin "object.__class__")) (some (.builtin "getset_descriptor.__get__"))) (some (.builtin "getset_descriptor.__get__", .builtin "object.__class__")) from M3.andThen .now).andThen (Looks.tag .now)
  unfold getAttr? getAttrBy? getAttrBy
  refine wpAny_bind (wpAny_mkText (wpAny_bind (wpAny_attempt (wpAny_holding (wpAny_bind (L0.at (wpAny_bind (L1.at ?_))))))))
  have hx2 : (Value.builtin "BaseException.__getattribute__" == Value.builtin "object.__getattribute__") = false := by decide +kernel
  dsimp only
  rw [if_neg (by rw [hx2, Bool.and_false]; exact Bool.false_ne_true)]
  unfold getAttrByItsOwn hookBefore
  rw [if_pos (show onTheHeap (Value.ref C) = true from rfl)]
  refine wpAny_bind (L2.at ?_)
  refine wpAny_bind (wpAny_attempt (wpAny_holding ?_))
  unfold callGetattribute
  rw [if_neg (by rw [Bool.false_and]; exact Bool.false_ne_true)]
  unfold boundAndCalled
  rw [F.attr_ValueError.ga.bind (.ref a)]
  refine wpAny_bind (wpAny_pure ?_)
  show wpAny _ _ (call (.builtin "BaseException.__getattribute__") [.ref a, .str "__class__" t]) _ _ _
  have LB : Looks (model prog w) hh (isInstance (.ref a) (.type "BaseException")) true := L0.andThen (looks_subIn X T.be)
  have hk : builtinKind "BaseException.__getattribute__" = some .slot := by decide +kernel
  have hsp : splitId "BaseException.__getattribute__" = some ("BaseException", "__getattribute__") := by decide +kernel
  have ha := F.args_bexc_ga (.ref a) (.str "__class__" t)
  refine wpAny_call (codeAny_call_builtin F.attr_ValueError.ga.plain F.entry_bexc_ga ?_)
  simp only [checkBuiltinCall, hk, hsp]
  refine wpAny_bind (LB.at ?_)
  rw [if_neg (by decide)]
  refine wpAny_of_eq (a := ()) ha ?_
  unfold Builtin.«object.__getattribute__»
  refine wpAny_bind (wpAny_pure ?_)
  refine wpAny_bind (wpAny_pure ?_)
  refine wpAny_bind (L0.at ?_)
  refine wpAny_bind (L3.at ?_)
  show wpAny _ _ (Builtin.ObjectAttr.bindTo (.builtin "getset_descriptor.__get__") (.builtin "object.__class__") (.ref a) (.ref C)) _ _ _
  unfold Builtin.ObjectAttr.bindTo
  dsimp only
  exact wpAny_bind (wpAny_holding (wpAny_call (xY (s := ⟨hh, g, d, t + 1, os⟩) X L0 T.mo (wpAny_pure (handed_on rfl (wpAny_pure h))))))
theorem vA (T : ExcCls K C) : KitX K (.ref a) (.ref C) (fun h => ∃ ob, h.get? a = some ob /\ ob.cls = .ref C) where
  ty := fun M h _ p => by
    obtain ⟨o, h1, h2⟩ := p
    exact h2 ▸ (Looks.ld h1).andThen .now
  it := fun M h X _ => by
    have z := T.some
    unfold clsIn at z
    split at z
    . rename_i c' d' cd' sl' ho
      intro A' Q' E' s' k q
      unfold isType loadHead
      exact wpAny_bind (wpAny_loadPart (k _ _ (X _ _ ho)) (wpAny_pure q))
    . cases z
  ne := fun h tp dd its n sl X htp => by
    refine Bool.eq_false_iff.mpr fun q => ?_
    have e : C = tp := Value.ref.inj (beq_iff_eq.mp q)
    subst e
    have z := T.some
    unfold clsIn at z
    split at z
    . rename_i c' d' cd' sl' ho
      cases (X _ _ ho).symm.trans htp
    . cases z
  ca := fun {prog w A E Q s} X p k => by
    obtain ⟨o, h1, h2⟩ := p
    exact qF X T (h2 ▸ (Looks.ld h1).andThen .now) k
end
section
variable {X : Cx} {pins : List (Addr × Obj)} {σ : St} {G H : Hp} {s : Shared} {A : Around} {E : Value -> Shared -> Prop} {Q : Value -> Shared -> Prop}
def tyN : D -> Option String
  | .non => some "NoneType"
  | .bl _ => some "bool"
  | .int _ => some "int"
  | .str _ => some "str"
  | .tup _ => some "tuple"
  | .lst _ _ => some "list"
  | .exc _ => none
theorem zr {d : D} {x : V} {u c : Value} {T : String} {b : Bool} (I : Inv X pins σ H s) (sub : Same G H) (r : Rep X.K G x d) (ru : RelV x u) (ht : tyN d = some T) (e : kitOne X.K (.type T) c = some b) (h : ∀ tk, Q (.bool b) { s with toks := tk }) :
    wpAny (model X.prog X.w) A (call (.builtin "isinstance") [u, c]) Q E s := by
  cases r with
  | non => cases ht; cases ru; exact kia_one kitx_none I.kIn True.intro e (fun z => nomatch z) h
  | bl y => cases ht; cases ru; exact kia_one kitx_bool I.kIn True.intro e (fun z => nomatch z) h
  | int i => cases ht; obtain ⟨t, rfl⟩ := ru; exact kia_one kitx_int I.kIn True.intro e (fun z => nomatch z) h
  | str y hy => cases ht; obtain ⟨t, rfl⟩ := ru; exact kia_one kitx_str I.kIn True.intro e (fun z => nomatch z) h
  | tup hh t =>
    cases ht; cases ru
    obtain ⟨its, rv, ⟨o, h1, h2, _⟩, _⟩ := I.tuple (hh.mono sub)
    exact kia_one kitx_tuple I.kIn ⟨o, h1, h2⟩ e (fun z => nomatch z) h
  | lst hh t =>
    cases ht; cases ru
    obtain ⟨its, rv, ⟨o, n, h1, h2, _⟩, _⟩ := I.list ((SqL.of hh : SqL X.K G _ _).mono sub)
    exact kia_one kitx_list I.kIn ⟨o, h1, h2⟩ e (fun z => nomatch z) h
  | fls hh t =>
    cases ht; cases ru
    obtain ⟨its, rv, ⟨o, n, h1, h2, _⟩, _⟩ := I.list (hh.mono sub)
    exact kia_one kitx_list I.kIn ⟨o, h1, h2⟩ e (fun z => nomatch z) h
  | exc hh => cases ht
theorem vo {C : Addr} {x : V} {u c : Value} {b : Bool} (I : Inv X pins σ H s) (sub : Same G H) (r : Rep X.K G x (.exc C)) (ru : RelV x u) (T : ExcCls X.K C) (e : kitOne X.K (.ref C) c = some b) (h : ∀ tk, Q (.bool b) { s with toks := tk }) :
    wpAny (model X.prog X.w) A (call (.builtin "isinstance") [u, c]) Q E s := by
  obtain ⟨a, rfl, hh⟩ := r.exc_inv
  cases ru
  obtain ⟨h1, _, _⟩ := (show ObjOk X.prog X.w H s.heap a (.ext (fV a C)) from I.hok a _ (sub _ _ hh))
  exact kia_one (vA T) I.kIn h1 e (fun z => nomatch z) h
end
section
variable {X : Cx} {e : Expr} {ga : Ev -> R D} {y : Str} {p p2 pos : Pos}
def dL (f : String -> Bool) (d : D) : R D := match tyN d with
  | some t => .ok (.bl (f t))
  | none => .no
theorem fC {T : String} (f : String -> Bool) (hf : ∀ K : Frag, ∀ t ∈ ["NoneType", "bool", "int", "str", "tuple", "list"], kitOne K (.type t) (.type T) = some (f t)) (hg : Gl X "isinstance") (hm : X.mg "isinstance" = none) (hg2 : Gl X y) (hm2 : X.mg y = none)
    (hv : bootBuiltins y = some (.type T)) (ha : QF X e ga) (hs1 : starEach [e, .Name y p2] X.env = (false, eval e X.env) :: starEach [.Name y p2] X.env := by rfl)
    (hn : y ≠ "__name__" := by decide) (hdb : (y == ("__debug__" : Str)) = false := by decide) :
    QF X (.Call (.Name "isinstance" p) [e, .Name y p2] [] pos) (fun ρ => ga ρ >>= dL f) := by
  intro pins s σ H Q I h
  have hc : iO X (.builtin "isinstance") (fun xs H Q => ∃ x G d, xs = [x, .ty T] /\ Same G H /\ Rep X.K G x d /\ ∃ t, tyN d = some t /\ Q (.bl (f t)) H) := by
    intro pins s σ H xs us Q I r ⟨x, G, d, ex, sub, rd, t, et, q⟩
    subst ex
    obtain ⟨u, u2, rfl, r1, r2⟩ := r.two
    cases r2
    refine zr I sub rd r1 et (hf X.K t ?_) fun tk => ⟨.bl (f t), H, I.tok tk, rfl, q⟩
    cases d <;> cases et <;> simp
  refine lf hc hg hm PyProof.Rows.Boot.«isinstance» (dw ha (dw (rE (v := .ty T) hg2 hm2 hv rfl hn hdb) iY) hs1) (by decide) (by decide) hs1 rfl pins s σ H Q I ?_
  obtain ⟨G, ρ, st, h⟩ := h
  refine tG.intro st h fun x v G1 H1 u1 st1 r1 h1 => ?_
  refine ⟨v, G1, x, rfl, st1.sub, r1, ?_⟩
  unfold dL at h1
  cases et : tyN x with
  | none => rw [et] at h1; exact h1.elim
  | some t => rw [et] at h1; exact ⟨t, rfl, h1 _ G1 H1 (.refl st1.sub) (.bl _)⟩
def jE (f : Addr -> Option Bool) (d : D) : R D := match d with
  | .exc C => ofO ((f C).map .bl)
  | _ => .no
theorem mv {v2 : V} {u2 : Value} (f : Addr -> Option Bool) (hf : ∀ C b, f C = some b -> ExcCls X.K C /\ kitOne X.K (.ref C) u2 = some b) (hg : Gl X "isinstance") (hm : X.mg "isinstance" = none) (hy : PE X (.Name y p2) (tC v2)) (hr : RelV v2 u2) (hr2 : ∀ u, RelV v2 u -> u = u2)
    (ha : QF X e ga) (hs1 : starEach [e, .Name y p2] X.env = (false, eval e X.env) :: starEach [.Name y p2] X.env := by rfl) :
    QF X (.Call (.Name "isinstance" p) [e, .Name y p2] [] pos) (fun ρ => ga ρ >>= jE f) := by
  intro pins s σ H Q I h
  have hc : iO X (.builtin "isinstance") (fun xs H Q => ∃ x G C b, xs = [x, v2] /\ Same G H /\ Rep X.K G x (.exc C) /\ f C = some b /\ Q (.bl b) H) := by
    intro pins s σ H xs us Q I r ⟨x, G, C, b, ex, sub, rd, ef, q⟩
    subst ex
    obtain ⟨u, w, rfl, r1, r2⟩ := r.two
    obtain rfl := hr2 w r2
    exact vo I sub rd r1 (hf C b ef).1 (hf C b ef).2 fun tk => ⟨.bl b, H, I.tok tk, rfl, q⟩
  refine lf hc hg hm PyProof.Rows.Boot.«isinstance» (dw ha (dw hy iY) hs1) (by decide) (by decide) hs1 rfl pins s σ H Q I ?_
  obtain ⟨G, ρ, st, h⟩ := h
  refine tG.intro st h fun x v G1 H1 u1 st1 r1 h1 => ?_
  cases x with
  | exc C =>
    cases ef : f C with
    | none => simp only [jE, ef] at h1; exact h1.elim
    | some b =>
      simp only [jE, ef] at h1
      exact ⟨v, G1, C, b, rfl, st1.sub, r1, ef, h1 _ G1 H1 (.refl st1.sub) (.bl b)⟩
  | _ => exact h1.elim
end
end L2
namespace L2
open PySem PySem.Spec PyProof.Rows
def oW : List D -> Option (List Bool)
  | [] => some []
  | .bl b :: ds => (oW ds).map (b :: ·)
  | _ => none
theorem Reps.bls {K : PySem.W.Frag} {G : Hp} : ∀ {vs : List V} {ds : List D} {bs : List Bool}, Reps K G vs ds -> oW ds = some bs -> vs = bs.map .bl
  | _, _, bs, .nil, e => by cases e; rfl
  | _, _, bs, .cons r t, e => by
    cases r with
    | bl b =>
      rename_i ds
      unfold oW at e
      cases q : oW ds with
      | none => rw [q] at e; cases e
      | some cs => rw [q] at e; cases e; rw [Reps.bls t q]; rfl
    | _ => simp [oW] at e
theorem Vals.bls : ∀ {bs : List Bool} {us : List Value}, Vals (bs.map V.bl) us -> us = bs.map Value.bool
  | [], _, .nil => rfl
  | b :: bs, _, .cons r t => by rw [Vals.bls t, show _ = Value.bool b from r]; rfl
section
variable {X : Cx} {e o : Expr} {es : List Expr} {ga gb : Ev -> R D} {gl : Ev -> R (List D)} {pos : Pos}
def Dx (K : PySem.W.Frag) (f : List Bool -> Bool) : List V -> Hp -> VK -> Prop := fun xs H Q => ∃ p bs, xs = [.ref p] /\ SqL K H p (bs.map V.bl) /\ Q (.bl (f bs)) H
theorem rQ (A : Around) (prog : Program) (w : World) (bs : List Bool) : TruthOf prog w A (fun i v => (bs.map Value.bool).toArray[i]? = some v) (fun i => bs.getD i true) := by
  intro i v s Q E hP hQ
  rw [List.getElem?_toArray, List.getElem?_map] at hP
  cases q : bs[i]? with
  | none => rw [q] at hP; cases hP
  | some b =>
    rw [q] at hP
    cases hP
    have e : bs.getD i true = b := by rw [List.getD_eq_getElem?_getD, q]; rfl
    have hQ : Q (bs.getD i true) s := hQ
    rw [e] at hQ
    exact wpAny_truthy_bool hQ
theorem rJ (hc : X.calm = true) : iO X (.builtin "all") (Dx X.K fun bs => bs.all id) := by
  intro pins s σ H xs us Q I r ⟨p, bs, ex, hs, q⟩
  subst ex
  obtain ⟨u, rfl, r1⟩ := r.one
  cases r1
  obtain ⟨its, rv, pl, hz⟩ := I.list hs
  obtain rfl := rv.bls
  have hh : X.A.in1.handled = none := I.ok.hd hc
  have hlt : p < s.heap.objs.size := by obtain ⟨o, n, e, _⟩ := id pl; exact Heap.lt_size e
  refine call_all_walk (wpAny_pyIter_list pl.isList ?_)
  refine ⟨s.heap.objs.size, [s.heap.objs.size, p], [s.heap.objs.size], _, _, _, fun i => bs.getD i true, rfl, Walks.list hh s.heap.objs.size p (Nat.ne_of_lt hlt) (bs.map Value.bool).toArray, ⟨⟨_, Heap.get?_push_size _ rfl, rfl, rfl⟩, ?_⟩, rQ _ _ _ bs, fun h' tk hk => ?_⟩
  . obtain ⟨o, n, e, c, _, d⟩ := id pl
    exact ⟨o, Heap.get?_push_of_some _ e, c, n, d⟩
  . have e : (List.range (bs.map Value.bool).toArray.size).all (fun i => bs.getD i true) = bs.all id := by
      rw [List.size_toArray, List.length_map]; exact jh rfl
    rw [e]
    refine ⟨.bl _, H, I.kept (t' := tk) fun b o eb => hk b o (fun z => ?_) (Heap.get?_push_of_some _ eb), rfl, q⟩
    have : b = s.heap.objs.size := by simpa using z
    exact Nat.lt_irrefl _ (this ▸ Heap.lt_size eb)
def wM : List D -> Option D
  | [.lst _ ds] => (oW ds).map fun bs => .bl (bs.all id)
  | _ => none
theorem vi {p : Pos} (hc : X.calm = true) (hg : Gl X "all") (hm : X.mg "all" = none) (ha : QFA X [e] gl) (he : starEach [e] X.env = [(false, eval e X.env)] := by rfl) : QF X (.Call (.Name "all" p) [e] [] pos) (fun ρ => gl ρ >>= fun ds => ofO (wM ds)) :=
  ig (rJ hc) (by
    intro G H xs ds d Q s r e q
    unfold wM at e
    split at e
    . rename_i f ds
      obtain ⟨v, rfl, r1⟩ := r.one
      obtain ⟨a, vs, rfl, h, t⟩ := r1.seq_inv
      cases eb : oW ds with
      | none => rw [eb] at e; cases e
      | some bs =>
        rw [eb] at e
        cases e
        obtain rfl := t.bls eb
        exact ⟨a, bs, rfl, h.mono s, q _ G H (.refl s) (.bl _)⟩
    . cases e) hg hm PyProof.Rows.Boot.«all» ha (he := by rw [he]; rfl)
def xV (K : PySem.W.Frag) (T : String) (r : V -> List V -> Hp -> VK -> Prop) (f : D -> List D -> Option D) : Prop := ∀ (G H : Hp) (x : V) (xs : List V) (dx : D) (ds : List D) (d : D) (Q : VK), Same G H -> Rep K G x dx -> Reps K G xs ds -> f dx ds = some d -> Fin G H (Rep K) Q d -> r x xs H Q
def gv (T : String) : D -> Bool
  | .str _ => T == "str"
  | .lst _ _ => T == "list"
  | _ => false
theorem eI {T id : String} {name : Str} {ap cp : Pos} {r : V -> List V -> Hp -> VK -> Prop} {f : D -> List D -> Option D} (pa : PlainAttrs T) (slot : PySem.Slot T name id) (hty : typeOf (.builtin id) = pure (.type "method_descriptor")) (hm : MtR X id r) (hf : xV X.K T r f) (ho : QF X o ga) (ha : QFA X (e :: es) gl)
    (hbase : attributeBase o name X.env (eval o X.env) = eval o X.env := by rfl)
    (hfew : ((backTo cp (starEach (e :: es) X.env)).all (fun x => !x.1) && (backToKw cp (keywordEach [] X.env)).all (fun x => x.1.isSome)
      && decide ((e :: es).length + ([] : List Keyword).length + (if ([] : List Keyword).isEmpty then 0 else 1) < 30)) = true := by rfl)
    (hline : (ap.endLine == cp.line) = true := by rfl) (hs : starEach (e :: es) X.env = (false, eval e X.env) :: starEach es X.env := by rfl) (hplain : (backTo cp (starEach es X.env)).any (·.1) = false := by rfl) :
    QF X (.Call (.Attribute o name ap) (e :: es) [] cp) (fun ρ => ga ρ >>= fun x => if gv T x = true then gl ρ >>= fun ds => ofO (f x ds) else .no) := by
  intro pins s σ H Q I h
  refine vj pa slot hty hm ho ha hbase hfew hline hs hplain pins s σ H Q I ?_
  obtain ⟨G, ρ, st, h⟩ := h
  refine tG.intro st h fun x v G1 H1 u1 st1 r1 h1 => ?_
  by_cases hk : gv T x = true
  . rw [if_pos hk] at h1
    have ty : tyV X.K T v H1 := by
      cases r1 with
      | str y hy => exact show T = "str" by simpa [gv] using hk
      | lst hh t => exact .inl ⟨by simpa [gv] using hk, _, .of (st1.sub _ _ hh)⟩
      | fls hh t => exact .inl ⟨by simpa [gv] using hk, _, hh.mono st1.sub⟩
      | _ => cases hk
    refine ⟨ty, tG.intro st1 h1 fun ds vs G2 H2 u2 st2 r2 h2 => ?_⟩
    obtain ⟨d, e', q⟩ := ofO.ok h2
    exact hf G2 H2 v vs x ds d Q st2.sub (r1.mono u2.gg) r2 e' q
  . rw [if_neg hk] at h1; exact h1.elim
theorem Str.of_list {y : Str} {x : List Nat} (e : y.cps.toList = x) : (⟨x.toArray⟩ : Str) = y := by
  subst e; simp
theorem vV {A : Around} {s : Shared} {bs : List Bool} (k : Bool) : ∀ y, y ∈ (bs.map Value.bool).toArray -> SeqAt.EqAt A s y (.bool k) (y == .bool k) := fun y hy => by
  obtain ⟨b, _, rfl⟩ := List.mem_map.mp (List.mem_toArray.mp hy)
  have := SeqAt.EqAt.bool_bool (A := A) (s := s) b k
  have e : (Value.bool b == Value.bool k) = (b == k) := by cases b <;> cases k <;> rfl
  rw [e]; exact this
def wf (K : PySem.W.Frag) : V -> List V -> Hp -> VK -> Prop := fun x vs H Q => ∃ (l : Addr) (bs : List Bool) (k : Bool), x = .ref l /\ vs = [.bl k] /\ SqL K H l (bs.map V.bl) /\ Q (.int (bs.count k : Nat)) H
theorem qJ (bs : List Bool) (k : Bool) : (bs.map Value.bool).countP (· == .bool k) = bs.count k := by
  rw [List.countP_map]
  unfold List.count
  congr 1
  funext b
  cases b <;> cases k <;> rfl
theorem vD : MtR X "list.count" (wf X.K) := by
  intro pins s σ H x xs v us Q I rx rv ⟨l, bs, k, ex, exs, hs, q⟩
  subst ex exs
  cases rx
  obtain ⟨u, rfl, r1⟩ := rv.one
  cases r1
  obtain ⟨its, rv', ⟨⟨cls, dd, data, sl⟩, n, eo, c, _, d⟩, hz⟩ := I.list hs
  obtain rfl := rv'.bls
  simp only at c d
  subst c d
  refine call_meets F.slot_list_count ⟨_, eo, rfl⟩ F.entry_list_count (F.args_list_count_2 _ _) (SeqAt.list_countAt l (bs.map Value.bool).toArray n dd sl (.bool k) (· == .bool k)) ⟨eo, vV k, ?_⟩
  rw [List.toList_toArray, qJ]
  exact ⟨.int _, H, I.tok _, ⟨_, rfl⟩, q⟩
def iv : D -> List D -> Option D
  | .lst _ ds, [.bl k] => (oW ds).map fun bs => .int (bs.count k : Nat)
  | _, _ => none
theorem ur (K : PySem.W.Frag) : xV K "list" (wf K) iv := by
  intro G H x xs dx ds d Q s rx rs e q
  unfold iv at e
  split at e
  . rename_i f ds k
    obtain ⟨v, rfl, r1⟩ := rs.one
    obtain rfl := r1.bl_inv
    obtain ⟨a, vs, rfl, h, t⟩ := rx.seq_inv
    cases eb : oW ds with
    | none => rw [eb] at e; cases e
    | some bs =>
      rw [eb] at e
      cases e
      obtain rfl := t.bls eb
      exact ⟨a, bs, k, rfl, rfl, h.mono s, q _ G H (.refl s) (.int _)⟩
  . cases e
def wb (K : PySem.W.Frag) : V -> List V -> Hp -> VK -> Prop := fun x vs H Q => ∃ (l : Addr) (bs : List Bool) (k : Bool), x = .ref l /\ vs = [.bl k] /\ SqL K H l (bs.map V.bl) /\ k ∈ bs /\ Q (.int (bs.idxOf k : Nat)) H
theorem kK (k : Bool) : ∀ (bs : List Bool) (m : Nat), m < bs.idxOf k -> bs[m]? ≠ some k
  | [], m, h => by simp
  | b :: bs, m, h => by
    rw [List.idxOf_cons] at h
    cases hb : (b == k) with
    | true => rw [hb] at h; exact absurd h (Nat.not_lt_zero _)
    | false =>
      rw [hb] at h
      cases m with
      | zero => intro e; have e1 := Option.some.inj e; rw [e1, beq_self_eq_true] at hb; cases hb
      | succ m => rw [List.getElem?_cons_succ]; exact kK k bs m (Nat.lt_of_succ_lt_succ h)
theorem tY : MtR X "list.index" (wb X.K) := by
  intro pins s σ H x xs v us Q I rx rv ⟨l, bs, k, ex, exs, hs, hk, q⟩
  subst ex exs
  cases rx
  obtain ⟨u, rfl, r1⟩ := rv.one
  cases r1
  obtain ⟨its, rv', ⟨⟨cls, dd, data, sl⟩, n, eo, c, _, d⟩, hz⟩ := I.list hs
  obtain rfl := rv'.bls
  simp only at c d
  subst c d
  have hlt : bs.idxOf k < bs.length := List.idxOf_lt_length_iff.mpr hk
  have hsz : bs.length <= sizeLine := by simpa using hz
  have h63 := kL
  have tob : ∀ a b : Bool, (Value.bool a == Value.bool b) = (a == b) := fun a b => by cases a <;> cases b <;> rfl
  refine call_meets F.slot_list_index ⟨_, eo, rfl⟩ F.entry_list_index (F.args_list_index_2 _ _) (SeqAt.list_indexAt l (bs.map Value.bool).toArray n dd sl (.bool k) (· == .bool k) (bs.idxOf k) (by simpa using hlt) (by omega) ?_ ?_) ⟨eo, vV k, ?_⟩
  . simp only [List.getElem_toArray, List.getElem_map, tob]
    exact beq_iff_eq.mpr (List.getElem_idxOf hlt)
  . intro m hm hlt'
    simp only [List.getElem_toArray, List.getElem_map, tob]
    have hm' : m < bs.length := by simpa using hm
    cases hq : (bs[m] == k) with
    | false => rfl
    | true => exact absurd (by rw [List.getElem?_eq_getElem hm', beq_iff_eq.mp hq]) (kK k bs m hlt')
  . exact ⟨.int _, H, I.tok _, ⟨_, rfl⟩, q⟩
def iq : D -> List D -> Option D
  | .lst _ ds, [.bl k] => (oW ds).bind fun bs => if k ∈ bs then some (.int (bs.idxOf k : Nat)) else none
  | _, _ => none
theorem vF (K : PySem.W.Frag) : xV K "list" (wb K) iq := by
  intro G H x xs dx ds d Q s rx rs e q
  unfold iq at e
  split at e
  . rename_i f ds k
    obtain ⟨v, rfl, r1⟩ := rs.one
    obtain rfl := r1.bl_inv
    obtain ⟨a, vs, rfl, h, t⟩ := rx.seq_inv
    cases eb : oW ds with
    | none => rw [eb] at e; cases e
    | some bs =>
      rw [eb, Option.bind_some] at e
      split at e
      . rename_i hk
        cases e
        obtain rfl := t.bls eb
        exact ⟨a, bs, k, rfl, rfl, h.mono s, hk, q _ G H (.refl s) (.int _)⟩
      . cases e
  . cases e
theorem qy {ap cp : Pos} (ho : QF X o ga) (ha : QFA X [e] gl) (hbase : attributeBase o "count" X.env (eval o X.env) = eval o X.env := by rfl)
    (hfew : ((backTo cp (starEach [e] X.env)).all (fun x => !x.1) && (backToKw cp (keywordEach [] X.env)).all (fun x => x.1.isSome)
      && decide ([e].length + ([] : List Keyword).length + (if ([] : List Keyword).isEmpty then 0 else 1) < 30)) = true := by rfl)
    (hline : (ap.endLine == cp.line) = true := by rfl) (hs : starEach [e] X.env = (false, eval e X.env) :: starEach [] X.env := by rfl) :
    QF X (.Call (.Attribute o "count" ap) [e] [] cp) (fun ρ => ga ρ >>= fun x => if gv "list" x = true then gl ρ >>= fun ds => ofO (iv x ds) else .no) :=
  eI PySem.F.plainAttrs_list PySem.F.slot_list_count PySem.F.type_list_count vD (ur _) ho ha hbase hfew hline hs rfl
theorem pP {ap cp : Pos} (ho : QF X o ga) (ha : QFA X [e] gl) (hbase : attributeBase o "index" X.env (eval o X.env) = eval o X.env := by rfl)
    (hfew : ((backTo cp (starEach [e] X.env)).all (fun x => !x.1) && (backToKw cp (keywordEach [] X.env)).all (fun x => x.1.isSome)
      && decide ([e].length + ([] : List Keyword).length + (if ([] : List Keyword).isEmpty then 0 else 1) < 30)) = true := by rfl)
    (hline : (ap.endLine == cp.line) = true := by rfl) (hs : starEach [e] X.env = (false, eval e X.env) :: starEach [] X.env := by rfl) :
    QF X (.Call (.Attribute o "index" ap) [e] [] cp) (fun ρ => ga ρ >>= fun x => if gv "list" x = true then gl ρ >>= fun ds => ofO (iq x ds) else .no) :=
  eI PySem.F.plainAttrs_list PySem.F.slot_list_index PySem.F.type_list_index tY (vF _) ho ha hbase hfew hline hs rfl
end
end L2
namespace L2
open PySem PySem.Spec PyProof.Rows
def vr : List Nat -> List D -> Ev -> R Ev
  | [], [], ρ => .ok ρ
  | i :: is, d :: ds, ρ => vr is ds (ρ.set i (some (.val d)))
  | _, _, _ => .no
section
variable {X : Cx} {e : Expr} {es : List Expr} {ga : Ev -> R D} {gl : Ev -> R (List D)} {pos : Pos}
theorem lX {x : Str} {np cp : Pos} {C : Addr} {bm : List Value} {B newId initId : String} (Oc : OwnCls x C bm newId X.mg X.base) (FB : ExcBaseFacts B newId initId bm) (hh : X.A.handled = none) (hg : Gl X x) (ha : QFA X [e] gl)
    (hdb : (x == ("__debug__" : Str)) = false := by decide) (hs : starEach [e] X.env = (false, eval e X.env) :: starEach [] X.env := by rfl) (hz : ∀ ρ ds, gl ρ = .ok ds -> ds.length <= 1 := by intro _ _ z; first | (cases z; decide) | skip) :
    QSF X (.Raise (some (.Call (.Name x np) [e] [] cp)) none pos) (fun ρ => (gl ρ).out ρ fun _ => .ex C ρ) := fun G₀ H₀ pins s σ H D I h => by
  obtain ⟨G, ρ, sr, h⟩ := h
  dsimp only at h
  obtain ⟨tl, N, nm, qn, bs, hdct, sn, sub, ab, col, dd, k0, k1, k2, k3, k5, mN, hC, hN, hni, T⟩ := Oc.obj
  refine wpAny_Raise_call_subT (C := C) (nm := nm) (q := qn) (N := N) (bs := bs) (bm := tl) (hdct := hdct) (sn := sn) (sub := sub) (ab := ab) (col := col) (dd := dd) (k0 := k0) (k1 := k1) (k2 := k2) (k3 := k3) (k5 := k5)
    FB (mN := mN) (T.hasType FB.hasBase) hh (by rw [hs]; rfl) hni (lw I hg Oc.bound ⟨rfl, ?_⟩ hdb)
  have t : tAF X gl σ H (fun vs H1 => vs.length <= sizeLine /\ ∃ G1, Up G H G1 H1 /\ tE X G₀ H₀ D (.ex C ρ)) := by
    refine ⟨G, ρ, sr.e, ?_⟩
    cases q : gl ρ with
    | ok ds =>
      rw [q] at h
      intro vs G1 H1 u r
      exact ⟨by rw [r.length]; exact Nat.le_trans (hz ρ ds q) (by decide), G1, u, h⟩
    | ex C' => rw [q] at h; exact Exx.of sr h
    | no => rw [q] at h; exact h
  have hA := ha cp pins s σ H _ I t
  rw [hs] at hA ⊢
  refine Calls.evalArgs_plain (wpAny_mono hA (fun vs s₂ q => ?_) fun _ _ y => y)
  obtain ⟨vs', H1, I1, r, hz, G1, u, h⟩ := q
  exact ⟨rfl, by show vs.length <= sizeLine; rw [<- r.length]; exact hz, I1.bk _ _ hC, hN.keeps I1.bk, T.keeps I1.bk, fun h' a made => h _ _ ⟨σ, G1, H1, sr.ups u, pins, s₂, a, rfl, I1, .inl ⟨h', vs, made, rfl⟩⟩⟩
end
section
variable {X : Cx} {pins : List (Addr × Obj)} {σ : St} {H : Hp} {s : Shared}
theorem Inv.unset {i : Nat} {x : Str} {h' : Heap} {m : Str -> Option Value} {u : Option Value} (I : Inv X pins σ H s) (hN : X.N.Nodup) (hi : X.N[i]? = some x)
    (hm : ∀ (j : Nat) (y : Str) (v : V), X.N[j]? = some y -> σ[j]? = some (some v) -> Vis X.env.scope y -> ∃ u, RelV v u /\ Db X.env s.heap m y u) (hn : h'.Ns X.env.locals (fun y => if y = x then u else m y)) (sb : Heap.SameBut X.env.locals s.heap h') :
    Inv X pins (σ.set i none) H { s with heap := h' } := by
  have kp : ∀ b o, b ≠ X.env.locals -> s.heap.get? b = some o -> h'.get? b = some o := fun b o hb e => (sb.2 b hb).trans e
  refine ⟨I.ok, I.os, I.bare, I.base.sameBut kp I.ok.above, ⟨_, hn, fun j y v h1 h2 h3 => ?_⟩, fun y c e => ?_, I.free, I.freeC, fun p hp => ?_, I.hok.sameBut kp I.free, by simp [I.len]⟩
  . have hj : i ≠ j := fun z => by
      subst z
      rw [List.getElem?_set] at h2
      simp only [if_true] at h2
      split at h2 <;> cases h2
    rw [List.getElem?_set_ne hj] at h2
    have hy : y ≠ x := fun z => hj (kQ hN hi (z ▸ h1))
    obtain ⟨w, rw', lk⟩ := hm j y v h1 h2 h3
    refine ⟨w, rw', ?_⟩
    rcases lk with ⟨k, e⟩ | ⟨k, c, hc, cell⟩
    . exact .inl ⟨k, by show (if y = x then u else m y) = some w; rw [if_neg hy]; exact e⟩
    . exact .inr ⟨k, c, hc, cell.sameBut sb (I.cne y c hc)⟩
  . obtain ⟨v, q⟩ := I.cell y c e
    exact ⟨v, q.sameBut sb (I.cne y c e)⟩
  . obtain ⟨p1, p2, p3, p4, p5⟩ := I.pin p hp
    exact ⟨kp _ _ p3 p1, p2, p3, p4, p5⟩
theorem Inv.cx {A' : Around} {calm' : Bool} {pn' pins' : List (Addr × Obj)} {xe' : Value -> Shared -> Prop} (I : Inv X pins σ H s) (hp : ∀ p ∈ pn' ++ pins', p ∈ X.pn ++ pins) (hA : A'.frames = X.A.frames) (hd : calm' = true -> A'.handled = none) :
    Inv { X with A := A', calm := calm', pn := pn', xe := xe' } pins' σ H s :=
  ⟨⟨I.ok.mod, I.ok.kind, I.ok.glob, I.ok.blt, I.ok.above, I.ok.inj, I.ok.has, I.ok.cab, hd, hA.trans I.ok.frames, I.ok.stk, I.ok.exf, I.ok.bs, I.ok.bsz, I.ok.noex, I.ok.exfs, I.ok.funs, I.ok.frf⟩,
    I.os, I.bare, I.base, I.loc, I.cell, I.free, I.freeC, fun p q => I.pin p (hp p q), I.hok, I.len⟩
end
end L2
namespace L2
open PySem PySem.Spec PyProof.Rows
def wX (gb gs : Ev -> O) (f : Addr -> Option Bool) (i : Nat) : Ev -> O := fun ρ => match gb ρ with
  | .ex C ρ' => (match f C with
    | some true => (match gs (ρ'.set i (some (.val (.exc C)))) with
      | .nx ρ'' => .nx (ρ''.set i none)
      | _ => .no)
    | _ => .no)
  | o => o
section
variable {X : Cx} {body suite : List Stmt} {b₀ : Stmt} {gb gs : Ev -> O} {pos hp tp : Pos} {tn nm : Str} {Ct : Addr}
abbrev iG (X : Cx) (pn : List (Addr × Obj)) (xe : Value -> Shared -> Prop) : Cx := { X with A := X.A, calm := X.calm, pn := pn, xe := xe }
abbrev ie (X : Cx) (a : Addr) (xe : Value -> Shared -> Prop) : Cx := { X with A := X.A.mark (some (.ref a)), calm := false, pn := X.pn, xe := xe }
theorem qi (i : Nat) (f : Addr -> Option Bool) (hN : X.N.Nodup) (hcalm : X.calm = true) (hst : X.stack = X.env :: X.outer) (hfr : X.env.frame = some X.env.locals) (hkd : X.env.scope.kind = .function)
    (hb : ∀ pn xe, jX (iG X pn xe) body gb) (hh : ∀ a xe, jX (ie X a xe) (b₀ :: suite) gs) (hf : ∀ C, f C = some true -> PySem.W.exmOne X.K (.ref C) (.ref Ct) = some true) (hg : Gl X tn) (hm : X.mg tn = some (.ref Ct))
    (hi : X.N[i]? = some nm) (hx : X.env.scope.names.lookup nm = some .local) (hdb : (tn == ("__debug__" : Str)) = false := by decide) :
    QSF X (.Try body [.ExceptHandler (some (.Name tn tp)) (some nm) (b₀ :: suite) hp] [] [] pos) (wX gb gs f i) := fun G₀ H₀ pins s σ H D I h => by
  obtain ⟨G, ρ, sr, h⟩ := h
  refine wpAny_Try_except ?_
  have fs : frs X.stack = X.env.locals :: frs X.outer := by rw [hst]; exact kN hfr
  -- the body
  have I1 : ∀ xe, Inv (iG X (X.pn ++ pins) xe) [] σ H s := fun xe => I.cx (fun p q => by simpa using q) rfl I.ok.hd
  have back : ∀ {xe : Value -> Shared -> Prop} {pins' : List (Addr × Obj)} {σ' : St} {H' : Hp} {s' : Shared}, Inv (iG X (X.pn ++ pins) xe) pins' σ' H' s' -> Inv X pins σ' H' s' := fun J =>
    (J.cx (pn' := X.pn) (pins' := pins) (xe' := X.xe) (fun p q => List.mem_append_left _ q) rfl J.ok.hd : Inv { (iG X (X.pn ++ pins) _) with A := X.A, calm := X.calm, pn := X.pn, xe := X.xe } pins _ _ _)
  refine wpAny_mono (hb (X.pn ++ pins) (fun e s₁ => wpAny (model X.prog X.w) X.A (noteFrame e X.env) (fun _ s₂ => wpAny (model X.prog X.w) X.A (setFlight e none) (fun _ s₃ =>
      wpAny (model X.prog X.w) X.A (handleBy e X.env [.ExceptHandler (some (.Name tn tp)) (some nm) (b₀ :: suite) hp]) (SP X pins D) X.xe s₃) X.xe s₂) X.xe s₁) G₀ H₀ [] s σ H D (I1 _) ⟨G, ρ, sr, ?_⟩) (fun fl s₁ q => ?_) fun e s₁ q => q
  case refine_2 =>
    cases fl with
    | next => obtain ⟨σ', H', J, q⟩ := q; exact wpAny_execs_nil ⟨σ', H', back J, q⟩
    | brk => obtain ⟨σ', H', J, q⟩ := q; exact ⟨σ', H', back J, q⟩
    | cont => obtain ⟨σ', H', J, q⟩ := q; exact ⟨σ', H', back J, q⟩
    | ret u => obtain ⟨v, σ', H', J, r, q⟩ := q; exact ⟨v, σ', H', back J, r, q⟩
  unfold wX at h
  cases q : gb ρ with
  | nx ρ' => rw [q] at h; exact h
  | rt d => rw [q] at h; exact h
  | bk ρ' => rw [q] at h; exact h
  | ct ρ' => rw [q] at h; exact h
  | no => rw [q] at h; exact h.elim
  | ex C ρ' =>
    rw [q] at h
    dsimp only at h
    cases qf : f C with
    | none => rw [qf] at h; exact h.elim
    | some b =>
      cases b with
      | false => rw [qf] at h; exact h.elim
      | true =>
        rw [qf] at h
        dsimp only at h
        cases qs : gs (ρ'.set i (some (.val (.exc C)))) with
        | nx ρ'' =>
          rw [qs] at h
          intro e s' fl
          obtain ⟨σ', G₁, H₁, sr', pins₁, s₁, a, rfl, J0, way⟩ := fl
          have J₁ : Inv X pins σ' H₁ s₁ := back J0
          -- from a heap in which it is held
          have cont : ∀ {ch : List Addr} {H' G' : Hp} {s' : Shared} {B : Heap} {a0 : Value} {h₄ : Heap}, (∀ b ∈ ch, Ap X pins b) -> s'.os = s₁.os -> AllBare s'.gens -> Un (frs X.stack) ch H₁ H' s₁.heap s'.heap -> HOk X.prog X.w H' s'.heap -> H' a = none -> s₁.heap.get? a = none -> Up G₁ H₁ G' H' ->
              (∀ b o, b ∉ frs X.stack -> ((∃ o0, s₁.heap.get? b = some o0) \/ ∃ u, H' b = some u) -> s'.heap.get? b = some o -> B.get? b = some o) -> Heap.HeldW B (X.env :: X.outer) a (.ref C) a0 X.env.locals h₄ -> s'.heap.UpToSlots h₄ ->
              wpAny (model X.prog X.w) X.A (setFlight (.ref a) none) (fun _ s₃ => wpAny (model X.prog X.w) X.A (handleBy (.ref a) X.env [.ExceptHandler (some (.Name tn tp)) (some nm) (b₀ :: suite) hp]) (SP X pins D) X.xe s₃) X.xe { s' with heap := h₄ } := by
            intro ch H' G' s' B a0 h₄ hch os bare un hok ha hnew up hk held sm
            have J' : Inv X pins σ' H' s' := J₁.call' (ch := ch) os un hok bare hch
            have dat : ∀ b ∈ frs X.stack, ∀ o, s'.heap.get? b = some o -> ∀ vs, o.data ≠ .fields vs := fun b hb o e => by
              obtain ⟨o', e', d', _⟩ := FunFrames.data J'.stack b hb
              rw [e] at e'; cases e'; exact d'
            -- the state at a later heap
            have at_ : ∀ {h5 : Heap}, B.StaysIn h5 -> s'.heap.UpToSlots h5 -> Un (frs X.stack) ch H₁ H' s₁.heap h5 /\ HOk X.prog X.w H' h5 := fun {h5} hb5 sm5 =>
              ⟨un.flight hb5 sm5 hk (fun b o e => ⟨o, e⟩) (fun b hb => .inl hb) dat, hok.flight hb5 hk J'.stkFree⟩
            refine wpAny_landsW held fun h₅ fl₅ sm₅ => ?_
            obtain ⟨un₅, hok₅⟩ := at_ fl₅.1 (sm.trans sm₅)
            have J₅ : Inv X pins σ' H' { s' with heap := h₅ } := J₁.call' (s' := { s' with heap := h₅ }) (ch := ch) os un₅ hok₅ bare hch
            have S₅ : Inv (ie X a fun _ _ => False) pins σ' H' { s' with heap := h₅ } := J₅.cx (fun p q => q) rfl (fun z => by cases z)
            obtain ⟨ob, hob, hobc⟩ := fl₅.there
            refine wpAny_handleBy_cons (codeAny_handlers_test (lw S₅ hg hm ?_ hdb)) (by intro z; cases z)
            refine (PySem.W.exm_one (M := model X.prog X.w) S₅.kIn (hobc ▸ (PySem.W.Looks.ld hob).andThen .now) (hf C qf)).here ?_
            show codeAny _ _ _ _ _
            refine codeAny_handlers_suite_as ?_
            refine lands_againW fl₅ fun h₆ fl₆ sm₆ => ?_
            obtain ⟨un₆, hok₆⟩ := at_ fl₆.1 ((sm.trans sm₅).trans sm₆)
            obtain ⟨ob6, hob6, hobc6⟩ := fl₆.there
            -- it is spoken of from now on
            have hokA : HOk X.prog X.w (upd H' a (.ext (fV a C))) h₆ := fun b o e => by
              by_cases eb : b = a
              . subst eb
                rw [bf] at e
                cases e
                exact ⟨⟨ob6, hob6, hobc6⟩, ⟨ob6, hob6⟩, fun h1 h2 ⟨ob, e1, e2⟩ k => ⟨ob, k _ e1, e2⟩⟩
              . rw [aW eb] at e
                refine (hok₆ b o e).stay (fun _ _ _ z => z) (fun c z => ?_) (fun c xs z => ?_)
                . rw [aW (aK z ha)]; exact z
                . rw [aW (aK z ha)]; exact z
            have unA : Un (frs X.stack) ch H₁ (upd H' a (.ext (fV a C))) s₁.heap h₆ := by
              refine ⟨un₆.keep, un₆.slot, fun b o e n x => ?_, un₆.there, fun b xs z => ?_, fun b o u z => ?_, fun b ps z => ?_⟩
              . rw [aW (fun z => by rw [z, hnew] at e; cases e)]; exact un₆.free b o e n x
              . have := un₆.tups b xs z; rw [aW (aK this ha)]; exact this
              . have := un₆.frzs b o u z; rw [aW (aK this ha)]; exact this
              . obtain ⟨more, this⟩ := un₆.tbls b ps z; exact ⟨more, by rw [aW (aK this ha)]; exact this⟩
            have J₆ : Inv X pins σ' (upd H' a (.ext (fV a C))) { s' with heap := h₆ } := J₁.call' (s' := { s' with heap := h₆ }) (ch := ch) os unA hokA bare hch
            have upA : Up G₁ H₁ (upd G' a (.ext (fV a C))) (upd H' a (.ext (fV a C))) := up.trans (.new up.sub ha)
            have S₆ : Inv (ie X a fun _ _ => False) pins σ' (upd H' a (.ext (fV a C))) { s' with heap := h₆ } := J₆.cx (fun p q => q) rfl (fun z => by cases z)
            refine pB (X := ie X a fun _ _ => False) S₆ hN hi (.inl hx) (v := .ref a) rfl (fun s₇ S₇ => ?_) (.inr hx)
            have sr7 := (sr'.ups upA).set (.exc bf : Rep X.K (upd G' a (.ext (fV a C))) (.ref a) (.exc C)) i
            refine wpAny_mono (hh a (fun _ _ => False) G₀ H₀ pins s₇ _ _ { nx := fun σ₈ H₈ => ∃ G₈, StR X.K G₀ H₀ G₈ H₈ σ₈ ρ'', rt := fun _ _ => False } S₇ ⟨_, _, sr7, by rw [qs]; exact fun σ₈ G₈ H₈ sr8 => ⟨G₈, sr8⟩⟩) (fun fl s₈ q8 => ?_) fun _ _ z => z.elim
            cases fl with
            | next =>
              obtain ⟨σ₈, H₈, S₈, G₈, sr8⟩ := q8
              have J₈ : Inv X pins σ₈ H₈ s₈ := (S₈.cx (pn' := X.pn) (pins' := pins) (A' := X.A) (calm' := X.calm) (xe' := X.xe) (fun p q => q) rfl I.ok.hd : Inv { (ie X a fun _ _ => False) with A := X.A, calm := X.calm, pn := X.pn, xe := X.xe } pins _ _ _)
              refine wpAny_bind (wpAny_bindName (mq J₈ hN hi (.inl hx) (v := .non) rfl (fun s₉ J₉ _ => ?_) (.inr hx)))
              obtain ⟨m9, hn9, hl9⟩ := id J₉.loc
              have hlt : i < σ₈.length := by rw [J₈.len]; exact (List.getElem?_eq_some_iff.mp hi).1
              obtain ⟨u9, r9, lk9⟩ := hl9 i nm .non hi (by rw [List.getElem?_set_self hlt]) (.inl hx)
              have hv9 : m9 nm = some u9 := by
                rcases lk9 with ⟨_, e⟩ | ⟨k, _⟩
                . exact e
                . have k' : X.env.scope.names.lookup nm = some .cell \/ X.env.scope.names.lookup nm = some .free := k
                  rw [hx] at k'; rcases k' with k' | k' <;> cases k'
              refine wpAny_onRaise (wpAny_unbindName_local hx hn9 hv9 (by rw [hkd]; rfl) fun h10 u10 hn10 sb10 => ?_)
              have J10 := J₉.unset hN hi hl9 hn10 sb10
              refine ⟨_, _, J10, ?_⟩
              have e10 : (σ₈.set i (some V.non)).set i none = σ₈.set i none := by rw [List.set_set]
              rw [e10]
              refine h _ G₈ _ ?_
              -- the slot is forgotten
              have get : ∀ (j : Nat) x, (ρ''.set i none)[j]? = some (some x) -> j ≠ i /\ ρ''[j]? = some (some x) /\ (σ₈.set i none)[j]? = σ₈[j]? := fun j x e => by
                by_cases ej : i = j
                . subst ej
                  rw [List.getElem?_set] at e
                  simp only [if_true] at e
                  split at e <;> cases e
                . rw [List.getElem?_set_ne ej] at e
                  exact ⟨fun z => ej z.symm, e, List.getElem?_set_ne ej⟩
              refine ⟨⟨sr8.e.sub, by simp [sr8.e.len], fun j d e => ?_⟩, sr8.sub0, sr8.up, fun j ds e => ?_, fun j k ds es l e1 e2 e3 e4 => ?_⟩
              . obtain ⟨_, e1, e2⟩ := get j _ e; rw [e2]; exact sr8.e.val j d e1
              . obtain ⟨_, e1, e2⟩ := get j _ e; rw [e2]; exact sr8.own j ds e1
              . obtain ⟨_, f1, f2⟩ := get j _ e1
                obtain ⟨_, f3, f4⟩ := get k _ e2
                exact sr8.inj j k ds es l f1 f3 (f2 ▸ e3) (f4 ▸ e4)
            | brk => obtain ⟨_, _, _, z⟩ := q8; exact z.elim
            | cont => obtain ⟨_, _, _, z⟩ := q8; exact z.elim
            | ret u => obtain ⟨_, _, _, _, _, z⟩ := q8; exact z.elim
          have hfrm : X.A.frames = some (X.env :: X.outer) := by rw [<- hst]; exact I.ok.frames
          rcases way with ⟨h', vs, made, rfl⟩ | ⟨G', H', ⟨os, bare, un, hok, ha, B, a0, fl, hk⟩, up⟩ | ⟨G', H', L', hL, ⟨os, bare, ⟨ch, hch, un⟩, hok, ha, hna, B, a0, fl, hk⟩, up⟩
          . have hin : ∀ env ∈ X.stack, ∀ b, env.frame = some b -> b ∈ frs X.stack := fun env he b hb => List.mem_filterMap.mpr ⟨env, he, hb⟩
            have ha : H₁ a = none := by
              cases q : H₁ a with
              | none => rfl
              | some u =>
                obtain ⟨ob, e⟩ := (J₁.hok a u q).there
                rw [made.new] at e; cases e
            obtain ⟨t, he, htn, ht⟩ := made.there
            have hkb : (PySem.W.hideAll s₁.heap (frs X.stack)).StaysIn h' := fun b o q => made.keeps b o (PySem.W.of_hideAll _ q)
            have hen : (PySem.W.hideAll s₁.heap (frs X.stack)).get? a = none := by
              cases q : (PySem.W.hideAll s₁.heap (frs X.stack)).get? a with
              | none => rfl
              | some o => have := PySem.W.of_hideAll _ q; rw [made.new] at this; cases this
            have hff : h'.FunFrames (PySem.W.hideAll s₁.heap (frs X.stack)) (X.env :: X.outer) := by
              rw [<- hst]
              exact (PySem.W.funFrames_hide J₁.stack hin).of_keeps fun b o hb _ => ⟨o, made.keeps b o hb, rfl⟩
            show wpAny _ _ (noteFrame (.ref a) X.env) _ _ _
            unfold noteFrame
            simp only [hfr]
            refine wpAny_bind (wpAny_field (show ({ s₁ with heap := h' } : Shared).heap.get? a = some _ from he) rfl (x := .none) rfl ?_)
            rw [if_neg (by decide)]
            refine wpAny_entryW (base := PySem.W.hideAll s₁.heap (frs X.stack)) (a0 := .ref t) hfrm hff hfr he hkb hen rfl (by show 1 < 6; decide) rfl fun h₄ noted => ?_
            obtain ⟨n1, n2, n3, n4⟩ := noted
            refine cont (ch := []) (s' := { s₁ with heap := h' }) (fun b z => absurd z (by simp)) rfl J₁.bare (Un.kept made.keeps) (J₁.hok.kept made.keeps) ha made.new (.refl sr'.e.sub) (fun b o hb ho e => ?_) ⟨n1, hen, n2, n3⟩ n4
            have e1 : s₁.heap.get? b = some o := by
              rcases ho with ⟨o0, ho⟩ | ⟨u, ho⟩
              . have q := made.keeps b o0 ho
                have e' : h'.get? b = some o := e
                rw [q] at e'; cases e'; exact ho
              . obtain ⟨ob, ho⟩ := (J₁.hok b u ho).there
                have q := made.keeps b ob ho
                have e' : h'.get? b = some o := e
                rw [q] at e'; cases e'; exact ho
            exact PySem.W.hideAll_get _ e1 hb
          . have hna : s₁.heap.get? a = none := by
              cases q : s₁.heap.get? a with
              | none => rfl
              | some o0 =>
                obtain ⟨o', e'⟩ := un.there a o0 q (by simp)
                have hna : a ∉ frs X.stack := fun z => by
                  obtain ⟨o1, e1, d1, _⟩ := FunFrames.data fl.2.2.1 a z
                  obtain ⟨oe, vs, _, _, _, e2, _, d2, _⟩ := fl.2.2.2
                  rw [e1] at e2; cases e2; exact d1 vs d2
                have := hk a o' hna (.inl ⟨o0, q⟩) e'
                rw [fl.2.1] at this; cases this
            rw [hst] at fl
            exact wpAny_looks_onW hfrm hfr fl fun h₄ held sm => cont (ch := []) (fun b z => absurd z (by simp)) os bare un hok ha hna up hk held sm
          . have hch' : ∀ b ∈ ch, Ap X pins b := fun b hb => let ⟨c1, c2, c3, c4⟩ := hch b hb; ⟨c1, c2, c3, fun p hp => c4 p (List.mem_append_left _ hp)⟩
            have eL : X.env.locals = L' := Option.some.inj (hfr.symm.trans hL)
            rw [hst, <- eL] at fl
            exact wpAny_noteFrame_againW hfr fl.2.2.2 (cont (h₄ := s'.heap) hch' os bare un hok ha hna up hk fl fun b o hb _ => ⟨o.slots, hb⟩)
        | rt d => rw [qs] at h; exact h.elim
        | bk ρ'' => rw [qs] at h; exact h.elim
        | ct ρ'' => rw [qs] at h; exact h.elim
        | ex C' ρ'' => rw [qs] at h; exact h.elim
        | no => rw [qs] at h; exact h.elim
end
end L2
namespace L2
open PySem PySem.Spec PyProof.Rows
structure Callee (P : Program) (w : World) (K : PySem.W.Frag) (mg : Str -> Option Value) (base : Heap) (x : Str) (k n : Nat) (g : List D -> R D) : Prop where
  ex : ∃ f fd ps, FnF P w K mg base k f fd ps g /\ mg x = some (.ref f) /\ PySem.W.keepIn K (.ref f) = true /\ Binds K fd ps [] /\ ps.length = n
theorem qx {X : Cx} {x : Str} {k n : Nat} {g : List D -> R D} {e : Expr} {es : List Expr} {gl : Ev -> R (List D)} {p pos : Pos} (c : Callee X.prog X.w X.K X.mg X.base x k n g) (hr : Room k X.A) (ha : QFA X (e :: es) gl) (hg : Gl X x := by rfl)
    (hdb : (x == ("__debug__" : Str)) = false := by decide) (he : starEach (e :: es) X.env = (false, eval e X.env) :: starEach es X.env := by rfl) (hpl : (backTo pos (starEach es X.env)).any (·.1) = false := by rfl) :
    QF X (.Call (.Name x p) (e :: es) [] pos) (fun ρ => gl ρ >>= fun ds => if ds.length = n then g ds else .no) := by
  obtain ⟨f, fd, ps, F, hm, hk, hb, rfl⟩ := c.ex
  exact rh F hr hg hm hk hb ha hdb he hpl
theorem FnF.to {P : Program} {w : World} {K : PySem.W.Frag} {mg : Str -> Option Value} {base : Heap} {k : Nat} {f : Addr} {fd : FuncData} {ps : List Str} {g g' : List D -> R D} (F : FnF P w K mg base k f fd ps g) (h : ∀ ds, ds.length = ps.length -> g' ds = .no \/ g ds = g' ds) : FnF P w K mg base k f fd ps g' := by
  refine F.imp fun vs H Q E ⟨hl, G, ds, sub, r, q⟩ => ⟨hl, G, ds, sub, r, ?_⟩
  rcases h ds (by rw [<- r.length]; exact hl) with z | z
  . rw [z] at q; exact q.elim
  . rw [z]; exact q
theorem Fun.callee {P : Program} {w : World} {K : PySem.W.Frag} {mg : Str -> Option Value} {base : Heap} {x : Str} {st : Stmt} {f : Addr} {fd : FuncData} {ps : List Str} {k : Nat} {g : List D -> R D} (F : Fun K x x st f fd) (hm : mg x = some (.ref f)) (ok : FnF P w K mg base k f fd ps g)
    (h : ∀ (kV doc pm : Value) (an : Option Addr) (cdv ct : Value) (us : List Value), us.length = ps.length -> bindArgs (PySem.W.fnOf x x (ia st) (fu st) (aI st) .none kV doc pm an cdv ct) ⟨us, []⟩ = pure (ps.zip us)) : Callee P w K mg base x k ps.length g :=
  ⟨f, fd, ps, ok, hm, F.kp, F.binds h, rfl⟩
theorem fv {T : String} {f : String -> Bool} (h : ∀ K : PySem.W.Frag, PySem.W.kitOne K (.type "NoneType") (.type T) = some (f "NoneType") /\ PySem.W.kitOne K (.type "bool") (.type T) = some (f "bool") /\ PySem.W.kitOne K (.type "int") (.type T) = some (f "int") /\
    PySem.W.kitOne K (.type "str") (.type T) = some (f "str") /\ PySem.W.kitOne K (.type "tuple") (.type T) = some (f "tuple") /\ PySem.W.kitOne K (.type "list") (.type T) = some (f "list")) :
    ∀ K : PySem.W.Frag, ∀ t ∈ ["NoneType", "bool", "int", "str", "tuple", "list"], PySem.W.kitOne K (.type t) (.type T) = some (f t) := fun K t ht => by
  obtain ⟨h1, h2, h3, h4, h5, h6⟩ := h K
  simp only [List.mem_cons, List.mem_nil_iff, or_false] at ht
  rcases ht with rfl | rfl | rfl | rfl | rfl | rfl <;> assumption
def isInt (t : String) : Bool := t == "int" || t == "bool"
section
variable {X : Cx} {e : Expr} {ga : Ev -> R D} {p p2 pos : Pos}
theorem pU (hm : X.mg "isinstance" = none) (ha : QF X e ga) (hm2 : X.mg "int" = none) (hg2 : Gl X "int" := by rfl) (hg : Gl X "isinstance" := by rfl) (hs1 : starEach [e, .Name "int" p2] X.env = (false, eval e X.env) :: starEach [.Name "int" p2] X.env := by rfl) : QF X (.Call (.Name "isinstance" p) [e, .Name "int" p2] [] pos) (fun ρ => ga ρ >>= dL isInt) :=
  fC (T := "int") isInt (fv fun K => ⟨rfl, rfl, rfl, rfl, rfl, rfl⟩) hg hm hg2 hm2 PyProof.Rows.Boot.«int» ha hs1
theorem nc (hm : X.mg "isinstance" = none) (ha : QF X e ga) (hm2 : X.mg "bool" = none) (hg2 : Gl X "bool" := by rfl) (hg : Gl X "isinstance" := by rfl) (hs1 : starEach [e, .Name "bool" p2] X.env = (false, eval e X.env) :: starEach [.Name "bool" p2] X.env := by rfl) : QF X (.Call (.Name "isinstance" p) [e, .Name "bool" p2] [] pos) (fun ρ => ga ρ >>= dL (· == "bool")) :=
  fC (T := "bool") (· == "bool") (fv fun K => ⟨rfl, rfl, rfl, rfl, rfl, rfl⟩) hg hm hg2 hm2 PyProof.Rows.Boot.«bool» ha hs1
theorem pT (hm : X.mg "isinstance" = none) (ha : QF X e ga) (hm2 : X.mg "str" = none) (hg2 : Gl X "str" := by rfl) (hg : Gl X "isinstance" := by rfl) (hs1 : starEach [e, .Name "str" p2] X.env = (false, eval e X.env) :: starEach [.Name "str" p2] X.env := by rfl) : QF X (.Call (.Name "isinstance" p) [e, .Name "str" p2] [] pos) (fun ρ => ga ρ >>= dL (· == "str")) :=
  fC (T := "str") (· == "str") (fv fun K => ⟨rfl, rfl, rfl, rfl, rfl, rfl⟩) hg hm hg2 hm2 PyProof.Rows.Boot.«str» ha hs1
theorem mI (hm : X.mg "isinstance" = none) (ha : QF X e ga) (hm2 : X.mg "tuple" = none) (hg2 : Gl X "tuple" := by rfl) (hg : Gl X "isinstance" := by rfl) (hs1 : starEach [e, .Name "tuple" p2] X.env = (false, eval e X.env) :: starEach [.Name "tuple" p2] X.env := by rfl) : QF X (.Call (.Name "isinstance" p) [e, .Name "tuple" p2] [] pos) (fun ρ => ga ρ >>= dL (· == "tuple")) :=
  fC (T := "tuple") (· == "tuple") (fv fun K => ⟨rfl, rfl, rfl, rfl, rfl, rfl⟩) hg hm hg2 hm2 PyProof.Rows.Boot.«tuple» ha hs1
theorem oz (hm : X.mg "isinstance" = none) (ha : QF X e ga) (hm2 : X.mg "list" = none) (hg2 : Gl X "list" := by rfl) (hg : Gl X "isinstance" := by rfl) (hs1 : starEach [e, .Name "list" p2] X.env = (false, eval e X.env) :: starEach [.Name "list" p2] X.env := by rfl) : QF X (.Call (.Name "isinstance" p) [e, .Name "list" p2] [] pos) (fun ρ => ga ρ >>= dL (· == "list")) :=
  fC (T := "list") (· == "list") (fv fun K => ⟨rfl, rfl, rfl, rfl, rfl, rfl⟩) hg hm hg2 hm2 PyProof.Rows.Boot.«list» ha hs1
end
end L2
namespace L2
open PySem PySem.Spec PyProof.Rows
def bM (ga : Ev -> R D) : Ev -> O := fun ρ => (ga ρ).out ρ .rt
def aL (g1 g2 : Ev -> O) : Ev -> O := fun ρ => (g1 ρ).seq g2
def oIf (gt : Ev -> R Bool) (g1 g2 : Ev -> O) : Ev -> O := fun ρ => (gt ρ).out ρ fun k => if k = true then g1 ρ else g2 ρ
def oNx : Ev -> O := fun ρ => .nx ρ
def eJ (i : Nat) (ga : Ev -> R D) : Ev -> O := fun ρ => (ga ρ).out ρ fun d => .nx (ρ.set i (some (.val d)))
def wD (i : Nat) (gl : Ev -> R (List D)) : Ev -> O := fun ρ => (gl ρ).out ρ fun ds => .nx (ρ.set i (some (.own ds)))
def qo (ga : Ev -> R D) : Ev -> O := fun ρ => (ga ρ).out ρ fun _ => .nx ρ
def sD (asg : D -> Ev -> R Ev) (gi : Ev -> R (List D)) (g : Ev -> O) : Ev -> O := fun ρ => (gi ρ).out ρ fun items => cC asg g items ρ
def jl (C : Addr) (gl : Ev -> R (List D)) : Ev -> O := fun ρ => (gl ρ).out ρ fun _ => .ex C ρ
def D5 (asg : D -> Ev -> R Ev) (ga : Ev -> R D) : Ev -> O := fun ρ => (ga ρ).out ρ fun d => (asg d ρ).out ρ .nx
def vY (i : Nat) (g : Ev -> O) : Ev -> O := fun ρ => g (frz i ρ)
def aH {α β : Type} (f : α -> R β) (ga : Ev -> R α) : Ev -> R β := fun ρ => ga ρ >>= f
def gOf (f : List D -> Option D) (gl : Ev -> R (List D)) : Ev -> R D := fun ρ => gl ρ >>= fun ds => ofO (f ds)
def ac (ga : Ev -> R D) (gl : Ev -> R (List D)) : Ev -> R (List D) := fun ρ => ga ρ >>= fun x => gl ρ >>= fun xs => .ok (x :: xs)
def aM (n : Nat) (g : List D -> R D) (gl : Ev -> R (List D)) : Ev -> R D := fun ρ => gl ρ >>= fun ds => if ds.length = n then g ds else .no
def bh (gl : Ev -> R (List D)) : Ev -> R D := fun ρ => gl ρ >>= fun ds => .ok (.lst false ds)
def gD (gl : Ev -> R (List D)) : Ev -> R (List D) := fun ρ => gl ρ >>= fun ds => if ds.length <= sizeLine then .ok ds else .no
def gB2 (f : D -> D -> Option D) (ga gb : Ev -> R D) : Ev -> R Bool := fun ρ => g2 f ga gb ρ >>= asB
def gB3 (f f' : D -> D -> Option D) (ga gb gc : Ev -> R D) : Ev -> R Bool := fun ρ => g3 f f' ga gb gc ρ >>= asB
def gBn (gt : Ev -> R Bool) : Ev -> R Bool := fun ρ => gt ρ >>= fun k => .ok (!k)
def ce (ga : Ev -> R D) : Ev -> R (Option Int) := fun ρ => ga ρ >>= fun x => asI x >>= fun i => .ok (some i)
def eG (T : String) (f : D -> List D -> Option D) (ga : Ev -> R D) (gl : Ev -> R (List D)) : Ev -> R D := fun ρ => ga ρ >>= fun x => if gv T x = true then gl ρ >>= fun ds => ofO (f x ds) else .no
theorem Callee.mono {P : Program} {w : World} {K : PySem.W.Frag} {mg : Str -> Option Value} {base : Heap} {x : Str} {k n : Nat} {g : List D -> R D} (c : Callee P w K mg base x k n g) (k' : Nat) (h : k <= k' := by decide) : Callee P w K mg base x k' n g := by
  obtain ⟨f, fd, ps, F, hm, hk, hb, e⟩ := c.ex
  exact ⟨f, fd, ps, { F with run := fun A outer s H args us vs Q E hr => F.run A outer s H args us vs Q E (hr.mono h) }, hm, hk, hb, e⟩
section
variable {X : Cx} {st : Stmt} {de body sa sb : List Stmt} {e a b c o tg : Expr} {es : List Expr} {g gs1 gs2 : Ev -> O} {ga gb gc : Ev -> R D} {gt : Ev -> R Bool} {gl : Ev -> R (List D)} {pos p p2 : Pos} {x : Str}
theorem vv (h1 : QSF X st gs1) (h2 : jX X de gs2) : jX X (st :: de) (aL gs1 gs2) := mV h1 h2
theorem xp : jX X [] oNx := oE
theorem yG (he : QF X e ga) : QSF X (.Return (some e) pos) (bM ga) := qc he
theorem A9 (hc : QB X c gt) (ha : jX X sa gs1) (hb : jX X sb gs2) : QSF X (.If c sa sb pos) (oIf gt gs1 gs2) := ti hc ha hb
theorem nR (i : Nat) (hN : X.N.Nodup) (he : QF X e ga) (hi : X.N[i]? = some x := by rfl) (hx : Loc X.env.scope x := by first | exact Or.inl rfl | exact Or.inr rfl)
    (hs : swapsWithSole [.Name x p] e pos.line X.env = pure false := by rfl) (hw : swappedStores [.Name x p] e X.env = pure none := by rfl) (hf : X.fn x = true \/ X.env.scope.names.lookup x = some .local := by first | exact .inl rfl | exact .inr rfl) :
    QSF X (.Assign [.Name x p] e pos) (eJ i ga) := pO i hN he hi hx hs hw hf
theorem xo (i : Nat) (hN : X.N.Nodup) (he : QFL X e gl) (hi : X.N[i]? = some x := by rfl) (hx : Loc X.env.scope x := by first | exact Or.inl rfl | exact Or.inr rfl)
    (hs : swapsWithSole [.Name x p] e pos.line X.env = pure false := by rfl) (hw : swappedStores [.Name x p] e X.env = pure none := by rfl) (hf : X.fn x = true \/ X.env.scope.names.lookup x = some .local := by first | exact .inl rfl | exact .inr rfl) :
    QSF X (.Assign [.Name x p] e pos) (wD i gl) := qr i hN he hi hx hs hw hf
theorem vy (he : QF X e ga) (hs : swapsWith e none pos.line X.env = pure false := by rfl) : QSF X (.Expr e pos) (qo ga) := ou he hs
theorem za {iter : Expr} {gi : Ev -> R (List D)} {asg : D -> Ev -> R Ev} (hp : PassesOwn (model X.prog X.w) X.A X.env X.xe) (hcalm : X.calm = true) (hi : QIF X tg iter gi) (hg : PGF X tg asg) (hb : jX X body g)
    (hs : ∀ x, foldedSetIterable iter X.env x = pure x := by intro _; rfl) (hn : ∀ d ρ C, asg d ρ ≠ .ex C := by intro _ _ _ z; cases z) : QSF X (.For tg iter body [] pos) (sD asg gi g) := qe hp hcalm hi hg hb hs hn
theorem xb (hg : Gl X "len") (hm : X.mg "len" = none) (ha : QFA X [e] gl) (he : starEach [e] X.env = [(false, eval e X.env)] := by rfl) : QF X (.Call (.Name "len" p) [e] [] pos) (gOf iK gl) := uI hg hm ha he
theorem wZ (hc : X.calm = true) (hg : Gl X "all") (hm : X.mg "all" = none) (ha : QFA X [e] gl) (he : starEach [e] X.env = [(false, eval e X.env)] := by rfl) : QF X (.Call (.Name "all" p) [e] [] pos) (gOf wM gl) := vi hc hg hm ha he
theorem mM (ha : QF X e ga) (hr : QFA X es gl) (hs : starEach (e :: es) X.env = (false, eval e X.env) :: starEach es X.env := by rfl) : QFA X (e :: es) (ac ga gl) := pQ ha hr hs
theorem vK {k n : Nat} {f : List D -> R D} (c : Callee X.prog X.w X.K X.mg X.base x k n f) (hr : Room k X.A) (ha : QFA X (e :: es) gl) (hg : Gl X x := by rfl)
    (hdb : (x == ("__debug__" : Str)) = false := by decide) (he : starEach (e :: es) X.env = (false, eval e X.env) :: starEach es X.env := by rfl) (hpl : (backTo pos (starEach es X.env)).any (·.1) = false := by rfl) :
    QF X (.Call (.Name x p) (e :: es) [] pos) (aM n f gl) := qx c hr ha hg hdb he hpl
theorem uY {gens : List Comprehension} {sc : Scope} (h : QFL X (.ListComp e gens sc pos) gl) : QF X (.ListComp e gens sc pos) (bh gl) := kw h
theorem uy (h : QFL X (.List es pos) gl) : QF X (.List es pos) (bh gl) := kw h
theorem xS (h : QFA X es gl) : QFL X (.List es pos) (gD gl) := td h
theorem yD {k : Nat} (h : QFA X es gl) : QF X (.Tuple es k pos) (aH mkT gl) := uM h
theorem xH (ha : QF X a ga) : QF X (.UnaryOp .USub a pos) (aH qA ga) := vN ha
theorem rk (hm : X.mg "isinstance" = none) (ha : QF X e ga) (hm2 : X.mg "int" = none) (hg2 : Gl X "int" := by rfl) (hg : Gl X "isinstance" := by rfl) (hs1 : starEach [e, .Name "int" p2] X.env = (false, eval e X.env) :: starEach [.Name "int" p2] X.env := by rfl) : QF X (.Call (.Name "isinstance" p) [e, .Name "int" p2] [] pos) (aH (dL isInt) ga) := pU hm ha hm2 hg2 hg hs1
theorem qb (hm : X.mg "isinstance" = none) (ha : QF X e ga) (hm2 : X.mg "bool" = none) (hg2 : Gl X "bool" := by rfl) (hg : Gl X "isinstance" := by rfl) (hs1 : starEach [e, .Name "bool" p2] X.env = (false, eval e X.env) :: starEach [.Name "bool" p2] X.env := by rfl) : QF X (.Call (.Name "isinstance" p) [e, .Name "bool" p2] [] pos) (aH (dL (· == "bool")) ga) := nc hm ha hm2 hg2 hg hs1
theorem tq (hm : X.mg "isinstance" = none) (ha : QF X e ga) (hm2 : X.mg "str" = none) (hg2 : Gl X "str" := by rfl) (hg : Gl X "isinstance" := by rfl) (hs1 : starEach [e, .Name "str" p2] X.env = (false, eval e X.env) :: starEach [.Name "str" p2] X.env := by rfl) : QF X (.Call (.Name "isinstance" p) [e, .Name "str" p2] [] pos) (aH (dL (· == "str")) ga) := pT hm ha hm2 hg2 hg hs1
theorem nq (hm : X.mg "isinstance" = none) (ha : QF X e ga) (hm2 : X.mg "tuple" = none) (hg2 : Gl X "tuple" := by rfl) (hg : Gl X "isinstance" := by rfl) (hs1 : starEach [e, .Name "tuple" p2] X.env = (false, eval e X.env) :: starEach [.Name "tuple" p2] X.env := by rfl) : QF X (.Call (.Name "isinstance" p) [e, .Name "tuple" p2] [] pos) (aH (dL (· == "tuple")) ga) := mI hm ha hm2 hg2 hg hs1
theorem tQ (h : QF X e ga) : QFO X (some e) (ce ga) := qw h
theorem xK (ha : QF X a ga) (hb : QF X b gb) : QB X (.Compare a [.Lt] [b] pos) (gB2 ltD ga gb) := yV ha hb
theorem xy (ha : QF X a ga) (hb : QF X b gb) : QB X (.Compare a [.Gt] [b] pos) (gB2 gtD ga gb) := yU ha hb
theorem xR (hu : X.A.units + 64 < cLine) (ha : QF X a ga) (hb : QF X b gb) : QB X (.Compare a [.Eq] [b] pos) (gB2 eqF ga gb) := yO hu ha hb
theorem xw (hu : X.A.units + 64 < cLine) (ha : QF X a ga) (hb : QF X b gb) : QB X (.Compare a [.NotEq] [b] pos) (gB2 neF ga gb) := yq hu ha hb
theorem xD (ha : QF X a ga) (hb : QF X b gb) : QB X (.Compare a [.Is] [b] pos) (gB2 isF ga gb) := xI ha hb
theorem rW (ha : QF X a ga) (hb : QF X b gb) (hc : QF X c gc) (hm : lastMarks [.LtE, .LtE] [b, c] = false := by with_unfolding_all rfl) : QB X (.Compare a [.LtE, .LtE] [b, c] pos) (gB3 leD leD ga gb gc) := rG ha hb hc hm
theorem vf (ha : QB X a gt) : QB X (.UnaryOp .Not a pos) (gBn gt) := tV ha
theorem uD (h : QF X (.Call a es [] pos) ga) : QB X (.Call a es [] pos) (aH iu ga) := vb h
theorem yT {op : BoolOp} (h : QBW X (.BoolOp op es pos) gt) : QB X (.BoolOp op es pos) gt := fun pins s σ H Q I q => h _ pins s σ H Q I q
theorem um (ha : QF X a ga) : QIF X tg a (aH bn ga) := qS ha
theorem qp (hg : Gl X "range") (hm : X.mg "range" = none) (ha : QFA X [a] gl) (hs : starEach [a] X.env = [(false, eval a X.env)] := by rfl) : QIF X tg (.Call (.Name "range" p) [a] [] pos) (aH cy gl) := mB hg hm ha hs
end
end L2
namespace L2
open PySem PySem.Spec PyProof.Rows
@[simp] theorem R.ok_out {α : Type} (a : α) (ρ : Ev) (k : α -> O) : (R.ok a).out ρ k = k a := rfl
@[simp] theorem R.ex_out {α : Type} (C : Addr) (ρ : Ev) (k : α -> O) : (R.ex C : R α).out ρ k = .ex C ρ := rfl
@[simp] theorem nV {α : Type} (a : α) : gI (R.ok a) = R.ok a := rfl
theorem gH {gt : Ev -> R Bool} {ge : Ev -> R D} (p : D -> Bool) (h : D -> D) (tl : Ev) : ∀ (ds : List D) (a : Option Sl), (∀ d ∈ ds, gt (some (.val d) :: tl) = .ok (p d) /\ (p d = true -> ge (some (.val d) :: tl) = .ok (h d))) -> fi gt ge ds (a :: tl) = .ok ((ds.filter p).map h)
  | [], a, _ => rfl
  | d :: ds, a, H => by
    have ih := gH p h tl ds (some (.val d)) fun x m => H x (List.mem_cons_of_mem _ m)
    obtain ⟨e1, e2⟩ := H d (List.mem_cons_self ..)
    show (gI (gt (some (.val d) :: tl)) >>= fun k => if k = true then gI (ge (some (.val d) :: tl)) >>= fun x => fi gt ge ds (some (.val d) :: tl) >>= fun xs => .ok (x :: xs) else fi gt ge ds (some (.val d) :: tl)) = _
    rw [e1, nV, R.ok_bind, ih]
    cases q : p d with
    | true => rw [if_pos rfl, e2 q, nV, R.ok_bind, R.ok_bind, List.filter_cons_of_pos q]; rfl
    | false => rw [if_neg Bool.false_ne_true, List.filter_cons_of_neg (by rw [q]; exact Bool.false_ne_true)]
theorem dH {gt : Ev -> R Bool} {ge : Ev -> R D} (h : D -> D) (tl : Ev) (ds : List D) (a : Option Sl) (H : ∀ d ∈ ds, gt (some (.val d) :: tl) = .ok true /\ ge (some (.val d) :: tl) = .ok (h d)) : fi gt ge ds (a :: tl) = .ok (ds.map h) := by
  rw [gH (fun _ => true) h tl ds a fun d m => ⟨(H d m).1, fun _ => (H d m).2⟩, List.filter_eq_self.2 fun _ _ => rfl]
theorem pj (f : D -> Bool) : ∀ ds : List D, oW (ds.map fun d => .bl (f d)) = some (ds.map f)
  | [] => rfl
  | d :: ds => by
    have ih := pj f ds
    rw [List.map_cons, List.map_cons]
    unfold oW
    first | (rw [ih]; rfl) | (simp only [ih]; rfl) | simp [ih]
theorem kX (f : D -> Bool) (k : Bool) (ds : List D) : wM [.lst k (ds.map fun d => .bl (f d))] = some (.bl (ds.all f)) := by
  show (oW (ds.map fun d => .bl (f d))).map _ = _
  rw [pj]
  show some (D.bl ((ds.map f).all id)) = _
  rw [List.all_map]; rfl
theorem sj (a b : Nat) : (!decide (([b] : List Nat) < [a])) = decide (a <= b) := by
  have : (([b] : List Nat) < [a]) ↔ b < a := by
    constructor
    . intro h
      cases h with
      | rel h => exact h
      | cons h => cases h
    . intro h; exact .rel h
  by_cases h : a <= b
  . have h2 : ¬ ([b] : List Nat) < [a] := fun q => by have := this.1 q; omega
    simp [h, h2]
  . have h2 : ([b] : List Nat) < [a] := this.2 (by omega)
    simp [h, h2]
theorem eA {X : Cx} {scope : Scope} {x : Str} {N' : List Str} {ix : List Nat} (hk : scope.kind = .function := by rfl)
    (h1 : (∀ y ∈ scope.names, y.2 ≠ .cell) /\ (∀ y ∈ scope.names, y.2 = .local -> scope.names.lookup y.1 = some .local) /\ scope.names.lookup x = some .local /\ (∀ y ∈ scope.names, y.2 = .free -> y.1 ∈ N'.tail) /\ N'.Nodup /\ N'[0]? = some x /\
      ∀ y ∈ N'.tail, scope.names.lookup y = some .free /\ (y, NameKind.free) ∈ scope.names := by decide +kernel)
    (h2 : N'.tail.map X.env.kindOf = N'.tail.map fun _ => some NameKind.cell := by rfl) (h3 : N'.tail = ix.map (fun (i : Nat) => X.N.getD i Str.empty) := by rfl) (h4 : ix.all (fun i => decide (i < X.N.length)) = true := by rfl) : CompOk X scope x N' ix := by
  obtain ⟨a, b, c, d, e, f, g⟩ := h1
  refine ⟨hk, a, b, c, fun y hy h => ?_, e, f, h3, fun i hi => ?_, g⟩
  . exact List.map_inj_left.1 h2 _ (d y hy h)
  . exact of_decide_eq_true (List.all_eq_true.1 h4 i hi)
theorem rd0 (d : D) (ρ : Ev) : rdV (some (.val d) :: ρ) 0 = .ok d := rfl
theorem rd1 (a0 : Option Sl) (d : D) (ρ : Ev) : rdV (a0 :: some (.val d) :: ρ) 1 = .ok d := rfl
theorem rd2 (a0 a1 : Option Sl) (d : D) (ρ : Ev) : rdV (a0 :: a1 :: some (.val d) :: ρ) 2 = .ok d := rfl
theorem rd3 (a0 a1 a2 : Option Sl) (d : D) (ρ : Ev) : rdV (a0 :: a1 :: a2 :: some (.val d) :: ρ) 3 = .ok d := rfl
theorem rd4 (a0 a1 a2 a3 : Option Sl) (d : D) (ρ : Ev) : rdV (a0 :: a1 :: a2 :: a3 :: some (.val d) :: ρ) 4 = .ok d := rfl
theorem rd5 (a0 a1 a2 a3 a4 : Option Sl) (d : D) (ρ : Ev) : rdV (a0 :: a1 :: a2 :: a3 :: a4 :: some (.val d) :: ρ) 5 = .ok d := rfl
theorem rd6 (a0 a1 a2 a3 a4 a5 : Option Sl) (d : D) (ρ : Ev) : rdV (a0 :: a1 :: a2 :: a3 :: a4 :: a5 :: some (.val d) :: ρ) 6 = .ok d := rfl
section
variable {f : List D -> R D} {ga gb gc gd : Ev -> R D} {ρ : Ev}
theorem Af : aM 1 f (ac ga fun _ => .ok []) ρ = ga ρ >>= fun x => f [x] := by
  unfold aM ac
  cases ga ρ <;> rfl
theorem wy : aM 2 f (ac ga (ac gb fun _ => .ok [])) ρ = ga ρ >>= fun x => gb ρ >>= fun y => f [x, y] := by
  unfold aM ac
  cases ga ρ <;> try rfl
  simp only [ac, R.ok_bind]
  cases gb ρ <;> rfl
theorem AX : aM 3 f (ac ga (ac gb (ac gc fun _ => .ok []))) ρ = ga ρ >>= fun x => gb ρ >>= fun y => gc ρ >>= fun z => f [x, y, z] := by
  unfold aM ac
  cases ga ρ <;> try rfl
  simp only [ac, R.ok_bind]
  cases gb ρ <;> try rfl
  simp only [R.ok_bind]
  cases gc ρ <;> rfl
end
def At (N : List Str) (i : Nat) (x : Str) : Prop := N[i]? = some x
theorem at0 {x : Str} {l : List Str} : At (x :: l) 0 x := rfl
theorem at1 {x : Str} {l : List Str} {y0 : Str} : At (y0 :: x :: l) 1 x := rfl
theorem at2 {x : Str} {l : List Str} {y0 y1 : Str} : At (y0 :: y1 :: x :: l) 2 x := rfl
theorem at3 {x : Str} {l : List Str} {y0 y1 y2 : Str} : At (y0 :: y1 :: y2 :: x :: l) 3 x := rfl
theorem at4 {x : Str} {l : List Str} {y0 y1 y2 y3 : Str} : At (y0 :: y1 :: y2 :: y3 :: x :: l) 4 x := rfl
theorem at5 {x : Str} {l : List Str} {y0 y1 y2 y3 y4 : Str} : At (y0 :: y1 :: y2 :: y3 :: y4 :: x :: l) 5 x := rfl
theorem at6 {x : Str} {l : List Str} {y0 y1 y2 y3 y4 y5 : Str} : At (y0 :: y1 :: y2 :: y3 :: y4 :: y5 :: x :: l) 6 x := rfl
theorem at7 {x : Str} {l : List Str} {y0 y1 y2 y3 y4 y5 y6 : Str} : At (y0 :: y1 :: y2 :: y3 :: y4 :: y5 :: y6 :: x :: l) 7 x := rfl
theorem at8 {x : Str} {l : List Str} {y0 y1 y2 y3 y4 y5 y6 y7 : Str} : At (y0 :: y1 :: y2 :: y3 :: y4 :: y5 :: y6 :: y7 :: x :: l) 8 x := rfl
theorem at9 {x : Str} {l : List Str} {y0 y1 y2 y3 y4 y5 y6 y7 y8 : Str} : At (y0 :: y1 :: y2 :: y3 :: y4 :: y5 :: y6 :: y7 :: y8 :: x :: l) 9 x := rfl
theorem C2 {x : Str} {l : List Str} {y0 y1 y2 y3 y4 y5 y6 y7 y8 y9 : Str} : At (y0 :: y1 :: y2 :: y3 :: y4 :: y5 :: y6 :: y7 :: y8 :: y9 :: x :: l) 10 x := rfl
section
variable {X : Cx} {N : List Str} {i : Nat} {x : Str} {pos : Pos}
theorem xE {CX : CXT} {P : Program} {w : World} {K : PySem.W.Frag} {mg : Str -> Option Value} {base : Heap} {qual : Str} {scope : Scope} {f : Addr} {cdv : Value} {A : Around} {outer : List Env} {s : Shared} {H : Hp} {E : XK} (h : At N i x)
    (hv : Vis (bP CX P w K mg base N qual scope f cdv A outer s H E).env.scope x := by first | exact Or.inl rfl | exact Or.inr (Or.inl rfl) | exact Or.inr (Or.inr rfl)) (hd : (x == ("__debug__" : Str)) = false := by decide)
    (hcd : (x == ("__classdict__" : Str)) = false := by decide) : QF (bP CX P w K mg base N qual scope f cdv A outer s H E) (.Name x pos) (fun ρ => rdV ρ i) := gL i h hv hd hcd
theorem vI {scope : Scope} {C : Addr} {s₂ : Shared} {H₂ : Hp} {fp : List Addr} (h : At N i x)
    (hv : Vis (bd X N scope C s₂ H₂ fp).env.scope x := by first | exact Or.inl rfl | exact Or.inr (Or.inl rfl) | exact Or.inr (Or.inr rfl)) (hd : (x == ("__debug__" : Str)) = false := by decide)
    (hcd : (x == ("__classdict__" : Str)) = false := by decide) : QF (bd X N scope C s₂ H₂ fp) (.Name x pos) (fun ρ => rdV ρ i) := gL i h hv hd hcd
theorem xg {CX : CXT} {P : Program} {w : World} {K : PySem.W.Frag} {mg : Str -> Option Value} {base : Heap} {qual : Str} {scope : Scope} {f : Addr} {cdv : Value} {A : Around} {outer : List Env} {s : Shared} {H : Hp} {E : XK} {e : Expr} {p : Pos} {ga : Ev -> R D} (h : At N i x) (hN : N.Nodup)
    (he : QF (bP CX P w K mg base N qual scope f cdv A outer s H E) e ga) (hx : Loc (bP CX P w K mg base N qual scope f cdv A outer s H E).env.scope x := by first | exact Or.inl rfl | exact Or.inr rfl)
    (hs : swapsWithSole [.Name x p] e pos.line (bP CX P w K mg base N qual scope f cdv A outer s H E).env = pure false := by rfl) (hw : swappedStores [.Name x p] e (bP CX P w K mg base N qual scope f cdv A outer s H E).env = pure none := by rfl)
    (hf : (bP CX P w K mg base N qual scope f cdv A outer s H E).fn x = true \/ (bP CX P w K mg base N qual scope f cdv A outer s H E).env.scope.names.lookup x = some .local := by first | exact .inl rfl | exact .inr rfl) :
    QSF (bP CX P w K mg base N qual scope f cdv A outer s H E) (.Assign [.Name x p] e pos) (eJ i ga) := nR i hN he h hx hs hw hf
end
end L2
namespace L2
open PySem PySem.Spec PyProof.Rows
theorem xA {ga : Ev -> R D} {ρ : Ev} {ds : List D} (h : ac ga (fun _ => .ok []) ρ = .ok ds) : ds.length <= 1 := by
  unfold ac at h
  cases e : ga ρ with
  | ok x => rw [e] at h; cases h; exact Nat.le_refl _
  | ex C => rw [e] at h; cases h
  | no => rw [e] at h; cases h
structure Ref (x : Str) (C : Addr) (mg : Str -> Option Value) (base : Heap) : Prop where
  ex : ∃ bm B newId initId, OwnCls x C bm newId mg base /\ ExcBaseFacts B newId initId bm
theorem rX {X : Cx} {x : Str} {C : Addr} {e : Expr} {ga : Ev -> R D} {np cp pos : Pos} (r : Ref x C X.mg X.base) (hh : X.A.handled = none) (ha : QF X e ga) (hg : Gl X x := by rfl)
    (hdb : (x == ("__debug__" : Str)) = false := by decide) (hs : starEach [e] X.env = (false, eval e X.env) :: starEach [] X.env := by rfl) :
    QSF X (.Raise (some (.Call (.Name x np) [e] [] cp)) none pos) (jl C (ac ga fun _ => .ok [])) := by
  obtain ⟨bm, B, newId, initId, Oc, FB⟩ := r.ex
  exact lX Oc FB hh hg (mM ha lW hs) hdb hs (fun ρ ds h => xA h)
section
variable {X : Cx} {elt iter : Expr} {ifs : List Expr} {x : Str} {px pos : Pos} {scope : Scope} {N' : List Str} {ix : List Nat} {gi : Ev -> R (List D)} {gt : Ev -> R Bool} {ge : Ev -> R D}
end
theorem Fun.noF {P : Program} {w : World} {K : PySem.W.Frag} {mg : Str -> Option Value} {base : Heap} {x qual : Str} {st : Stmt} {f : Addr} {fd : FuncData} {N ps : List Str} {k : Nat} (F : Fun K x qual st f fd) (S : FnScope N ps (aI st)) : FnF P w K mg base (k + 1) f fd ps (fun _ => .no) := by
  obtain ⟨oc, od, kV, doc, pm, an, cdv, ct, osl, rfl, lk, hcd⟩ := F.ex
  refine zP lk hcd S (fun vs H Q E h => h.1) fun A outer s H vs Q E hr hsp => ?_
  obtain ⟨hl, G, ds, sub, r, h⟩ := hsp
  exact h.elim
def wF (i : Nat) (ga : Ev -> R D) : Ev -> O := fun ρ => (ownAt ρ i).out ρ fun ds => (ga ρ).out ρ fun d => (asL d).out ρ fun es => if ds.length + es.length <= sizeLine then .nx (ρ.set i (some (.own (ds ++ es)))) else .no
def Bv (i : Nat) (ga : Ev -> R D) : Ev -> O := fun ρ => (ownAt ρ i).out ρ fun ds => (ga ρ).out ρ fun d => if ds.length < sizeLine then .nx (ρ.set i (some (.own (ds ++ [d])))) else .no
def Dw (i j : Nat) (gl : Ev -> R (List D)) : Ev -> O := fun ρ => (gl ρ).out ρ fun ds => (vr [i, j] ds ρ).out ρ .nx
section
variable {X : Cx} {st : Stmt} {de body : List Stmt} {e c o : Expr} {es : List Expr} {g : Ev -> O} {ga : Ev -> R D} {gl : Ev -> R (List D)} {pos p p2 : Pos}
theorem qj (i : Nat) {x : Str} {p ap cp : Pos} (he : QF X e ga) (hi : X.N[i]? = some x := by rfl) (hv : Vis X.env.scope x := by first | exact Or.inl rfl | exact Or.inr (Or.inl rfl))
    (hd : (x == ("__debug__" : Str)) = false := by decide) (hcd : (x == ("__classdict__" : Str)) = false := by decide) (hs1 : starEach [e] X.env = (false, eval e X.env) :: starEach [] X.env := by rfl)
    (hbase : attributeBase (.Name x p) "extend" X.env (eval (.Name x p) X.env) = eval (.Name x p) X.env := by rfl)
    (hfew : ((backTo cp (starEach [e] X.env)).all (fun x => !x.1) && (backToKw cp (keywordEach [] X.env)).all (fun x => x.1.isSome)
      && decide ([e].length + ([] : List Keyword).length + (if ([] : List Keyword).isEmpty then 0 else 1) < 30)) = true := by rfl)
    (hline : (ap.endLine == cp.line) = true := by rfl)
    (hs : swapsWith (.Call (.Attribute (.Name x p) "extend" ap) [e] [] cp) none pos.line X.env = pure false := by rfl) :
    QSF X (.Expr (.Call (.Attribute (.Name x p) "extend" ap) [e] [] cp) pos) (wF i ga) := lg i he hi hv hd hcd hs1 hbase hfew hline hs
theorem pX (i : Nat) {x : Str} {p ap cp : Pos} (he : QF X e ga) (hi : X.N[i]? = some x := by rfl) (hv : Vis X.env.scope x := by first | exact Or.inl rfl | exact Or.inr (Or.inl rfl))
    (hd : (x == ("__debug__" : Str)) = false := by decide) (hcd : (x == ("__classdict__" : Str)) = false := by decide) (hs1 : starEach [e] X.env = (false, eval e X.env) :: starEach [] X.env := by rfl)
    (hbase : attributeBase (.Name x p) "append" X.env (eval (.Name x p) X.env) = eval (.Name x p) X.env := by rfl)
    (hfew : ((backTo cp (starEach [e] X.env)).all (fun x => !x.1) && (backToKw cp (keywordEach [] X.env)).all (fun x => x.1.isSome)
      && decide ([e].length + ([] : List Keyword).length + (if ([] : List Keyword).isEmpty then 0 else 1) < 30)) = true := by rfl)
    (hline : (ap.endLine == cp.line) = true := by rfl)
    (hs : swapsWith (.Call (.Attribute (.Name x p) "append" ap) [e] [] cp) none pos.line X.env = pure false := by rfl) :
    QSF X (.Expr (.Call (.Attribute (.Name x p) "append" ap) [e] [] cp) pos) (Bv i ga) := lQ i he hi hv hd hcd hs1 hbase hfew hline hs
theorem xh {sts : List Stmt} (i : Nat) (h : jX X sts g) : jX X sts (vY i g) := nl i h
theorem qK {ap cp : Pos} (ho : QF X o ga) (ha : QFA X [e] gl) (hbase : attributeBase o "count" X.env (eval o X.env) = eval o X.env := by rfl)
    (hfew : ((backTo cp (starEach [e] X.env)).all (fun x => !x.1) && (backToKw cp (keywordEach [] X.env)).all (fun x => x.1.isSome)
      && decide ([e].length + ([] : List Keyword).length + (if ([] : List Keyword).isEmpty then 0 else 1) < 30)) = true := by rfl)
    (hline : (ap.endLine == cp.line) = true := by rfl) (hs : starEach [e] X.env = (false, eval e X.env) :: starEach [] X.env := by rfl) :
    QF X (.Call (.Attribute o "count" ap) [e] [] cp) (eG "list" iv ga gl) := qy ho ha hbase hfew hline hs
theorem ss {ap cp : Pos} (ho : QF X o ga) (ha : QFA X [e] gl) (hbase : attributeBase o "index" X.env (eval o X.env) = eval o X.env := by rfl)
    (hfew : ((backTo cp (starEach [e] X.env)).all (fun x => !x.1) && (backToKw cp (keywordEach [] X.env)).all (fun x => x.1.isSome)
      && decide ([e].length + ([] : List Keyword).length + (if ([] : List Keyword).isEmpty then 0 else 1) < 30)) = true := by rfl)
    (hline : (ap.endLine == cp.line) = true := by rfl) (hs : starEach [e] X.env = (false, eval e X.env) :: starEach [] X.env := by rfl) :
    QF X (.Call (.Attribute o "index" ap) [e] [] cp) (eG "list" iq ga gl) := pP ho ha hbase hfew hline hs
end
structure Errs (K : PySem.W.Frag) (mg : Str -> Option Value) (rs : List Addr) (ts : List (Str × Addr)) : Prop where
  na : ∀ t ∈ ts, mg t.1 = some (.ref t.2)
  ec : ∀ r ∈ rs, ExcCls K r
  kit : ∀ r ∈ rs, ∀ t ∈ ts, PySem.W.kitOne K (.ref r) (.ref t.2) = some (r == t.2)
  ve : ∀ r ∈ rs, PySem.W.kitOne K (.ref r) (.type "ValueError") = some true
  le : ∃ L, mg "LineError" = some (.ref L) /\ ∀ r ∈ rs, PySem.W.exmOne K (.ref r) (.ref L) = some true
def oa (rs : List Addr) (T C : Addr) : Option Bool := if C ∈ rs then some (C == T) else none
def mz (rs : List Addr) (C : Addr) : Option Bool := if C ∈ rs then some true else none
section
variable {X : Cx} {e : Expr} {ga : Ev -> R D} {p p2 pos : Pos} {rs : List Addr} {ts : List (Str × Addr)}
theorem tf {y : Str} {T : Addr} (Er : Errs X.K X.mg rs ts) (hy : (y, T) ∈ ts) (hm : X.mg "isinstance" = none) (ha : QF X e ga) (hg : Gl X "isinstance" := by rfl) (hg2 : Gl X y := by rfl) (hd : (y == ("__debug__" : Str)) = false := by decide)
    (hs1 : starEach [e, .Name y p2] X.env = (false, eval e X.env) :: starEach [.Name y p2] X.env := by rfl) : QF X (.Call (.Name "isinstance" p) [e, .Name y p2] [] pos) (aH (jE (oa rs T)) ga) := by
  refine mv (v2 := .ref T) (u2 := .ref T) (oa rs T) (fun C b h => ?_) hg hm (hW hg2 (Er.na _ hy) rfl hd) rfl (fun u h => h) ha hs1
  unfold oa at h
  split at h
  . rename_i hC
    cases h
    exact ⟨Er.ec _ hC, Er.kit _ hC _ hy⟩
  . cases h
end
section
variable {X : Cx} {e : Expr} {ga : Ev -> R D} {p p2 pos : Pos} {rs : List Addr} {ts : List (Str × Addr)}
theorem uO (Er : Errs X.K X.mg rs ts) (hm : X.mg "isinstance" = none) (hm2 : X.mg "ValueError" = none) (ha : QF X e ga) (hg : Gl X "isinstance" := by rfl) (hg2 : Gl X "ValueError" := by rfl)
    (hs1 : starEach [e, .Name "ValueError" p2] X.env = (false, eval e X.env) :: starEach [.Name "ValueError" p2] X.env := by rfl) : QF X (.Call (.Name "isinstance" p) [e, .Name "ValueError" p2] [] pos) (aH (jE (mz rs)) ga) := by
  refine mv (v2 := .ty "ValueError") (u2 := .type "ValueError") (mz rs) (fun C b h => ?_) hg hm (rE hg2 hm2 rfl rfl) rfl (fun u h => h) ha hs1
  unfold mz at h
  split at h
  . rename_i hC
    cases h
    exact ⟨Er.ec _ hC, Er.ve _ hC⟩
  . cases h
end
section
variable {CX : CXT} {P : Program} {w : World} {K : PySem.W.Frag} {mg : Str -> Option Value} {base : Heap} {N : List Str} {i : Nat} {x : Str} {qual : Str} {scope : Scope} {f a : Addr} {cdv : Value} {A : Around} {outer : List Env} {s : Shared} {H : Hp} {E : XK} {pn : List (Addr × Obj)} {xe : Value -> Shared -> Prop} {pos p : Pos} {e : Expr} {ga : Ev -> R D}
theorem vg (h : At N i x) (hv : Vis (bP CX P w K mg base N qual scope f cdv A outer s H E).env.scope x := by first | exact Or.inl rfl | exact Or.inr (Or.inl rfl) | exact Or.inr (Or.inr rfl)) (hd : (x == ("__debug__" : Str)) = false := by decide)
    (hcd : (x == ("__classdict__" : Str)) = false := by decide) : QF (iG (bP CX P w K mg base N qual scope f cdv A outer s H E) pn xe) (.Name x pos) (fun ρ => rdV ρ i) := gL i h hv hd hcd
theorem uq (h : At N i x) (hv : Vis (bP CX P w K mg base N qual scope f cdv A outer s H E).env.scope x := by first | exact Or.inl rfl | exact Or.inr (Or.inl rfl) | exact Or.inr (Or.inr rfl)) (hd : (x == ("__debug__" : Str)) = false := by decide)
    (hcd : (x == ("__classdict__" : Str)) = false := by decide) : QF (ie (bP CX P w K mg base N qual scope f cdv A outer s H E) a xe) (.Name x pos) (fun ρ => rdV ρ i) := gL i h hv hd hcd
theorem tJ (h : At N i x) (hN : N.Nodup) (he : QF (iG (bP CX P w K mg base N qual scope f cdv A outer s H E) pn xe) e ga) (hx : Loc (bP CX P w K mg base N qual scope f cdv A outer s H E).env.scope x := by first | exact Or.inl rfl | exact Or.inr rfl)
    (hs : swapsWithSole [.Name x p] e pos.line (bP CX P w K mg base N qual scope f cdv A outer s H E).env = pure false := by rfl) (hw : swappedStores [.Name x p] e (bP CX P w K mg base N qual scope f cdv A outer s H E).env = pure none := by rfl)
    (hf : (bP CX P w K mg base N qual scope f cdv A outer s H E).fn x = true \/ (bP CX P w K mg base N qual scope f cdv A outer s H E).env.scope.names.lookup x = some .local := by first | exact .inl rfl | exact .inr rfl) :
    QSF (iG (bP CX P w K mg base N qual scope f cdv A outer s H E) pn xe) (.Assign [.Name x p] e pos) (eJ i ga) := nR i hN he h hx hs hw hf
theorem tW (h : At N i x) (hN : N.Nodup) (he : QF (ie (bP CX P w K mg base N qual scope f cdv A outer s H E) a xe) e ga) (hx : Loc (bP CX P w K mg base N qual scope f cdv A outer s H E).env.scope x := by first | exact Or.inl rfl | exact Or.inr rfl)
    (hs : swapsWithSole [.Name x p] e pos.line (bP CX P w K mg base N qual scope f cdv A outer s H E).env = pure false := by rfl) (hw : swappedStores [.Name x p] e (bP CX P w K mg base N qual scope f cdv A outer s H E).env = pure none := by rfl)
    (hf : (bP CX P w K mg base N qual scope f cdv A outer s H E).fn x = true \/ (bP CX P w K mg base N qual scope f cdv A outer s H E).env.scope.names.lookup x = some .local := by first | exact .inl rfl | exact .inr rfl) :
    QSF (ie (bP CX P w K mg base N qual scope f cdv A outer s H E) a xe) (.Assign [.Name x p] e pos) (eJ i ga) := nR i hN he h hx hs hw hf
end
section
variable {X : Cx} {body suite : List Stmt} {b₀ : Stmt} {gb gs : Ev -> O} {pos hp tp : Pos} {nm : Str} {rs : List Addr} {ts : List (Str × Addr)}
theorem yf (i : Nat) (Er : Errs X.K X.mg rs ts) (hN : X.N.Nodup) (hcalm : X.calm = true) (hst : X.stack = X.env :: X.outer) (hfr : X.env.frame = some X.env.locals) (hkd : X.env.scope.kind = .function)
    (hb : ∀ pn xe, jX (iG X pn xe) body gb) (hh : ∀ a xe, jX (ie X a xe) (b₀ :: suite) gs) (hg : Gl X "LineError" := by rfl) (hi : X.N[i]? = some nm := by rfl) (hx : X.env.scope.names.lookup nm = some .local := by rfl) :
    QSF X (.Try body [.ExceptHandler (some (.Name "LineError" tp)) (some nm) (b₀ :: suite) hp] [] [] pos) (wX gb gs (mz rs) i) := by
  obtain ⟨L, hL, hk⟩ := Er.le
  refine qi i (mz rs) hN hcalm hst hfr hkd hb hh (fun C h => ?_) hg hL hi hx
  unfold mz at h
  split at h
  . rename_i hC; exact hk C hC
  . cases h
end
end L2
namespace L2
open PySem PySem.Spec PyProof.Rows
def fl : Nat -> D -> Bool
  | 0, _ => false
  | n + 1, .tup xs => xs.all (fl n)
  | _ + 1, .lst _ _ => false
  | _ + 1, .exc _ => false
  | _ + 1, _ => true
theorem rj {K : PySem.W.Frag} {G G2 : Hp} {n : Nat} (ih : ∀ v d, fl n d = true -> Rep K G v d -> Rep K G2 v d) : ∀ {vs : List V} {ds : List D}, ds.all (fl n) = true -> Reps K G vs ds -> Reps K G2 vs ds
  | _, _, _, .nil => .nil
  | _, _, h, .cons r t => by
    rw [List.all_cons, Bool.and_eq_true] at h
    exact .cons (ih _ _ h.1 r) (rj ih h.2 t)
theorem wA {K : PySem.W.Frag} {G G2 : Hp} (h : ∀ a o, G a = some o -> (∀ vs, o ≠ HO.lst vs) -> G2 a = some o) : ∀ (n : Nat) (v : V) (d : D), fl n d = true -> Rep K G v d -> Rep K G2 v d
  | 0, _, _, hf, _ => by simp [fl] at hf
  | n + 1, v, d, hf, r => by
    cases r with
    | non => exact .non
    | bl b => exact .bl b
    | int i => exact .int i
    | str x hx => exact .str x hx
    | tup hs t =>
      refine .tup ?_ (rj (fun v d => wA h n v d) hf t)
      rcases hs with (q | ⟨o, q⟩) | q
      . exact .inl (.inl (h _ _ q fun vs z => by cases z))
      . exact .inl (.inr ⟨o, h _ _ q fun vs z => by cases z⟩)
      . exact .inr q
    | lst hs t => simp [fl] at hf
    | fls hs t => simp [fl] at hf
    | exc hs => simp [fl] at hf
theorem StR.peek {K : PySem.W.Frag} {G₀ H₀ G H : Hp} {σ : St} {ρ : Ev} (s : StR K G₀ H₀ G H σ ρ) (i : Nat) : ∃ G1, StE K G1 H σ (L2.frz i ρ) /\
    ∀ G' H', Up G1 H G' H' -> ∃ G2, Up G H G2 H' /\ ∀ a o, G' a = some o -> (∀ vs, o ≠ HO.lst vs) -> G2 a = some o := by
  obtain ⟨G1, sr, e | ⟨l, vs, hl, e⟩⟩ := s.frzTo i
  . subst e
    exact ⟨G1, sr.e, fun G' H' u => ⟨G', u, fun a o q _ => q⟩⟩
  . subst e
    refine ⟨_, sr.e, fun G' H' u => ⟨fun a => if a = l then none else G' a, ⟨fun a o q => ?_, fun a o q => ?_, u.hh, fun a o q => ?_⟩, fun a o q hq => ?_⟩⟩
    . have q : (if a = l then none else G' a) = some o := q
      split at q
      . cases q
      . exact u.sub a o q
    . have ne : a ≠ l := fun z => by subst z; rw [hl] at q; cases q
      show (if a = l then none else G' a) = some o
      rw [if_neg ne]
      exact u.gg a o (by rw [aW ne]; exact q)
    . have q : (if a = l then none else G' a) = some o := q
      split at q
      . cases q
      . rename_i ne
        rcases u.fr a o q with z | z
        . rw [aW ne] at z; exact .inl z
        . exact .inr z
    . have ne : a ≠ l := fun z => by
        subst z
        have := u.gg a _ bf
        rw [q] at this
        cases this
        exact hq vs rfl
      show (if a = l then none else G' a) = some o
      rw [if_neg ne]; exact q
section
variable {X : Cx} {st : Stmt} {de body a b : List Stmt} {e c tg : Expr} {g g1 g2 : Ev -> O} {ga gb : Ev -> R D} {gt : Ev -> R Bool} {gl : Ev -> R (List D)} {pos : Pos}
def Ej (i : Nat) (gt : Ev -> R Bool) (g1 g2 : Ev -> O) : Ev -> O := fun ρ => (gI (gt (frz i ρ))).out ρ fun k => if k = true then g1 ρ else g2 ρ
def CI (j i : Nat) (ga : Ev -> R D) : Ev -> O := fun ρ => (gI (ga (frz j ρ))).out ρ fun d => if fl 10 d = true then .nx (ρ.set i (some (.val d))) else .no
def vC (j i : Nat) (ga : Ev -> R D) : Ev -> O := fun ρ => (ownAt ρ i).out ρ fun ds => (gI (ga (frz j ρ))).out ρ fun d => if ds.length < sizeLine /\ fl 10 d = true then .nx (ρ.set i (some (.own (ds ++ [d])))) else .no
theorem nK (j i : Nat) {x : Str} {p ap cp : Pos} (he : QF X e ga) (hi : X.N[i]? = some x := by rfl) (hv : Vis X.env.scope x := by first | exact Or.inl rfl | exact Or.inr (Or.inl rfl))
    (hd : (x == ("__debug__" : Str)) = false := by decide) (hcd : (x == ("__classdict__" : Str)) = false := by decide) (hs1 : starEach [e] X.env = (false, eval e X.env) :: starEach [] X.env := by rfl)
    (hbase : attributeBase (.Name x p) "append" X.env (eval (.Name x p) X.env) = eval (.Name x p) X.env := by rfl)
    (hfew : ((backTo cp (starEach [e] X.env)).all (fun x => !x.1) && (backToKw cp (keywordEach [] X.env)).all (fun x => x.1.isSome)
      && decide ([e].length + ([] : List Keyword).length + (if ([] : List Keyword).isEmpty then 0 else 1) < 30)) = true := by rfl)
    (hline : (ap.endLine == cp.line) = true := by rfl)
    (hs : swapsWith (.Call (.Attribute (.Name x p) "append" ap) [e] [] cp) none pos.line X.env = pure false := by rfl) :
    QSF X (.Expr (.Call (.Attribute (.Name x p) "append" ap) [e] [] cp) pos) (vC j i ga) := fun G₀ H₀ pins s σ H D I h => by
  refine lP (vj PySem.F.plainAttrs_list PySem.F.slot_list_append PySem.F.type_list_append gM (pz hi hv hd hcd) (dw he iY hs1) hbase hfew hline hs1 rfl) hs pins s σ H D I ?_
  obtain ⟨G, ρ, sr, h⟩ := h
  have h : tE X G₀ H₀ D ((ownAt ρ i).out ρ fun ds => (gI (ga (frz j ρ))).out ρ fun d => if ds.length < sizeLine /\ fl 10 d = true then .nx (ρ.set i (some (.own (ds ++ [d])))) else .no) := h
  obtain ⟨ds, e1, h⟩ := ownAt.ok h
  obtain ⟨l, vs, h1, h2, h3, h4, h5⟩ := sr.own i ds e1
  obtain ⟨G1, st1, pk⟩ := sr.peek j
  refine ⟨.ref l, h1, .inl ⟨rfl, vs, .of h2⟩, G1, _, st1, ?_⟩
  cases q : ga (frz j ρ) with
  | ok d =>
    rw [q] at h
    intro v G' H' u r
    obtain ⟨G2, u2, tr⟩ := pk G' H' u
    have h : tE X G₀ H₀ D (if ds.length < sizeLine /\ fl 10 d = true then .nx (ρ.set i (some (.own (ds ++ [d])))) else .no) := h
    by_cases hz : ds.length < sizeLine /\ fl 10 d = true
    . rw [if_pos hz] at h
      refine ⟨l, vs, v, rfl, rfl, u.hh _ _ h2, by rw [h5.length]; exact hz.1, h _ G2 _ ?_⟩
      exact (sr.ups u2).mut e1 h1 ((h5.mono u2.gg).append (.cons (wA tr 10 v d hz.2 r) .nil))
    . rw [if_neg hz] at h; exact h.elim
  | ex C => rw [q] at h; exact h.elim
  | no => rw [q] at h; exact h.elim
def Cu (i : Nat) (gk ga : Ev -> R D) : Ev -> O := fun ρ => (ownAt ρ i).out ρ fun ds => (gI (ga (frz i ρ))).out ρ fun d => (gI (gk (frz i ρ) >>= asI)).out ρ fun k => match ixN ds.length k with
  | some n => if fl 10 d = true then .nx (ρ.set i (some (.own (ds.set n d)))) else .no
  | none => .no
def D7 : D -> R (List D)
  | .lst _ xs => .ok xs
  | .tup xs => .ok xs
  | _ => .no
def Bx : List D -> R (List D)
  | [d] => D7 d
  | _ => .no
def BB (gl : Ev -> R (List D)) : Ev -> R (List D) := fun ρ => gl ρ >>= Bx
end
end L2
namespace L2
open PySem PySem.Spec PyProof.Rows PySem.W
section
variable {X : Cx} {pins : List (Addr × Obj)} {σ : St} {G H : Hp} {s : Shared} {A : Around} {E : Value -> Shared -> Prop} {Q : Value -> Shared -> Prop}
end
section
variable {X : Cx} {e : Expr} {ga : Ev -> R D} {p p2 p3 p4 pos : Pos} {k : Nat}
end
def ku : List D -> Option (List (List Nat))
  | [] => some []
  | .str x :: ds => (ku ds).map (x :: ·)
  | _ => none
def ik (sep : List Nat) : List (List Nat) -> List Nat
  | [] => []
  | [x] => x
  | x :: y :: r => x ++ sep ++ ik sep (y :: r)
def oh : D -> List D -> Option D
  | .str s, [.lst _ ds] => match ku ds with
    | some xs => if (xs.map List.length).sum + xs.length * s.length <= sizeLine then some (.str (ik s xs)) else none
    | none => none
  | _, _ => none
theorem Reps.strs {K : PySem.W.Frag} {G : Hp} : ∀ {vs : List V} {ds : List D} {xs : List (List Nat)}, Reps K G vs ds -> ku ds = some xs -> ∃ ys : List Str, vs = ys.map V.str /\ ys.map (fun y => y.cps.toList) = xs
  | _, _, _, .nil, h => by cases h; exact ⟨[], rfl, rfl⟩
  | _, _, xs, .cons (d := d) r t, h => by
    cases d <;> first | (cases h; done) | skip
    rename_i x
    rename_i ds'
    cases q : ku ds' with
    | none => simp [ku, q] at h
    | some zs =>
      simp [ku, q] at h
      obtain ⟨ys, e1, e2⟩ := Reps.strs t q
      obtain ⟨y, rfl, ey, _⟩ := r.str_inv
      exact ⟨y :: ys, by rw [e1]; rfl, by rw [List.map_cons, e2, ey]; exact h⟩
theorem Vals.strs : ∀ {ys : List Str} {us : List Value}, Vals (ys.map V.str) us -> StrsAre us ys
  | [], _, h => by cases h; exact .nil
  | y :: ys, _, h => by
    cases h with
    | cons a b =>
      obtain ⟨t, rfl⟩ := a
      exact .cons y t (Vals.strs b)
theorem iz (s : Str) : ∀ ys : List Str, (Txt.join s ys).cps.toList = ik s.cps.toList (ys.map fun y => y.cps.toList) := by
  intro ys
  show (Builtin.Str.glued s ys).cps.toList = _
  rw [StrLaws.glued_eq_join]
  induction ys with
  | nil => rfl
  | cons y r ih =>
    cases r with
    | nil => rfl
    | cons z r =>
      show (y ++ s ++ Str.join s (z :: r)).cps.toList = _
      rw [Str.app_list, Str.app_list, ih]; rfl
theorem iw (s : List Nat) : ∀ xs : List (List Nat), (ik s xs).length <= (xs.map List.length).sum + xs.length * s.length
  | [] => by simp [ik]
  | [x] => by simp [ik]
  | x :: y :: r => by
    have := iw s (y :: r)
    simp only [ik, List.length_append, List.map_cons, List.sum_cons, List.length_cons, Nat.succ_mul] at this ⊢
    omega
def AW (K : PySem.W.Frag) : V -> List V -> Hp -> VK -> Prop := fun x vs H Q => ∃ (y : Str) (p : Addr) (ys : List Str), x = .str y /\ vs = [.ref p] /\ SqL K H p (ys.map V.str) /\ (ys.map (·.length)).sum + ys.length * y.length <= 16777216 /\ Q (.str (Txt.join y ys)) H
theorem yo {X : Cx} : MtR X "str.join" (AW X.K) := by
  intro pins s σ H x xs v us Q I rx rv ⟨y, p, ys, ex, exs, hl, hz, q⟩
  subst ex exs
  obtain ⟨t, rfl⟩ := rx
  obtain ⟨u, rfl, r1⟩ := rv.one
  cases r1
  obtain ⟨its, rvs, pl, _⟩ := I.list hl
  exact join_list pl.isList (Vals.strs (by simpa using rvs)) hz fun t' k => ⟨.str _, H, I.tok _, ⟨_, rfl⟩, q⟩
theorem wU (K : PySem.W.Frag) : xV K "str" (AW K) oh := by
  intro G H x xs dx ds d Q s rx rs e q
  unfold oh at e
  split at e
  . split at e
    . rename_i zs hz
      split at e
      . rename_i hle
        cases e
        obtain ⟨v, rfl, r1⟩ := rs.one
        obtain ⟨y, rfl, ey, hy⟩ := rx.str_inv
        obtain ⟨a, vs, rfl, hs, rr⟩ := r1.seq_inv
        obtain ⟨ys, e1, e2⟩ := rr.strs hz
        subst e1
        subst e2
        subst ey
        have hle' : (ys.map (·.length)).sum + ys.length * y.length <= 16777216 := by
          have e3 : (ys.map fun y => y.cps.toList).map List.length = ys.map (·.length) := by
            rw [List.map_map]; exact List.map_congr_left fun z _ => Str.len_list z
          rw [e3, List.length_map, Str.len_list] at hle
          exact hle
        refine ⟨y, a, ys, rfl, rfl, hs.mono s, hle', q _ G H (.refl s) (.strL (iz y ys) ?_)⟩
        exact Nat.le_trans (iw _ _) hle
      . cases e
    . cases e
  . cases e
theorem vd {X : Cx} {o e : Expr} {ga : Ev -> R D} {gl : Ev -> R (List D)} {ap cp : Pos} (ho : QF X o ga) (ha : QFA X [e] gl) (hbase : attributeBase o "join" X.env (eval o X.env) = eval o X.env := by rfl)
    (hfew : ((backTo cp (starEach [e] X.env)).all (fun x => !x.1) && (backToKw cp (keywordEach [] X.env)).all (fun x => x.1.isSome)
      && decide ([e].length + ([] : List Keyword).length + (if ([] : List Keyword).isEmpty then 0 else 1) < 30)) = true := by rfl)
    (hline : (ap.endLine == cp.line) = true := by rfl) (hs : starEach [e] X.env = (false, eval e X.env) :: starEach [] X.env := by rfl) :
    QF X (.Call (.Attribute o "join" ap) [e] [] cp) (eG "str" oh ga gl) := eI PySem.F.plainAttrs_str PySem.F.slot_str_join PySem.F.type_str_join yo (wU _) ho ha hbase hfew hline hs rfl
section
variable {X : Cx}
theorem pM {e : Expr} {ga : Ev -> R D} {p p2 pos : Pos} (hm : X.mg "isinstance" = none) (ha : QF X e ga) (hm2 : X.mg "list" = none) (hg2 : Gl X "list" := by rfl) (hg : Gl X "isinstance" := by rfl) (hs1 : starEach [e, .Name "list" p2] X.env = (false, eval e X.env) :: starEach [.Name "list" p2] X.env := by rfl) : QF X (.Call (.Name "isinstance" p) [e, .Name "list" p2] [] pos) (aH (dL (· == "list")) ga) := oz hm ha hm2 hg2 hg hs1
end
end L2
namespace L2
open PySem PySem.Spec PyProof.Rows
open Sem (wp)
open AutoSeq1 (wpAny_loadPart')
section
variable {prog : Program} {w : World} {A : Around} {E : Value -> Shared -> Prop} {s : Shared}
end
section
variable {prog : Program} {w : World} {A : Around} {E : Value -> Shared -> Prop} {s : Shared}
end
section
variable {P : Program} {w : World} {K : PySem.W.Frag} {elts : List Expr} {kt : Nat} {tp : Pos}
structure Inner (P : Program) (w : World) (K : PySem.W.Frag) (sq : Hp -> List V -> Prop) (a it : Addr) (iter : Nat -> Heap -> Prop) : Prop where
  obj : ∀ i h, iter i h -> ∃ o, h.get? it = some o /\ ∀ v, o.data ≠ .cell v
  at_ : ∀ i h h', iter i h -> (∀ o, h.get? it = some o -> h'.get? it = some o) -> iter i h'
  inj : ∀ (X : Cx), X.K = K -> ∀ (pins : List (Addr × Obj)) (σ : St) (H : Hp) (s : Shared) xs ys, Inv X pins σ H s -> sq H xs -> sq H ys -> xs = ys
  dr : ∀ (X : Cx), X.prog = P -> X.w = w -> X.K = K -> X.calm = true -> ∀ (pins : List (Addr × Obj)) (σ : St) (H : Hp) (s : Shared) (xs : List V) (c : Nat), Inv X pins σ H s -> sq H xs -> (∀ i, iter i s.heap -> a ≠ it) ->
    ∃ its : List Value, Vals xs its /\ xs.length <= sizeLine /\ ∃ (Pd : Nat -> Value -> Prop) (St : Nat -> Heap -> Prop), Draws P w X.A.in1 it [it, a] (c + its.length) Pd St /\ (∀ k v, Pd (c + k) v -> its[k]? = some v) /\
      (∀ k h, iter k h -> (∀ o, s.heap.get? a = some o -> h.get? a = some o) -> a ≠ it -> St (c + k) h) /\ ∀ k h, St (c + k) h -> iter k h
  fin : ∀ (X : Cx), X.prog = P -> X.w = w -> X.K = K -> X.calm = true -> ∀ (pins : List (Addr × Obj)) (σ : St) (H : Hp) (s : Shared) (xs : List V) (i : Nat) (Q : Value -> Shared -> Prop) (E : Value -> Shared -> Prop), Inv X pins σ H s -> sq H xs -> xs.length <= i -> iter i s.heap ->
    (∀ h' x, Heap.ExtBut it s.heap h' -> (∃ o, h'.get? x = some o /\ o.cls = .type "StopIteration") -> E (.ref x) { s with heap := h' }) -> wpAny (model P w) X.A.in1 (Builtin.SmallTypes.nextOf (.ref it)) Q E s
end
end L2
namespace L2
open PySem PySem.Spec PyProof.Rows
def numbered (c : Nat) (xs : List D) : List D := (List.range xs.length).map fun i => .tup [.int ((c + i : Nat) : Int), xs.getD i .non]
section
variable {X : Cx} {pins : List (Addr × Obj)} {σ : St} {H : Hp} {s : Shared} {elts : List Expr} {kt : Nat} {tp : Pos} {Rr : It -> Hp -> Prop}
end
def wt : D -> D -> R (List D)
  | .tup xs, .int c => if 0 <= c /\ c < 1073741824 then .ok (numbered c.toNat xs) else .no
  | _, _ => .no
section
variable {X : Cx} {a b : Expr} {ga gb : Ev -> R D} {elts : List Expr} {kt : Nat} {p pos tp kp : Pos}
def zD (ga gb : Ev -> R D) : Ev -> R (List D) := fun ρ => ga ρ >>= fun x => gb ρ >>= fun c => wt x c
end
end L2
namespace L2
open PySem PySem.Spec PyProof.Rows
section
variable {X : Cx} {elt iter tgt : Expr} {ifs : List Expr} {pos : Pos} {scope : Scope} {n : Nat} {N' : List Str} {ix : List Nat} {asg : D -> Ev -> R Ev} {gi : Ev -> R (List D)} {gt : Ev -> R Bool} {ge : Ev -> R D}
end
section
variable {X : Cx}
end
def Cn (i j : Nat) (ga : Ev -> R D) (gl : Ev -> R (List D)) : Ev -> O := fun ρ => (ga ρ).out ρ fun d => (gl ρ).out ρ fun ds => .nx ((ρ.set i (some (.val d))).set j (some (.own ds)))
section
variable {X : Cx} {ga : Ev -> R D} {gl : Ev -> R (List D)} {pos : Pos}
end
end L2
namespace L2
open PySem PySem.Spec PyProof.Rows
section
variable {P : Program} {w : World} {K : PySem.W.Frag} {elts : List Expr} {kt : Nat} {tp : Pos}
end
section
variable {X : Cx} {a b : Expr} {gl : Ev -> R (List D)} {elts : List Expr} {kt : Nat} {p pos tp : Pos}
end
end L2
namespace L2
open PySem PySem.Spec PyProof.Rows
def Bz : D -> D -> R D
  | .str x, .int k => if k = -1 then .ok (.str x.reverse) else .no
  | .lst _ xs, .int k => if k = -1 then .ok (.lst false xs.reverse) else .no
  | _, _ => .no
def DK (ga gs : Ev -> R D) : Ev -> R D := fun ρ => ga ρ >>= fun x => gs ρ >>= fun k => Bz x k
section
variable {X : Cx} {a st : Expr} {ga gs : Ev -> R D} {pos p2 : Pos}
end
end L2
namespace L2
open PySem PySem.Spec PyProof.Rows
def oI (gt : Ev -> R Bool) (g : Ev -> O) : Nat -> Ev -> O
  | 0, _ => .no
  | n + 1, ρ => (gt ρ).out ρ fun k => if k = true then (match g ρ with
    | .nx ρ2 => oI gt g n ρ2
    | .ct ρ2 => oI gt g n ρ2
    | .bk ρ2 => .nx ρ2
    | .rt d => .rt d
    | .ex C ρ2 => .ex C ρ2
    | .no => .no) else .nx ρ
def zt (n : Nat) (gt : Ev -> R Bool) (g : Ev -> O) : Ev -> O := fun ρ => oI gt g n ρ
section
variable {X : Cx} {c e : Expr} {body : List Stmt} {gt : Ev -> R Bool} {g : Ev -> O} {ga : Ev -> R D} {pos : Pos}
end
end L2
namespace L2
open PySem PySem.Spec PyProof.Rows
def sC (gs : List (Ev -> R D)) (ρ : Ev) : D -> R D
  | .int i => if 0 <= i then (match gs[i.toNat]? with
    | some g => g ρ
    | none => .no) else .no
  | _ => .no
def vh (gs : List (Ev -> R D)) (gi : Ev -> R D) : Ev -> R D := fun ρ => gi ρ >>= sC gs ρ
theorem Bi {gs : List (Ev -> R D)} {gi : Ev -> R D} {ρ : Ev} : vh gs gi ρ = gi ρ >>= sC gs ρ := rfl
theorem As {g : Ev -> R D} {gs : List (Ev -> R D)} {ρ : Ev} : sC (g :: gs) ρ (.int 0) = g ρ := rfl
theorem zm {f g : Ev -> R D} {gs : List (Ev -> R D)} {ρ : Ev} : sC (f :: g :: gs) ρ (.int 1) = g ρ := rfl
section
variable {X : Cx} {a b ix e : Expr} {es : List Expr} {ga gb gi : Ev -> R D} {gl : Ev -> R (List D)} {pos p1 p2 pl sp : Pos}
theorem uf (v sl : Expr) (args : List Expr) (env : Env) : eval (.Call (.Subscript v sl sp) args [] pos) env = (do
    callWith pos (<- eval (.Subscript v sl sp) env) [] (backTo pos (starEach args env)) (backToKw pos (keywordEach [] env))) := rfl
theorem jj {pins : List (Addr × Obj)} {s : Shared} {σ : St} {H G : Hp} {ρ : Ev} {Q : VK} {k : Nat} {f : Addr} {fd : FuncData} {ps : List Str} {g : List D -> R D} (F : FnF X.prog X.w X.K X.mg X.base k f fd ps g) (hr : Room k X.A) (hk : PySem.W.keepIn X.K (.ref f) = true) (hb : Binds X.K fd ps []) (ha : QFA X (e :: es) gl)
    (he : starEach (e :: es) X.env = (false, eval e X.env) :: starEach es X.env) (hpl : (backTo pos (starEach es X.env)).any (·.1) = false) (I : Inv X pins σ H s) (st : StE X.K G H σ ρ)
    (h : (aM ps.length g gl ρ).post (Fin G H (Rep X.K) Q) (Exx X σ G H)) : wpAny (model X.prog X.w) X.A (callWith pos (.ref f) [] (backTo pos (starEach (e :: es) X.env)) (backToKw pos (keywordEach [] X.env))) (EP X pins σ Q) X.xe s := by
  have t : tAF X gl σ H (fun vs H1 => ∃ G1 ds, Up G H G1 H1 /\ Same G1 H1 /\ Reps X.K G1 vs ds /\ ds.length = ps.length /\ (g ds).post (Fin G1 H1 (Rep X.K) Q) (Exx X σ G1 H1)) := by
    refine tG.intro st h fun ds vs G1 H1 u1 st1 r1 h1 => ?_
    by_cases hl : ds.length = ps.length
    . rw [if_pos hl] at h1; exact ⟨G1, ds, u1, st1.sub, r1, hl, h1⟩
    . rw [if_neg hl] at h1; exact h1.elim
  refine PySem.W.callWith_K (h₀ := X.base) I.ok.mod.kin hk (thn (ha pos pins s σ H _ I t) fun us s1 q => ⟨?_, ?_⟩) he hpl
  . obtain ⟨vs, H1, I1, r, _⟩ := q; exact I1.kIn
  obtain ⟨vs, H1, I1, r, G1, ds, u1, sub1, rp, hl, h1⟩ := q
  have hvl : vs.length = ps.length := by rw [rp.length]; exact hl
  have hul : (us ++ []).length = ps.length := by rw [List.append_nil, <- r.length]; exact hvl
  have hbb := hb s1 us I1.kIn hul
  rw [List.append_nil] at hbb
  refine wpAny_call (codeAny_mono (F.run X.A X.stack s1 H1 ⟨us, []⟩ us vs Q (fun c _ H' => ∃ C G', c = .ref C /\ Up G1 H1 G' H' /\ Exx X σ G1 H1 C) hr I1.env0 hbb r ⟨hvl, G1, ds, sub1, rp, h1.mono (fun _ q => q) fun C q G' H' u => ⟨C, G', rfl, u, q⟩⟩) fun r' s' hq => ?_)
  cases r' with
  | error e' =>
    obtain ⟨a, C, H', rfl, fl, C', G', ec, u, q⟩ := hq
    cases ec
    exact q _ _ ⟨G1, H1, .refl sub1, pins, s1, a, rfl, I1, .inr (.inl ⟨G', H', fl, u⟩)⟩
  | ok fl =>
    cases fl with
    | ret u => exact I1.after hq
    | next => exact False.elim hq
    | brk => exact False.elim hq
    | cont => exact False.elim hq
end
end L2
namespace L2
open PySem PySem.Spec PyProof.Rows
section
variable {X : Cx} {a b : Expr} {ga gb : Ev -> R D} {pos : Pos}
theorem pS {x z : Str} {l : List Nat} {t : Tok} (hg : Gl X x) (hm : X.mg x = some (.str z t)) (hl : z.cps.toList = l := by rfl) (hz : l.length <= 1000 := by decide) (hd : (x == ("__debug__" : Str)) = false := by decide) : QF X (.Name x pos) (fun _ => .ok (.str l)) :=
  du (hW (v := .str z) hg hm ⟨t, rfl⟩ hd) fun _ _ => .strL hl (Nat.le_trans hz (by decide))
structure KTup (K : PySem.W.Frag) (c : Addr) (ls : List (List Nat)) : Prop where
  ex : ∃ (o : Obj) (its : Array Value) (n : Nat) (vs : List V), K.lookup c = some o /\ o.cls = .type "tuple" /\ o.data = .seq its n /\ its.size <= sizeLine /\ Vals vs its.toList /\ ∀ G, Reps K G vs (ls.map .str)
end
end L2
namespace L2
open PySem PySem.Spec PyProof.Rows
def bF (n : Nat) : List Nat := (Nat.toDigits 10 n).map Char.toNat
theorem jg {i : Int} (h0 : 0 <= i) (h1 : i < 10000000000) : i.natAbs.log2 < 1920 := by
  by_cases h : i.natAbs = 0
  . rw [h]; decide
  . refine (Nat.log2_lt h).2 (Nat.lt_of_lt_of_le (show i.natAbs < 2 ^ 34 by omega) (Nat.pow_le_pow_right (by decide) (by decide)))
theorem kY {i : Int} (h0 : 0 <= i) : (Str.ofString (toString i)).cps.toList = bF i.toNat := by
  obtain ⟨m, rfl⟩ := Int.eq_ofNat_of_zero_le h0
  exact PySem.W.KIN.signs_num m
theorem rA {i : Int} (h0 : 0 <= i) (h1 : i < 10000000000) : (bF i.toNat).length <= sizeLine := by
  rw [<- kY h0, Str.len_list]; exact int_text_fits (jg h0 h1)
section
variable {X : Cx} {a b c e e1 e2 e3 e4 e5 : Expr} {ga gb gc g1 g2' g3' g4 g5 : Ev -> R D} {gl : Ev -> R (List D)} {pos p : Pos}
def vR : D -> R D
  | .int i => if 0 <= i /\ i < 10000000000 then .ok (.str (bF i.toNat)) else .no
  | .str x => .ok (.str x)
  | _ => .no
theorem ya (h : QF X e ga) : QF X (.FormattedValue e (-1) none pos) (aH vR ga) := by
  intro pins s σ H Q I q
  obtain ⟨G, ρ, st, q⟩ := q
  refine FormattedValue_plain (thn (h pins s σ H (fun v H1 => ∃ G1 d, Up G H G1 H1 /\ Rep X.K G1 v d /\ StE X.K G1 H1 σ ρ /\ (vR d).post (Fin G1 H1 (Rep X.K) Q) (Exx X σ G1 H1)) I ?_) fun u s1 ⟨v, H1, I1, r1, q1⟩ => ?_)
  . exact tG.intro st q fun d v G1 H1 u1 st1 r1 h1 => ⟨G1, d, u1, r1, st1, h1⟩
  . obtain ⟨G1, d, u1, rr, st1, h1⟩ := q1
    unfold vR at h1
    split at h1
    . split at h1
      . rename_i hc
        obtain rfl := rr.int_inv
        obtain ⟨t, rfl⟩ := r1
        exact wpAny_formatField_int (jg hc.1 hc.2) ⟨.str _, H1, I1.tok _, ⟨_, rfl⟩, h1 _ G1 H1 (.refl st1.sub) (.strL (kY hc.1) (rA hc.1 hc.2))⟩
      . exact h1.elim
    . obtain ⟨y, rfl, ey, hy⟩ := rr.str_inv
      obtain ⟨t, rfl⟩ := r1
      exact formatField_str (fun t' tk => ⟨.str _, H1, I1.tok _, ⟨_, rfl⟩, h1 _ G1 H1 (.refl st1.sub) rr⟩) hy
    . exact h1.elim
def jQ : List (Ev -> R D) -> List Nat -> Ev -> R D
  | [], out => fun _ => .ok (.str out)
  | g :: gs, out => fun ρ => g ρ >>= fun d => match d with
    | .str x => if (out ++ x).length <= sizeLine then jQ gs (out ++ x) ρ else .no
    | _ => .no
def tR (gs : List (Ev -> R D)) : Ev -> R D := jQ gs []
theorem sV {out : Str} {pins : List (Addr × Obj)} {s : Shared} {σ : St} {H G : Hp} {ρ : Ev} {Q : VK} (I : Inv X pins σ H s) (st : StE X.K G H σ ρ) (hz : out.length <= sizeLine)
    (h : (jQ [] out.cps.toList ρ).post (Fin G H (Rep X.K) Q) (Exx X σ G H)) : wpAny (model X.prog X.w) X.A (joinParts out []) (EP X pins σ Q) X.xe s :=
  joinParts_nil ⟨.str _, H, I.tok _, ⟨_, rfl⟩, h _ G H (.refl st.sub) (.str out hz)⟩ hz
theorem fm {out : Str} {pins : List (Addr × Obj)} {s : Shared} {σ : St} {H G : Hp} {ρ : Ev} {Q : VK} {gs : List (Ev -> R D)} {de : List (Sem Value)} (he : QF X e ga) (I : Inv X pins σ H s) (st : StE X.K G H σ ρ)
    (h : (jQ (ga :: gs) out.cps.toList ρ).post (Fin G H (Rep X.K) Q) (Exx X σ G H))
    (k : ∀ (out' : Str) (s1 : Shared) (H1 G1 : Hp), Inv X pins σ H1 s1 -> StE X.K G1 H1 σ ρ -> out'.length <= sizeLine -> (jQ gs out'.cps.toList ρ).post (Fin G1 H1 (Rep X.K) Q) (Exx X σ G1 H1) -> wpAny (model X.prog X.w) X.A (joinParts out' de) (EP X pins σ Q) X.xe s1) :
    wpAny (model X.prog X.w) X.A (joinParts out (eval e X.env :: de)) (EP X pins σ Q) X.xe s := by
  refine joinParts_cons (thn (he pins s σ H (fun v H1 => ∃ G1 d, StE X.K G1 H1 σ ρ /\ Rep X.K G1 v d /\ (match d with
    | .str x => if (out.cps.toList ++ x).length <= sizeLine then jQ gs (out.cps.toList ++ x) ρ else .no
    | _ => .no : R D).post (Fin G1 H1 (Rep X.K) Q) (Exx X σ G1 H1)) I ?_) fun u s1 ⟨v, H1, I1, r1, q1⟩ => ?_)
  . exact tG.intro st h fun d v G1 H1 u1 st1 r1 h1 => ⟨G1, d, st1, r1, h1⟩
  . obtain ⟨G1, d, st1, rr, h1⟩ := q1
    split at h1
    . split at h1
      . rename_i hc
        obtain ⟨y, rfl, ey, hy⟩ := rr.str_inv
        obtain ⟨t, rfl⟩ := r1
        subst ey
        have e1 : (out ++ y).cps.toList = out.cps.toList ++ y.cps.toList := Str.app_list ..
        have e2 : (out ++ y).length <= sizeLine := by rw [<- Str.len_list, e1]; exact hc
        exact ⟨e2, k _ s1 H1 G1 I1 st1 e2 (by rw [e1]; exact h1)⟩
      . exact h1.elim
    . exact h1.elim
theorem sW (h1 : QF X e1 g1) (h2 : QF X e2 g2') (h3 : QF X e3 g3') : QF X (.JoinedStr [e1, e2, e3] pos) (tR [g1, g2', g3']) := by
  intro pins s σ H Q I q
  obtain ⟨G, ρ, st, q⟩ := q
  refine JoinedStr_many ?_
  show wpAny _ _ (joinParts Str.empty [eval e1 X.env, eval e2 X.env, eval e3 X.env]) _ _ _
  refine fm h1 I st (out := Str.empty) q fun o1 s1 H1 G1 I1 st1 z1 q1 => fm h2 I1 st1 q1 fun o2 s2 H2 G2 I2 st2 z2 q2 => fm h3 I2 st2 q2 fun o3 s3 H3 G3 I3 st3 z3 q3 => sV I3 st3 z3 q3
def qD (x : List Nat) : Nat := x.foldl (fun a c => a * 10 + (c - 48)) 0
def tT (x : List Nat) : Bool := x.all fun c => decide (48 <= c) && decide (c <= 57)
def oj : List D -> Option D
  | [.str x] => if tT (x.dropWhile (· == 32)) = true /\ x.dropWhile (· == 32) ≠ [] /\ x.length <= 640 then some (.int ((qD (x.dropWhile (· == 32)) : Nat) : Int)) else none
  | _ => none
theorem sv {x : Str} (hd : tT (x.cps.toList.dropWhile (· == 32)) = true) (hn : x.cps.toList.dropWhile (· == 32) ≠ []) (hl : x.length <= 640) : PySem.intText? x = some ((qD (x.cps.toList.dropWhile (· == 32)) : Nat) : Int) := by
  have hA : NumText.AllDigits (x.cps.toList.dropWhile (· == 32)) := fun c hc => by
    have := List.all_eq_true.1 hd c hc
    simp only [Bool.and_eq_true, decide_eq_true_eq] at this
    exact this
  have key : ∀ l : List Nat, NumText.AllDigits (l.dropWhile (· == 32)) -> l.dropWhile (· == 32) ≠ [] -> (l.dropWhile NumText.blank = l.dropWhile (· == 32)) /\ ∀ c ∈ l, c = 32 \/ 48 <= c /\ c <= 57 := by
    intro l
    induction l with
    | nil => intro _ h; exact absurd rfl h
    | cons c l ih =>
      intro h1 h2
      by_cases e : c = 32
      . subst e
        have e1 : (32 :: l).dropWhile (· == 32) = l.dropWhile (· == 32) := List.dropWhile_cons_of_pos (by decide)
        rw [e1] at h1 h2 ⊢
        obtain ⟨a, b⟩ := ih h1 h2
        refine ⟨?_, fun d hd => ?_⟩
        . rw [List.dropWhile_cons_of_pos (by decide)]; exact a
        . rcases List.mem_cons.1 hd with rfl | hd
          . exact .inl rfl
          . exact b d hd
      . have e1 : (c :: l).dropWhile (· == 32) = c :: l := List.dropWhile_cons_of_neg (by simpa using e)
        rw [e1] at h1 h2 ⊢
        exact ⟨NumText.dropWhile_digits h1, fun d hd => .inr (h1 d hd)⟩
  obtain ⟨k1, k2⟩ := key _ hA hn
  have t1 : numTextOf x = x.cps.toList := if_pos (by
    rw [<- Array.all_toList]; exact List.all_eq_true.2 fun c hc => by have := k2 c hc; exact decide_eq_true (by omega))
  have t2 : numSeenOf x = x.cps.toList := by
    show List.takeWhile _ (numTextOf x) = _
    rw [t1]; exact NumText.takeWhile_all fun c hc => by have := k2 c hc; exact bne_iff_ne.2 (by omega)
  let y : Str := ⟨(x.cps.toList.dropWhile (· == 32)).toArray⟩
  have ey : y.cps.toList = x.cps.toList.dropWhile (· == 32) := List.toList_toArray ..
  have hy : y.length <= 4300 := by
    rw [<- Str.len_list, ey]
    have : (x.cps.toList.dropWhile (· == 32)).length <= x.cps.toList.length := (List.dropWhile_suffix _).length_le
    rw [Str.len_list] at this
    omega
  have r := intText_digits (x := y) (by rw [ey]; exact hA) (by rw [ey]; exact hn) hy
  obtain ⟨u1, u2⟩ := numText_signs (x := y) fun c hc => .inr (hA c (by rw [<- ey]; exact hc))
  have b1 : x.cps.toList.dropWhile NumText.blank = (x.cps.toList.dropWhile (· == 32)).dropWhile NumText.blank := by rw [k1, NumText.dropWhile_digits hA]
  unfold intText? at r ⊢
  rw [u1, u2, ey, if_pos (beq_self_eq_true _)] at r
  rw [t1, t2, if_pos (beq_self_eq_true _)]
  unfold NumText.core at r ⊢
  rw [b1]
  exact r
def zk : List V -> Hp -> VK -> Prop := fun xs H Q => ∃ (y : Str) (n : Int), xs = [.str y] /\ PySem.intText? y = some n /\ y.length <= 640 /\ Q (.int n) H
theorem rm : iO X (.type "int") zk := by
  intro pins s σ H xs us Q I r ⟨y, n, ex, h0, h1, q⟩
  subst ex
  obtain ⟨u, rfl, r1⟩ := r.one
  obtain ⟨t, rfl⟩ := r1
  exact PySem.W.KIN.call_text h0 h1 ⟨.int _, H, I.tok _, ⟨_, rfl⟩, q⟩
theorem xQ (K : PySem.W.Frag) : zg K zk oj := by
  intro G H xs ds d Q s r e q
  unfold oj at e
  split at e
  . split at e
    . rename_i hc
      cases e
      obtain ⟨v, rfl, r1⟩ := r.one
      obtain ⟨y, rfl, ey, hy⟩ := r1.str_inv
      subst ey
      rw [Str.len_list] at hc
      exact ⟨y, _, rfl, sv hc.1 hc.2.1 hc.2.2, hc.2.2, q _ G H (.refl s) (.int _)⟩
    . cases e
  . cases e
theorem uR (hg : Gl X "int") (hm : X.mg "int" = none) (ha : QFA X [e] gl) (he : starEach [e] X.env = (false, eval e X.env) :: starEach [] X.env := by rfl) :
    QF X (.Call (.Name "int" p) [e] [] pos) (gOf oj gl) := jv rm (xQ _) hg hm PyProof.Rows.Boot.«int» ha (by decide) (by decide) he rfl
def zd : D -> D -> Option D
  | .int a, .int n => if 0 <= n /\ n <= 1000 /\ a.natAbs < 2 ^ 64 then some (.int (a ^ n.toNat)) else none
  | _, _ => none
def Dc : R2 := fun x y H Q => ∃ a n : Int, x = .int a /\ y = .int n /\ 0 <= n /\ n <= 1000 /\ a.natAbs < 2 ^ 64 /\ Q (.int (a ^ n.toNat)) H
theorem yy : OpR X (binaryOp .Pow) Dc := by
  intro pins s σ H x y v u Q I rx ry ⟨a, n, ex, ey, h0, h1, h2, q⟩
  subst ex ey
  obtain ⟨t, rfl⟩ := rx
  obtain ⟨t', rfl⟩ := ry
  exact pow_int_small h0 (by omega) h2 ⟨.int _, H, I.tok _, ⟨_, rfl⟩, q⟩
theorem A3 (K : PySem.W.Frag) : ROk K Dc zd := by
  intro G H x y dx dy d Q s rx ry e q
  unfold zd at e
  split at e
  . split at e
    . rename_i hc
      cases e
      exact ⟨_, _, rx.int_inv, ry.int_inv, hc.1, hc.2.1, hc.2.2, q _ G H (.refl s) (.int _)⟩
    . cases e
  . cases e
theorem uS (ha : QF X a ga) (hb : QF X b gb) : QF X (.BinOp a .Pow b pos) (g2 zd ga gb) := fP yy (A3 _) ha hb
end
end L2
namespace L2
open PySem PySem.Spec PyProof.Rows
def aN (c : Nat) : List Nat -> List (List Nat)
  | [] => [[]]
  | d :: r => if d = c then [] :: aN c r else (match aN c r with
    | p :: ps => (d :: p) :: ps
    | [] => [[d]])
theorem ij {c : Nat} : ∀ {p : List Nat}, c ∉ p -> aN c p = [p]
  | [], _ => rfl
  | d :: p, h => by
    have h1 : ¬ d = c := fun z => h (by rw [z]; exact List.mem_cons_self ..)
    have h2 := ij (c := c) (p := p) fun z => h (List.mem_cons_of_mem _ z)
    rw [aN, if_neg h1, h2]
theorem fK {c : Nat} (r : List Nat) : ∀ {p : List Nat}, c ∉ p -> aN c (p ++ c :: r) = p :: aN c r
  | [], _ => by rw [List.nil_append, aN, if_pos rfl]
  | d :: p, h => by
    have h1 : ¬ d = c := fun z => h (by rw [z]; exact List.mem_cons_self ..)
    have h2 := fK r (c := c) (p := p) fun z => h (List.mem_cons_of_mem _ z)
    rw [List.cons_append, aN, if_neg h1, h2]
theorem jF {c : Nat} : ∀ {ps : List (List Nat)}, ps ≠ [] -> (∀ p ∈ ps, c ∉ p) -> aN c (ik [c] ps) = ps
  | [], h, _ => absurd rfl h
  | [p], _, h => ij (h p (List.mem_cons_self ..))
  | p :: q :: r, _, h => by
    have ih := jF (c := c) (ps := q :: r) (by simp) fun z hz => h z (List.mem_cons_of_mem _ hz)
    show aN c (p ++ [c] ++ ik [c] (q :: r)) = _
    rw [List.append_assoc]
    show aN c (p ++ c :: ik [c] (q :: r)) = _
    rw [fK _ (h p (List.mem_cons_self ..)), ih]
theorem uZ (x y : Str) : Txt.split x y ≠ [] := by
  unfold Txt.split
  split
  . simp
  . split
    . simp
    . intro z
      have := congrArg List.length z
      rw [length_partsBetween] at this
      simp at this
theorem ii (x : Str) (c : Nat) : (Txt.split x ⟨#[c]⟩).map (fun y => y.cps.toList) = aN c x.cps.toList := by
  have h1 := StrLaws.join_split x ⟨#[c]⟩
  have h2 := iz ⟨#[c]⟩ (Txt.split x ⟨#[c]⟩)
  have h3 : Txt.join ⟨#[c]⟩ (Txt.split x ⟨#[c]⟩) = x := (StrLaws.glued_eq_join _ _).trans h1
  rw [h3] at h2
  rw [h2]
  refine (jF (c := c) (by simpa using uZ x _) fun p hp => ?_).symm
  obtain ⟨y, hy, rfl⟩ := List.mem_map.1 hp
  exact StrLaws.split_free x c y hy
theorem fH (c : Nat) : ∀ x : List Nat, (aN c x).length <= x.length + 1
  | [] => by simp [aN]
  | d :: r => by
    have ih := fH c r
    unfold aN
    split
    . simp; omega
    . split
      . rename_i p ps e
        rw [e] at ih
        simp at ih ⊢; omega
      . simp
theorem eD (c : Nat) : ∀ (x : List Nat), ∀ p ∈ aN c x, p.length <= x.length
  | [], p, h => by simp [aN] at h; subst h; simp
  | d :: r, p, h => by
    have ih := eD c r
    unfold aN at h
    split at h
    . rcases List.mem_cons.1 h with rfl | h
      . simp
      . have := ih p h; simp; omega
    . split at h
      . rename_i q ps e
        rw [e] at ih
        rcases List.mem_cons.1 h with rfl | h
        . have := ih q (List.mem_cons_self ..); simp; omega
        . have := ih p (List.mem_cons_of_mem _ h); simp; omega
      . simp at h; subst h; simp
def iy : D -> List D -> Option D
  | .str x, [.str [c]] => if x.length <= 10000 then some (.lst false ((aN c x).map .str)) else none
  | _, _ => none
section
variable {X : Cx} {a b c e : Expr} {ga : Ev -> R D} {gl : Ev -> R (List D)} {pos p : Pos} {tg : Expr}
theorem rR {prog : Program} {w : World} {A : Around} {E : Value -> Shared -> Prop} {s : Shared} {x y : Str} {t u : Tok} {Q : Value -> Shared -> Prop} (hy : (y.length == 0) = false) (hsz : x.length <= sizeLine)
    (hsz2 : (Builtin.Str.partsBetween x (Builtin.Str.occurrences x y 0 x.length (x.length + 1)) y.length).length <= sizeLine)
    (hq : ∀ (l : List (Str × Tok)) (k : Nat), l.map (·.1) = Txt.split x y -> Q (.ref s.heap.objs.size) { s with toks := k, heap := s.heap.push { cls := .type "list", data := .seq (strValues l).toArray } }) :
    wpAny (model prog w) A (call (.builtin "str.split") [.str x t, .str y u]) Q E s := by
  have T := typeIs_str s x t
  by_cases g1 : (decide (x.length < y.length) || decide (Builtin.Str.strKind x < Builtin.Str.strKind y)) = true
  . exact call_meets F.slot_str_split T F.entry_str_split (F.args_str_split_2 _ _) (meets_str_split_cannot_occur x y t u g1) (hq [(x, t)] s.toks (if_pos g1).symm)
  . have g1' := eq_false_of_ne_true g1
    by_cases g2 : (Builtin.Str.occurrences x y 0 x.length (x.length + 1)).isEmpty = true
    . exact call_meets F.slot_str_split T F.entry_str_split (F.args_str_split_2 _ _) (meets_str_split_not_found x y t u g1' hy g2) (hq [(x, t)] s.toks ((if_neg g1).trans (if_pos g2)).symm)
    . have g2' := eq_false_of_ne_true g2
      have key := hq (PySem.numbered s.toks (Builtin.Str.partsBetween x (Builtin.Str.occurrences x y 0 x.length (x.length + 1)) y.length)) (s.toks + (Builtin.Str.partsBetween x (Builtin.Str.occurrences x y 0 x.length (x.length + 1)) y.length).length) ((numbered_texts _ _).trans ((if_neg g1).trans (if_neg g2)).symm)
      rw [<- strsFrom_eq] at key
      exact call_meets F.slot_str_split T F.entry_str_split (F.args_str_split_2 _ _) (meets_str_split_sep x y t u g1' hy g2' hsz hsz2) key
def vX : V -> List V -> Hp -> VK -> Prop := fun x vs H Q => ∃ (y : Str) (c : Nat), x = .str y /\ vs = [.str ⟨#[c]⟩] /\ y.length <= 10000 /\ ∀ l, H l = none -> Q (.ref l) (upd H l (.lst ((Txt.split y ⟨#[c]⟩).map V.str)))
theorem tm : ∀ l : List (Str × Tok), Vals ((l.map (·.1)).map V.str) (strValues l)
  | [] => .nil
  | (y, t) :: l => .cons ⟨t, rfl⟩ (tm l)
theorem uu : MtR X "str.split" vX := by
  intro pins s σ H x xs v us Q I rx rv ⟨y, c, ex, exs, hz, q⟩
  subst ex exs
  obtain ⟨t, rfl⟩ := rx
  obtain ⟨u, rfl, r1⟩ := rv.one
  obtain ⟨t', rfl⟩ := r1
  have big : 20000 <= sizeLine := by decide
  have hp : (Builtin.Str.partsBetween y (Builtin.Str.occurrences y ⟨#[c]⟩ 0 y.length (y.length + 1)) (⟨#[c]⟩ : Str).length).length <= sizeLine := by
    rw [length_partsBetween]
    have := StrLaws.occ_length_le y ⟨#[c]⟩ 0 y.length (y.length + 1)
    omega
  refine rR rfl (by omega) hp fun l k hl => ?_
  have hlen : (Txt.split y ⟨#[c]⟩).length <= sizeLine := by
    have e := congrArg List.length (ii y c)
    rw [List.length_map] at e
    have := fH c y.cps.toList
    rw [Str.len_list] at this
    omega
  refine ⟨.ref s.heap.objs.size, _, I.laid (t' := k) (fun b o q => Heap.get?_push_of_some _ q) (Nat.le_refl _) (show ObjOk X.prog X.w _ _ _ (.lst ((Txt.split y ⟨#[c]⟩).map V.str)) from ⟨by rw [List.length_map]; exact hlen, strValues l, _, by rw [<- hl]; exact tm l, Heap.get?_push_size _ rfl⟩), rfl, q _ (I.hok.fresh (Nat.le_refl _))⟩
theorem mG {K : PySem.W.Frag} {G : Hp} : ∀ ys : List Str, (∀ y ∈ ys, y.length <= sizeLine) -> Reps K G (ys.map V.str) ((ys.map fun y => y.cps.toList).map .str)
  | [], _ => .nil
  | y :: ys, h => .cons (.str y (h y (List.mem_cons_self ..))) (mG ys fun z hz => h z (List.mem_cons_of_mem _ hz))
theorem uT (K : PySem.W.Frag) : xV K "str" vX iy := by
  intro G H x xs dx ds d Q s rx rs e q
  unfold iy at e
  split at e
  . split at e
    . rename_i x0 c hc
      cases e
      obtain ⟨v, rfl, r1⟩ := rs.one
      obtain ⟨i, rfl, ei, hi⟩ := rx.str_inv
      obtain ⟨j, rfl, ej, hj⟩ := r1.str_inv
      subst ei
      have : j = ⟨#[c]⟩ := (Str.of_list ej).symm
      subst this
      rw [Str.len_list] at hc
      refine ⟨i, c, rfl, rfl, hc, fun l hl => q _ _ _ (.new s hl) (.lst bf ?_)⟩
      rw [<- ii]
      refine Reps.mono (.into (s.free hl)) (mG _ fun y hy => ?_)
      have := eD c i.cps.toList y.cps.toList (by rw [<- ii]; exact List.mem_map.2 ⟨y, hy, rfl⟩)
      rw [Str.len_list, Str.len_list] at this
      exact Nat.le_trans this hi
    . cases e
  . cases e
theorem qU {o : Expr} {ap cp : Pos} (ho : QF X o ga) (ha : QFA X [e] gl) (hbase : attributeBase o "split" X.env (eval o X.env) = eval o X.env := by rfl)
    (hfew : ((backTo cp (starEach [e] X.env)).all (fun x => !x.1) && (backToKw cp (keywordEach [] X.env)).all (fun x => x.1.isSome)
      && decide ([e].length + ([] : List Keyword).length + (if ([] : List Keyword).isEmpty then 0 else 1) < 30)) = true := by rfl)
    (hline : (ap.endLine == cp.line) = true := by rfl) (hs : starEach [e] X.env = (false, eval e X.env) :: starEach [] X.env := by rfl) :
    QF X (.Call (.Attribute o "split" ap) [e] [] cp) (eG "str" iy ga gl) := eI PySem.F.plainAttrs_str PySem.F.slot_str_split PySem.F.type_str_split uu (uT _) ho ha hbase hfew hline hs rfl
end
end L2
namespace L2
open PySem PySem.Spec PyProof.Rows
def BU (j i : Nat) (gl : Ev -> R (List D)) : Ev -> O := fun ρ => (gI (gl (frz j ρ))).out ρ fun ds => if ds.all (fl 10) = true then .nx (ρ.set i (some (.own ds))) else .no
section
variable {X : Cx} {elt iter : Expr} {ifs : List Expr} {x : Str} {px pos : Pos} {scope : Scope} {N' : List Str} {ix : List Nat} {gi : Ev -> R (List D)} {gt : Ev -> R Bool} {ge : Ev -> R D}
end
end L2
namespace L2
open PySem PySem.Spec PyProof.Rows
def itN (b : Bool) : String := if b then "tuple_iterator" else "list_iterator"
section
variable {prog : Program} {w : World} {A : Around} {E : Value -> Shared -> Prop} {s : Shared}
structure Z3 (z TI TO i1 i2 i3 l1 l2 l3 : Addr) : Prop where
  nd : [z, TI, TO, i1, i2, i3].Nodup
  ap : ∀ l ∈ [l1, l2, l3], l ∉ [z, TO, i1, i2, i3]
abbrev zA (b : Bool) (h : Heap) (l : Addr) : Heap := h.push { cls := .type (itN b), data := .fields #[.ref l, .int 0 0] }
end
section
variable {P : Program} {w : World} {K : PySem.W.Frag} {elts : List Expr} {kt : Nat} {tp : Pos}
end
section
variable {X : Cx} {a b c : Expr} {gl : Ev -> R (List D)} {elts : List Expr} {kt : Nat} {p pos tp : Pos}
end
end L2
namespace L2
open PySem PySem.Spec PyProof.Rows
section
variable {X : Cx} {a b e : Expr} {ga gb : Ev -> R D} {gl : Ev -> R (List D)} {pos p : Pos}
def zh : D -> D -> Option D
  | .str [c], .str y => some (.bl (decide (c ∈ y)))
  | _, _ => none
theorem zq (K : PySem.W.Frag) : ROk K (fun x y H Q => ∃ i j, x = .str i /\ y = .str j /\ Q (.bl (!(Builtin.Str.occurrences j i 0 j.length 1).isEmpty)) H) zh := by
  intro G H x y dx dy d Q s rx ry e q
  unfold zh at e
  split at e
  . rename_i c z
    cases e
    obtain ⟨i, rfl, ei, hi⟩ := rx.str_inv
    obtain ⟨j, rfl, ej, hj⟩ := ry.str_inv
    have : i = ⟨#[c]⟩ := (Str.of_list ei).symm
    subst this
    refine ⟨_, j, rfl, rfl, ?_⟩
    rw [StrLaws.found_one, ej]
    exact q _ G H (.refl s) (.bl _)
  . cases e
theorem uw (ha : QF X a ga) (hb : QF X b gb) (hm : behindInMarks .In b = false := by rfl) : QF X (.Compare a [.In] [b] pos) (g2 zh ga gb) := iS si (zq _) ha hb hm
end
end L2
namespace L2
open PySem PySem.Spec PyProof.Rows
def dB (X : Cx) (N' : List Str) (scope : Scope) (C : Addr) (s₂ : Shared) (H₂ : Hp) (fp : List Addr) (pn : List (Addr × Obj)) (xe : Value -> Shared -> Prop) : Cx := { bd X N' scope C s₂ H₂ fp with A := X.A, calm := X.calm, pn := pn, xe := xe }
def cc (asg : D -> Ev -> R Ev) (gt : Ev -> R Bool) (ge : Ev -> R D) : List D -> Ev -> R (List D)
  | [], _ => .ok []
  | d :: ds, ρ => gI (asg d ρ) >>= fun ρ1 => gI (gt ρ1) >>= fun k => if k = true then ge ρ1 >>= fun x => cc asg gt ge ds ρ1 >>= fun xs => .ok (x :: xs) else cc asg gt ge ds ρ1
def mK (gi : Ev -> R (List D)) (ix : List Nat) (gt : Ev -> R Bool) (ge : Ev -> R D) : Ev -> R (List D) := fun ρ => gi ρ >>= fun items => if items.length <= sizeLine then cc (fR 0) gt ge items (fh ix ρ) else .no
def lZ (M : Model) (A : Around) (E : Value -> Shared -> Prop) (Q : Value -> Shared -> Prop) (acc : Value) (cenv : Env) (r : Result) (s' : Shared) : Prop :=
  match r with
  | .ok _ => ∃ m, s'.heap.Ns cenv.locals m /\ ∀ h', Heap.SameBut cenv.locals s'.heap h' -> Q acc { s' with heap := h' }
  | .error x => ∃ m, s'.heap.Ns cenv.locals m /\ ∀ h', Heap.SameBut cenv.locals s'.heap h' -> wpAny M A (passOn "comprehension.variables-let-go" x cenv : Sem Value) (fun _ _ => False) E { s' with heap := h' }
theorem qt {M : Model} {A : Around} {E : Value -> Shared -> Prop} {s : Shared} {env : Env} {e : Expr} {scope : Scope} {pos : Pos} {newAcc first : Sem Value} {g : Comprehension} {gs : List Comprehension} {cl : List (Str × Addr)} {Q : Value -> Shared -> Prop}
    (hcl : clausesOf e = g :: gs) (hs : ∀ x, foldedSetIterable g.iter env x = pure x) (hclos : closureFor scope env = pure cl)
    (hkind : scope.kind = .function) (hnames : ∀ x ∈ scope.names, x.2 = .local -> scope.names.lookup x.1 = some .local)
    (h : wpAny M A first (fun x s₁ => wpAny M A (pyIter x) (fun it s₂ => wpAny M A newAcc (fun acc s₃ =>
      wpAny M A (newFunctionEnv scope env.globals cl [] env.qual none .none (some env)) (fun cenv s₄ =>
        codeAny M A (.compStart e 0 it acc { cenv with scope := relabel scope env }) (lZ M A E Q acc { cenv with scope := relabel scope env }) s₄) E s₃) E s₂) E s₁) E s) :
    wpAny M A (comprehension e scope env pos newAcc false first none) Q E s := by
  unfold comprehension; rw [hclos, hcl]
  refine wpAny_bind (wpAny_mono h (fun x s₁ h₁ => ?_) fun _ _ h' => h')
  refine wpAny_bind (wpAny_standAt (wpAny_bind (wpAny_of_eq (hs x) (wpAny_bind (wpAny_holding (wpAny_mono h₁ (fun it s₂ h₂ => ?_) fun _ _ h' => h'))))))
  refine wpAny_standIf (wpAny_bind (wpAny_mono h₂ (fun acc s₃ h₃ => wpAny_bind (wpAny_pure (wpAny_bind (wpAny_mono h₃ (fun cenv s₄ h₄ => ?_) fun _ _ h' => h')))) fun _ _ h' => h'))
  dsimp only
  have hv : ∀ x ∈ (scope.names.filter fun x => (x.2 == .local || x.2 == .cell) && x.1 != (".0" : Str)).reverse, x.2 = .local -> Env.kindOf { cenv with scope := relabel scope env } x.1 = some .local :=
    fun x hx hl => lookup_relabel_local (hnames x (List.mem_filter.mp (List.mem_reverse.mp hx)).1 hl)
  refine wpAny_holding (wpAny_bind (wpAny_attempt (wpAny_holding (wpAny_run (codeAny_mono h₄ fun r s' hr => ?_)))))
  cases r with
  | ok f =>
    obtain ⟨m, hn, hr⟩ := hr
    refine wpAny_bind (wpAny_holding (wpAny_comp_letGo (cenv := { cenv with scope := relabel scope env }) hkind _ s' m hv hn fun h' m' _ hs' => ?_))
    exact wpAny_pure (hr h' hs')
  | error x =>
    obtain ⟨m, hn, hr⟩ := hr
    refine wpAny_bind (wpAny_holding (wpAny_comp_letGo (cenv := { cenv with scope := relabel scope env }) hkind _ s' m hv hn fun h' m' _ hs' => ?_))
    exact wpAny_mono (hr h' hs') (fun _ _ f => f.elim) fun _ _ y => y
theorem ny {prog : Program} {w : World} {A : Around} {R' : Result -> Shared -> Prop} {s : Shared} {elt target iter : Expr} {ifs : List Expr} {scope : Scope} {pos : Pos} {it acc : Value} {env : Env} (I : Nat -> Shared -> Prop)
    (turn : ∀ n s, I n s -> wpAny (model prog w) A (pyNext it) (fun r s₁ => match r with
      | none => R' (.ok .next) s₁
      | some v => wpAny (model prog w) A (letOwnedTupleGo target it v) (fun _ s₁' => wpAny (model prog w) A (assign target env v) (fun _ s₂ =>
          wpAny (model prog w) A (forIn ifs true fun c r => if r = true then do let ok <- isTrue c env (eval c env); pure (ForInStep.yield ok) else pure (ForInStep.yield r)) (fun ok s₃ =>
            if ok = true then wpAny (model prog w) A (eval elt env) (fun x s₄ =>
              wpAny (model prog w) A (call (.builtin "list.append") [acc, x]) (fun _ s₅ => ∃ m, m < n /\ I m s₅) (fun _ _ => False) s₄) (notedBy (model prog w) A env fun x s' => R' (.error x) s') s₃
            else ∃ m, m < n /\ I m s₃) (fun _ _ => False) s₂) (fun _ _ => False) s₁') (fun _ _ => False) s₁) (fun _ _ => False) s)
    (n : Nat) (h : I n s) :
    codeAny (model prog w) A (.compLoop (.ListComp elt [⟨target, iter, ifs, 0⟩] scope pos) 0 it acc env) R' s := by
  refine codeAny_loop rfl I (fun n s hI => ?_) n h
  show wpAny _ A ((compTurn (.ListComp elt [⟨target, iter, ifs, 0⟩] scope pos) 0 it acc env).onRaise (fun x => do noteFrame x env; theTreesLotGoes x)) _ _ s
  refine wpAny_noted ?_
  rw [compTurn_list]
  refine wpAny_bind (wpAny_standAt (wpAny_bind (wpAny_mono (turn n s hI) (fun r s₁ h₁ => ?_) fun _ _ z => z.elim)))
  cases r with
  | none => exact wpAny_pure h₁
  | some v =>
    refine wpAny_bind (wpAny_mono h₁ (fun _ s₁' h₁' => ?_) fun _ _ z => z.elim)
    refine wpAny_bind (wpAny_mono h₁' (fun _ s₂ h₂ => wpAny_bind (wpAny_mono h₂ (fun ok s₃ h₃ => ?_) fun _ _ z => z.elim)) fun _ _ z => z.elim)
    cases ok with
    | false => exact wpAny_pure ⟨rfl, h₃⟩
    | true => exact wpAny_bind (wpAny_bind (wpAny_mono h₃ (fun x s₄ h₄ => wpAny_bind (wpAny_mono h₄ (fun _ s₅ h₅ => wpAny_pure (wpAny_pure ⟨rfl, h₅⟩)) fun _ _ z => z.elim)) fun _ _ z => z))
theorem uU {X : Cx} {pins : List (Addr × Obj)} {σ : St} {G₁ H₁ : Hp} {C a L : Addr} {s₁ s' : Shared} {env : Env} {outer : List Env} {E : Value -> Shared -> Prop} {Q : Shared -> Prop}
    (hst : X.stack = env :: outer) (hfr : env.frame = some L) (hL : X.env.frame = some L) (sub : Same G₁ H₁) (J₁ : Inv X pins σ H₁ s₁)
    (way : (∃ h' vs, Heap.MadeExcOf s₁.heap h' a (.ref C) vs /\ s' = { s₁ with heap := h' }) \/ (∃ G' H', wW X.prog X.w X.stack H₁ s₁ a C H' s' /\ Up G₁ H₁ G' H') \/ ∃ G' H' L, X.env.frame = some L /\ ww X pins L H₁ s₁ a C H' s' /\ Up G₁ H₁ G' H')
    (cont : ∀ {ch : List Addr} {H' G' : Hp} {s' : Shared} {B : Heap} {a0 : Value} {h₄ : Heap}, (∀ b ∈ ch, Ap X pins b) -> s'.os = s₁.os -> AllBare s'.gens -> Un (frs X.stack) ch H₁ H' s₁.heap s'.heap -> HOk X.prog X.w H' s'.heap -> H' a = none -> s₁.heap.get? a = none -> Up G₁ H₁ G' H' ->
      (∀ b o, b ∉ frs X.stack -> ((∃ o0, s₁.heap.get? b = some o0) \/ ∃ u, H' b = some u) -> s'.heap.get? b = some o -> B.get? b = some o) -> Heap.HeldW B (env :: outer) a (.ref C) a0 L h₄ -> s'.heap.UpToSlots h₄ -> Q { s' with heap := h₄ }) :
    wpAny (model X.prog X.w) X.A (noteFrame (.ref a) env) (fun _ s₂ => Q s₂) E s' := by
  have hfrm : X.A.frames = some (env :: outer) := by rw [<- hst]; exact J₁.ok.frames
  rcases way with ⟨h', vs, made, rfl⟩ | ⟨G', H', ⟨os, bare, un, hok, ha, B, a0, fl, hk⟩, up⟩ | ⟨G', H', L', hL', ⟨os, bare, ⟨ch, hch, un⟩, hok, ha, hna, B, a0, fl, hk⟩, up⟩
  . have hin : ∀ env ∈ X.stack, ∀ b, env.frame = some b -> b ∈ frs X.stack := fun env he b hb => List.mem_filterMap.mpr ⟨env, he, hb⟩
    have ha : H₁ a = none := by
      cases q : H₁ a with
      | none => rfl
      | some u => obtain ⟨ob, e⟩ := (J₁.hok a u q).there; rw [made.new] at e; cases e
    obtain ⟨t, he, htn, ht⟩ := made.there
    have hkb : (PySem.W.hideAll s₁.heap (frs X.stack)).StaysIn h' := fun b o q => made.keeps b o (PySem.W.of_hideAll _ q)
    have hen : (PySem.W.hideAll s₁.heap (frs X.stack)).get? a = none := by
      cases q : (PySem.W.hideAll s₁.heap (frs X.stack)).get? a with
      | none => rfl
      | some o => have := PySem.W.of_hideAll _ q; rw [made.new] at this; cases this
    have hff : h'.FunFrames (PySem.W.hideAll s₁.heap (frs X.stack)) (env :: outer) := by
      rw [<- hst]
      exact (PySem.W.funFrames_hide J₁.stack hin).of_keeps fun b o hb _ => ⟨o, made.keeps b o hb, rfl⟩
    unfold noteFrame
    simp only [hfr]
    refine wpAny_bind (wpAny_field (show ({ s₁ with heap := h' } : Shared).heap.get? a = some _ from he) rfl (x := .none) rfl ?_)
    rw [if_neg (by decide)]
    refine wpAny_entryW (base := PySem.W.hideAll s₁.heap (frs X.stack)) (a0 := .ref t) hfrm hff hfr he hkb hen rfl (by show 1 < 6; decide) rfl fun h₄ noted => ?_
    obtain ⟨n1, n2, n3, n4⟩ := noted
    refine cont (ch := []) (s' := { s₁ with heap := h' }) (fun b z => absurd z (by simp)) rfl J₁.bare (Un.kept made.keeps) (J₁.hok.kept made.keeps) ha made.new (.refl sub) (fun b o hb ho e => ?_) ⟨n1, hen, n2, n3⟩ n4
    have e1 : s₁.heap.get? b = some o := by
      have one : ∀ o0, s₁.heap.get? b = some o0 -> s₁.heap.get? b = some o := fun o0 ho => by
        have q := made.keeps b o0 ho
        have e' : h'.get? b = some o := e
        rw [q] at e'; cases e'; exact ho
      rcases ho with ⟨o0, ho⟩ | ⟨u, ho⟩
      . exact one o0 ho
      . obtain ⟨ob, ho⟩ := (J₁.hok b u ho).there; exact one ob ho
    exact PySem.W.hideAll_get _ e1 hb
  . have hna : s₁.heap.get? a = none := by
      cases q : s₁.heap.get? a with
      | none => rfl
      | some o0 =>
        obtain ⟨o', e'⟩ := un.there a o0 q (by simp)
        have hna : a ∉ frs X.stack := fun z => by
          obtain ⟨o1, e1, d1, _⟩ := FunFrames.data fl.2.2.1 a z
          obtain ⟨oe, vs, _, _, _, e2, _, d2, _⟩ := fl.2.2.2
          rw [e1] at e2; cases e2; exact d1 vs d2
        have := hk a o' hna (.inl ⟨o0, q⟩) e'
        rw [fl.2.1] at this; cases this
    rw [hst] at fl
    exact wpAny_looks_onW hfrm hfr fl fun h₄ held sm => cont (ch := []) (fun b z => absurd z (by simp)) os bare un hok ha hna up hk held sm
  . have eL : L = L' := Option.some.inj (hL.symm.trans hL')
    rw [hst, <- eL] at fl
    exact wpAny_noteFrame_againW hfr fl.2.2.2 (cont (h₄ := s'.heap) hch os bare un hok ha hna up hk fl fun b o hb _ => ⟨o.slots, hb⟩)
theorem FunFrames.rebase {B B' h : Heap} (k : ∀ b, B.get? b = none -> B'.get? b = none) : ∀ {l : List Env}, h.FunFrames B l -> h.FunFrames B' l
  | [], x => x
  | _ :: _, ⟨x1, ⟨L, o, y1, y2, y3⟩, x3⟩ => ⟨x1, ⟨L, o, y1, k L y2, y3⟩, FunFrames.rebase k x3⟩
theorem lx {X : Cx} {elt iter : Expr} {ifs : List Expr} {pos : Pos} {scope : Scope} {N' : List Str} {ix : List Nat} {gt : Ev -> R Bool} {ge : Ev -> R D} {tgt : Expr} {asg : D -> Ev -> R Ev} {n : Nat} {pins : List (Addr × Obj)} {σ : St} {H : Hp} {s : Shared} {it : Addr} {fp : List Addr} {tn : Nat -> Heap -> Prop} {J : It} {G : Hp} {ρ : Ev} {items : List D} {Q : VK} {RR : Value -> Env -> Result -> Shared -> Prop} {L : Addr} (hst : X.stack = X.env :: X.outer) (hfr : X.env.frame = some L) {E : Value -> Shared -> Prop} (ok : CompOkT X scope n N' ix) (hcalm : X.calm = true) (hg : ∀ C s₂ H₂ fp, PGF (bd X N' scope C s₂ H₂ fp) tgt asg) (hown : ∀ d ρ ρ', asg d ρ = .ok ρ' -> (∀ (j : Nat) ds, ρ[j]? ≠ some (some (.own ds))) -> ∀ (j : Nat) ds, ρ'[j]? ≠ some (some (.own ds)))
    (he : ∀ C s₂ H₂ fp pn xe, QF (dB X N' scope C s₂ H₂ fp pn xe) elt ge) (ht : ∀ C s₂ H₂ fp, PTs (bd X N' scope C s₂ H₂ fp) ifs gt)
    (I : Inv X pins σ H s) (T : Turn X.prog X.w X.K tgt J fp it tn) (st0 : tn 0 s.heap) (hf : ∀ b ∈ fp, pG X pins H b) (st : StE X.K G H σ ρ) (hi : ItOk X.K G J items)
    (hlen : items.length <= sizeLine) (h : (cc asg gt ge items (dX n ix ρ)).post (oy X.K G H Q) (Exx X σ G H))
    (hR : ∀ (Dd C : Addr) (s' : Shared) (m : Str -> Option Value) (vs : List V) (G' H' : Hp), Up G H G' H' -> H' Dd = none -> C ≠ Dd -> (∀ ds, Reps X.K G' vs ds -> True) -> Q (.ref Dd) (upd H' Dd (.lst vs)) -> s'.heap.Ns C m -> s'.os = s.os -> AllBare s'.gens -> H' C = none -> s.heap.objs.size <= C ->
      Un (frs X.stack) fp H (upd H' Dd (.lst vs)) s.heap s'.heap -> HOk X.prog X.w (upd H' Dd (.lst vs)) s'.heap -> RR (.ref Dd) (compEnvC scope (jk X.env scope.names []) C X.env) (.ok .next) s')
    (hX : ∀ (Dd C a Cc : Addr) (s' : Shared) (m : Str -> Option Value) (B : Heap) (a0 : Value) (G' H' : Hp), Exx X σ G H Cc -> Up G H G' H' -> s'.heap.Ns C m -> s'.os = s.os -> AllBare s'.gens -> H' C = none -> s.heap.objs.size <= C -> Un (frs X.stack) fp H H' s.heap s'.heap -> HOk X.prog X.w H' s'.heap -> H' a = none -> s.heap.get? a = none ->
      Heap.HeldW B X.stack a (.ref Cc) a0 L s'.heap -> (∀ b o, b ∉ frs X.stack -> ((∃ o0, s.heap.get? b = some o0) \/ ∃ u, H' b = some u) -> s'.heap.get? b = some o -> B.get? b = some o) -> (∀ b ∈ fp, ∃ o, s'.heap.get? b = some o) -> (∀ b ∈ frs X.stack, H' b = none) ->
      RR (.ref Dd) (compEnvC scope (jk X.env scope.names []) C X.env) (.error (.ref a)) s') :
    wpAny (model X.prog X.w) X.A (newList []) (fun acc s₃ => wpAny (model X.prog X.w) X.A (newFunctionEnv scope X.env.globals (jk X.env scope.names []) [] X.env.qual none .none (some X.env)) (fun cenv s₄ =>
      codeAny (model X.prog X.w) X.A (.compStart (.ListComp elt [⟨tgt, iter, ifs, 0⟩] scope pos) 0 (.ref it) acc { cenv with scope := relabel scope X.env }) (RR acc { cenv with scope := relabel scope X.env }) s₄) E s₃) E s := by
  have hfl : ∀ b ∈ fp, b < s.heap.objs.size := fun b hb => let ⟨o, e, _⟩ := T.obj 0 s.heap st0 b hb; Heap.lt_size e
  refine wpAny_newObj_type (wpAny_newFunctionEnv ok.cell (by intro y hy; simp at hy) (fun h₁ hns₁ hsb₁ => ?_) ok.kind)
  dsimp only at hns₁ hsb₁ ⊢
  generalize hH2 : s.heap.push { cls := .type "list", dict := none, data := .seq ([] : List Value).toArray } = Hq at hns₁ hsb₁ ⊢
  have hC : Hq.objs.size = s.heap.objs.size + 1 := by rw [<- hH2, Heap.size_push]
  have hDC : s.heap.objs.size ≠ Hq.objs.size := by rw [hC]; exact Nat.ne_of_lt (Nat.lt_succ_self _)
  have hCle : s.heap.objs.size <= Hq.objs.size := by rw [hC]; exact Nat.le_succ _
  have old : ∀ b o, s.heap.get? b = some o -> h₁.get? b = some o := fun b o e =>
    hsb₁.extBut b o (by rw [hC]; exact Nat.ne_of_lt (Nat.lt_succ_of_lt (Heap.lt_size e))) (Heap.get?_push_of_some _ (hH2 ▸ Heap.get?_push_of_some _ e))
  have hacc : h₁.get? s.heap.objs.size = some { cls := .type "list", data := .seq ([] : List Value).toArray } := hsb₁.extBut _ _ hDC (Heap.get?_push_of_some _ (hH2 ▸ Heap.get?_push_size _ rfl))
  have hD0 : H s.heap.objs.size = none := I.fresh
  have hC0 : H Hq.objs.size = none := I.hok.fresh hCle
  have st0' : tn 0 h₁ := T.keep 0 _ _ st0 fun b hb o e => old b o e
  -- the block's state at its beginning
  have I0 : ∀ tk, Inv (bd X N' scope Hq.objs.size s H fp) [] (eE n ix σ) (upd H s.heap.objs.size (.lst [])) { s with heap := h₁, toks := tk } := fun tk => by
    refine pC ok hcalm I hf hfl hCle hns₁ old (Un.laid old (Nat.le_refl _) hD0) (I.hok.laid old (Nat.le_refl _) ⟨Nat.zero_le _, [], 0, .nil, hacc⟩) (by rw [aW hDC.symm]; exact hC0) fun c hc e => ?_
    rw [aW (Nat.ne_of_lt hc)]; exact e
  have loop : ∀ tk, codeAny (model X.prog X.w) X.A (.compLoop (.ListComp elt [⟨tgt, iter, ifs, 0⟩] scope pos) 0 (.ref it) (.ref s.heap.objs.size) (compEnvC scope (jk X.env scope.names []) Hq.objs.size X.env))
      (RR (.ref s.heap.objs.size) (compEnvC scope (jk X.env scope.names []) Hq.objs.size X.env)) { s with heap := h₁, toks := tk } := fun tk => by
    have fpk : ∀ {pins' : List (Addr × Obj)} {σ' : St} {H' : Hp} {s' : Shared}, Inv (bd X N' scope Hq.objs.size s H fp) pins' σ' H' s' -> pins' = [] -> (∀ b ∈ fp, H' b = none) -> ∀ b ∈ fp, pG (bd X N' scope Hq.objs.size s H fp) pins' H' b := fun I' e hn b hb =>
      ⟨hn b hb, (I'.ok.exf b hb).1, I'.ok.exfs b hb, .inl hb, (I'.ok.exf b hb).2, by subst e; intro p hp; exact absurd (show p ∈ ([] : List (Addr × Obj)) from hp) (by simp)⟩
    refine ny (fun nn s' => ∃ (i : Nat) (σ' : St) (G' H' : Hp) (ρ' : Ev) (vs : List V) (ys : List D), nn = items.length - i /\ i <= items.length /\ Inv (bd X N' scope Hq.objs.size s H fp) [] σ' H' s' /\ tn i s'.heap /\ (∀ b ∈ fp, H' b = none) /\
      H' s.heap.objs.size = some (.lst vs) /\ G' s.heap.objs.size = none /\ Up G H G' H' /\ StE X.K G' H' σ' ρ' /\ (∀ (j : Nat) ds, ρ'[j]? ≠ some (some (.own ds))) /\ Reps X.K G' vs ys /\
      ys.length <= i /\ (cc asg gt ge (items.drop i) ρ' >>= fun zs => R.ok (ys ++ zs)).post (oy X.K G H Q) (Exx X σ G H)) ?_ items.length
      ⟨0, eE n ix σ, G, upd H s.heap.objs.size (.lst []), dX n ix ρ, [], [], by simp, Nat.zero_le _, I0 tk, st0', fun b hb => by rw [aW (Nat.ne_of_lt (hfl b hb))]; exact (hf b hb).1, bf, st.sub.free hD0,
        ⟨fun a o e => by rw [aW (aK e (st.sub.free hD0))]; exact st.sub a o e, .refl _, .into hD0, fun _ _ e => .inl e⟩,
        ⟨fun a o e => by rw [aW (aK e (st.sub.free hD0))]; exact st.sub a o e, (iP st n ix).len, (iP st n ix).val⟩, fun j ds e => mm e, .nil, Nat.zero_le _, by
          rw [List.drop_zero]
          cases q : cc asg gt ge items (dX n ix ρ) with
          | ok xs => rw [q] at h; exact h
          | ex C => rw [q] at h; exact h
          | no => rw [q] at h; exact h⟩
    rintro nn s' ⟨i, σ', G', H', ρ', vs, ys, rfl, hil, I', tn', fr', hD', gD', up', st', no', rp', hyl, h'⟩
    have hIt := hi i G' H' up'.gg st'.sub
    by_cases hlt : i < items.length
    . -- a turn
      have hd : items.drop i = items[i] :: items.drop (i + 1) := List.drop_eq_getElem_cons hlt
      rw [hd] at h'
      obtain ⟨go, yl⟩ := hIt.1 items[i] (by simp [hlt])
      refine wpAny_mono (T.item (bd X N' scope Hq.objs.size s H fp) rfl rfl rfl hcalm i [] s' σ' H' (fun _ _ => False) I' (fpk I' rfl fr') tn' go) (fun r s1 ⟨u, hr, h1⟩ => ?_) fun _ _ z => z
      subst hr
      refine wpAny_mono h1 (fun _ s2 ⟨x2, H2, I2, r2, y2, tn2, fr2⟩ => ?_) fun _ _ z => z
      obtain ⟨G2, up2, rep2⟩ := yl x2 H2 y2
      have I2p := I2.pinned (fpk I2 rfl fr2) (T.obj _ _ tn2)
      have st2 : StE X.K G2 H2 σ' ρ' := st'.up up2
      have sr2 : StR X.K G2 H2 G2 H2 σ' ρ' := ⟨st2, up2.sub, .refl up2.sub, fun j ds e => absurd e (no' j ds), fun j k ds es l e => absurd e (no' j ds)⟩
      have ea : ∃ ρ1, asg items[i] ρ' = .ok ρ1 := by
        unfold cc at h'
        cases q : asg items[i] ρ' with
        | ok k => exact ⟨k, rfl⟩
        | ex C => rw [q] at h'; exact h'.elim
        | no => rw [q] at h'; exact h'.elim
      obtain ⟨ρ1, ea⟩ := ea
      unfold cc at h'
      rw [ea] at h'
      simp only [gI, R.ok_bind] at h'
      refine wpAny_mono (hg Hq.objs.size s H fp _ s2 σ' H2 x2 u (fun σ3 H3 => H3 = H2 /\ StR X.K G2 H2 G2 H2 σ3 ρ1) I2p r2
        ⟨G2, H2, G2, ρ', items[i], _, sr2, rep2, ea, fun σ3 q => ⟨rfl, q⟩⟩) (fun _ s3 ⟨σ3, H3, I3, e3, sr3⟩ => ?_) fun _ _ z => z
      subst e3
      have no3 := hown _ _ _ ea no'
      have hD2 : H3 s.heap.objs.size = some (.lst vs) := up2.hh _ _ hD'
      have gD2 : G2 s.heap.objs.size = none := by
        cases q : G2 s.heap.objs.size with
        | none => rfl
        | some o =>
          rcases up2.fr _ _ q with z | z
          . rw [gD'] at z; cases z
          . rw [hD'] at z; cases z
      -- the tests
      have ek : ∃ k, gt ρ1 = .ok k := by
        cases q : gt ρ1 with
        | ok k => exact ⟨k, rfl⟩
        | ex C => rw [q] at h'; exact h'.elim
        | no => rw [q] at h'; exact h'.elim
      obtain ⟨k, ek⟩ := ek
      rw [ek] at h'
      simp only [gI, R.ok_bind] at h'
      refine wpAny_mono (ht Hq.objs.size s H fp _ s3 σ3 H3 (fun b H4 => b = k /\ ∃ G4, Up G2 H3 G4 H4) I3 ⟨G2, _, sr3.e, by rw [ek]; exact fun b G4 H4 u4 e4 => ⟨e4, G4, u4⟩⟩) (fun b s4 ⟨H4, I4, eb, G4, up4⟩ => ?_) fun _ _ z => z
      subst eb
      have next : ∀ {H7 : Hp} {s7 : Shared} {G7 : Hp} {vs7 : List V} {ys7 : List D}, Inv (bd X N' scope Hq.objs.size s H fp) ([] ++ ee fp s2.heap) σ3 H7 s7 -> H7 s.heap.objs.size = some (.lst vs7) -> G7 s.heap.objs.size = none -> Up G H G7 H7 -> StE X.K G7 H7 σ3 ρ1 -> Reps X.K G7 vs7 ys7 -> ys7.length <= i + 1 ->
          (cc asg gt ge (items.drop (i + 1)) ρ1 >>= fun zs => R.ok (ys7 ++ zs)).post (oy X.K G H Q) (Exx X σ G H) ->
          ∃ m, m < items.length - i /\ ∃ (i : Nat) (σ' : St) (G' H' : Hp) (ρ' : Ev) (vs : List V) (ys : List D), m = items.length - i /\ i <= items.length /\ Inv (bd X N' scope Hq.objs.size s H fp) [] σ' H' s7 /\ tn i s7.heap /\ (∀ b ∈ fp, H' b = none) /\
            H' s.heap.objs.size = some (.lst vs) /\ G' s.heap.objs.size = none /\ Up G H G' H' /\ StE X.K G' H' σ' ρ' /\ (∀ (j : Nat) ds, ρ'[j]? ≠ some (some (.own ds))) /\ Reps X.K G' vs ys /\
            ys.length <= i /\ (cc asg gt ge (items.drop i) ρ' >>= fun zs => R.ok (ys ++ zs)).post (oy X.K G H Q) (Exx X σ G H) := fun {H7 s7 G7 vs7 ys7} I7 hD7 gD7 up7 st7 rp7 hy7 h7 => by
        have pin : ∀ b ∈ fp, ∀ o, s2.heap.get? b = some o -> s7.heap.get? b = some o /\ H7 b = none := fun b hb o e => by
          have := I7.pin (b, o) (List.mem_append_right _ (List.mem_append_right _ (dt hb e)))
          exact ⟨this.1, this.2.1⟩
        refine ⟨items.length - (i + 1), by omega, i + 1, σ3, G7, H7, _, vs7, ys7, rfl, hlt, I7.unpinned, T.keep _ _ _ tn2 fun b hb o e => (pin b hb o e).1, fun b hb => ?_, hD7, gD7, up7, st7, no3, rp7, hy7, h7⟩
        obtain ⟨o, e, _⟩ := T.obj _ _ tn2 b hb
        exact (pin b hb o e).2
      have hD4 : H4 s.heap.objs.size = some (.lst vs) := up4.hh _ _ hD2
      have gD4 : G4 s.heap.objs.size = none := by
        cases q : G4 s.heap.objs.size with
        | none => rfl
        | some o =>
          rcases up4.fr _ _ q with z | z
          . rw [gD2] at z; cases z
          . rw [hD2] at z; cases z
      cases b with
      | false =>
        simp only [Bool.false_eq_true, if_false] at h' ⊢
        exact next I4 hD4 gD4 ((up'.trans up2).trans up4) (sr3.e.up up4) ((rp'.mono up2.gg).mono up4.gg) (Nat.le_succ_of_le hyl) h'
      | true =>
        simp only [if_true] at h' ⊢
        have I4' : ∀ xe, Inv (dB X N' scope Hq.objs.size s H fp (ee fp s2.heap) xe) [] σ3 H4 s4 := fun xe => I4.cx (fun p hp => by simpa [bd] using hp) rfl I4.ok.hd
        cases eg : ge ρ1 with
        | no => rw [eg] at h'; exact h'.elim
        | ex Cc =>
          rw [eg] at h'
          have h' : Exx X σ G H Cc := h'
          refine wpAny_mono (he Hq.objs.size s H fp (ee fp s2.heap) (notedBy (model X.prog X.w) X.A (compEnvC scope (jk X.env scope.names []) Hq.objs.size X.env) fun x s' => RR (.ref s.heap.objs.size) (compEnvC scope (jk X.env scope.names []) Hq.objs.size X.env) (.error x) s') _ s4 σ3 H4 (fun _ _ => False) (I4' _) ⟨G4, _, sr3.e.up up4, ?_⟩) (fun _ _ z => by obtain ⟨_, _, _, _, z⟩ := z; exact z.elim) fun _ _ z => z
          rw [eg]
          rintro e s5 ⟨G5, H5, up5, pins5, s6, a, rfl, J, way⟩
          show wpAny (model X.prog X.w) X.A (noteFrame (.ref a) (compEnvC scope (jk X.env scope.names []) Hq.objs.size X.env)) _ _ s5
          show wpAny (model X.prog X.w) X.A (noteFrame (.ref a) X.env) _ _ s5
          refine uU (X := dB X N' scope Hq.objs.size s H fp (ee fp s2.heap) _) (env := X.env) (outer := X.outer) (L := L) (Q := fun s' => RR (.ref s.heap.objs.size) (compEnvC scope (jk X.env scope.names []) Hq.objs.size X.env) (.error (.ref a)) s') hst hfr hfr up5.sub J way ?_
          intro ch H7 G7 s7 B a0 h₄ hch os bare un hok ha hna up7 hk held sm
          have J7 := J.call' (ch := ch) os un hok bare hch
          have pin6 : ∀ b ∈ fp, ∀ o, s2.heap.get? b = some o -> s6.heap.get? b = some o /\ s7.heap.get? b = some o /\ H7 b = none := fun b hb o e => by
            have p1 := J.pin (b, o) (List.mem_append_left _ (dt hb e))
            have p2 := J7.pin (b, o) (List.mem_append_left _ (dt hb e))
            exact ⟨p1.1, p2.1, p2.2.1⟩
          have fpo : ∀ b ∈ fp, ∃ o, s2.heap.get? b = some o := fun b hb => let ⟨o, e, _⟩ := T.obj _ _ tn2 b hb; ⟨o, e⟩
          have to6 : ∀ b o, s.heap.get? b = some o -> ∃ o0, s6.heap.get? b = some o0 := fun b o e => by
            by_cases hb : b ∈ fp
            . obtain ⟨o2, e2⟩ := fpo b hb; exact ⟨o2, (pin6 b hb o2 e2).1⟩
            . exact J.base.there b o e hb
          have to7 : ∀ b, ((∃ o0, s.heap.get? b = some o0) \/ ∃ u, H7 b = some u) -> ∃ o7, s7.heap.get? b = some o7 := fun b ho => by
            rcases ho with ⟨o0, ho⟩ | ⟨u, ho⟩
            . by_cases hb : b ∈ fp
              . obtain ⟨o2, e2⟩ := fpo b hb; exact ⟨o2, (pin6 b hb o2 e2).2.1⟩
              . exact J7.base.there b o0 ho hb
            . exact (hok b u ho).there
          have hk4 : ∀ b o, b ∉ frs X.stack -> ((∃ o0, s.heap.get? b = some o0) \/ ∃ u, H7 b = some u) -> s7.heap.get? b = some o -> B.get? b = some o := fun b o hb ho e => hk b o hb (ho.imp (fun ⟨o0, z⟩ => to6 b o0 z) id) e
          have stf : ∀ b ∈ frs X.stack, H7 b = none := fun b hb => J7.stkFree b hb
          have dat : ∀ b ∈ frs X.stack, ∀ o, s7.heap.get? b = some o -> ∀ vs, o.data ≠ .fields vs := fun b hb o e => by
            obtain ⟨o', e', d', _⟩ := FunFrames.data J7.stack b hb
            rw [e] at e'; cases e'; exact d'
          have held : Heap.HeldW B X.stack a (.ref Cc) a0 L h₄ := by rw [hst]; exact held
          obtain ⟨m7, hn7, _⟩ := J7.loc
          obtain ⟨m6, hn6, _⟩ := J.loc
          have hCf : Hq.objs.size ∉ frs X.stack := fun z => by
            obtain ⟨o', e', _⟩ := FunFrames.data I.stack _ z
            exact absurd (Heap.lt_size e') (Nat.not_lt.mpr hCle)
          refine hX s.heap.objs.size Hq.objs.size a Cc { s7 with heap := h₄ } m7 B a0 G7 H7 h' (((((up'.trans up2).trans up4).trans up5).trans up7)) (hn7.at' fun o e => ?_) J7.os J7.bare J7.free hCle ?_ ?_ ha ?_ held (fun b o hb ho e => ?_) (fun b hb => ?_) stf
          . have h6 : ∃ o0, s6.heap.get? Hq.objs.size = some o0 := by obtain ⟨o0, _, _, e0, _⟩ := hn6; exact ⟨o0, e0⟩
            exact held.1 _ o (hk _ o hCf (.inl h6) e)
          . exact Un.flight J7.base held.1 sm hk4 (fun b o e => ⟨o, e⟩) (fun b hb => .inl hb) dat
          . exact hok.flight held.1 hk4 stf
          . cases q : s.heap.get? a with
            | none => rfl
            | some o0 => obtain ⟨o1, e1⟩ := to6 a o0 q; rw [hna] at e1; cases e1
          . obtain ⟨o7, e7⟩ := to7 b ho
            have q := hk4 b o7 hb ho e7
            have e' : h₄.get? b = some o := e
            rw [held.1 b o7 q] at e'; cases e'; exact q
          . obtain ⟨o2, e2⟩ := fpo b hb
            by_cases z : b ∈ frs X.stack
            . obtain ⟨o', e', _⟩ := FunFrames.data held.2.2.1 b z; exact ⟨o', e'⟩
            . exact ⟨o2, held.1 b o2 (hk b o2 z (.inl ⟨o2, (pin6 b hb o2 e2).1⟩) (pin6 b hb o2 e2).2.1)⟩
        | ok y =>
          rw [eg] at h'
          simp only [R.ok_bind] at h'
          refine wpAny_mono (he Hq.objs.size s H fp (ee fp s2.heap) (notedBy (model X.prog X.w) X.A (compEnvC scope (jk X.env scope.names []) Hq.objs.size X.env) fun x s' => RR (.ref s.heap.objs.size) (compEnvC scope (jk X.env scope.names []) Hq.objs.size X.env) (.error x) s') _ s4 σ3 H4 (fun v H5 => ∃ G5, Up G4 H4 G5 H5 /\ Rep X.K G5 v y) (I4' _) ⟨G4, _, sr3.e.up up4, by rw [eg]; exact fun v G5 H5 u5 r5 => ⟨G5, u5, r5⟩⟩) (fun u5 s5 ⟨v5, H5, I5', r5, G5, up5, rep5⟩ => ?_) fun _ _ z => z
          have I5 : Inv (bd X N' scope Hq.objs.size s H fp) ([] ++ ee fp s2.heap) σ3 H5 s5 := (I5'.cx (A' := X.A) (calm' := X.calm) (pn' := []) (pins' := ee fp s2.heap) (xe' := fun _ _ => False) (fun p hp => by simpa [dB] using hp) rfl I.ok.hd : Inv { (dB X N' scope Hq.objs.size s H fp (ee fp s2.heap) _) with A := X.A, calm := X.calm, pn := [], xe := fun _ _ => False } (ee fp s2.heap) σ3 H5 s5)
          have hD5 : H5 s.heap.objs.size = some (.lst vs) := up5.hh _ _ hD4
          have gD5 : G5 s.heap.objs.size = none := by
            cases q : G5 s.heap.objs.size with
            | none => rfl
            | some o =>
              rcases up5.fr _ _ q with z | z
              . rw [gD4] at z; cases z
              . rw [hD4] at z; cases z
          have ups := ((up'.trans up2).trans up4).trans up5
          have hvl : vs.length < sizeLine := by rw [rp'.length]; omega
          refine wpAny_mono (gM (X := bd X N' scope Hq.objs.size s H fp) _ s5 σ3 H5 (.ref s.heap.objs.size) [v5] (.ref s.heap.objs.size) [u5] (fun _ H6 => H6 = upd H5 s.heap.objs.size (.lst (vs ++ [v5]))) I5 rfl (.cons r5 .nil)
            ⟨_, vs, v5, rfl, rfl, hD5, hvl, rfl⟩) (fun _ s6 ⟨_, H6, I6, _, e6⟩ => ?_) fun _ _ z => z
          subst e6
          have sub6 : Same G5 (upd H5 s.heap.objs.size (.lst (vs ++ [v5]))) := fun a o e => by rw [aW (aK e gD5)]; exact up5.sub a o e
          refine next I6 bf gD5 ⟨sub6, ups.gg, fun a o e => ?_, ups.fr⟩ ?_ (ys7 := ys ++ [y]) ((((rp'.mono up2.gg).mono up4.gg).mono up5.gg).append (.cons rep5 .nil)) (by simp; omega) ?_
          . rw [aW (aK e hD0)]; exact ups.hh a o e
          . exact ⟨sub6, ((sr3.e.up up4).up up5).len, ((sr3.e.up up4).up up5).val⟩
          . cases ez : cc asg gt ge (items.drop (i + 1)) ρ1 with
            | ok zs => rw [ez] at h'; simp only [R.ok_bind, List.append_assoc, List.singleton_append] at h' ⊢; exact h'
            | ex Cz => rw [ez] at h'; exact h'
            | no => rw [ez] at h'; exact h'
    . -- the end
      have hie : i = items.length := by omega
      subst hie
      rw [List.drop_length] at h'
      unfold cc at h'
      have h' : oy X.K G H Q (ys ++ []) := h'
      rw [List.append_nil] at h'
      refine wpAny_mono (T.done (bd X N' scope Hq.objs.size s H fp) rfl rfl rfl hcalm items.length [] s' σ' H' (fun _ _ => False) I' (fpk I' rfl fr') tn' (hIt.2 (Nat.le_refl _))) (fun r s1 ⟨hr, I1⟩ => ?_) fun _ _ z => z
      subst hr
      have eH : upd (fun a => if a = s.heap.objs.size then none else H' a) s.heap.objs.size (.lst vs) = H' := by
        funext a
        unfold upd
        by_cases e : a = s.heap.objs.size
        . subst e; rw [if_pos rfl]; exact hD'.symm
        . rw [if_neg e]
          show (if a = s.heap.objs.size then none else H' a) = _
          rw [if_neg e]
      have hn : (fun a => if a = s.heap.objs.size then none else H' a) s.heap.objs.size = none := by simp
      have upn : Up G H G' (fun a => if a = s.heap.objs.size then none else H' a) := by
        refine ⟨fun a o e => ?_, up'.gg, fun a o e => ?_, up'.fr⟩
        . have : a ≠ s.heap.objs.size := aK e gD'
          simp only [this, if_false]; exact up'.sub a o e
        . have : a ≠ s.heap.objs.size := aK e hD0
          simp only [this, if_false]; exact up'.hh a o e
      obtain ⟨m1, hm1, _⟩ := I1.loc
      refine hR s.heap.objs.size Hq.objs.size s1 m1 vs G' _ upn hn hDC.symm (fun _ _ => trivial) (h' _ vs G' _ upn hn rp') hm1 I1.os I1.bare ?_ hCle (by rw [eH]; exact I1.base) (by rw [eH]; exact I1.hok)
      have := I1.free
      show (if Hq.objs.size = s.heap.objs.size then none else H' Hq.objs.size) = none
      rw [if_neg hDC.symm]; exact this
  exact codeAny_compStart_list (loop _) (T.self X.A 0 _ _ _ st0' (loop _))


theorem sK {M : Model} {A : Around} {E : Value -> Shared -> Prop} {s : Shared} {B : Heap} {l : List Env} {a L : Addr} {cls a0 : Value} {what : String} {env : Env} {Q : Value -> Shared -> Prop} (hf : env.frame = some L) (x : Heap.HeldW B l a cls a0 L s.heap)
    (h : ∀ h', Heap.HeldW B l a cls a0 L h' -> s.heap.UpToSlots h' -> E (.ref a) { s with heap := h' }) : wpAny M A (passOn what (.ref a) env : Sem Value) Q E s := by
  obtain ⟨hkb, hen, hl, oe, vs, T, oT, ts, he, hcls, hd, h1, hnT, hTe, hT, hdT, h3⟩ := x
  have hsz : 3 < ts.size := (Array.getElem?_eq_some_iff.mp h3).1
  unfold PySem.passOn
  refine wpAny_bind (wpAny_field he hd h1 ?_)
  rw [if_neg (show ¬ ((Value.ref T == Value.none) = true) from by simp)]
  refine wpAny_bind ?_
  rw [hf]
  unfold setFlight
  refine wpAny_bind (wpAny_field he hd h1 ?_)
  rw [if_pos (show (Value.ref T != Value.none) = true from by simp)]
  have oth : ∀ b, b ≠ T -> (s.heap.update T (Obj.mapFields (·.setIfInBounds 3 ((some L).elim Value.none fun f => rawInt f)))).get? b = s.heap.get? b := fun b hb => Heap.get?_update_other _ _ (Ne.symm hb)
  have rec' : ∀ b o, s.heap.get? b = some o -> (∀ vs, o.data ≠ .fields vs) -> b ≠ T := fun b o hb hnf q => by
    rw [q, hT] at hb; injection hb with hb; subst hb; exact hnf ts hdT
  refine wpAny_setField hT hdT hsz (wpAny_throw (h _ ⟨fun b o hbo => (oth b fun q => by rw [q, hnT] at hbo; cases hbo).trans (hkb b o hbo), hen, hl.of_keeps fun b o hb hnf => ⟨o, (oth b (rec' b o hb hnf)).trans hb, rfl⟩, ?_⟩ fun b o hb hnf => ⟨o.slots, (oth b (rec' b o hb hnf)).trans hb⟩))
  exact ⟨oe, vs, T, _, _, (oth a (Ne.symm hTe)).trans he, hcls, hd, h1, hnT, hTe, Heap.get?_update_self _ hT (Obj.isFreed_of_fields (Obj.data_mapFields hdT _)), Obj.data_mapFields hdT _, by simp [hsz]⟩
theorem uN {B h h' : Heap} {l : List Env} {a L C : Addr} {cls a0 : Value} (x : Heap.HeldW B l a cls a0 L h) (sb : Heap.SameBut C h h') (hC : C ∉ frs l) (hd : ∃ o, h.get? C = some o /\ ∀ vs, o.data ≠ .fields vs) : Heap.HeldW (PySem.W.hideAll B [C]) l a cls a0 L h' := by
  obtain ⟨hkb, hen, hl, oe, vs, T, oT, ts, he, hcls, hd1, h1, hnT, hTe, hT, hdT, h3⟩ := x
  obtain ⟨oC, eC, dC⟩ := hd
  have na : a ≠ C := fun z => by rw [z, eC] at he; cases he; exact dC _ hd1
  have nT : T ≠ C := fun z => by rw [z, eC] at hT; cases hT; exact dC _ hdT
  have hid : ∀ b, B.get? b = none -> (PySem.W.hideAll B [C]).get? b = none := fun b e => by
    cases q : (PySem.W.hideAll B [C]).get? b with
    | none => rfl
    | some o => have := PySem.W.of_hideAll _ q; rw [e] at this; cases this
  refine ⟨fun b o e => ?_, hid a hen, FunFrames.rebase hid ?_, oe, vs, T, oT, ts, (sb.2 a na).trans he, hcls, hd1, h1, hid T hnT, hTe, (sb.2 T nT).trans hT, hdT, h3⟩
  . have nb : b ≠ C := fun z => by rw [z, PySem.W.hideAll_none _ (List.mem_singleton.2 rfl)] at e; cases e
    exact (sb.2 b nb).trans (hkb b o (PySem.W.of_hideAll _ e))
  . have key : ∀ {l : List Env}, C ∉ frs l -> h.FunFrames B l -> h'.FunFrames B l := by
      intro l
      induction l with
      | nil => intro _ x; exact x
      | cons env l ih =>
        intro hc ⟨x1, ⟨L, o, y1, y2, y3, y4⟩, x3⟩
        rw [kN y1] at hc
        exact ⟨x1, ⟨L, o, y1, y2, (sb.2 L fun z => hc (by rw [z]; exact List.mem_cons_self ..)).trans y3, y4⟩, ih (fun z => hc (List.mem_cons_of_mem _ z)) x3⟩
    exact key hC hl
theorem xi {h : Heap} {C : Addr} {m : Str -> Option Value} (x : h.Ns C m) : ∃ o, h.get? C = some o /\ ∀ vs, o.data ≠ .fields vs := by
  obtain ⟨o, es, ep, e, d, _⟩ := x
  exact ⟨o, e, fun vs z => by rw [d] at z; cases z⟩
section
variable {X : Cx} {elt iter : Expr} {ifs : List Expr} {x : Str} {px pos : Pos} {scope : Scope} {N' : List Str} {ix : List Nat} {gi : Ev -> R (List D)} {gt : Ev -> R Bool} {ge : Ev -> R D}
theorem mZ (hst : X.stack = X.env :: X.outer) (hfr : X.env.frame = some X.env.locals) (ok : CompOk X scope x N' ix) (hcalm : X.calm = true) (hi : QIF X (.Name x px) iter gi) (he : ∀ C s₂ H₂ fp pn xe, QF (dB X N' scope C s₂ H₂ fp pn xe) elt ge) (ht : ∀ C s₂ H₂ fp, PTs (bd X N' scope C s₂ H₂ fp) ifs gt)
    (hs : ∀ x, foldedSetIterable iter X.env x = pure x := by intro _; rfl) : QFL X (.ListComp elt [⟨.Name x px, iter, ifs, 0⟩] scope pos) (mK gi ix gt ge) := by
  intro pins s σ H Q I h
  obtain ⟨G, ρ, st, h⟩ := h
  rw [eval_ListComp]
  refine qt rfl hs (gE fun y hy hy2 => I.ok.has y.1 (.inl (ok.fr y hy hy2))) ok.kind ok.names ?_
  have t : tG X (fun G J items => ItOk X.K G J items) gi σ H (fun J H1 => ∃ G1 items, Up G H G1 H1 /\ StE X.K G1 H1 σ ρ /\ ItOk X.K G1 J items /\ items.length <= sizeLine /\ (cc (fR 0) gt ge items (fh ix ρ)).post (oy X.K G H Q) (Exx X σ G H)) := by
    refine ⟨G, ρ, st, ?_⟩
    unfold mK at h
    cases e : gi ρ with
    | ok items =>
      rw [e] at h
      simp only [R.ok_bind] at h
      by_cases hl : items.length <= sizeLine
      . rw [if_pos hl] at h; exact fun J G1 H1 u r => ⟨G1, items, u, st.up u, r, hl, h⟩
      . rw [if_neg hl] at h; exact h.elim
    | ex C => rw [e] at h; exact h
    | no => rw [e] at h; exact h
  refine thn (hi pins s σ H _ I t) fun v s1 h1 => thn h1 fun itv s2 h2 => ?_
  obtain ⟨it, fp, tn, J, H2, e, I2, T, st2, f2, G2, items, u2, sE2, iok, hlen, h2⟩ := h2
  subst e
  have h2' : (cc (fR 0) gt ge items (dX 1 ix ρ)).post (oy X.K G2 H2 Q) (Exx X σ G2 H2) :=
    h2.mono (fun ds q l vs G' H' u hl r => q l vs G' H' (u2.trans u) hl r) fun C q => q.up u2
  have cok : ∀ b ∈ fp, Ap X pins b := fun b hb => by
    obtain ⟨f0, f1, f2', f3, f4, f5⟩ := f2 b hb
    exact ⟨f3, f1, f4, f5⟩
  refine lx (n := 1) (asg := fR 0) (iter := iter) (pos := pos) (L := X.env.locals) (RR := fun acc cenv => lZ (model X.prog X.w) X.A X.xe (EP X pins σ Q) acc cenv) hst hfr ok.t hcalm (fun C s₂ H₂ fp => cE (X := bd X N' scope C s₂ H₂ fp) (pos := px) 0 ok.nd ok.hd (.inl (lookup_relabel_local ok.loc)) (.inr (lookup_relabel_local ok.loc))) oS he ht I2 T st2 f2 sE2 iok hlen h2' ?_ ?_
  . intro Dd C s' m vs G' H' up hd hCD _ q hm hos hb hC hCl un hok
    refine ⟨m, hm, fun h' hs' => ?_⟩
    have hs' : Heap.SameBut C s'.heap h' := hs'
    have I3 := I2.call' (H' := upd H' Dd (.lst vs)) (s' := { s' with heap := h' }) (ch := fp) hos (un.sameBut (fun b o hbc e => hs'.extBut b o hbc e) hCl) (hok.sameBut (fun b o hbc e => hs'.extBut b o hbc e) (by rw [aW hCD]; exact hC)) hb cok
    exact ⟨.ref Dd, _, I3, rfl, q⟩
  . intro Dd C a Cc s' m B a0 G' H' hex up hm hos hb hC hCl un hok ha hna held hk fpo stf
    refine ⟨m, hm, fun h' hs' => ?_⟩
    have hs' : Heap.SameBut C s'.heap h' := hs'
    have hCf : C ∉ frs X.stack := fun z => by
      obtain ⟨o', e', _⟩ := FunFrames.data I2.stack _ z
      exact absurd (Heap.lt_size e') (Nat.not_lt.mpr hCl)
    have un1 : Un (frs X.stack) fp H2 H' s2.heap h' := un.sameBut (fun b o hbc e => hs'.extBut b o hbc e) hCl
    have hok1 : HOk X.prog X.w H' h' := hok.sameBut (fun b o hbc e => hs'.extBut b o hbc e) hC
    have held1 := uN held hs' hCf (xi hm)
    have nC : ∀ b, ((∃ o0, s2.heap.get? b = some o0) \/ ∃ u, H' b = some u) -> b ≠ C := fun b ho z => by
      rcases ho with ⟨o0, ho⟩ | ⟨u, ho⟩
      . rw [z] at ho; exact absurd (Heap.lt_size ho) (Nat.not_lt.mpr hCl)
      . rw [z, hC] at ho; cases ho
    have hk1 : ∀ b o, b ∉ frs X.stack -> ((∃ o0, s2.heap.get? b = some o0) \/ ∃ u, H' b = some u) -> h'.get? b = some o -> (PySem.W.hideAll B [C]).get? b = some o := fun b o hb' ho e =>
      PySem.W.hideAll_get _ (hk b o hb' ho ((hs'.2 b (nC b ho)).symm.trans e)) fun z => nC b ho (List.mem_singleton.1 z)
    refine sK (s := { s' with heap := h' }) (L := X.env.locals) hfr held1 fun h'' held2 sm => ?_
    have dat : ∀ b ∈ frs X.stack, ∀ o, h'.get? b = some o -> ∀ vs, o.data ≠ .fields vs := fun b hb' o e => by
      obtain ⟨o', e', d', _⟩ := FunFrames.data held1.2.2.1 b hb'
      rw [e] at e'; cases e'; exact d'
    refine hex (.ref a) _ ⟨G2, H2, .refl sE2.sub, pins, s2, a, rfl, I2, .inr (.inr ⟨G', H', X.env.locals, hfr, ⟨hos, hb, ⟨fp, cok, Un.flight un1 held2.1 sm hk1 (fun b o e => ⟨o, e⟩) (fun b hb' => .inl hb') dat⟩, hok1.flight held2.1 hk1 stf, ha, hna, _, a0, held2, fun b o hb' ho e => ?_⟩, up⟩)⟩
    have ex : ∃ o', h'.get? b = some o' := by
      rcases id ho with ⟨o0, ho'⟩ | ⟨u, ho'⟩
      . by_cases hf : b ∈ fp
        . obtain ⟨o', e'⟩ := fpo b hf; exact ⟨o', hs'.extBut b o' (nC b ho) e'⟩
        . exact un1.there b o0 ho' hf
      . exact (hok1 b u ho').there
    obtain ⟨o', e'⟩ := ex
    have q := hk1 b o' hb' ho e'
    have e2 : h''.get? b = some o := e
    rw [held2.1 b o' q] at e2; cases e2; exact q
end
end L2
namespace L2
open PySem PySem.Spec PyProof.Rows
section
variable {X : Cx} {a b c e ix : Expr} {es : List Expr} {ga gb gi : Ev -> R D} {gl : Ev -> R (List D)} {pos p p1 p2 p3 pl sp : Pos}
def qm : D -> List D -> Option D
  | .str x, [.str [c]] => some (.bl (x.getLast? == some c))
  | _, _ => none
def zR : V -> List V -> Hp -> VK -> Prop := fun x vs H Q => ∃ (y : Str) (c : Nat), x = .str y /\ vs = [.str ⟨#[c]⟩] /\ Q (.bl (Txt.endswith y ⟨#[c]⟩)) H
theorem yi : MtR X "str.endswith" zR := by
  intro pins s σ H x xs v us Q I rx rv ⟨y, c, ex, exs, q⟩
  subst ex exs
  obtain ⟨t, rfl⟩ := rx
  obtain ⟨u, rfl, r1⟩ := rv.one
  obtain ⟨t', rfl⟩ := r1
  exact SC.endswith ⟨.bl _, H, I, rfl, q⟩
theorem tw (y : Str) (c : Nat) : Txt.endswith y ⟨#[c]⟩ = (y.cps.toList.getLast? == some c) := by
  have hl : y.length = y.cps.toList.length := (Str.len_list y).symm
  have key := StrLaws.subAt_one y c (y.length - 1)
  rw [List.getLast?_eq_getElem?, <- hl]
  unfold Txt.endswith
  rw [Bool.eq_iff_iff, beq_iff_eq, <- key]
  show ((decide (0 + 1 <= y.length) && Builtin.Str.subAt y ⟨#[c]⟩ (y.length - 1)) = true) ↔ (y.length - 1 + 1 <= y.length /\ _)
  rw [Bool.and_eq_true, decide_eq_true_eq]
  constructor
  . exact fun h => ⟨by omega, h.2⟩
  . exact fun h => ⟨by omega, h.2⟩
theorem xk (K : PySem.W.Frag) : xV K "str" zR qm := by
  intro G H x xs dx ds d Q s rx rs e q
  unfold qm at e
  split at e
  . cases e
    rename_i x0 c
    obtain ⟨v, rfl, r1⟩ := rs.one
    obtain ⟨i, rfl, ei, hi⟩ := rx.str_inv
    obtain ⟨j, rfl, ej, hj⟩ := r1.str_inv
    subst ei
    have : j = ⟨#[c]⟩ := (Str.of_list ej).symm
    subst this
    refine ⟨i, c, rfl, rfl, q _ G H (.refl s) ?_⟩
    rw [tw]; exact .bl _
  . cases e
theorem uB {o : Expr} {ap cp : Pos} (ho : QF X o ga) (ha : QFA X [e] gl) (hbase : attributeBase o "endswith" X.env (eval o X.env) = eval o X.env := by rfl)
    (hfew : ((backTo cp (starEach [e] X.env)).all (fun x => !x.1) && (backToKw cp (keywordEach [] X.env)).all (fun x => x.1.isSome)
      && decide ([e].length + ([] : List Keyword).length + (if ([] : List Keyword).isEmpty then 0 else 1) < 30)) = true := by rfl)
    (hline : (ap.endLine == cp.line) = true := by rfl) (hs : starEach [e] X.env = (false, eval e X.env) :: starEach [] X.env := by rfl) :
    QF X (.Call (.Attribute o "endswith" ap) [e] [] cp) (eG "str" qm ga gl) := eI PySem.F.plainAttrs_str PySem.F.slot_str_endswith PySem.F.type_str_endswith yi (xk _) ho ha hbase hfew hline hs rfl
def iJ (c : Nat) : List Nat -> Option (List Nat × List Nat)
  | [] => none
  | d :: r => if d = c then some ([], r) else (iJ c r).map fun p => (d :: p.1, p.2)
def cU (c : Nat) (x : List Nat) : List Nat × List Nat × List Nat := match iJ c x with
  | some (p, q) => (p, [c], q)
  | none => (x, [], [])
def mY : D -> List D -> Option D
  | .str x, [.str [c]] => if x.length <= 10000 then some (.tup [.str (cU c x).1, .str (cU c x).2.1, .str (cU c x).2.2]) else none
  | _, _ => none
theorem oZ {c : Nat} : ∀ {x : List Nat} {i : Nat}, x[i]? = some c -> (∀ k, k < i -> x[k]? ≠ some c) -> iJ c x = some (x.take i, x.drop (i + 1))
  | [], i, h, _ => by simp at h
  | d :: r, 0, h, _ => by
    have : d = c := by simpa using h
    rw [iJ, if_pos this]; rfl
  | d :: r, i + 1, h, hn => by
    have hd : d ≠ c := fun z => hn 0 (by omega) (by rw [z]; rfl)
    have ih := oZ (x := r) (i := i) (by simpa using h) fun k hk => by have := hn (k + 1) (by omega); simpa using this
    rw [iJ, if_neg hd, ih]; rfl
theorem kE {c : Nat} : ∀ {x : List Nat}, (∀ i : Nat, x[i]? ≠ some c) -> iJ c x = none
  | [], _ => rfl
  | d :: r, h => by
    have hd : d ≠ c := fun z => h 0 (by rw [z]; rfl)
    rw [iJ, if_neg hd, kE fun i => by have := h (i + 1); simpa using this]; rfl
theorem mE {c : Nat} : ∀ {x p q : List Nat}, iJ c x = some (p, q) -> p.length + q.length + 1 = x.length
  | [], _, _, h => by simp [iJ] at h
  | d :: r, p, q, h => by
    unfold iJ at h
    split at h
    . cases h; simp
    . cases e : iJ c r with
      | none => rw [e] at h; cases h
      | some z =>
        rw [e] at h
        have ih := mE (x := r) (p := z.1) (q := z.2) e
        cases h
        simp; omega
theorem qW (y : Str) (c : Nat) : ((Txt.partition y ⟨#[c]⟩).1.cps.toList, (Txt.partition y ⟨#[c]⟩).2.1.cps.toList, (Txt.partition y ⟨#[c]⟩).2.2.cps.toList) = cU c y.cps.toList := by
  have hl : y.length = y.cps.toList.length := (Str.len_list y).symm
  unfold Txt.partition cU
  rcases StrLaws.occ_head y ⟨#[c]⟩ 1 (Nat.le_refl _) with ⟨e, hn⟩ | ⟨i, r, e, hi, hn⟩
  . rw [e, kE fun i z => hn i ((StrLaws.subAt_one y c i).mpr z)]; rfl
  . rw [e, oZ ((StrLaws.subAt_one y c i).mp hi) fun k hk z => hn k hk ((StrLaws.subAt_one y c k).mpr z)]
    show ((y.cps.extract 0 i).toList, [c], (y.cps.extract (i + 1) y.length).toList) = (_, [c], _)
    rw [Array.toList_extract, List.extract_eq_take_drop, Array.toList_extract, List.extract_eq_take_drop, hl]
    congr 2
    exact List.take_of_length_le (by rw [List.length_drop, Array.length_toList]; exact Nat.le_refl _)
def Ba : V -> List V -> Hp -> VK -> Prop := fun x vs H Q => ∃ (y : Str) (c : Nat), x = .str y /\ vs = [.str ⟨#[c]⟩] /\ y.length <= sizeLine /\ ∀ l, H l = none -> Q (.ref l) (upd H l (.tup [.str (Txt.partition y ⟨#[c]⟩).1, .str (Txt.partition y ⟨#[c]⟩).2.1, .str (Txt.partition y ⟨#[c]⟩).2.2]))
theorem ym : MtR X "str.partition" Ba := by
  intro pins s σ H x xs v us Q I rx rv ⟨y, c, ex, exs, hz, q⟩
  subst ex exs
  obtain ⟨t, rfl⟩ := rx
  obtain ⟨u, rfl, r1⟩ := rv.one
  obtain ⟨t', rfl⟩ := r1
  refine call_meets F.slot_str_partition (typeIs_str _ _ _) F.entry_str_partition (F.args_str_partition_2 _ _) (meets_str_partition y ⟨#[c]⟩ t t' rfl hz) ?_
  have big : 3 <= sizeLine := by decide
  have q := q s.heap.objs.size I.fresh
  unfold Txt.partition at q
  revert q
  cases Builtin.Str.occurrences y ⟨#[c]⟩ 0 y.length 1 with
  | nil =>
    intro q
    exact ⟨.ref s.heap.objs.size, _, I.laid (t' := s.toks + 1) (o := .tup [.str y, .str Str.empty, .str Str.empty]) (fun b ob q => Heap.get?_push_of_some _ q) (Nat.le_refl _) ⟨big, _, .cons ⟨_, rfl⟩ (.cons ⟨_, rfl⟩ (.cons ⟨_, rfl⟩ .nil)), IsTup.new _ _⟩, rfl, q⟩
  | cons i r =>
    intro q
    exact ⟨.ref s.heap.objs.size, _, I.laid (t' := s.toks + 1 + 1) (o := .tup [.str (Builtin.Str.strSub y 0 i), .str ⟨#[c]⟩, .str (Builtin.Str.strSub y (i + (⟨#[c]⟩ : Str).length) y.length)]) (fun b ob q => Heap.get?_push_of_some _ q) (Nat.le_refl _) ⟨big, _, .cons ⟨_, rfl⟩ (.cons ⟨_, rfl⟩ (.cons ⟨_, rfl⟩ .nil)), IsTup.new _ _⟩, rfl, q⟩
theorem jt (c : Nat) (x : List Nat) : (cU c x).1.length <= x.length /\ (cU c x).2.1.length <= 1 /\ (cU c x).2.2.length <= x.length := by
  unfold cU
  cases e : iJ c x with
  | none => simp
  | some z => have := mE (p := z.1) (q := z.2) e; simp; omega
theorem xG (K : PySem.W.Frag) : xV K "str" Ba mY := by
  intro G H x xs dx ds d Q s rx rs e q
  unfold mY at e
  split at e
  . split at e
    . rename_i x0 c hc
      cases e
      obtain ⟨v, rfl, r1⟩ := rs.one
      obtain ⟨i, rfl, ei, hi⟩ := rx.str_inv
      obtain ⟨j, rfl, ej, hj⟩ := r1.str_inv
      subst ei
      have : j = ⟨#[c]⟩ := (Str.of_list ej).symm
      subst this
      refine ⟨i, c, rfl, rfl, hi, fun l hl => q _ _ _ (.new s hl) ?_⟩
      have pl := qW i c
      have ln := jt c i.cps.toList
      rw [<- pl] at ln ⊢
      rw [Str.len_list] at ln
      have one : ∀ z : Str, z.cps.toList.length <= sizeLine -> Rep K (upd G l (.tup [.str (Txt.partition i ⟨#[c]⟩).1, .str (Txt.partition i ⟨#[c]⟩).2.1, .str (Txt.partition i ⟨#[c]⟩).2.2])) (.str z) (.str z.cps.toList) := fun z hz => .str z (by rw [<- Str.len_list]; exact hz)
      have b1 : 1 <= sizeLine := by decide
      exact .tup (.of bf) (.cons (one _ (Nat.le_trans ln.1 hi)) (.cons (one _ (Nat.le_trans ln.2.1 b1)) (.cons (one _ (Nat.le_trans ln.2.2 hi)) .nil)))
    . cases e
  . cases e
theorem vJ {o : Expr} {ap cp : Pos} (ho : QF X o ga) (ha : QFA X [e] gl) (hbase : attributeBase o "partition" X.env (eval o X.env) = eval o X.env := by rfl)
    (hfew : ((backTo cp (starEach [e] X.env)).all (fun x => !x.1) && (backToKw cp (keywordEach [] X.env)).all (fun x => x.1.isSome)
      && decide ([e].length + ([] : List Keyword).length + (if ([] : List Keyword).isEmpty then 0 else 1) < 30)) = true := by rfl)
    (hline : (ap.endLine == cp.line) = true := by rfl) (hs : starEach [e] X.env = (false, eval e X.env) :: starEach [] X.env := by rfl) :
    QF X (.Call (.Attribute o "partition" ap) [e] [] cp) (eG "str" mY ga gl) := eI PySem.F.plainAttrs_str PySem.F.slot_str_partition PySem.F.type_str_partition ym (xG _) ho ha hbase hfew hline hs rfl
def oq : List D -> Option D
  | [.int i] => if 0 <= i /\ i < 10000000000 then some (.str (bF i.toNat)) else none
  | [.str x] => some (.str x)
  | _ => none
def Bj : List V -> Hp -> VK -> Prop := fun xs H Q => (∃ i : Int, xs = [.int i] /\ 0 <= i /\ i < 10000000000 /\ Q (.str (Str.ofString (toString i))) H) \/ ∃ y : Str, xs = [.str y] /\ Q (.str y) H
theorem sx : iO X (.type "str") Bj := by
  intro pins s σ H xs us Q I r h
  rcases h with ⟨i, ex, h0, h1, q⟩ | ⟨y, ex, q⟩
  . subst ex
    obtain ⟨u, rfl, r1⟩ := r.one
    obtain ⟨t, rfl⟩ := r1
    exact P.str_of_int (jg h0 h1) ⟨.str _, H, I.tok _, ⟨_, rfl⟩, q⟩
  . subst ex
    obtain ⟨u, rfl, r1⟩ := r.one
    obtain ⟨t, rfl⟩ := r1
    exact P.str_of_str ⟨.str _, H, I, ⟨_, rfl⟩, q⟩
theorem xz (K : PySem.W.Frag) : zg K Bj oq := by
  intro G H xs ds d Q s r e q
  unfold oq at e
  split at e
  . split at e
    . rename_i hc
      cases e
      obtain ⟨v, rfl, r1⟩ := r.one
      obtain rfl := r1.int_inv
      exact .inl ⟨_, rfl, hc.1, hc.2, q _ G H (.refl s) (.strL (kY hc.1) (rA hc.1 hc.2))⟩
    . cases e
  . cases e
    obtain ⟨v, rfl, r1⟩ := r.one
    obtain ⟨y, rfl, ey, hy⟩ := r1.str_inv
    exact .inr ⟨y, rfl, q _ G H (.refl s) r1⟩
  . cases e
theorem vH (hg : Gl X "str") (hm : X.mg "str" = none) (ha : QFA X [e] gl) (he : starEach [e] X.env = (false, eval e X.env) :: starEach [] X.env := by rfl) :
    QF X (.Call (.Name "str" p) [e] [] pos) (gOf oq gl) := jv sx (xz _) hg hm PyProof.Rows.Boot.«str» ha (by decide) (by decide) he rfl
theorem zJ {f g h : Ev -> R D} {gs : List (Ev -> R D)} {ρ : Ev} : sC (f :: g :: h :: gs) ρ (.int 2) = h ρ := rfl
theorem rV {x1 x2 x3 : Str} {k n : Nat} {f1 f2 f3 : List D -> R D} (c1 : Callee X.prog X.w X.K X.mg X.base x1 k n f1) (c2 : Callee X.prog X.w X.K X.mg X.base x2 k n f2) (c3 : Callee X.prog X.w X.K X.mg X.base x3 k n f3) (hr : Room k X.A) (hi : QF X ix gi) (ha : QFA X (e :: es) gl) (hg1 : Gl X x1 := by rfl) (hg2 : Gl X x2 := by rfl) (hg3 : Gl X x3 := by rfl)
    (hd1 : (x1 == ("__debug__" : Str)) = false := by decide) (hd2 : (x2 == ("__debug__" : Str)) = false := by decide) (hd3 : (x3 == ("__debug__" : Str)) = false := by decide) (he : starEach (e :: es) X.env = (false, eval e X.env) :: starEach es X.env := by rfl) (hpl : (backTo pos (starEach es X.env)).any (·.1) = false := by rfl) (hs : jT ix := by exact fun _ _ => rfl)
    (hs1 : starEach [.Name x1 p1, .Name x2 p2, .Name x3 p3] X.env = (false, eval (.Name x1 p1) X.env) :: starEach [.Name x2 p2, .Name x3 p3] X.env := by rfl) (hs2 : starEach [.Name x2 p2, .Name x3 p3] X.env = (false, eval (.Name x2 p2) X.env) :: starEach [.Name x3 p3] X.env := by rfl) (hs3 : starEach [.Name x3 p3] X.env = (false, eval (.Name x3 p3) X.env) :: starEach [] X.env := by rfl) :
    QF X (.Call (.Subscript (.List [.Name x1 p1, .Name x2 p2, .Name x3 p3] pl) ix sp) (e :: es) [] pos) (vh [aM n f1 gl, aM n f2 gl, aM n f3 gl] gi) := by
  intro pins s σ H Q I h
  obtain ⟨G, ρ, st, h⟩ := h
  obtain ⟨a1, fd1, ps1, F1, m1, k1, b1, l1⟩ := c1.ex
  obtain ⟨a2, fd2, ps2, F2, m2, k2, b2, l2⟩ := c2.ex
  obtain ⟨a3, fd3, ps3, F3, m3, k3, b3, l3⟩ := c3.ex
  rw [uf]
  have key : PE X (.Subscript (.List [.Name x1 p1, .Name x2 p2, .Name x3 p3] pl) ix sp) (tOp (BP X.K) (CY (ug (tC (.ref a1)) (ug (tC (.ref a2)) (ug (tC (.ref a3)) CW)))) (tF X gi)) := Aj ix_list (wl (dw (hW hg1 m1 rfl hd1) (dw (hW hg2 m2 rfl hd2) (dw (hW hg3 m3 rfl hd3) iY hs3) hs2) hs1)) hi hs
  refine wpAny_bind (thn (key pins s σ H (fun v H1 => ∃ G1, StE X.K G1 H1 σ ρ /\ ((v = .ref a1 /\ (aM n f1 gl ρ).post (Fin G1 H1 (Rep X.K) Q) (Exx X σ G1 H1)) \/ (v = .ref a2 /\ (aM n f2 gl ρ).post (Fin G1 H1 (Rep X.K) Q) (Exx X σ G1 H1)) \/ (v = .ref a3 /\ (aM n f3 gl ρ).post (Fin G1 H1 (Rep X.K) Q) (Exx X σ G1 H1)))) I ?_) fun u s1 q => ?_)
  . refine ⟨by show 3 <= sizeLine; decide, fun l hl => ?_⟩
    have u0 : Up G H (upd G l (.lst [.ref a1, .ref a2, .ref a3])) (upd H l (.lst [.ref a1, .ref a2, .ref a3])) := .new st.sub hl
    refine tG.intro (st.up u0) (jL u0 h) fun d y G1 H1 u1 st1 r1 h1 => ?_
    cases r1 with
    | int i =>
      have h1 : (if 0 <= i then (match [aM n f1 gl, aM n f2 gl, aM n f3 gl][i.toNat]? with
        | some g => g ρ
        | none => .no) else .no : R D).post (Fin G1 H1 (Rep X.K) Q) (Exx X σ G1 H1) := h1
      by_cases h0 : 0 <= i
      . rw [if_pos h0] at h1
        obtain ⟨j, rfl⟩ := Int.eq_ofNat_of_zero_le h0
        rw [Int.toNat_natCast] at h1
        have hsq : SqL X.K H1 l [.ref a1, .ref a2, .ref a3] := .of (u1.sub _ _ (u1.gg _ _ bf))
        match j, h1 with
        | 0, h1 => exact ⟨l, _, _, _, rfl, rfl, hsq, rfl, G1, st1, .inl ⟨rfl, h1⟩⟩
        | 1, h1 => exact ⟨l, _, _, _, rfl, rfl, hsq, rfl, G1, st1, .inr (.inl ⟨rfl, h1⟩)⟩
        | 2, h1 => exact ⟨l, _, _, _, rfl, rfl, hsq, rfl, G1, st1, .inr (.inr ⟨rfl, h1⟩)⟩
        | j + 3, h1 => exact h1.elim
      . rw [if_neg h0] at h1; exact h1.elim
    | _ => exact h1.elim
  . obtain ⟨v, H1, I1, rv, G1, st1, q⟩ := q
    rcases q with ⟨rfl, q⟩ | ⟨rfl, q⟩ | ⟨rfl, q⟩
    . cases rv
      rw [<- l1] at q
      exact jj F1 hr k1 b1 ha he hpl I1 st1 q
    . cases rv
      rw [<- l2] at q
      exact jj F2 hr k2 b2 ha he hpl I1 st1 q
    . cases rv
      rw [<- l3] at q
      exact jj F3 hr k3 b3 ha he hpl I1 st1 q
theorem rD {N : List Str} {i : Nat} {x : Str} {pos : Pos} {scope : Scope} {C : Addr} {s₂ : Shared} {H₂ : Hp} {fp : List Addr} {pn : List (Addr × Obj)} {xe : Value -> Shared -> Prop} (h : At N i x)
    (hv : Vis (dB X N scope C s₂ H₂ fp pn xe).env.scope x := by first | exact Or.inl rfl | exact Or.inr (Or.inl rfl) | exact Or.inr (Or.inr rfl)) (hd : (x == ("__debug__" : Str)) = false := by decide)
    (hcd : (x == ("__classdict__" : Str)) = false := by decide) : QF (dB X N scope C s₂ H₂ fp pn xe) (.Name x pos) (fun ρ => rdV ρ i) := gL i h hv hd hcd
end
end L2
namespace L2
open PySem PySem.Spec PyProof.Rows
@[irreducible] def PF (X : Cx) (e : Expr) (g : Ev -> R D) : Prop := QF X e g
@[irreducible] def PFA (X : Cx) (e : List Expr) (g : Ev -> R (List D)) : Prop := QFA X e g
@[irreducible] def PB (X : Cx) (e : Expr) (g : Ev -> R Bool) : Prop := QB X e g
@[irreducible] def PBW (X : Cx) (e : Expr) (g : Ev -> R Bool) : Prop := QBW X e g
@[irreducible] def PSF (X : Cx) (e : Stmt) (g : Ev -> O) : Prop := QSF X e g
@[irreducible] def sM (X : Cx) (e : List Stmt) (g : Ev -> O) : Prop := jX X e g
@[irreducible] def PFL (X : Cx) (e : Expr) (g : Ev -> R (List D)) : Prop := QFL X e g
@[irreducible] def PIF (X : Cx) (tg e : Expr) (g : Ev -> R (List D)) : Prop := QIF X tg e g
@[irreducible] def PFO (X : Cx) (e : Option Expr) (g : Ev -> R (Option Int)) : Prop := QFO X e g
section
variable {X : Cx} {e a b c : Expr} {ga gb gc : Ev -> R D} {pos : Pos}
theorem aq {i : Int} {j : Nat} : PF X (.Constant (.int i) j pos) (fun _ => .ok (.int i)) := by
  with_unfolding_all exact uE
theorem jz {k : Bool} {j : Nat} : PF X (.Constant (.bool k) j pos) (fun _ => .ok (.bl k)) := by
  with_unfolding_all exact xO
theorem jC {j : Nat} : PF X (.Constant .none j pos) (fun _ => .ok .non) := by
  with_unfolding_all exact uz
theorem aG {x : Str} {j : Nat} {l : List Nat} (hl : x.cps.toList = l := by rfl) (hz : l.length <= 1000 := by decide) : PF X (.Constant (.str x) j pos) (fun _ => .ok (.str l)) := by
  with_unfolding_all exact vp hl hz
theorem iQ {x : Str} {i : Int} {t : Tok} (hg : Gl X x) (hm : X.mg x = some (.int i t)) (hd : (x == ("__debug__" : Str)) = false := by decide) : PF X (.Name x pos) (fun _ => .ok (.int i)) := by
  with_unfolding_all exact qq hg hm hd
end
section
variable {X : Cx}
theorem aU {a b : Expr} {ga gb : Ev -> R D} {pos : Pos} (ha : PF X a ga) (hb : PF X b gb) : PF X (.BinOp a .Add b pos) (g2 bx ga gb) := by
  with_unfolding_all exact uA ha hb
theorem wz {a b : Expr} {ga gb : Ev -> R D} {pos : Pos} (ha : PF X a ga) (hb : PF X b gb) : PF X (.BinOp a .Sub b pos) (g2 yn ga gb) := by
  with_unfolding_all exact vB ha hb
theorem li {a b : Expr} {ga gb : Ev -> R D} {pos : Pos} (ha : PF X a ga) (hb : PF X b gb) : PF X (.BinOp a .FloorDiv b pos) (g2 gS ga gb) := by
  with_unfolding_all exact sN ha hb
theorem gY {a b : Expr} {ga gb : Ev -> R D} {pos : Pos} (ha : PF X a ga) (hb : PF X b gb) : PF X (.BinOp a .Mod b pos) (g2 hU ga gb) := by
  with_unfolding_all exact vt ha hb
end
section
variable {X : Cx} {a b c e : Expr} {ga gb gc : Ev -> R D} {pos : Pos}
theorem BN (ha : PF X a ga) (hb : PF X b gb) : PF X (.Compare a [.LtE] [b] pos) (g2 leD ga gb) := by
  with_unfolding_all exact yz ha hb
theorem kZ (ha : PF X a ga) (hb : PF X b gb) (hc : PF X c gc) (hm : lastMarks [.LtE, .LtE] [b, c] = false := by with_unfolding_all rfl) : PF X (.Compare a [.LtE, .LtE] [b, c] pos) (g3 leD leD ga gb gc) := by
  with_unfolding_all exact rT ha hb hc hm
theorem yB (ha : PF X a ga) (hb : PF X b gb) (hc : PF X c gc) (hm : lastMarks [.Lt, .Lt] [b, c] = false := by with_unfolding_all rfl) : PF X (.Compare a [.Lt, .Lt] [b, c] pos) (g3 ltD ltD ga gb gc) := by
  with_unfolding_all exact sZ ha hb hc hm
end
section
variable {X : Cx} {a b : Expr} {ga gb : Ev -> R D} {pos : Pos}
theorem lD (hu : X.A.units + 64 < cLine) (ha : PF X a ga) (hb : PF X b gb) : PF X (.Compare a [.Eq] [b] pos) (g2 eqF ga gb) := by
  with_unfolding_all exact xX hu ha hb
theorem CQ (hu : X.A.units + 64 < cLine) (ha : PF X a ga) (hb : PF X b gb) : PF X (.Compare a [.NotEq] [b] pos) (g2 neF ga gb) := by
  with_unfolding_all exact wT hu ha hb
end
section
variable {X : Cx} {a b c e : Expr} {es de : List Expr} {ga gb gc : Ev -> R D} {gt gu : Ev -> R Bool} {gl : Ev -> R (List D)} {pos : Pos}
theorem fe {op : BoolOp} (h : PF X a ga) : PF X (.BoolOp op [a] pos) ga := by
  with_unfolding_all exact ua h
theorem cO (ha : PF X a ga) (hb : PF X (.BoolOp .And (b :: de) pos) gb) : PF X (.BoolOp .And (a :: b :: de) pos) (jc ga gb) := by
  with_unfolding_all exact uJ ha hb
theorem A5 (ha : PF X a ga) (hb : PF X (.BoolOp .Or (b :: de) pos) gb) : PF X (.BoolOp .Or (a :: b :: de) pos) (gOr ga gb) := by
  with_unfolding_all exact xU ha hb
theorem wr (ha : PF X a ga) : PF X (.UnaryOp .Not a pos) (zc ga) := by
  with_unfolding_all exact vx ha
theorem iR (ha : PB X a gt) : PBW X (.BoolOp .And [a] pos) gt := by
  with_unfolding_all exact pZ ha
theorem gm (ha : PB X a gt) : PBW X (.BoolOp .Or [a] pos) gt := by
  with_unfolding_all exact sY ha
theorem lI (ha : PB X a gt) (hb : PBW X (.BoolOp .And (b :: de) pos) gu) : PBW X (.BoolOp .And (a :: b :: de) pos) (nH gt gu) := by
  with_unfolding_all exact sU ha hb
theorem iA (ha : PB X a gt) (hb : PBW X (.BoolOp .Or (b :: de) pos) gu) : PBW X (.BoolOp .Or (a :: b :: de) pos) (rF gt gu) := by
  with_unfolding_all exact va ha hb
theorem tN (hc : PB X c gt) (ha : PF X a ga) (hb : PF X b gb) : PF X (.IfExp c a b pos) (gIf gt ga gb) := by
  with_unfolding_all exact yE hc ha hb
theorem ai  : PFA X [] (fun _ => .ok []) := by
  with_unfolding_all exact lW
theorem bv (ha : PF X a ga) (hb : PF X b gb) (hs : jT b := by exact fun _ _ => rfl) : PF X (.Subscript a b pos) (g2 ixD ga gb) := by
  with_unfolding_all exact yj ha hb hs
end
section
variable {X : Cx} {a b c e : Expr} {es de : List Expr} {lo hi : Option Expr} {ga gb gc : Ev -> R D} {go gp : Ev -> R (Option Int)} {gl : Ev -> R (List D)} {pos p2 : Pos}
theorem ba  : PFO X none (fun _ => .ok none) := by
  with_unfolding_all exact ql
theorem bb (ha : PF X a ga) (hl : PFO X lo go) (hu : PFO X hi gp) : PF X (.Subscript a (.Slice lo hi none p2) pos) (gSl ga go gp) := by
  with_unfolding_all exact pR ha hl hu
theorem uH {id : String} {x : Str} {p : Pos} {r : List V -> Hp -> VK -> Prop} {f : List D -> Option D} (hc : iO X (.builtin id) r) (hf : zg X.K r f) (hg : Gl X x) (hm : X.mg x = none) (hv : bootBuiltins x = some (.builtin id)) (ha : PFA X (e :: es) gl)
    (hn : x ≠ "__name__" := by decide) (hdb : (x == ("__debug__" : Str)) = false := by decide)
    (he : starEach (e :: es) X.env = (false, eval e X.env) :: starEach es X.env := by rfl) (hpl : (backTo pos (starEach es X.env)).any (·.1) = false := by rfl) : PF X (.Call (.Name x p) (e :: es) [] pos) (fun ρ => gl ρ >>= fun ds => ofO (f ds)) := by
  with_unfolding_all exact ig hc hf hg hm hv ha hn hdb he hpl
end
section
variable {X : Cx} {tg a e : Expr} {ga : Ev -> R D} {gl : Ev -> R (List D)} {pos : Pos}
end
section
theorem ri {X : Cx} {c : Expr} {gt : Ev -> R Bool} (h : PB X c gt) : PTs X [c] gt := by
  with_unfolding_all exact sX h
end
section
variable {X : Cx} {elt iter : Expr} {ifs : List Expr} {x : Str} {px pos : Pos} {scope : Scope} {N' : List Str} {ix : List Nat} {gi : Ev -> R (List D)} {gt : Ev -> R Bool} {ge : Ev -> R D}
theorem df (ok : CompOk X scope x N' ix) (hcalm : X.calm = true) (hi : PIF X (.Name x px) iter gi) (he : ∀ C s₂ H₂ fp, PF (bd X N' scope C s₂ H₂ fp) elt ge) (ht : ∀ C s₂ H₂ fp, PTs (bd X N' scope C s₂ H₂ fp) ifs gt)
    (hs : ∀ x, foldedSetIterable iter X.env x = pure x := by intro _; rfl) : PFL X (.ListComp elt [⟨.Name x px, iter, ifs, 0⟩] scope pos) (gz gi ix gt ge) := by
  with_unfolding_all exact pL ok hcalm hi he ht hs
end
section
variable {X : Cx} {st : Stmt} {de body a b : List Stmt} {e c tg : Expr} {g g1 g2 : Ev -> O} {ga : Ev -> R D} {gt : Ev -> R Bool} {gl : Ev -> R (List D)} {pos : Pos}
end
section
variable {X : Cx} {k : Nat} {f : Addr} {fd : FuncData} {ps : List Str} {x : Str} {p pos : Pos} {e : Expr} {es : List Expr} {gl : Ev -> R (List D)} {g : List D -> R D}
end
section
theorem Fun.okF {P : Program} {w : World} {K : PySem.W.Frag} {mg : Str -> Option Value} {base : Heap} {x qual : Str} {st : Stmt} {f : Addr} {fd : FuncData} {N ps : List Str} {k : Nat} (F : Fun K x qual st f fd) (S : FnScope N ps (aI st)) {g : Ev -> O}
    (hbody : ∀ (cdv : Value) (A : Around) (outer : List Env) (s : Shared) (H : Hp) (E : XK), Room k (A.deeper (envOfC qual (aI st) s.heap.objs.size f cdv)) -> sM (bP (CXo P w) P w K mg base N qual (aI st) f cdv A outer s H E) (fu st) g) : FnF P w K mg base (k + 1) f fd ps (fun ds => aC (g (aF N.length ds))) := by
  with_unfolding_all exact Fun.okF_0 F S hbody
end
section
variable {X : Cx}
theorem kB {a b : Expr} {ga gb : Ev -> R D} {pos : Pos} (ha : PF X a ga) (hb : PF X b gb) : PF X (.BinOp a .Mult b pos) (g2 kM ga gb) := by
  with_unfolding_all exact vc ha hb
end
section
variable {X : Cx} {e o : Expr} {es : List Expr} {ga gb : Ev -> R D} {gl : Ev -> R (List D)} {pos : Pos}
end
section
variable {X : Cx} {e : Expr} {es : List Expr} {ga : Ev -> R D} {gl : Ev -> R (List D)} {pos : Pos}
end
section
variable {X : Cx} {body suite : List Stmt} {b₀ : Stmt} {gb gs : Ev -> O} {pos hp tp : Pos} {tn nm : Str} {Ct : Addr}
end
section
end
section
variable {X : Cx} {e : Expr} {ga : Ev -> R D} {p p2 pos : Pos}
end
section
variable {X : Cx} {st : Stmt} {de body sa sb : List Stmt} {e a b c o tg : Expr} {es : List Expr} {g gs1 gs2 : Ev -> O} {ga gb gc : Ev -> R D} {gt : Ev -> R Bool} {gl : Ev -> R (List D)} {pos p p2 : Pos} {x : Str}
theorem ak (h1 : PSF X st gs1) (h2 : sM X de gs2) : sM X (st :: de) (aL gs1 gs2) := by
  with_unfolding_all exact vv h1 h2
theorem aJ  : sM X [] oNx := by
  with_unfolding_all exact xp
theorem bg (he : PF X e ga) : PSF X (.Return (some e) pos) (bM ga) := by
  with_unfolding_all exact yG he
theorem fJ (hc : PB X c gt) (ha : sM X sa gs1) (hb : sM X sb gs2) : PSF X (.If c sa sb pos) (oIf gt gs1 gs2) := by
  with_unfolding_all exact A9 hc ha hb
theorem rB (i : Nat) (hN : X.N.Nodup) (he : PFL X e gl) (hi : X.N[i]? = some x := by rfl) (hx : Loc X.env.scope x := by first | exact Or.inl rfl | exact Or.inr rfl)
    (hs : swapsWithSole [.Name x p] e pos.line X.env = pure false := by rfl) (hw : swappedStores [.Name x p] e X.env = pure none := by rfl) (hf : X.fn x = true \/ X.env.scope.names.lookup x = some .local := by first | exact .inl rfl | exact .inr rfl) : PSF X (.Assign [.Name x p] e pos) (wD i gl) := by
  with_unfolding_all exact xo i hN he hi hx hs hw hf
theorem sI (he : PF X e ga) (hs : swapsWith e none pos.line X.env = pure false := by rfl) : PSF X (.Expr e pos) (qo ga) := by
  with_unfolding_all exact vy he hs
theorem oF {iter : Expr} {gi : Ev -> R (List D)} {asg : D -> Ev -> R Ev} (hp : PassesOwn (model X.prog X.w) X.A X.env X.xe) (hcalm : X.calm = true) (hi : PIF X tg iter gi) (hg : PGF X tg asg) (hb : sM X body g)
    (hs : ∀ x, foldedSetIterable iter X.env x = pure x := by intro _; rfl) (hn : ∀ d ρ C, asg d ρ ≠ .ex C := by intro _ _ _ z; cases z) : PSF X (.For tg iter body [] pos) (sD asg gi g) := by
  with_unfolding_all exact za hp hcalm hi hg hb hs hn
theorem fQ (hg : Gl X "len") (hm : X.mg "len" = none) (ha : PFA X [e] gl) (he : starEach [e] X.env = [(false, eval e X.env)] := by rfl) : PF X (.Call (.Name "len" p) [e] [] pos) (gOf iK gl) := by
  with_unfolding_all exact xb hg hm ha he
theorem yb (hc : X.calm = true) (hg : Gl X "all") (hm : X.mg "all" = none) (ha : PFA X [e] gl) (he : starEach [e] X.env = [(false, eval e X.env)] := by rfl) : PF X (.Call (.Name "all" p) [e] [] pos) (gOf wM gl) := by
  with_unfolding_all exact wZ hc hg hm ha he
theorem aa (ha : PF X e ga) (hr : PFA X es gl) (hs : starEach (e :: es) X.env = (false, eval e X.env) :: starEach es X.env := by rfl) : PFA X (e :: es) (ac ga gl) := by
  with_unfolding_all exact mM ha hr hs
theorem aO {k n : Nat} {f : List D -> R D} (c : Callee X.prog X.w X.K X.mg X.base x k n f) (hr : Room k X.A) (ha : PFA X (e :: es) gl) (hg : Gl X x := by rfl)
    (hdb : (x == ("__debug__" : Str)) = false := by decide) (he : starEach (e :: es) X.env = (false, eval e X.env) :: starEach es X.env := by rfl) (hpl : (backTo pos (starEach es X.env)).any (·.1) = false := by rfl) : PF X (.Call (.Name x p) (e :: es) [] pos) (aM n f gl) := by
  with_unfolding_all exact vK c hr ha hg hdb he hpl
theorem fU {gens : List Comprehension} {sc : Scope} (h : PFL X (.ListComp e gens sc pos) gl) : PF X (.ListComp e gens sc pos) (bh gl) := by
  with_unfolding_all exact uY h
theorem cr (h : PFL X (.List es pos) gl) : PF X (.List es pos) (bh gl) := by
  with_unfolding_all exact uy h
theorem dG (h : PFA X es gl) : PFL X (.List es pos) (gD gl) := by
  with_unfolding_all exact xS h
theorem eF {k : Nat} (h : PFA X es gl) : PF X (.Tuple es k pos) (aH mkT gl) := by
  with_unfolding_all exact yD h
theorem tU (ha : PF X a ga) : PF X (.UnaryOp .USub a pos) (aH qA ga) := by
  with_unfolding_all exact xH ha
theorem om (hm : X.mg "isinstance" = none) (ha : PF X e ga) (hm2 : X.mg "int" = none) (hg2 : Gl X "int" := by rfl) (hg : Gl X "isinstance" := by rfl) (hs1 : starEach [e, .Name "int" p2] X.env = (false, eval e X.env) :: starEach [.Name "int" p2] X.env := by rfl) : PF X (.Call (.Name "isinstance" p) [e, .Name "int" p2] [] pos) (aH (dL isInt) ga) := by
  with_unfolding_all exact rk hm ha hm2 hg2 hg hs1
theorem oV (hm : X.mg "isinstance" = none) (ha : PF X e ga) (hm2 : X.mg "bool" = none) (hg2 : Gl X "bool" := by rfl) (hg : Gl X "isinstance" := by rfl) (hs1 : starEach [e, .Name "bool" p2] X.env = (false, eval e X.env) :: starEach [.Name "bool" p2] X.env := by rfl) : PF X (.Call (.Name "isinstance" p) [e, .Name "bool" p2] [] pos) (aH (dL (· == "bool")) ga) := by
  with_unfolding_all exact qb hm ha hm2 hg2 hg hs1
theorem jb (hm : X.mg "isinstance" = none) (ha : PF X e ga) (hm2 : X.mg "str" = none) (hg2 : Gl X "str" := by rfl) (hg : Gl X "isinstance" := by rfl) (hs1 : starEach [e, .Name "str" p2] X.env = (false, eval e X.env) :: starEach [.Name "str" p2] X.env := by rfl) : PF X (.Call (.Name "isinstance" p) [e, .Name "str" p2] [] pos) (aH (dL (· == "str")) ga) := by
  with_unfolding_all exact tq hm ha hm2 hg2 hg hs1
theorem hJ (hm : X.mg "isinstance" = none) (ha : PF X e ga) (hm2 : X.mg "tuple" = none) (hg2 : Gl X "tuple" := by rfl) (hg : Gl X "isinstance" := by rfl) (hs1 : starEach [e, .Name "tuple" p2] X.env = (false, eval e X.env) :: starEach [.Name "tuple" p2] X.env := by rfl) : PF X (.Call (.Name "isinstance" p) [e, .Name "tuple" p2] [] pos) (aH (dL (· == "tuple")) ga) := by
  with_unfolding_all exact nq hm ha hm2 hg2 hg hs1
theorem bE (h : PF X e ga) : PFO X (some e) (ce ga) := by
  with_unfolding_all exact tQ h
theorem qH (ha : PF X a ga) (hb : PF X b gb) : PB X (.Compare a [.Lt] [b] pos) (gB2 ltD ga gb) := by
  with_unfolding_all exact xK ha hb
theorem BT (ha : PF X a ga) (hb : PF X b gb) : PB X (.Compare a [.Gt] [b] pos) (gB2 gtD ga gb) := by
  with_unfolding_all exact xy ha hb
theorem iH (hu : X.A.units + 64 < cLine) (ha : PF X a ga) (hb : PF X b gb) : PB X (.Compare a [.Eq] [b] pos) (gB2 eqF ga gb) := by
  with_unfolding_all exact xR hu ha hb
theorem fY (hu : X.A.units + 64 < cLine) (ha : PF X a ga) (hb : PF X b gb) : PB X (.Compare a [.NotEq] [b] pos) (gB2 neF ga gb) := by
  with_unfolding_all exact xw hu ha hb
theorem zO (ha : PF X a ga) (hb : PF X b gb) : PB X (.Compare a [.Is] [b] pos) (gB2 isF ga gb) := by
  with_unfolding_all exact xD ha hb
theorem yX (ha : PF X a ga) (hb : PF X b gb) (hc : PF X c gc) (hm : lastMarks [.LtE, .LtE] [b, c] = false := by with_unfolding_all rfl) : PB X (.Compare a [.LtE, .LtE] [b, c] pos) (gB3 leD leD ga gb gc) := by
  with_unfolding_all exact rW ha hb hc hm
theorem eX (ha : PB X a gt) : PB X (.UnaryOp .Not a pos) (gBn gt) := by
  with_unfolding_all exact vf ha
theorem cN (h : PF X (.Call a es [] pos) ga) : PB X (.Call a es [] pos) (aH iu ga) := by
  with_unfolding_all exact uD h
theorem iV {op : BoolOp} (h : PBW X (.BoolOp op es pos) gt) : PB X (.BoolOp op es pos) gt := by
  with_unfolding_all exact yT h
theorem dU (ha : PF X a ga) : PIF X tg a (aH bn ga) := by
  with_unfolding_all exact um ha
theorem lC (hg : Gl X "range") (hm : X.mg "range" = none) (ha : PFA X [a] gl) (hs : starEach [a] X.env = [(false, eval a X.env)] := by rfl) : PIF X tg (.Call (.Name "range" p) [a] [] pos) (aH cy gl) := by
  with_unfolding_all exact qp hg hm ha hs
end
section
variable {X : Cx} {N : List Str} {i : Nat} {x : Str} {pos : Pos}
theorem aj {CX : CXT} {P : Program} {w : World} {K : PySem.W.Frag} {mg : Str -> Option Value} {base : Heap} {qual : Str} {scope : Scope} {f : Addr} {cdv : Value} {A : Around} {outer : List Env} {s : Shared} {H : Hp} {E : XK} (h : At N i x)
    (hv : Vis (bP CX P w K mg base N qual scope f cdv A outer s H E).env.scope x := by first | exact Or.inl rfl | exact Or.inr (Or.inl rfl) | exact Or.inr (Or.inr rfl)) (hd : (x == ("__debug__" : Str)) = false := by decide)
    (hcd : (x == ("__classdict__" : Str)) = false := by decide) : PF (bP CX P w K mg base N qual scope f cdv A outer s H E) (.Name x pos) (fun ρ => rdV ρ i) := by
  with_unfolding_all exact xE h hv hd hcd
theorem eZ {scope : Scope} {C : Addr} {s₂ : Shared} {H₂ : Hp} {fp : List Addr} (h : At N i x)
    (hv : Vis (bd X N scope C s₂ H₂ fp).env.scope x := by first | exact Or.inl rfl | exact Or.inr (Or.inl rfl) | exact Or.inr (Or.inr rfl)) (hd : (x == ("__debug__" : Str)) = false := by decide)
    (hcd : (x == ("__classdict__" : Str)) = false := by decide) : PF (bd X N scope C s₂ H₂ fp) (.Name x pos) (fun ρ => rdV ρ i) := by
  with_unfolding_all exact vI h hv hd hcd
theorem ci {CX : CXT} {P : Program} {w : World} {K : PySem.W.Frag} {mg : Str -> Option Value} {base : Heap} {qual : Str} {scope : Scope} {f : Addr} {cdv : Value} {A : Around} {outer : List Env} {s : Shared} {H : Hp} {E : XK} {e : Expr} {p : Pos} {ga : Ev -> R D} (h : At N i x) (hN : N.Nodup)
    (he : PF (bP CX P w K mg base N qual scope f cdv A outer s H E) e ga) (hx : Loc (bP CX P w K mg base N qual scope f cdv A outer s H E).env.scope x := by first | exact Or.inl rfl | exact Or.inr rfl)
    (hs : swapsWithSole [.Name x p] e pos.line (bP CX P w K mg base N qual scope f cdv A outer s H E).env = pure false := by rfl) (hw : swappedStores [.Name x p] e (bP CX P w K mg base N qual scope f cdv A outer s H E).env = pure none := by rfl)
    (hf : (bP CX P w K mg base N qual scope f cdv A outer s H E).fn x = true \/ (bP CX P w K mg base N qual scope f cdv A outer s H E).env.scope.names.lookup x = some .local := by first | exact .inl rfl | exact .inr rfl) : PSF (bP CX P w K mg base N qual scope f cdv A outer s H E) (.Assign [.Name x p] e pos) (eJ i ga) := by
  with_unfolding_all exact xg h hN he hx hs hw hf
end
section
theorem lh {X : Cx} {x : Str} {C : Addr} {e : Expr} {ga : Ev -> R D} {np cp pos : Pos} (r : Ref x C X.mg X.base) (hh : X.A.handled = none) (ha : PF X e ga) (hg : Gl X x := by rfl)
    (hdb : (x == ("__debug__" : Str)) = false := by decide) (hs : starEach [e] X.env = (false, eval e X.env) :: starEach [] X.env := by rfl) : PSF X (.Raise (some (.Call (.Name x np) [e] [] cp)) none pos) (jl C (ac ga fun _ => .ok [])) := by
  with_unfolding_all exact rX r hh ha hg hdb hs
end
section
variable {X : Cx} {elt iter : Expr} {ifs : List Expr} {x : Str} {px pos : Pos} {scope : Scope} {N' : List Str} {ix : List Nat} {gi : Ev -> R (List D)} {gt : Ev -> R Bool} {ge : Ev -> R D}
end
section
variable {X : Cx} {st : Stmt} {de body : List Stmt} {e c o : Expr} {es : List Expr} {g : Ev -> O} {ga : Ev -> R D} {gl : Ev -> R (List D)} {pos p p2 : Pos}
theorem hG (i : Nat) {x : Str} {p ap cp : Pos} (he : PF X e ga) (hi : X.N[i]? = some x := by rfl) (hv : Vis X.env.scope x := by first | exact Or.inl rfl | exact Or.inr (Or.inl rfl))
    (hd : (x == ("__debug__" : Str)) = false := by decide) (hcd : (x == ("__classdict__" : Str)) = false := by decide) (hs1 : starEach [e] X.env = (false, eval e X.env) :: starEach [] X.env := by rfl)
    (hbase : attributeBase (.Name x p) "extend" X.env (eval (.Name x p) X.env) = eval (.Name x p) X.env := by rfl)
    (hfew : ((backTo cp (starEach [e] X.env)).all (fun x => !x.1) && (backToKw cp (keywordEach [] X.env)).all (fun x => x.1.isSome)
      && decide ([e].length + ([] : List Keyword).length + (if ([] : List Keyword).isEmpty then 0 else 1) < 30)) = true := by rfl)
    (hline : (ap.endLine == cp.line) = true := by rfl)
    (hs : swapsWith (.Call (.Attribute (.Name x p) "extend" ap) [e] [] cp) none pos.line X.env = pure false := by rfl) : PSF X (.Expr (.Call (.Attribute (.Name x p) "extend" ap) [e] [] cp) pos) (wF i ga) := by
  with_unfolding_all exact qj i he hi hv hd hcd hs1 hbase hfew hline hs
theorem vn (i : Nat) {x : Str} {p ap cp : Pos} (he : PF X e ga) (hi : X.N[i]? = some x := by rfl) (hv : Vis X.env.scope x := by first | exact Or.inl rfl | exact Or.inr (Or.inl rfl))
    (hd : (x == ("__debug__" : Str)) = false := by decide) (hcd : (x == ("__classdict__" : Str)) = false := by decide) (hs1 : starEach [e] X.env = (false, eval e X.env) :: starEach [] X.env := by rfl)
    (hbase : attributeBase (.Name x p) "append" X.env (eval (.Name x p) X.env) = eval (.Name x p) X.env := by rfl)
    (hfew : ((backTo cp (starEach [e] X.env)).all (fun x => !x.1) && (backToKw cp (keywordEach [] X.env)).all (fun x => x.1.isSome)
      && decide ([e].length + ([] : List Keyword).length + (if ([] : List Keyword).isEmpty then 0 else 1) < 30)) = true := by rfl)
    (hline : (ap.endLine == cp.line) = true := by rfl)
    (hs : swapsWith (.Call (.Attribute (.Name x p) "append" ap) [e] [] cp) none pos.line X.env = pure false := by rfl) : PSF X (.Expr (.Call (.Attribute (.Name x p) "append" ap) [e] [] cp) pos) (Bv i ga) := by
  with_unfolding_all exact pX i he hi hv hd hcd hs1 hbase hfew hline hs
theorem tK {sts : List Stmt} (i : Nat) (h : sM X sts g) : sM X sts (vY i g) := by
  with_unfolding_all exact xh i h
theorem yQ {ap cp : Pos} (ho : PF X o ga) (ha : PFA X [e] gl) (hbase : attributeBase o "count" X.env (eval o X.env) = eval o X.env := by rfl)
    (hfew : ((backTo cp (starEach [e] X.env)).all (fun x => !x.1) && (backToKw cp (keywordEach [] X.env)).all (fun x => x.1.isSome)
      && decide ([e].length + ([] : List Keyword).length + (if ([] : List Keyword).isEmpty then 0 else 1) < 30)) = true := by rfl)
    (hline : (ap.endLine == cp.line) = true := by rfl) (hs : starEach [e] X.env = (false, eval e X.env) :: starEach [] X.env := by rfl) : PF X (.Call (.Attribute o "count" ap) [e] [] cp) (eG "list" iv ga gl) := by
  with_unfolding_all exact qK ho ha hbase hfew hline hs
theorem xm {ap cp : Pos} (ho : PF X o ga) (ha : PFA X [e] gl) (hbase : attributeBase o "index" X.env (eval o X.env) = eval o X.env := by rfl)
    (hfew : ((backTo cp (starEach [e] X.env)).all (fun x => !x.1) && (backToKw cp (keywordEach [] X.env)).all (fun x => x.1.isSome)
      && decide ([e].length + ([] : List Keyword).length + (if ([] : List Keyword).isEmpty then 0 else 1) < 30)) = true := by rfl)
    (hline : (ap.endLine == cp.line) = true := by rfl) (hs : starEach [e] X.env = (false, eval e X.env) :: starEach [] X.env := by rfl) : PF X (.Call (.Attribute o "index" ap) [e] [] cp) (eG "list" iq ga gl) := by
  with_unfolding_all exact ss ho ha hbase hfew hline hs
end
section
variable {X : Cx} {e : Expr} {ga : Ev -> R D} {p p2 pos : Pos} {rs : List Addr} {ts : List (Str × Addr)}
theorem fZ {y : Str} {T : Addr} (Er : Errs X.K X.mg rs ts) (hy : (y, T) ∈ ts) (hm : X.mg "isinstance" = none) (ha : PF X e ga) (hg : Gl X "isinstance" := by rfl) (hg2 : Gl X y := by rfl) (hd : (y == ("__debug__" : Str)) = false := by decide)
    (hs1 : starEach [e, .Name y p2] X.env = (false, eval e X.env) :: starEach [.Name y p2] X.env := by rfl) : PF X (.Call (.Name "isinstance" p) [e, .Name y p2] [] pos) (aH (jE (oa rs T)) ga) := by
  with_unfolding_all exact tf Er hy hm ha hg hg2 hd hs1
theorem zF (Er : Errs X.K X.mg rs ts) (hm : X.mg "isinstance" = none) (hm2 : X.mg "ValueError" = none) (ha : PF X e ga) (hg : Gl X "isinstance" := by rfl) (hg2 : Gl X "ValueError" := by rfl)
    (hs1 : starEach [e, .Name "ValueError" p2] X.env = (false, eval e X.env) :: starEach [.Name "ValueError" p2] X.env := by rfl) : PF X (.Call (.Name "isinstance" p) [e, .Name "ValueError" p2] [] pos) (aH (jE (mz rs)) ga) := by
  with_unfolding_all exact uO Er hm hm2 ha hg hg2 hs1
end
section
variable {CX : CXT} {P : Program} {w : World} {K : PySem.W.Frag} {mg : Str -> Option Value} {base : Heap} {N : List Str} {i : Nat} {x : Str} {qual : Str} {scope : Scope} {f a : Addr} {cdv : Value} {A : Around} {outer : List Env} {s : Shared} {H : Hp} {E : XK} {pn : List (Addr × Obj)} {xe : Value -> Shared -> Prop} {pos p : Pos} {e : Expr} {ga : Ev -> R D}
theorem vP (h : At N i x) (hv : Vis (bP CX P w K mg base N qual scope f cdv A outer s H E).env.scope x := by first | exact Or.inl rfl | exact Or.inr (Or.inl rfl) | exact Or.inr (Or.inr rfl)) (hd : (x == ("__debug__" : Str)) = false := by decide)
    (hcd : (x == ("__classdict__" : Str)) = false := by decide) : PF (iG (bP CX P w K mg base N qual scope f cdv A outer s H E) pn xe) (.Name x pos) (fun ρ => rdV ρ i) := by
  with_unfolding_all exact vg h hv hd hcd
theorem AJ (h : At N i x) (hv : Vis (bP CX P w K mg base N qual scope f cdv A outer s H E).env.scope x := by first | exact Or.inl rfl | exact Or.inr (Or.inl rfl) | exact Or.inr (Or.inr rfl)) (hd : (x == ("__debug__" : Str)) = false := by decide)
    (hcd : (x == ("__classdict__" : Str)) = false := by decide) : PF (ie (bP CX P w K mg base N qual scope f cdv A outer s H E) a xe) (.Name x pos) (fun ρ => rdV ρ i) := by
  with_unfolding_all exact uq h hv hd hcd
theorem zQ (h : At N i x) (hN : N.Nodup) (he : PF (iG (bP CX P w K mg base N qual scope f cdv A outer s H E) pn xe) e ga) (hx : Loc (bP CX P w K mg base N qual scope f cdv A outer s H E).env.scope x := by first | exact Or.inl rfl | exact Or.inr rfl)
    (hs : swapsWithSole [.Name x p] e pos.line (bP CX P w K mg base N qual scope f cdv A outer s H E).env = pure false := by rfl) (hw : swappedStores [.Name x p] e (bP CX P w K mg base N qual scope f cdv A outer s H E).env = pure none := by rfl)
    (hf : (bP CX P w K mg base N qual scope f cdv A outer s H E).fn x = true \/ (bP CX P w K mg base N qual scope f cdv A outer s H E).env.scope.names.lookup x = some .local := by first | exact .inl rfl | exact .inr rfl) : PSF (iG (bP CX P w K mg base N qual scope f cdv A outer s H E) pn xe) (.Assign [.Name x p] e pos) (eJ i ga) := by
  with_unfolding_all exact tJ h hN he hx hs hw hf
theorem Bg (h : At N i x) (hN : N.Nodup) (he : PF (ie (bP CX P w K mg base N qual scope f cdv A outer s H E) a xe) e ga) (hx : Loc (bP CX P w K mg base N qual scope f cdv A outer s H E).env.scope x := by first | exact Or.inl rfl | exact Or.inr rfl)
    (hs : swapsWithSole [.Name x p] e pos.line (bP CX P w K mg base N qual scope f cdv A outer s H E).env = pure false := by rfl) (hw : swappedStores [.Name x p] e (bP CX P w K mg base N qual scope f cdv A outer s H E).env = pure none := by rfl)
    (hf : (bP CX P w K mg base N qual scope f cdv A outer s H E).fn x = true \/ (bP CX P w K mg base N qual scope f cdv A outer s H E).env.scope.names.lookup x = some .local := by first | exact .inl rfl | exact .inr rfl) : PSF (ie (bP CX P w K mg base N qual scope f cdv A outer s H E) a xe) (.Assign [.Name x p] e pos) (eJ i ga) := by
  with_unfolding_all exact tW h hN he hx hs hw hf
end
section
variable {X : Cx} {body suite : List Stmt} {b₀ : Stmt} {gb gs : Ev -> O} {pos hp tp : Pos} {nm : Str} {rs : List Addr} {ts : List (Str × Addr)}
theorem CH (i : Nat) (Er : Errs X.K X.mg rs ts) (hN : X.N.Nodup) (hcalm : X.calm = true) (hst : X.stack = X.env :: X.outer) (hfr : X.env.frame = some X.env.locals) (hkd : X.env.scope.kind = .function)
    (hb : ∀ pn xe, sM (iG X pn xe) body gb) (hh : ∀ a xe, sM (ie X a xe) (b₀ :: suite) gs) (hg : Gl X "LineError" := by rfl) (hi : X.N[i]? = some nm := by rfl) (hx : X.env.scope.names.lookup nm = some .local := by rfl) : PSF X (.Try body [.ExceptHandler (some (.Name "LineError" tp)) (some nm) (b₀ :: suite) hp] [] [] pos) (wX gb gs (mz rs) i) := by
  with_unfolding_all exact yf i Er hN hcalm hst hfr hkd hb hh hg hi hx
end
section
variable {X : Cx} {st : Stmt} {de body a b : List Stmt} {e c tg : Expr} {g g1 g2 : Ev -> O} {ga gb : Ev -> R D} {gt : Ev -> R Bool} {gl : Ev -> R (List D)} {pos : Pos}
theorem sR (j i : Nat) {x : Str} {p ap cp : Pos} (he : PF X e ga) (hi : X.N[i]? = some x := by rfl) (hv : Vis X.env.scope x := by first | exact Or.inl rfl | exact Or.inr (Or.inl rfl))
    (hd : (x == ("__debug__" : Str)) = false := by decide) (hcd : (x == ("__classdict__" : Str)) = false := by decide) (hs1 : starEach [e] X.env = (false, eval e X.env) :: starEach [] X.env := by rfl)
    (hbase : attributeBase (.Name x p) "append" X.env (eval (.Name x p) X.env) = eval (.Name x p) X.env := by rfl)
    (hfew : ((backTo cp (starEach [e] X.env)).all (fun x => !x.1) && (backToKw cp (keywordEach [] X.env)).all (fun x => x.1.isSome)
      && decide ([e].length + ([] : List Keyword).length + (if ([] : List Keyword).isEmpty then 0 else 1) < 30)) = true := by rfl)
    (hline : (ap.endLine == cp.line) = true := by rfl)
    (hs : swapsWith (.Call (.Attribute (.Name x p) "append" ap) [e] [] cp) none pos.line X.env = pure false := by rfl) : PSF X (.Expr (.Call (.Attribute (.Name x p) "append" ap) [e] [] cp) pos) (vC j i ga) := by
  with_unfolding_all exact nK j i he hi hv hd hcd hs1 hbase hfew hline hs
end
section
variable {X : Cx} {e : Expr} {ga : Ev -> R D} {p p2 p3 p4 pos : Pos} {k : Nat}
end
section
theorem Be {X : Cx} {o e : Expr} {ga : Ev -> R D} {gl : Ev -> R (List D)} {ap cp : Pos} (ho : PF X o ga) (ha : PFA X [e] gl) (hbase : attributeBase o "join" X.env (eval o X.env) = eval o X.env := by rfl)
    (hfew : ((backTo cp (starEach [e] X.env)).all (fun x => !x.1) && (backToKw cp (keywordEach [] X.env)).all (fun x => x.1.isSome)
      && decide ([e].length + ([] : List Keyword).length + (if ([] : List Keyword).isEmpty then 0 else 1) < 30)) = true := by rfl)
    (hline : (ap.endLine == cp.line) = true := by rfl) (hs : starEach [e] X.env = (false, eval e X.env) :: starEach [] X.env := by rfl) : PF X (.Call (.Attribute o "join" ap) [e] [] cp) (eG "str" oh ga gl) := by
  with_unfolding_all exact vd ho ha hbase hfew hline hs
end
section
variable {X : Cx}
theorem uk {e : Expr} {ga : Ev -> R D} {p p2 pos : Pos} (hm : X.mg "isinstance" = none) (ha : PF X e ga) (hm2 : X.mg "list" = none) (hg2 : Gl X "list" := by rfl) (hg : Gl X "isinstance" := by rfl) (hs1 : starEach [e, .Name "list" p2] X.env = (false, eval e X.env) :: starEach [.Name "list" p2] X.env := by rfl) : PF X (.Call (.Name "isinstance" p) [e, .Name "list" p2] [] pos) (aH (dL (· == "list")) ga) := by
  with_unfolding_all exact pM hm ha hm2 hg2 hg hs1
end
section
variable {X : Cx} {a b : Expr} {ga gb : Ev -> R D} {elts : List Expr} {kt : Nat} {p pos tp kp : Pos}
end
section
variable {X : Cx} {elt iter tgt : Expr} {ifs : List Expr} {pos : Pos} {scope : Scope} {n : Nat} {N' : List Str} {ix : List Nat} {asg : D -> Ev -> R Ev} {gi : Ev -> R (List D)} {gt : Ev -> R Bool} {ge : Ev -> R D}
end
section
variable {X : Cx}
end
section
variable {X : Cx} {ga : Ev -> R D} {gl : Ev -> R (List D)} {pos : Pos}
end
section
variable {X : Cx} {a b : Expr} {gl : Ev -> R (List D)} {elts : List Expr} {kt : Nat} {p pos tp : Pos}
end
section
variable {X : Cx} {a st : Expr} {ga gs : Ev -> R D} {pos p2 : Pos}
end
section
variable {X : Cx} {c e : Expr} {body : List Stmt} {gt : Ev -> R Bool} {g : Ev -> O} {ga : Ev -> R D} {pos : Pos}
end
section
variable {X : Cx} {a b ix e : Expr} {es : List Expr} {ga gb gi : Ev -> R D} {gl : Ev -> R (List D)} {pos p1 p2 pl sp : Pos}
end
section
variable {X : Cx} {a b : Expr} {ga gb : Ev -> R D} {pos : Pos}
theorem uK {x z : Str} {l : List Nat} {t : Tok} (hg : Gl X x) (hm : X.mg x = some (.str z t)) (hl : z.cps.toList = l := by rfl) (hz : l.length <= 1000 := by decide) (hd : (x == ("__debug__" : Str)) = false := by decide) : PF X (.Name x pos) (fun _ => .ok (.str l)) := by
  with_unfolding_all exact pS hg hm hl hz hd
end
section
variable {X : Cx} {a b c e e1 e2 e3 e4 e5 : Expr} {ga gb gc g1 g2' g3' g4 g5 : Ev -> R D} {gl : Ev -> R (List D)} {pos p : Pos}
theorem AA (h : PF X e ga) : PF X (.FormattedValue e (-1) none pos) (aH vR ga) := by
  with_unfolding_all exact ya h
theorem yd (h1 : PF X e1 g1) (h2 : PF X e2 g2') (h3 : PF X e3 g3') : PF X (.JoinedStr [e1, e2, e3] pos) (tR [g1, g2', g3']) := by
  with_unfolding_all exact sW h1 h2 h3
theorem wG (hg : Gl X "int") (hm : X.mg "int" = none) (ha : PFA X [e] gl) (he : starEach [e] X.env = (false, eval e X.env) :: starEach [] X.env := by rfl) : PF X (.Call (.Name "int" p) [e] [] pos) (gOf oj gl) := by
  with_unfolding_all exact uR hg hm ha he
theorem AF (ha : PF X a ga) (hb : PF X b gb) : PF X (.BinOp a .Pow b pos) (g2 zd ga gb) := by
  with_unfolding_all exact uS ha hb
end
section
variable {X : Cx} {a b c e : Expr} {ga : Ev -> R D} {gl : Ev -> R (List D)} {pos p : Pos} {tg : Expr}
theorem sA {o : Expr} {ap cp : Pos} (ho : PF X o ga) (ha : PFA X [e] gl) (hbase : attributeBase o "split" X.env (eval o X.env) = eval o X.env := by rfl)
    (hfew : ((backTo cp (starEach [e] X.env)).all (fun x => !x.1) && (backToKw cp (keywordEach [] X.env)).all (fun x => x.1.isSome)
      && decide ([e].length + ([] : List Keyword).length + (if ([] : List Keyword).isEmpty then 0 else 1) < 30)) = true := by rfl)
    (hline : (ap.endLine == cp.line) = true := by rfl) (hs : starEach [e] X.env = (false, eval e X.env) :: starEach [] X.env := by rfl) : PF X (.Call (.Attribute o "split" ap) [e] [] cp) (eG "str" iy ga gl) := by
  with_unfolding_all exact qU ho ha hbase hfew hline hs
end
section
variable {X : Cx} {elt iter : Expr} {ifs : List Expr} {x : Str} {px pos : Pos} {scope : Scope} {N' : List Str} {ix : List Nat} {gi : Ev -> R (List D)} {gt : Ev -> R Bool} {ge : Ev -> R D}
end
section
variable {X : Cx} {a b c : Expr} {gl : Ev -> R (List D)} {elts : List Expr} {kt : Nat} {p pos tp : Pos}
end
section
variable {X : Cx} {a b e : Expr} {ga gb : Ev -> R D} {gl : Ev -> R (List D)} {pos p : Pos}
theorem AL (ha : PF X a ga) (hb : PF X b gb) (hm : behindInMarks .In b = false := by rfl) : PF X (.Compare a [.In] [b] pos) (g2 zh ga gb) := by
  with_unfolding_all exact uw ha hb hm
end
section
end
section
variable {X : Cx} {elt iter : Expr} {ifs : List Expr} {x : Str} {px pos : Pos} {scope : Scope} {N' : List Str} {ix : List Nat} {gi : Ev -> R (List D)} {gt : Ev -> R Bool} {ge : Ev -> R D}
theorem se (hst : X.stack = X.env :: X.outer) (hfr : X.env.frame = some X.env.locals) (ok : CompOk X scope x N' ix) (hcalm : X.calm = true) (hi : PIF X (.Name x px) iter gi) (he : ∀ C s₂ H₂ fp pn xe, PF (dB X N' scope C s₂ H₂ fp pn xe) elt ge) (ht : ∀ C s₂ H₂ fp, PTs (bd X N' scope C s₂ H₂ fp) ifs gt)
    (hs : ∀ x, foldedSetIterable iter X.env x = pure x := by intro _; rfl) : PFL X (.ListComp elt [⟨.Name x px, iter, ifs, 0⟩] scope pos) (mK gi ix gt ge) := by
  with_unfolding_all exact mZ hst hfr ok hcalm hi he ht hs
end
section
variable {X : Cx} {a b c e ix : Expr} {es : List Expr} {ga gb gi : Ev -> R D} {gl : Ev -> R (List D)} {pos p p1 p2 p3 pl sp : Pos}
theorem Ao {o : Expr} {ap cp : Pos} (ho : PF X o ga) (ha : PFA X [e] gl) (hbase : attributeBase o "endswith" X.env (eval o X.env) = eval o X.env := by rfl)
    (hfew : ((backTo cp (starEach [e] X.env)).all (fun x => !x.1) && (backToKw cp (keywordEach [] X.env)).all (fun x => x.1.isSome)
      && decide ([e].length + ([] : List Keyword).length + (if ([] : List Keyword).isEmpty then 0 else 1) < 30)) = true := by rfl)
    (hline : (ap.endLine == cp.line) = true := by rfl) (hs : starEach [e] X.env = (false, eval e X.env) :: starEach [] X.env := by rfl) : PF X (.Call (.Attribute o "endswith" ap) [e] [] cp) (eG "str" qm ga gl) := by
  with_unfolding_all exact uB ho ha hbase hfew hline hs
theorem zx {o : Expr} {ap cp : Pos} (ho : PF X o ga) (ha : PFA X [e] gl) (hbase : attributeBase o "partition" X.env (eval o X.env) = eval o X.env := by rfl)
    (hfew : ((backTo cp (starEach [e] X.env)).all (fun x => !x.1) && (backToKw cp (keywordEach [] X.env)).all (fun x => x.1.isSome)
      && decide ([e].length + ([] : List Keyword).length + (if ([] : List Keyword).isEmpty then 0 else 1) < 30)) = true := by rfl)
    (hline : (ap.endLine == cp.line) = true := by rfl) (hs : starEach [e] X.env = (false, eval e X.env) :: starEach [] X.env := by rfl) : PF X (.Call (.Attribute o "partition" ap) [e] [] cp) (eG "str" mY ga gl) := by
  with_unfolding_all exact vJ ho ha hbase hfew hline hs
theorem An (hg : Gl X "str") (hm : X.mg "str" = none) (ha : PFA X [e] gl) (he : starEach [e] X.env = (false, eval e X.env) :: starEach [] X.env := by rfl) : PF X (.Call (.Name "str" p) [e] [] pos) (gOf oq gl) := by
  with_unfolding_all exact vH hg hm ha he
theorem xv {x1 x2 x3 : Str} {k n : Nat} {f1 f2 f3 : List D -> R D} (c1 : Callee X.prog X.w X.K X.mg X.base x1 k n f1) (c2 : Callee X.prog X.w X.K X.mg X.base x2 k n f2) (c3 : Callee X.prog X.w X.K X.mg X.base x3 k n f3) (hr : Room k X.A) (hi : PF X ix gi) (ha : PFA X (e :: es) gl) (hg1 : Gl X x1 := by rfl) (hg2 : Gl X x2 := by rfl) (hg3 : Gl X x3 := by rfl)
    (hd1 : (x1 == ("__debug__" : Str)) = false := by decide) (hd2 : (x2 == ("__debug__" : Str)) = false := by decide) (hd3 : (x3 == ("__debug__" : Str)) = false := by decide) (he : starEach (e :: es) X.env = (false, eval e X.env) :: starEach es X.env := by rfl) (hpl : (backTo pos (starEach es X.env)).any (·.1) = false := by rfl) (hs : jT ix := by exact fun _ _ => rfl)
    (hs1 : starEach [.Name x1 p1, .Name x2 p2, .Name x3 p3] X.env = (false, eval (.Name x1 p1) X.env) :: starEach [.Name x2 p2, .Name x3 p3] X.env := by rfl) (hs2 : starEach [.Name x2 p2, .Name x3 p3] X.env = (false, eval (.Name x2 p2) X.env) :: starEach [.Name x3 p3] X.env := by rfl) (hs3 : starEach [.Name x3 p3] X.env = (false, eval (.Name x3 p3) X.env) :: starEach [] X.env := by rfl) : PF X (.Call (.Subscript (.List [.Name x1 p1, .Name x2 p2, .Name x3 p3] pl) ix sp) (e :: es) [] pos) (vh [aM n f1 gl, aM n f2 gl, aM n f3 gl] gi) := by
  with_unfolding_all exact rV c1 c2 c3 hr hi ha hg1 hg2 hg3 hd1 hd2 hd3 he hpl hs hs1 hs2 hs3
theorem yg {N : List Str} {i : Nat} {x : Str} {pos : Pos} {scope : Scope} {C : Addr} {s₂ : Shared} {H₂ : Hp} {fp : List Addr} {pn : List (Addr × Obj)} {xe : Value -> Shared -> Prop} (h : At N i x)
    (hv : Vis (dB X N scope C s₂ H₂ fp pn xe).env.scope x := by first | exact Or.inl rfl | exact Or.inr (Or.inl rfl) | exact Or.inr (Or.inr rfl)) (hd : (x == ("__debug__" : Str)) = false := by decide)
    (hcd : (x == ("__classdict__" : Str)) = false := by decide) : PF (dB X N scope C s₂ H₂ fp pn xe) (.Name x pos) (fun ρ => rdV ρ i) := by
  with_unfolding_all exact rD h hv hd hcd
end
end L2
namespace L2
open PySem PySem.Spec PyProof.Rows
section
variable {ρ : Ev} {g g1 g2' : Ev -> O} {gt gu : Ev -> R Bool} {ga gb gc : Ev -> R D} {gl : Ev -> R (List D)} {go gp : Ev -> R (Option Int)} {i n : Nat} {f f' : D -> D -> Option D} {asg : D -> Ev -> R Ev} {C : Addr}
theorem nv : aL g1 g2' ρ = (g1 ρ).seq g2' := rfl
theorem Dy : oIf gt g1 g2' ρ = (gt ρ).out ρ fun k => if k = true then g1 ρ else g2' ρ := rfl
theorem Cl : eJ i ga ρ = (ga ρ).out ρ fun d => .nx (ρ.set i (some (.val d))) := rfl
theorem CV : bM ga ρ = (ga ρ).out ρ .rt := rfl
theorem D2 : oNx ρ = .nx ρ := rfl
theorem CM : wD i gl ρ = (gl ρ).out ρ fun ds => .nx (ρ.set i (some (.own ds))) := rfl
theorem Bt : qo ga ρ = (ga ρ).out ρ fun _ => .nx ρ := rfl
theorem BL : sD asg gl g ρ = (gl ρ).out ρ fun items => cC asg g items ρ := rfl
theorem xL : jl C gl ρ = (gl ρ).out ρ fun _ => .ex C ρ := rfl
theorem BE : D5 asg ga ρ = (ga ρ).out ρ fun d => (asg d ρ).out ρ .nx := rfl
theorem BV : vY i g ρ = g (frz i ρ) := rfl
theorem zK {α β : Type} {h : α -> R β} {gx : Ev -> R α} : aH h gx ρ = gx ρ >>= h := rfl
theorem D3 {h : List D -> Option D} : gOf h gl ρ = gl ρ >>= fun ds => ofO (h ds) := rfl
theorem vS : ac ga gl ρ = ga ρ >>= fun x => gl ρ >>= fun xs => .ok (x :: xs) := rfl
theorem xZ : bh gl ρ = gl ρ >>= fun ds => .ok (.lst false ds) := rfl
theorem B1 : gD gl ρ = gl ρ >>= fun ds => if ds.length <= sizeLine then .ok ds else .no := rfl
theorem Dn : gB2 f ga gb ρ = g2 f ga gb ρ >>= asB := rfl
theorem Dk : gB3 f f' ga gb gc ρ = g3 f f' ga gb gc ρ >>= asB := rfl
theorem DY : gBn gt ρ = gt ρ >>= fun k => .ok (!k) := rfl
theorem A7 : ce ga ρ = ga ρ >>= fun x => asI x >>= fun i => .ok (some i) := rfl
theorem zL {T : String} {h : D -> List D -> Option D} : eG T h ga gl ρ = ga ρ >>= fun x => if gv T x = true then gl ρ >>= fun ds => ofO (h x ds) else .no := rfl
theorem D6 : g2 f ga gb ρ = ga ρ >>= fun x => gb ρ >>= fun y => ofO (f x y) := rfl
theorem BJ : jc ga gb ρ = ga ρ >>= fun x => asB x >>= fun k => if k = true then gb ρ else .ok (.bl false) := rfl
theorem Ef : gOr ga gb ρ = ga ρ >>= fun x => asB x >>= fun k => if k = true then .ok (.bl true) else gb ρ := rfl
theorem B2 : zc ga ρ = ga ρ >>= fun x => asB x >>= fun k => .ok (.bl (!k)) := rfl
theorem AI : nH gt gu ρ = gt ρ >>= fun k => if k = true then gu ρ else .ok false := rfl
theorem BK : rF gt gu ρ = gt ρ >>= fun k => if k = true then .ok true else gu ρ := rfl
theorem Cm : gIf gt ga gb ρ = gt ρ >>= fun k => if k = true then ga ρ else gb ρ := rfl
theorem DQ : gSl ga go gp ρ = ga ρ >>= fun x => go ρ >>= fun l => gp ρ >>= fun u => ofO (tH l u x) := rfl
theorem zT {ix : List Nat} : gz gl ix gt ga ρ = gl ρ >>= fun items => fi gt ga items (fh ix ρ) >>= fun ds => if ds.length <= sizeLine then .ok ds else .no := rfl
theorem yN {h : List D -> R D} : aM 1 h (ac ga fun _ => .ok []) ρ = ga ρ >>= fun x => h [x] := Af
theorem yw {h : List D -> R D} : aM 2 h (ac ga (ac gb fun _ => .ok [])) ρ = ga ρ >>= fun x => gb ρ >>= fun y => h [x, y] := wy
theorem yr {h : List D -> R D} : aM 3 h (ac ga (ac gb (ac gc fun _ => .ok []))) ρ = ga ρ >>= fun x => gb ρ >>= fun y => gc ρ >>= fun z => h [x, y, z] := AX
theorem yA {h : List D -> R D} {gd : Ev -> R D} : aM 4 h (ac ga (ac gb (ac gc (ac gd fun _ => .ok [])))) ρ = ga ρ >>= fun x => gb ρ >>= fun y => gc ρ >>= fun z => gd ρ >>= fun u => h [x, y, z, u] := by
  unfold aM
  simp only [vS]
  cases ga ρ <;> try rfl
  simp only [R.ok_bind]
  cases gb ρ <;> try rfl
  simp only [R.ok_bind]
  cases gc ρ <;> try rfl
  simp only [R.ok_bind]
  cases gd ρ <;> rfl
end
theorem Co (i : Nat) (ga : Ev -> R D) (ρ : Ev) : wF i ga ρ = (ownAt ρ i).out ρ fun ds => (ga ρ).out ρ fun d => (asL d).out ρ fun es => if ds.length + es.length <= sizeLine then .nx (ρ.set i (some (.own (ds ++ es)))) else .no := rfl
theorem BD (i : Nat) (ga : Ev -> R D) (ρ : Ev) : Bv i ga ρ = (ownAt ρ i).out ρ fun ds => (ga ρ).out ρ fun d => if ds.length < sizeLine then .nx (ρ.set i (some (.own (ds ++ [d])))) else .no := rfl
theorem Cg (i j : Nat) (gl : Ev -> R (List D)) (ρ : Ev) : Dw i j gl ρ = (gl ρ).out ρ fun ds => (vr [i, j] ds ρ).out ρ .nx := rfl
theorem Du (ds : List D) (ρ : Ev) : ownAt (some (.own ds) :: ρ) 0 = .ok ds := rfl
theorem Ed (a0 : Option Sl) (ds : List D) (ρ : Ev) : ownAt (a0 :: some (.own ds) :: ρ) 1 = .ok ds := rfl
theorem DA (a0 a1 : Option Sl) (ds : List D) (ρ : Ev) : ownAt (a0 :: a1 :: some (.own ds) :: ρ) 2 = .ok ds := rfl
theorem asl (ds : List D) : asL (.lst false ds) = .ok ds := rfl
theorem Dq (a0 : Option Sl) (ds : List D) (ρ : Ev) : frz 1 (a0 :: some (.own ds) :: ρ) = a0 :: some (.val (.lst false ds)) :: ρ := rfl
def g3k (f' : D -> D -> Option D) (r : R D) (y : D) : D -> R D
  | .bl true => r >>= fun w => ofO (f' y w)
  | .bl false => .ok (.bl false)
  | _ => .no
theorem DX (f f' : D -> D -> Option D) (ga gb gc : Ev -> R D) (ρ : Ev) : g3 f f' ga gb gc ρ = ga ρ >>= fun x => gb ρ >>= fun y => ofO (f x y) >>= g3k f' (gc ρ) y := rfl
theorem BQ (f' : D -> D -> Option D) (r : R D) (y : D) (b : Bool) : g3k f' r y (.bl b) = if b = true then (r >>= fun w => ofO (f' y w)) else .ok (.bl false) := by cases b <;> rfl
theorem sv2 (i j : Nat) (x y : D) (ρ : Ev) : vr [i, j] [x, y] ρ = .ok ((ρ.set i (some (.val x))).set j (some (.val y))) := rfl
theorem Ee (a0 a1 a2 a3 : Option Sl) (ds : List D) (ρ : Ev) : frz 4 (a0 :: a1 :: a2 :: a3 :: some (.own ds) :: ρ) = a0 :: a1 :: a2 :: a3 :: some (.val (.lst false ds)) :: ρ := rfl
theorem xC (ρ : Ev) (k : Ev -> O) : (O.nx ρ).seq k = k ρ := rfl
theorem Dr (d : D) (k : Ev -> O) : (O.rt d).seq k = .rt d := rfl
theorem DU (C : Addr) (ρ : Ev) (k : Ev -> O) : (O.ex C ρ).seq k = .ex C ρ := rfl
theorem Ek (k : Ev -> O) : (O.no).seq k = .no := rfl
theorem Ei (d : D) : aC (.rt d) = .ok d := rfl
theorem DZ (ρ : Ev) : aC (.nx ρ) = .ok .non := rfl
theorem D0 (C : Addr) (ρ : Ev) : aC (.ex C ρ) = .ex C := rfl
theorem DG (k : Bool) : asB (.bl k) = .ok k := rfl
theorem eV (i : Int) : asI (.int i) = .ok i := rfl
theorem DB (k : Bool) : iu (.bl k) = .ok k := rfl
theorem rd7 (a0 a1 a2 a3 a4 a5 a6 : Option Sl) (d : D) (ρ : Ev) : rdV (a0 :: a1 :: a2 :: a3 :: a4 :: a5 :: a6 :: some (.val d) :: ρ) 7 = .ok d := rfl
theorem rd8 (a0 a1 a2 a3 a4 a5 a6 a7 : Option Sl) (d : D) (ρ : Ev) : rdV (a0 :: a1 :: a2 :: a3 :: a4 :: a5 :: a6 :: a7 :: some (.val d) :: ρ) 8 = .ok d := rfl
theorem rd9 (a0 a1 a2 a3 a4 a5 a6 a7 a8 : Option Sl) (d : D) (ρ : Ev) : rdV (a0 :: a1 :: a2 :: a3 :: a4 :: a5 :: a6 :: a7 :: a8 :: some (.val d) :: ρ) 9 = .ok d := rfl
theorem DH (a0 a1 a2 a3 a4 a5 a6 a7 a8 a9 : Option Sl) (d : D) (ρ : Ev) : rdV (a0 :: a1 :: a2 :: a3 :: a4 :: a5 :: a6 :: a7 :: a8 :: a9 :: some (.val d) :: ρ) 10 = .ok d := rfl
theorem D1 (a0 a1 a2 a3 a4 a5 a6 a7 a8 a9 a10 : Option Sl) (d : D) (ρ : Ev) : rdV (a0 :: a1 :: a2 :: a3 :: a4 :: a5 :: a6 :: a7 :: a8 :: a9 :: a10 :: some (.val d) :: ρ) 11 = .ok d := rfl
theorem Eh (a0 a1 a2 a3 a4 a5 a6 a7 a8 a9 a10 a11 : Option Sl) (d : D) (ρ : Ev) : rdV (a0 :: a1 :: a2 :: a3 :: a4 :: a5 :: a6 :: a7 :: a8 :: a9 :: a10 :: a11 :: some (.val d) :: ρ) 12 = .ok d := rfl
section
variable (i j : Int)
theorem Cb : bx (.int i) (.int j) = some (.int (i + j)) := by simp only [bx]
theorem BI : yn (.int i) (.int j) = some (.int (i - j)) := by simp only [yn]
theorem DN : leD (.int i) (.int j) = some (.bl (decide (i <= j))) := by simp only [leD]
theorem DD : ltD (.int i) (.int j) = some (.bl (decide (i < j))) := by simp only [ltD]
theorem Dm : gtD (.int i) (.int j) = some (.bl (decide (j < i))) := by simp only [gtD]
theorem DE : geD (.int i) (.int j) = some (.bl (decide (j <= i))) := by simp only [geD]
theorem Eb : eqF (.int i) (.int j) = some (.bl (i == j)) := by simp only [eqF, eqD, Option.map_some]
theorem Dv : neF (.int i) (.int j) = some (.bl (!(i == j))) := by simp only [neF, eqD, Option.map_some]
end
theorem lL {x y : List Nat} (h : x.length + y.length <= sizeLine) : bx (.str x) (.str y) = some (.str (x ++ y)) := by simp only [bx]; rw [if_pos h]
theorem rl {x y : List D} (h : x.length + y.length <= sizeLine) : bx (.tup x) (.tup y) = some (.tup (x ++ y)) := by simp only [bx]; rw [if_pos h]
theorem DV (x y : List Nat) : eqF (.str x) (.str y) = some (.bl (x == y)) := by simp only [eqF, eqD, Option.map_some]
theorem D8 (x y : List Nat) : neF (.str x) (.str y) = some (.bl (!(x == y))) := by simp only [neF, eqD, Option.map_some]
theorem oU {α : Type} (n : Nat) (x : α) : (List.replicate n [x]).flatten = List.replicate n x := by
  induction n with
  | zero => rfl
  | succ n ih => rw [List.replicate_succ, List.flatten_cons, ih]; rfl
theorem bK : (1000 : Nat) <= sizeLine := by decide
theorem B0 {c n : Nat} (h : n <= 1000) : kM (.str [c]) (.int (n : Int)) = some (.str (List.replicate n c)) := by
  have := bK
  simp only [kM]
  rw [if_pos (by refine ⟨by omega, by omega, ?_⟩; simp; omega), Int.toNat_natCast, oU]
theorem B6 {c : D} {n : Nat} (h : n <= 1000) : kM (.lst false [c]) (.int (n : Int)) = some (.lst false (List.replicate n c)) := by
  have := bK
  simp only [kM]
  rw [if_pos (by refine ⟨by omega, by omega, ?_⟩; simp; omega), Int.toNat_natCast, oU]
theorem Ah {xs : List D} {k : Nat} {d : D} (h : xs[k]? = some d) : ixD (.tup xs) (.int (k : Int)) = some d := by simp only [ixD]; exact qG h
theorem zn {fz : Bool} {xs : List D} {k : Nat} {d : D} (h : xs[k]? = some d) : ixD (.lst fz xs) (.int (k : Int)) = some d := by simp only [ixD]; exact qG h
theorem uP {α : Type} (xs : List α) (k : Nat) : fL xs none (some (k : Int)) = xs.take k := by
  unfold fL
  rw [HT.sIx_none, HT.sIx_nat, List.drop_zero, Nat.sub_zero]
  by_cases h : k <= xs.length
  . rw [Nat.min_eq_left h]
  . rw [Nat.min_eq_right (by omega), List.take_length, List.take_of_length_le (by omega)]
theorem jP {α : Type} (xs : List α) (k : Nat) : fL xs (some (k : Int)) none = xs.drop k := by
  unfold fL
  rw [HT.sIx_none, HT.sIx_nat]
  by_cases h : k <= xs.length
  . rw [Nat.min_eq_left h, List.take_of_length_le (by simp)]
  . rw [Nat.min_eq_right (by omega), List.drop_length, List.take_nil, List.drop_of_length_le (by omega)]
theorem BA (lo hi : Option Int) (x : List Nat) : tH lo hi (.str x) = some (.str (fL x lo hi)) := rfl
theorem Ch (lo hi : Option Int) (x : List D) : tH lo hi (.tup x) = some (.tup (fL x lo hi)) := rfl
theorem Cv (fz : Bool) (x : List D) : iK [.lst fz x] = some (.int x.length) := rfl
theorem CG (x : List D) : iK [.tup x] = some (.int x.length) := rfl
theorem BM (x : List Nat) : iK [.str x] = some (.int x.length) := rfl
theorem m_t {ds : List D} (h : ds.length <= 1000) : mkT ds = .ok (.tup ds) := if_pos (Nat.le_trans h bK)
theorem lB {n : Nat} (h : n <= 1000) : cy [.int (n : Int)] = .ok ((List.range n).map fun (i : Nat) => D.int (i : Int)) := by
  have e : cy [.int (n : Int)] = if -(2 ^ 62) <= (n : Int) /\ (n : Int) < 2 ^ 62 then .ok ((List.range (n : Int).toNat).map fun i => D.int (0 + (i : Nat))) else .no := by simp only [cy]
  rw [e, if_pos (by constructor <;> omega), Int.toNat_natCast]
  simp only [Int.zero_add]
theorem DT {α : Type} (a v : α) (l : List α) : (a :: l).set 0 v = v :: l := rfl
theorem uG (asg : D -> Ev -> R Ev) (g : Ev -> O) (ρ : Ev) : cC asg g [] ρ = .nx ρ := rfl
theorem eB {asg : D -> Ev -> R Ev} {g : Ev -> O} {d : D} {ds : List D} {ρ ρ1 ρ2 : Ev} (h1 : asg d ρ = .ok ρ1) (h2 : g ρ1 = .nx ρ2) : cC asg g (d :: ds) ρ = cC asg g ds ρ2 := by
  rw [cC, h1]
  show (match g ρ1 with
    | .nx ρ2 => cC asg g ds ρ2
    | .ct ρ2 => cC asg g ds ρ2
    | .bk ρ2 => O.nx ρ2
    | .rt d => O.rt d
    | .ex C ρ2 => O.ex C ρ2
    | .no => O.no) = _
  rw [h2]
theorem B4 {X : Cx} {e : Expr} {gl : Ev -> R (List D)} {p pos : Pos} (hg : Gl X "ord") (hm : X.mg "ord" = none) (ha : PFA X [e] gl) (he : starEach [e] X.env = (false, eval e X.env) :: starEach [] X.env := by rfl) : PF X (.Call (.Name "ord" p) [e] [] pos) (gOf zf gl) := uH tZ (Bl _) hg hm rfl ha (he := he)
end L2
namespace L2
open PySem PySem.Spec PyProof.Rows
end L2
namespace L2
open PySem PySem.Spec PyProof.Rows
theorem DR (a0 a1 a2 a3 a4 a5 a6 a7 a8 a9 a10 a11 a12 : Option Sl) (d : D) (ρ : Ev) : rdV (a0 :: a1 :: a2 :: a3 :: a4 :: a5 :: a6 :: a7 :: a8 :: a9 :: a10 :: a11 :: a12 :: some (.val d) :: ρ) 13 = .ok d := rfl
theorem Dl (a0 a1 a2 a3 a4 a5 a6 a7 a8 a9 a10 a11 a12 a13 : Option Sl) (d : D) (ρ : Ev) : rdV (a0 :: a1 :: a2 :: a3 :: a4 :: a5 :: a6 :: a7 :: a8 :: a9 :: a10 :: a11 :: a12 :: a13 :: some (.val d) :: ρ) 14 = .ok d := rfl
theorem CB (i : Nat) (gt : Ev -> R Bool) (g1 g2 : Ev -> O) (ρ : Ev) : Ej i gt g1 g2 ρ = (gI (gt (frz i ρ))).out ρ fun k => if k = true then g1 ρ else g2 ρ := rfl
theorem AK (j i : Nat) (ga : Ev -> R D) (ρ : Ev) : CI j i ga ρ = (gI (ga (frz j ρ))).out ρ fun d => if fl 10 d = true then .nx (ρ.set i (some (.val d))) else .no := rfl
theorem zz (j i : Nat) (ga : Ev -> R D) (ρ : Ev) : vC j i ga ρ = (ownAt ρ i).out ρ fun ds => (gI (ga (frz j ρ))).out ρ fun d => if ds.length < sizeLine /\ fl 10 d = true then .nx (ρ.set i (some (.own (ds ++ [d])))) else .no := rfl
def Ac (i : Nat) (ρ : Ev) (ds : List D) (d : D) : Option Nat -> O
  | some n => if fl 10 d = true then .nx (ρ.set i (some (.own (ds.set n d)))) else .no
  | none => .no
theorem zB (i : Nat) (gk ga : Ev -> R D) (ρ : Ev) : Cu i gk ga ρ = (ownAt ρ i).out ρ fun ds => (gI (ga (frz i ρ))).out ρ fun d => (gI (gk (frz i ρ) >>= asI)).out ρ fun k => Ac i ρ ds d (ixN ds.length k) := rfl
theorem qg (i : Nat) (ρ : Ev) (ds : List D) (d : D) (n : Nat) : Ac i ρ ds d (some n) = if fl 10 d = true then .nx (ρ.set i (some (.own (ds.set n d)))) else .no := rfl
theorem Ar (gl : Ev -> R (List D)) (ρ : Ev) : BB gl ρ = gl ρ >>= Bx := rfl
theorem B3 (xs : List D) : Bx [.tup xs] = .ok xs := rfl
theorem yJ (ga gb : Ev -> R D) (ρ : Ev) : zD ga gb ρ = ga ρ >>= fun x => gb ρ >>= fun c => wt x c := rfl
theorem wY (n : Nat) (asg : D -> Ev -> R Ev) (gl : Ev -> R (List D)) (ix : List Nat) (gt : Ev -> R Bool) (ga : Ev -> R D) (ρ : Ev) : Bf n asg gl ix gt ga ρ = gl ρ >>= fun items => gf asg gt ga items (dX n ix ρ) >>= fun ds => if ds.length <= sizeLine then .ok ds else .no := rfl
theorem Az (i j : Nat) (ga : Ev -> R D) (gl : Ev -> R (List D)) (ρ : Ev) : Cn i j ga gl ρ = (ga ρ).out ρ fun d => (gl ρ).out ρ fun ds => .nx ((ρ.set i (some (.val d))).set j (some (.own ds))) := rfl
theorem BO (f : Bool) (lo hi : Option Int) (x : List D) : tH lo hi (.lst f x) = some (.lst false (fL x lo hi)) := rfl
theorem CO (ga gs : Ev -> R D) (ρ : Ev) : DK ga gs ρ = ga ρ >>= fun x => gs ρ >>= fun k => Bz x k := rfl
theorem B5 (x : List Nat) : Bz (.str x) (.int (-1)) = .ok (.str x.reverse) := rfl
theorem CJ (f : Bool) (x : List D) : Bz (.lst f x) (.int (-1)) = .ok (.lst false x.reverse) := rfl
theorem Cj (f : Bool) (xs : List D) : Bx [.lst f xs] = .ok xs := rfl
def CU (i : Nat) : O -> O
  | .nx ρ => .nx (ρ.set i none)
  | _ => .no
def Au (gs : Ev -> O) (f : Addr -> Option Bool) (i : Nat) : O -> O
  | .ex C ρ => (match f C with
    | some true => CU i (gs (ρ.set i (some (.val (.exc C)))))
    | _ => .no)
  | o => o
theorem BR (gb gs : Ev -> O) (f : Addr -> Option Bool) (i : Nat) (ρ : Ev) : wX gb gs f i ρ = Au gs f i (gb ρ) := by
  unfold wX Au
  cases gb ρ <;> rfl
theorem wQ (gs : Ev -> O) (f : Addr -> Option Bool) (i : Nat) (ρ : Ev) : Au gs f i (.nx ρ) = .nx ρ := rfl
theorem xW {gs : Ev -> O} {f : Addr -> Option Bool} {i : Nat} {ρ : Ev} {C : Addr} (h : f C = some true) : Au gs f i (.ex C ρ) = CU i (gs (ρ.set i (some (.val (.exc C))))) := by
  simp only [Au, h]
theorem xJ (i : Nat) (ρ : Ev) : CU i (.nx ρ) = .nx (ρ.set i none) := rfl
def Bs (gs : List (Ev -> R D)) (out : List Nat) (ρ : Ev) : D -> R D
  | .str x => if (out ++ x).length <= sizeLine then jQ gs (out ++ x) ρ else .no
  | _ => .no
theorem zS (gs : List (Ev -> R D)) (ρ : Ev) : tR gs ρ = jQ gs [] ρ := rfl
theorem yP (out : List Nat) (ρ : Ev) : jQ [] out ρ = .ok (.str out) := rfl
theorem yc (g : Ev -> R D) (gs : List (Ev -> R D)) (out : List Nat) (ρ : Ev) : jQ (g :: gs) out ρ = g ρ >>= Bs gs out ρ := rfl
theorem yK (gs : List (Ev -> R D)) (out : List Nat) (ρ : Ev) (x : List Nat) : Bs gs out ρ (.str x) = if (out ++ x).length <= sizeLine then jQ gs (out ++ x) ρ else .no := rfl
theorem B9 (x : List Nat) : vR (.str x) = .ok (.str x) := rfl
theorem AZ {n : Nat} (h : n < 10000000000) : vR (.int (n : Int)) = .ok (.str (bF n)) := by
  show (if 0 <= (n : Int) /\ (n : Int) < 10000000000 then R.ok (D.str (bF (n : Int).toNat)) else .no) = _
  rw [if_pos (by omega), Int.toNat_natCast]
theorem Ak (j i : Nat) (gl : Ev -> R (List D)) (ρ : Ev) : BU j i gl ρ = (gI (gl (frz j ρ))).out ρ fun ds => if ds.all (fl 10) = true then .nx (ρ.set i (some (.own ds))) else .no := rfl
theorem Cr (n : Nat) (gt : Ev -> R Bool) (g : Ev -> O) (ρ : Ev) : zt n gt g ρ = oI gt g n ρ := rfl
theorem yZ (gi : Ev -> R (List D)) (ix : List Nat) (gt : Ev -> R Bool) (ge : Ev -> R D) (ρ : Ev) : mK gi ix gt ge ρ = gi ρ >>= fun items => if items.length <= sizeLine then cc (fR 0) gt ge items (fh ix ρ) else .no := rfl
end L2
section
open L2
set_option compiler.extract_closed false in
local macro_rules | `(tactic| walk_at "run") => `(tactic| simp -implicitDefEqProofs only [Bi, As, zm, zJ, yZ, ↓yN, ↓yw, ↓yr, ↓yA, nv, Dy, Cl, CV, D2, CM, Bt, BL, xL, BE, BV, zK, D3, vS, xZ, B1, Dn, Dk, DY, A7, zL, D6, BJ, Ef, B2, AI, BK, Cm, DQ, zT, Co, BD, zz, CB, AK, zB, nV, Ar, yJ, wY, Az, BO, CO, B5, CJ, qg, B3, Cj, DR, Dl, and_self, Cg, Du, Ed, DA, asl, Dq, Ee, DX, BQ, sv2, xC, Dr, DU, Ek, Ei, DZ, D0, DG, eV, DB, rd0, rd1, rd2, rd3, rd4, rd5, rd6, rd7, rd8, rd9, DH, D1, Eh, R.ok_bind, R.ok_out, R.ex_bind, R.ex_out, em, Cb, BI, DN, DD, Dm, DE, Eb, Dv, DV, D8, Cv, CG, BM, BA, Ch, DT, List.set_cons_succ, List.length_nil, List.length_cons, List.cons_append, List.nil_append, Nat.reduceAdd, Nat.reduceBEq, Bool.not_true, Bool.not_false, Bool.false_eq_true, if_false, if_true, Ak, Cr, BR, wQ, xW, xJ, zS, yP, yc, yK, B9, Int.reduceLT, Int.reduceLE, Int.reduceBEq, decide_true, decide_false, *])
namespace Q
open L2
open PySem (sizeLine Addr)
def Dh : D -> Bool
  | .int _ => true
  | _ => false
def vm : List D -> R D
  | [.exc _] => .no
  | [d] => .ok (.bl (Dh d))
  | _ => .no
noncomputable def jo : Ev -> O := (bM (jc (aH (dL isInt) (fun ρ => rdV ρ 0)) (zc (aH (dL (· == "bool")) (fun ρ => rdV ρ 0)))))
noncomputable def dM : Ev -> O := (aL jo oNx)
theorem nP : ∀ ds : List D, ds.length = 1 -> vm ds = .no \/ aC (dM  (aF 1 ds)) = vm ds := by
  intro ds hl
  unfold dM jo
  match ds, hl with
  | [d], _ => cases d <;> first | exact Or.inr rfl | exact Or.inl rfl
def inB (d : D) (lo hi : Int) : Bool := match d with
  | .int i => decide (lo <= i) && decide (i <= hi)
  | _ => false
def xa : List D -> R D
  | [.exc _, _, _] => .no
  | [d, .int lo, .int hi] => .ok (.bl (inB d lo hi))
  | _ => .no
noncomputable def iE (cD : List D -> R D) : Ev -> O := (bM (jc (aM 1 cD (ac (fun ρ => rdV ρ 0) (fun _ => R.ok []))) (g3 leD leD (fun ρ => rdV ρ 1) (fun ρ => rdV ρ 0) (fun ρ => rdV ρ 2))))
noncomputable def dc (cD : List D -> R D) : Ev -> O := (aL (iE cD) oNx)
theorem lV : ∀ ds : List D, ds.length = 3 -> xa ds = .no \/ aC (dc vm (aF 3 ds)) = xa ds := by
  intro ds hl
  unfold dc iE
  match ds, hl with
  | [d, l, h], _ =>
    cases d <;> first | exact Or.inl rfl | skip
    all_goals (cases l <;> first | exact Or.inl rfl | skip)
    all_goals (cases h <;> first | exact Or.inl rfl | skip)
    all_goals first | exact Or.inr rfl | skip
    rename_i i lo hi hl
    refine Or.inr ?_
    show aC (aL _ oNx [some (.val (.int i)), some (.val (.int lo)), some (.val (.int hi))]) = R.ok (D.bl (inB (.int i) lo hi))
    by_cases h1 : lo <= i <;> simp [aL, bM, jc, aM, ac, g3, rdV, vm, Dh, asB, leD, inB, aC, O.seq, h1]
def plain (x : List Nat) : Bool := x.all fun c => decide (32 <= c) && decide (c <= 126)
def yh : D -> Bool
  | .str x => plain x
  | _ => false
def lq : List D -> R D
  | [.exc _] => .no
  | [.str x] => if x.length <= sizeLine then .ok (.bl (plain x)) else .no
  | [d] => .ok (.bl false)
  | _ => .no
noncomputable def ju : Ev -> O := (bM (jc (aH (dL (· == "str")) (fun ρ => rdV ρ 0)) (gOf wM (ac (bh (gz (aH bn (fun ρ => rdV ρ 0)) [] (fun _ => R.ok true) (g3 leD leD (fun _ => R.ok (D.str [32])) (fun ρ => rdV ρ 0) (fun _ => R.ok (D.str [126]))))) (fun _ => R.ok [])))))
noncomputable def dZ : Ev -> O := (aL ju oNx)
theorem ni : ∀ ds : List D, ds.length = 1 -> lq ds = .no \/ aC (dZ  (aF 1 ds)) = lq ds := by
  intro ds hl
  unfold dZ ju
  match ds, hl with
  | [d], _ =>
    cases d <;> first | exact Or.inl rfl | exact Or.inr rfl | skip
    rename_i x hl
    by_cases hx : x.length <= sizeLine
    . refine Or.inr ?_
      have e : fi (fun _ => R.ok true) (g3 leD leD (fun _ => .ok (.str [32])) (fun ρ => rdV ρ 0) (fun _ => .ok (.str [126]))) (x.map fun c => D.str [c]) [none] = .ok ((x.map fun c => D.str [c]).map fun d => .bl (match d with | .str [c] => decide (32 <= c) && decide (c <= 126) | _ => false)) := by
        refine dH _ [] _ none fun d m => ⟨rfl, ?_⟩
        obtain ⟨c, _, rfl⟩ := List.mem_map.1 m
        show (ofO (some (D.bl (!decide (([c] : List Nat) < [32])))) >>= fun z => match z with
          | .bl true => ofO (some (D.bl (!decide (([126] : List Nat) < [c]))))
          | .bl false => R.ok (D.bl false)
          | _ => R.no : R D) = _
        rw [sj, sj, em, R.ok_bind]
        cases h1 : decide (32 <= c) <;> simp [h1]
      have e2 : lq [.str x] = .ok (.bl (plain x)) := if_pos hx
      rw [e2]
      show aC (aL _ oNx [some (.val (.str x))]) = _
      simp only [aL, bM, jc, aH, gOf, ac, bh, gz, rd0, dL, tyN, asB, fh, bn, R.ok_bind, List.map_nil]
      simp only [beq_self_eq_true, if_true, e, R.ok_bind]
      simp only [List.length_map, hx, if_true, R.ok_bind, kX, em, R.ok_out, aC, O.seq, List.all_map, plain]
      rfl
    . exact Or.inl (if_neg hx)
def BZ (d : D) (wd : Int) : Bool := match d with
  | .str x => plain x && ((x.length : Int) == wd)
  | _ => false
def DW (d : D) (wd : Int) : Bool := match d with
  | .tup xs => decide (1 <= xs.length) && decide (xs.length <= 12) && xs.all fun r => BZ r wd
  | _ => false
def BS (d : D) (wd m : Int) : Bool := match d with
  | .tup [a, b] => inB a 0 (m - 1) && inB b 0 wd
  | _ => false
def vz : D -> Bool
  | .exc _ => false
  | _ => true
theorem fO {d : D} {lo hi : Int} (h : vz d = true) : xa [d, .int lo, .int hi] = .ok (.bl (inB d lo hi)) := by
  cases d <;> first | rfl | (cases h; done)
def A6 : D -> Bool
  | .tup [a, r, p] => match a with
    | .int wd => inB (.int wd) 1 40 && DW r wd && (match r with | .tup rows => BS p wd rows.length | _ => false)
    | _ => false
  | _ => false
def gr : List D -> Option (List Int)
  | [] => some []
  | .int i :: ds => (gr ds).map (i :: ·)
  | _ => none
theorem gU : ∀ {ds : List D} {ns : List Int}, gr ds = some ns -> ds = ns.map .int
  | [], ns, h => by cases h; rfl
  | d :: ds, ns, h => by
    cases d <;> first | (cases h; done) | skip
    rename_i i
    cases q : gr ds with
    | none => simp [gr, q] at h
    | some ms => simp [gr, q] at h; subst h; rw [gU q]; rfl
theorem ft : ∀ ns : List Int, gr (ns.map .int) = some ns
  | [] => rfl
  | i :: ns => by simp [gr, ft ns]
def cell (ns : List Int) (k : Nat) : Int := if k < ns.length then ns.getD k 0 else if ns.length = 0 then 0 else ns.getD (k % ns.length) 0 * 31 + k
def lz : List D -> R D
  | [.lst _ ds, .int k] => match gr ds with
    | some ns => if 0 <= k then .ok (.int (cell ns k.toNat)) else .no
    | none => .no
  | _ => .no
theorem pe {ns : List Int} {k : Nat} (h : k < ns.length) : atI (ns.map D.int) (k : Int) = some (.int (ns.getD k 0)) := by
  have e : ixN (ns.map D.int).length (k : Int) = some k := by
    rw [List.length_map]
    simp [ixN]
    try omega
  rw [atI, e]
  simp [List.getD, h]
noncomputable def jH : Ev -> O := (oIf (gB2 ltD (fun ρ => rdV ρ 1) (gOf iK (ac (fun ρ => rdV ρ 0) (fun _ => R.ok [])))) (aL (bM (g2 ixD (fun ρ => rdV ρ 0) (fun ρ => rdV ρ 1))) oNx) oNx)
noncomputable def jA : Ev -> O := (oIf (gB2 eqF (fun ρ => rdV ρ 0) (bh (gD (fun _ => R.ok [])))) (aL (bM (fun _ => R.ok (D.int 0))) oNx) oNx)
noncomputable def jD : Ev -> O := (bM (g2 bx (g2 kM (g2 ixD (fun ρ => rdV ρ 0) (g2 hU (fun ρ => rdV ρ 1) (gOf iK (ac (fun ρ => rdV ρ 0) (fun _ => R.ok []))))) (fun _ => R.ok (D.int 31))) (fun ρ => rdV ρ 1)))
noncomputable def eh : Ev -> O := (aL jH (aL jA (aL jD oNx)))
theorem nQ : ∀ ds : List D, ds.length = 2 -> lz ds = .no \/ aC (eh  (aF 2 ds)) = lz ds := by
  intro ds hl
  unfold eh jH jA jD
  match ds, hl with
  | [l, kd], _ =>
    cases l <;> first | exact Or.inl rfl | skip
    cases kd <;> first | exact Or.inl rfl | skip
    rename_i fz ds k hl
    cases hi : gr ds with
    | none => refine Or.inl ?_; simp only [lz, hi]
    | some ns =>
      have e := gU hi
      subst e
      by_cases hk : 0 <= k
      . refine Or.inr ?_
        have e2 : lz [.lst fz (ns.map .int), .int k] = .ok (.int (cell ns k.toNat)) := by simp only [lz, hi, hk, if_true]
        rw [e2]
        obtain ⟨n, rfl⟩ := Int.eq_ofNat_of_zero_le hk
        rw [Int.toNat_natCast]
        show aC (aL _ _ [some (.val (.lst fz (ns.map .int))), some (.val (.int n))]) = _
        have t3 : iK [.lst fz (ns.map .int)] = some (.int ns.length) := by simp [iK]
        by_cases h1 : n < ns.length
        . have h1' : (n : Int) < (ns.length : Int) := by omega
          have x1 : ixD (.lst fz (ns.map .int)) (.int n) = some (.int (ns.getD n 0)) := pe h1
          simp only [aL, oIf, gB2, g2, bM, gOf, ac, rd0, rd1, R.ok_bind, R.ok_out, t3, x1, em, ltD, asB, h1', decide_true, if_true, O.seq, aC, cell, h1]
        . have h1' : ¬ (n : Int) < (ns.length : Int) := by omega
          cases ns with
          | nil => rfl
          | cons a as =>
            have t4 : eqF (.lst fz ((a :: as).map .int)) (.lst false []) = some (.bl false) := rfl
            have h2 : n % (a :: as).length < (a :: as).length := Nat.mod_lt _ (by simp)
            have x1 : ixD (.lst fz ((a :: as).map .int)) (.int ((n % (a :: as).length : Nat) : Int)) = some (.int ((a :: as).getD (n % (a :: as).length) 0)) := pe h2
            have m1 : hU (.int n) (.int (a :: as).length) = some (.int ((n % (a :: as).length : Nat) : Int)) := by
              have : (0 : Int) < ((a :: as).length : Int) := by simp
              simp only [hU, this, if_true]; rw [Int.natCast_emod]
            have m2 : ∀ z : Int, kM (.int z) (.int 31) = some (.int (z * 31)) := fun z => if_pos (Or.inr (by decide))
            have z1 : (0 : Nat) <= sizeLine := Nat.zero_le _
            have z2 : ¬ (a :: as).length = 0 := by simp
            simp only [aL, oIf, gB2, g2, bM, gOf, ac, bh, gD, rd0, rd1, R.ok_bind, R.ok_out, t3, t4, x1, m1, m2, em, ltD, bx, asB, h1', decide_false, Bool.false_eq_true, if_false, O.seq, oNx, aC, cell, h1, List.length_nil, z1, if_true, z2]
      . refine Or.inl ?_; simp only [lz, hi, hk, if_false]
def drawn (ns : List Int) (k : Nat) : Int := (cell ns k + 6151 * ((k : Int) + 1)) * 40692 % 2147483399
def bO (ns : List Int) (k : Nat) (m : Int) : Int := (drawn ns k * drawn ns k + drawn ns k / 31) % 2147483629 % m
theorem cb (ns : List Int) (k : Nat) {m : Int} (h : 0 < m) : 0 <= bO ns k m /\ bO ns k m < m := ⟨Int.emod_nonneg _ (by omega), Int.emod_lt_of_pos _ h⟩
def bH : List D -> R D
  | [.lst _ ds, .int k, .int m] => match gr ds with
    | some ns => if 0 <= k /\ 0 < m then .ok (.int (bO ns k.toNat m)) else .no
    | none => .no
  | _ => .no
theorem sf {fz : Bool} {ns : List Int} {n : Nat} : lz [.lst fz (ns.map .int), .int n] = .ok (.int (cell ns n)) := by
  simp only [lz, ft, Int.natCast_nonneg, if_true, Int.toNat_natCast]
noncomputable def jS (bA : List D -> R D) : Ev -> O := (eJ 3 (g2 hU (g2 kM (g2 bx (aM 2 bA (ac (fun ρ => rdV ρ 0) (ac (fun ρ => rdV ρ 1) (fun _ => R.ok [])))) (g2 kM (fun _ => R.ok (D.int 6151)) (g2 bx (fun ρ => rdV ρ 1) (fun _ => R.ok (D.int 1))))) (fun _ => R.ok (D.int 40692))) (fun _ => R.ok (D.int 2147483399))))
noncomputable def iZ (bA : List D -> R D) : Ev -> O := (bM (g2 hU (g2 hU (g2 bx (g2 kM (fun ρ => rdV ρ 3) (fun ρ => rdV ρ 3)) (g2 gS (fun ρ => rdV ρ 3) (fun _ => R.ok (D.int 31)))) (fun _ => R.ok (D.int 2147483629))) (fun ρ => rdV ρ 2)))
noncomputable def dP (bA : List D -> R D) : Ev -> O := (aL (jS bA) (aL (iZ bA) oNx))
theorem nz : ∀ ds : List D, ds.length = 3 -> bH ds = .no \/ aC (dP lz (aF 4 ds)) = bH ds := by
  intro ds hl
  unfold dP jS iZ
  match ds, hl with
  | [l, kd, md], _ =>
    cases l <;> first | exact Or.inl rfl | skip
    cases kd <;> first | exact Or.inl rfl | skip
    cases md <;> first | exact Or.inl rfl | skip
    rename_i fz ds k m hl
    cases hi : gr ds with
    | none => refine Or.inl ?_; simp only [bH, hi]
    | some ns =>
      have e := gU hi
      subst e
      by_cases hk : 0 <= k /\ 0 < m
      . refine Or.inr ?_
        have e2 : bH [.lst fz (ns.map .int), .int k, .int m] = .ok (.int (bO ns k.toNat m)) := by simp only [bH, hi, hk, and_self, if_true]
        rw [e2]
        obtain ⟨hk, hm⟩ := hk
        obtain ⟨n, rfl⟩ := Int.eq_ofNat_of_zero_le hk
        rw [Int.toNat_natCast]
        show aC (aL _ _ [some (.val (.lst fz (ns.map .int))), some (.val (.int n)), some (.val (.int m)), none]) = _
        have m1 : ∀ z : Int, kM (.int 6151) (.int z) = some (.int (6151 * z)) := fun z => by show (if ((-(2 ^ 64) : Int) < 6151 /\ (6151 : Int) < 2 ^ 64) \/ ((-(2 ^ 64) : Int) < z /\ z < 2 ^ 64) then some (D.int (6151 * z)) else none) = _; exact if_pos (Or.inl (by decide))
        have m2 : ∀ z : Int, kM (.int z) (.int 40692) = some (.int (z * 40692)) := fun z => if_pos (Or.inr (by decide))
        have m3 : ∀ z : Int, hU (.int z) (.int 2147483399) = some (.int (z % 2147483399)) := fun z => by show (if (0 : Int) < 2147483399 then some (D.int (z % 2147483399)) else none) = _; exact if_pos (by decide)
        have m4 : ∀ z : Int, hU (.int z) (.int 2147483629) = some (.int (z % 2147483629)) := fun z => by show (if (0 : Int) < 2147483629 then some (D.int (z % 2147483629)) else none) = _; exact if_pos (by decide)
        have m5 : ∀ z : Int, hU (.int z) (.int m) = some (.int (z % m)) := fun z => if_pos hm
        have m6 : ∀ z : Int, gS (.int z) (.int 31) = some (.int (z / 31)) := fun z => by show (if (0 : Int) < 31 /\ (31 : Int) < 1073741824 then some (D.int (z / 31)) else none) = _; exact if_pos (by decide)
        have m7 : ∀ i j : Int, bx (.int i) (.int j) = some (.int (i + j)) := fun _ _ => rfl
        have hd : 0 <= drawn ns n /\ drawn ns n < 2147483399 := ⟨Int.emod_nonneg _ (by decide), Int.emod_lt_of_pos _ (by decide)⟩
        have m8 : kM (.int (drawn ns n)) (.int (drawn ns n)) = some (.int (drawn ns n * drawn ns n)) := if_pos (Or.inl (by omega))
        have s1 : ∀ v, ([some (.val (.lst fz (ns.map .int))), some (.val (.int n)), some (.val (.int m)), none] : Ev).set 3 v = [some (.val (.lst fz (ns.map .int))), some (.val (.int n)), some (.val (.int m)), v] := fun _ => rfl
        have q1 : (cell ns n + 6151 * ((n : Int) + 1)) * 40692 % 2147483399 = drawn ns n := rfl
        simp only [aL, eJ, bM, g2, wy, rd0, rd1, rd2, rd3, R.ok_bind, R.ok_out, sf, m1, m2, m3, m4, m5, m6, m7, em, O.seq, s1, q1, m8, aC, bO]
      . refine Or.inl ?_; simp only [bH, hi, hk, if_false]
def wP : D -> Bool
  | .str [c] => !(decide (32 <= c) && decide (c <= 126))
  | _ => false
theorem mU : ∀ x : List Nat, ((x.map fun c => D.str [c]).filter wP).isEmpty = plain x
  | [] => rfl
  | c :: x => by
    have ih := mU x
    rw [List.map_cons, plain, List.all_cons]
    cases h : (decide (32 <= c) && decide (c <= 126)) with
    | true => rw [List.filter_cons_of_neg (by simp only [wP, h]; decide), ih, Bool.true_and]; rfl
    | false => rw [List.filter_cons_of_pos (by simp only [wP, h]; rfl)]; rfl
theorem AC (ys : List D) : eqF (.lst false ys) (.lst false []) = some (.bl ys.isEmpty) := by
  cases ys <;> rfl
theorem bI {fz : Bool} {ns : List Int} {n : Nat} {m : Int} (h : 0 < m) : bH [.lst fz (ns.map .int), .int n, .int m] = .ok (.int (bO ns n m)) := by
  simp only [bH, ft, Int.natCast_nonneg, h, and_self, if_true, Int.toNat_natCast]
def cl : Nat -> D -> Bool
  | 0, _ => false
  | _ + 1, .exc _ => false
  | n + 1, .tup xs => xs.all (cl n)
  | n + 1, .lst _ xs => xs.all (cl n)
  | _ + 1, _ => true
theorem la {f : D -> D -> Option Bool} : ∀ xs : List D, (∀ x ∈ xs, f x x = some true) -> eqZ f xs xs = some (xs.map fun _ => true)
  | [], _ => rfl
  | x :: xs, h => by
    rw [eqZ, h x (List.mem_cons_self ..), la xs fun y hy => h y (List.mem_cons_of_mem _ hy)]; rfl
theorem lR {α : Type} : ∀ xs : List α, (xs.map fun _ => true).all id = true
  | [] => rfl
  | _ :: xs => by rw [List.map_cons, List.all_cons, lR xs]; rfl
theorem iU : ∀ (n m : Nat) (d : D), n <= m -> cl n d = true -> eqD m d d = some true
  | 0, _, _, _, h => by simp [cl] at h
  | n + 1, 0, _, h, _ => by omega
  | n + 1, m + 1, d, hm, h => by
    cases d <;> first | (simp [cl] at h; done) | (simp [eqD]; done) | skip
    . rename_i xs
      simp only [cl, List.all_eq_true] at h
      have := la (f := eqD m) xs fun x hx => iU n m x (by omega) (h x hx)
      simp only [eqD, this, Option.map_some, lR, beq_self_eq_true, Bool.and_true]
    . rename_i fz xs
      simp only [cl, List.all_eq_true] at h
      have := la (f := eqD m) xs fun x hx => iU n m x (by omega) (h x hx)
      simp only [eqD, if_true, this, Option.map_some, lR]
theorem sE {d : D} (h : cl 10 d = true) : neF d d = some (.bl false) := by
  unfold neF; rw [iU 10 40 d (by omega) h]; rfl
theorem uV {d : D} (h : cl 10 d = true) : eqF d d = some (.bl true) := by
  unfold eqF; rw [iU 10 40 d (by omega) h]; rfl

end Q
namespace Q
open L2
open PySem (sizeLine Addr)
def rM (b m r : Int) : Bool := decide (0 <= b) && decide (b <= r - 1) && (decide (1 <= m) && decide (m <= r - b))
def AH (l w : Nat) : D -> D
  | .str x => .str ((x.drop l).take w)
  | d => d
def mY : List D -> R D
  | [.tup [.int wd, .tup rows, p], .int t, .int l, .int h, .int w] => if A6 (.tup [.int wd, .tup rows, p]) = true /\ rM t h rows.length = true /\ rM l w wd = true then .ok (.tup [.int w, .tup (((rows.drop t.toNat).take h.toNat).map (AH l.toNat w.toNat)), .tup [.int 0, .int 0]]) else .no
  | _ => .no
def pl (ns : List Int) (a : Nat) (wd m : Nat) : D := .tup [.int (bO ns (a + 400) m), .int (bO ns (a + 401) (wd + 1))]
end Q
namespace Q
open L2
open PySem (sizeLine Addr)
noncomputable def gC (aB ae : Addr) (au ax : Addr) (ar ah aA : Addr) (rs : List Addr) : Ev -> O := (wD 1 (gD (ac (aH (jE (oa rs au)) (fun ρ => rdV ρ 0)) (ac (aH (jE (oa rs ae)) (fun ρ => rdV ρ 0)) (ac (aH (jE (oa rs aB)) (fun ρ => rdV ρ 0)) (fun _ => R.ok []))))))
noncomputable def gw (aB ae : Addr) (au ax : Addr) (ar ah aA : Addr) (rs : List Addr) : Ev -> O := (wF 1 (bh (gD (ac (aH (jE (oa rs ar)) (fun ρ => rdV ρ 0)) (ac (aH (jE (oa rs ax)) (fun ρ => rdV ρ 0)) (fun _ => R.ok []))))))
noncomputable def gh (aB ae : Addr) (au ax : Addr) (ar ah aA : Addr) (rs : List Addr) : Ev -> O := (wF 1 (bh (gD (ac (aH (jE (oa rs aA)) (fun ρ => rdV ρ 0)) (ac (aH (jE (oa rs ah)) (fun ρ => rdV ρ 0)) (fun _ => R.ok []))))))
noncomputable def gq (aB ae : Addr) (au ax : Addr) (ar ah aA : Addr) (rs : List Addr) : Ev -> O := (oIf (rF (gB2 neF (eG "list" iv (fun ρ => rdV ρ 1) (ac (fun _ => R.ok (D.bl true)) (fun _ => R.ok []))) (fun _ => R.ok (D.int 1))) (gBn (aH iu (aH (jE (mz rs)) (fun ρ => rdV ρ 0))))) (aL (bM (fun _ => R.ok (D.str [119, 114, 111, 110, 103]))) oNx) oNx)
noncomputable def gB (aB ae : Addr) (au ax : Addr) (ar ah aA : Addr) (rs : List Addr) : Ev -> O := (bM (g2 ixD (bh (gD (ac (fun _ => R.ok (D.str [110, 111, 32, 110, 117, 109, 98, 101, 114])) (ac (fun _ => R.ok (D.str [110, 111, 32, 111, 114, 100, 101, 114])) (ac (fun _ => R.ok (D.str [110, 111, 32, 114, 111, 111, 109])) (ac (fun _ => R.ok (D.str [110, 111, 32, 115, 99, 114, 101, 101, 110])) (ac (fun _ => R.ok (D.str [110, 111, 32, 116, 97, 98, 108, 101])) (ac (fun _ => R.ok (D.str [110, 111, 32, 116, 97, 115, 107])) (ac (fun _ => R.ok (D.str [110, 111, 32, 116, 101, 120, 116])) (fun _ => R.ok [])))))))))) (eG "list" iq (fun ρ => rdV ρ 1) (ac (fun _ => R.ok (D.bl true)) (fun _ => R.ok [])))))
noncomputable def dQ (aB ae : Addr) (au ax : Addr) (ar ah aA : Addr) (rs : List Addr) : Ev -> O := (aL (gC aB ae au ax ar ah aA rs) (aL (gw aB ae au ax ar ah aA rs) (aL (gh aB ae au ax ar ah aA rs) (vY 1 (aL (gq aB ae au ax ar ah aA rs) (aL (gB aB ae au ax ar ah aA rs) oNx))))))
def kR : List Nat := [110, 111, 32, 111, 114, 100, 101, 114]
def mn : List Nat := [110, 111, 32, 116, 101, 120, 116]
noncomputable def pE (aB ae au ax ar ah aA : Addr) (rs : List Addr) : List D -> R D := fun ds => aC (dQ aB ae au ax ar ah aA rs (aF 2 ds))
theorem og {ar ae aB au ax aA ah : Addr} {rs : List Addr} (nd : [ar, ae, aB, au, ax, aA, ah].Nodup) : ∀ ds : List D, ds.length = 1 -> pE aB ae au ax ar ah aA rs ds = .no \/ aC (dQ aB ae au ax ar ah aA rs (aF 2 ds)) = pE aB ae au ax ar ah aA rs ds := fun _ _ => .inr rfl
theorem mH {ar ae aB au ax aA ah : Addr} {rs : List Addr} (nd : [ar, ae, aB, au, ax, aA, ah].Nodup) (h : ae ∈ rs) : pE aB ae au ax ar ah aA rs [.exc ae] = .ok (.str kR) := by
  simp only [List.nodup_cons, List.mem_cons, List.mem_nil_iff, or_false, not_or] at nd
  obtain ⟨⟨n01, n02, n03, n04, n05, n06⟩, ⟨n12, n13, n14, n15, n16⟩, ⟨n23, n24, n25, n26⟩, ⟨n34, n35, n36⟩, ⟨n45, n46⟩, n56, _⟩ := nd
  have z3 : 3 <= sizeLine := by decide
  have z2 : 2 <= sizeLine := by decide
  have z5 : 3 + 2 <= sizeLine := by decide
  have z7 : 5 + 2 <= sizeLine := by decide
  have z8 : 7 <= sizeLine := by decide
  have f1 : ∀ (a0 : Option Sl) (ds : List D), frz 1 [a0, some (.own ds)] = [a0, some (.val (.lst false ds))] := fun _ _ => rfl
  have o1 : ∀ (a0 : Option Sl) (ds : List D), ownAt [a0, some (.own ds)] 1 = .ok ds := fun _ _ => rfl
  have tb : ∀ b : Bool, iu (.bl b) = .ok b := fun _ => rfl
  have kd : ∀ (f : Bool) (l : List D), gv "list" (.lst f l) = true := fun _ _ => rfl
  have y : ∀ T, jE (oa rs T) (.exc ae) = .ok (.bl (ae == T)) := fun T => by simp only [jE, oa, h, if_true]; rfl
  have y2 : jE (mz rs) (.exc ae) = .ok (.bl true) := by simp only [jE, mz, h, if_true]; rfl
  have q0 : (ae == ae) = true := by simp
  have q1 : (ae == ar) = false := by simp; exact fun z => n01 z.symm
  have q3 : (ae == aB) = false := by simp; exact n12
  have q4 : (ae == au) = false := by simp; exact n13
  have q5 : (ae == ax) = false := by simp; exact n14
  have q6 : (ae == aA) = false := by simp; exact n15
  have q7 : (ae == ah) = false := by simp; exact n16
  have c1 : iv (.lst false [.bl false, .bl true, .bl false, .bl false, .bl false, .bl false, .bl false]) [.bl true] = some (.int 1) := rfl
  have c2 : iq (.lst false [.bl false, .bl true, .bl false, .bl false, .bl false, .bl false, .bl false]) [.bl true] = some (.int 1) := rfl
  show aC (aL _ _ [some (.val (.exc ae)), none]) = _
  unfold gC gw gh gq gB
  clear h n01 n02 n03 n04 n05 n06 n12 n13 n14 n15 n16 n23 n24 n25 n26 n34 n35 n36 n45 n46 n56
  walk_at "run"
  all_goals rfl
theorem nU {ar ae aB au ax aA ah : Addr} {rs : List Addr} (nd : [ar, ae, aB, au, ax, aA, ah].Nodup) (h : ah ∈ rs) : pE aB ae au ax ar ah aA rs [.exc ah] = .ok (.str mn) := by
  simp only [List.nodup_cons, List.mem_cons, List.mem_nil_iff, or_false, not_or] at nd
  obtain ⟨⟨n01, n02, n03, n04, n05, n06⟩, ⟨n12, n13, n14, n15, n16⟩, ⟨n23, n24, n25, n26⟩, ⟨n34, n35, n36⟩, ⟨n45, n46⟩, n56, _⟩ := nd
  have z3 : 3 <= sizeLine := by decide
  have z2 : 2 <= sizeLine := by decide
  have z5 : 3 + 2 <= sizeLine := by decide
  have z7 : 5 + 2 <= sizeLine := by decide
  have z8 : 7 <= sizeLine := by decide
  have f1 : ∀ (a0 : Option Sl) (ds : List D), frz 1 [a0, some (.own ds)] = [a0, some (.val (.lst false ds))] := fun _ _ => rfl
  have o1 : ∀ (a0 : Option Sl) (ds : List D), ownAt [a0, some (.own ds)] 1 = .ok ds := fun _ _ => rfl
  have tb : ∀ b : Bool, iu (.bl b) = .ok b := fun _ => rfl
  have kd : ∀ (f : Bool) (l : List D), gv "list" (.lst f l) = true := fun _ _ => rfl
  have y : ∀ T, jE (oa rs T) (.exc ah) = .ok (.bl (ah == T)) := fun T => by simp only [jE, oa, h, if_true]; rfl
  have y2 : jE (mz rs) (.exc ah) = .ok (.bl true) := by simp only [jE, mz, h, if_true]; rfl
  have q0 : (ah == ah) = true := by simp
  have q1 : (ah == ar) = false := by simp; exact fun z => n06 z.symm
  have q2 : (ah == ae) = false := by simp; exact fun z => n16 z.symm
  have q3 : (ah == aB) = false := by simp; exact fun z => n26 z.symm
  have q4 : (ah == au) = false := by simp; exact fun z => n36 z.symm
  have q5 : (ah == ax) = false := by simp; exact fun z => n46 z.symm
  have q6 : (ah == aA) = false := by simp; exact fun z => n56 z.symm
  have c1 : iv (.lst false [.bl false, .bl false, .bl false, .bl false, .bl false, .bl false, .bl true]) [.bl true] = some (.int 1) := rfl
  have c2 : iq (.lst false [.bl false, .bl false, .bl false, .bl false, .bl false, .bl false, .bl true]) [.bl true] = some (.int 6) := rfl
  show aC (aL _ _ [some (.val (.exc ah)), none]) = _
  unfold gC gw gh gq gB
  clear h n01 n02 n03 n04 n05 n06 n12 n13 n14 n15 n16 n23 n24 n25 n26 n34 n35 n36 n45 n46 n56
  walk_at "run"
  all_goals rfl
end Q
namespace Q
open L2
open PySem (sizeLine Addr)
noncomputable def gO (ao : List D -> R D) : Ev -> O := (wD 1 (gD (ac (aH mkT (fun _ => R.ok [])) (fun _ => R.ok []))))
noncomputable def cf (ao : List D -> R D) : Ev -> O := (aL (wF 1 (bh (gz (aH bn (aM 1 ao (ac (g2 ixD (fun ρ => rdV ρ 0) (fun ρ => rdV ρ 2)) (fun _ => R.ok [])))) [2] (fun _ => R.ok true) (g2 bx (aH mkT (ac (fun ρ => rdV ρ 1) (fun _ => R.ok []))) (fun ρ => rdV ρ 0))))) oNx)
noncomputable def gZ (ao : List D -> R D) : Ev -> O := (oIf (aH iu (aH (dL (· == "tuple")) (fun ρ => rdV ρ 0))) (aL (sD (fR 2) (aH cy (ac (gOf iK (ac (fun ρ => rdV ρ 0) (fun _ => R.ok []))) (fun _ => R.ok []))) (cf ao)) oNx) oNx)
noncomputable def gR (ao : List D -> R D) : Ev -> O := (bM (fun ρ => rdV ρ 1))
noncomputable def cJ (ao : List D -> R D) : Ev -> O := (aL (gO ao) (aL (gZ ao) (vY 1 (aL (gR ao) oNx))))
noncomputable def kC (az : List D -> R D) : Ev -> O := (oIf (gB2 eqF (fun ρ => rdV ρ 1) (aH mkT (fun _ => R.ok []))) (aL (bM (fun ρ => rdV ρ 2)) oNx) oNx)
noncomputable def kv (az : List D -> R D) : Ev -> O := (eJ 3 (g2 ixD (fun ρ => rdV ρ 1) (fun _ => R.ok (D.int 0))))
noncomputable def kJ (az : List D -> R D) : Ev -> O := (bM (g2 bx (g2 bx (gSl (fun ρ => rdV ρ 0) (fun _ => R.ok none) (ce (fun ρ => rdV ρ 3))) (aH mkT (ac (aM 3 az (ac (g2 ixD (fun ρ => rdV ρ 0) (fun ρ => rdV ρ 3)) (ac (gSl (fun ρ => rdV ρ 1) (ce (fun _ => R.ok (D.int 1))) (fun _ => R.ok none)) (ac (fun ρ => rdV ρ 2) (fun _ => R.ok []))))) (fun _ => R.ok [])))) (gSl (fun ρ => rdV ρ 0) (ce (g2 bx (fun ρ => rdV ρ 3) (fun _ => R.ok (D.int 1)))) (fun _ => R.ok none))))
noncomputable def eS (az : List D -> R D) : Ev -> O := (aL (kC az) (aL (kv az) (aL (kJ az) oNx)))
noncomputable def bT (ao af az : List D -> R D) : Ev -> O := (eJ 3 (aM 1 ao (ac (fun ρ => rdV ρ 2) (fun _ => R.ok []))))
noncomputable def bX (ao af az : List D -> R D) : Ev -> O := (eJ 4 (g2 ixD (fun ρ => rdV ρ 3) (aM 3 af (ac (fun ρ => rdV ρ 0) (ac (fun ρ => rdV ρ 1) (ac (gOf iK (ac (fun ρ => rdV ρ 3) (fun _ => R.ok []))) (fun _ => R.ok [])))))))
noncomputable def bV (ao af az : List D -> R D) : Ev -> O := (eJ 5 (fun ρ => rdV ρ 2))
noncomputable def bB (ao af az : List D -> R D) : Ev -> O := (aL (eJ 5 (g2 ixD (fun ρ => rdV ρ 5) (fun ρ => rdV ρ 6))) oNx)
noncomputable def bU (ao af az : List D -> R D) : Ev -> O := (sD (fR 6) (aH bn (fun ρ => rdV ρ 4)) (bB ao af az))
noncomputable def bW (ao af az : List D -> R D) : Ev -> O := (eJ 7 (bh (gD (ac (fun _ => R.ok (D.int 0)) (ac (fun _ => R.ok (D.int 1)) (ac (fun _ => R.ok (D.int 2)) (ac (fun _ => R.ok (D.int 11)) (ac (fun _ => R.ok (D.int 12)) (ac (fun _ => R.ok (D.int 40)) (ac (fun _ => R.ok (D.int 41)) (ac (aH qA (fun _ => R.ok (D.int 1))) (ac (fun _ => R.ok (D.bl true)) (ac (fun _ => R.ok D.non) (ac (fun _ => R.ok (D.str [97])) (ac (fun _ => R.ok (D.str [])) (ac (aH mkT (ac (fun _ => R.ok (D.str [103, 111])) (ac (fun _ => R.ok (D.int 0)) (ac (fun _ => R.ok (D.int 0)) (fun _ => R.ok []))))) (ac (aH mkT (ac (fun _ => R.ok (D.int 0)) (ac (fun _ => R.ok (D.int 0)) (fun _ => R.ok [])))) (ac (bh (gD (ac (fun _ => R.ok (D.int 0)) (fun _ => R.ok [])))) (ac (aH mkT (ac (fun ρ => rdV ρ 5) (fun _ => R.ok []))) (ac (aH mkT (ac (fun ρ => rdV ρ 5) (ac (fun ρ => rdV ρ 5) (fun _ => R.ok [])))) (fun _ => R.ok [])))))))))))))))))))))
noncomputable def bZ (ao af az : List D -> R D) : Ev -> O := (eJ 8 (aM 3 af (ac (fun ρ => rdV ρ 0) (ac (g2 bx (fun ρ => rdV ρ 1) (fun _ => R.ok (D.int 1))) (ac (fun _ => R.ok (D.int 23)) (fun _ => R.ok []))))))
noncomputable def dI (ao af az : List D -> R D) : Ev -> O := (oIf (gB2 ltD (fun ρ => rdV ρ 8) (fun _ => R.ok (D.int 17))) (aL (bM (aM 3 az (ac (fun ρ => rdV ρ 2) (ac (fun ρ => rdV ρ 4) (ac (g2 ixD (fun ρ => rdV ρ 7) (fun ρ => rdV ρ 8)) (fun _ => R.ok [])))))) oNx) oNx)
noncomputable def dD (ao af az : List D -> R D) : Ev -> O := (oIf (nH (aH iu (aH (dL (· == "tuple")) (fun ρ => rdV ρ 5))) (gB2 neF (fun ρ => rdV ρ 5) (aH mkT (fun _ => R.ok [])))) (aL (eJ 6 (aM 3 af (ac (fun ρ => rdV ρ 0) (ac (g2 bx (fun ρ => rdV ρ 1) (fun _ => R.ok (D.int 2))) (ac (gOf iK (ac (fun ρ => rdV ρ 5) (fun _ => R.ok []))) (fun _ => R.ok [])))))) (aL (bM (aM 3 az (ac (fun ρ => rdV ρ 2) (ac (fun ρ => rdV ρ 4) (ac (gIf (gB2 ltD (fun ρ => rdV ρ 8) (fun _ => R.ok (D.int 20))) (g2 bx (gSl (fun ρ => rdV ρ 5) (fun _ => R.ok none) (ce (fun ρ => rdV ρ 6))) (gSl (fun ρ => rdV ρ 5) (ce (g2 bx (fun ρ => rdV ρ 6) (fun _ => R.ok (D.int 1)))) (fun _ => R.ok none))) (g2 bx (gSl (fun ρ => rdV ρ 5) (fun _ => R.ok none) (ce (g2 bx (fun ρ => rdV ρ 6) (fun _ => R.ok (D.int 1))))) (gSl (fun ρ => rdV ρ 5) (ce (fun ρ => rdV ρ 6)) (fun _ => R.ok none)))) (fun _ => R.ok [])))))) oNx)) oNx)
noncomputable def cQ (ao af az : List D -> R D) : Ev -> O := (oIf (aH iu (aH (dL (· == "str")) (fun ρ => rdV ρ 5))) (aL (eJ 9 (aM 3 af (ac (fun ρ => rdV ρ 0) (ac (g2 bx (fun ρ => rdV ρ 1) (fun _ => R.ok (D.int 2))) (ac (g2 bx (gOf iK (ac (fun ρ => rdV ρ 5) (fun _ => R.ok []))) (fun _ => R.ok (D.int 1))) (fun _ => R.ok [])))))) (aL (eJ 10 (g2 ixD (bh (gD (ac (fun _ => R.ok (D.str [10])) (ac (fun _ => R.ok (D.str [])) (ac (fun _ => R.ok (D.str [97])) (ac (fun _ => R.ok (D.str [9])) (fun _ => R.ok []))))))) (gIf (gB2 gtD (fun ρ => rdV ρ 8) (fun _ => R.ok (D.int 19))) (g2 yn (fun ρ => rdV ρ 8) (fun _ => R.ok (D.int 19))) (fun _ => R.ok (D.int 0))))) (aL (bM (aM 3 az (ac (fun ρ => rdV ρ 2) (ac (fun ρ => rdV ρ 4) (ac (g2 bx (g2 bx (gSl (fun ρ => rdV ρ 5) (fun _ => R.ok none) (ce (fun ρ => rdV ρ 9))) (fun ρ => rdV ρ 10)) (gSl (fun ρ => rdV ρ 5) (ce (g2 bx (fun ρ => rdV ρ 9) (fun _ => R.ok (D.int 1)))) (fun _ => R.ok none))) (fun _ => R.ok [])))))) oNx))) oNx)
noncomputable def cP (ao af az : List D -> R D) : Ev -> O := (bM (aM 3 az (ac (fun ρ => rdV ρ 2) (ac (fun ρ => rdV ρ 4) (ac (gIf (aH iu (aH (dL isInt) (fun ρ => rdV ρ 5))) (g2 bx (fun ρ => rdV ρ 5) (fun _ => R.ok (D.int 1))) (fun _ => R.ok (D.int 7))) (fun _ => R.ok []))))))
noncomputable def bw (ao af az : List D -> R D) : Ev -> O := (aL (bT ao af az) (aL (bX ao af az) (aL (bV ao af az) (aL (bU ao af az) (aL (bW ao af az) (aL (bZ ao af az) (aL (dI ao af az) (aL (dD ao af az) (aL (cQ ao af az) (aL (cP ao af az) oNx))))))))))
noncomputable def ip : Ev -> O := (bM (jc (aH (dL isInt) (fun ρ => rdV ρ 0)) (jc (zc (aH (dL (· == "bool")) (fun ρ => rdV ρ 0))) (g3 leD leD (fun ρ => rdV ρ 1) (fun ρ => rdV ρ 0) (fun ρ => rdV ρ 2)))))
noncomputable def dn : Ev -> O := (aL ip oNx)
noncomputable def fx : Ev -> O := (bM (jc (aH (dL (· == "str")) (fun ρ => rdV ρ 0)) (g2 eqF (bh (gz (aH bn (fun ρ => rdV ρ 0)) [] (gBn (gB3 leD leD (fun _ => R.ok (D.int 32)) (gOf zf (ac (fun ρ => rdV ρ 0) (fun _ => R.ok []))) (fun _ => R.ok (D.int 126)))) (fun ρ => rdV ρ 0))) (bh (gD (fun _ => R.ok []))))))
noncomputable def bR : Ev -> O := (aL fx oNx)
theorem mR : ∀ ds : List D, ds.length = 3 -> xa ds = .no \/ aC (dn (aF 3 ds)) = xa ds := by
  intro ds hl
  unfold dn ip
  match ds, hl with
  | [d, l, h], _ =>
    cases d <;> first | exact Or.inl rfl | skip
    all_goals (cases l <;> first | exact Or.inl rfl | skip)
    all_goals (cases h <;> first | exact Or.inl rfl | skip)
    all_goals first | exact Or.inr rfl | skip
    rename_i i lo hi hl
    refine Or.inr ?_
    show aC (aL _ oNx [some (.val (.int i)), some (.val (.int lo)), some (.val (.int hi))]) = R.ok (D.bl (inB (.int i) lo hi))
    by_cases h1 : lo <= i <;> simp [aL, bM, jc, zc, aH, g3, rd0, rd1, rd2, dL, tyN, L2.isInt, asB, leD, inB, aC, O.seq, h1]
theorem jO : ∀ ds : List D, ds.length = 1 -> lq ds = .no \/ aC (bR (aF 1 ds)) = lq ds := by
  intro ds hl
  unfold bR fx
  match ds, hl with
  | [d], _ =>
    cases d <;> first | exact Or.inl rfl | exact Or.inr rfl | skip
    rename_i x hl
    by_cases hx : x.length <= sizeLine
    . refine Or.inr ?_
      have e : fi (gBn (gB3 leD leD (fun _ => R.ok (.int 32)) (gOf zf (ac (fun ρ => rdV ρ 0) fun _ => .ok [])) (fun _ => R.ok (.int 126)))) (fun ρ => rdV ρ 0) (x.map fun c => D.str [c]) [none] = .ok (((x.map fun c => D.str [c]).filter wP).map id) := by
        refine gH wP id [] _ none fun d m => ?_
        obtain ⟨c, _, rfl⟩ := List.mem_map.1 m
        refine ⟨?_, fun _ => rfl⟩
        have o1 : zf [.str [c]] = some (.int (c : Nat)) := rfl
        simp only [gBn, gB3, g3, gOf, ac, rd0, R.ok_bind, o1, em, leD, wP]
        by_cases h1 : 32 <= c
        . have h1' : (32 : Int) <= (c : Int) := by omega
          by_cases h2 : c <= 126
          . have h2' : (c : Int) <= 126 := by omega
            simp [h1, h1', h2, h2', asB]
          . have h2' : ¬ (c : Int) <= 126 := by omega
            simp [h1, h1', h2, h2', asB]
        . have h1' : ¬ (32 : Int) <= (c : Int) := by omega
          simp [h1, h1', asB]
      have e2 : lq [.str x] = .ok (.bl (plain x)) := if_pos hx
      rw [e2]
      have hz : ((x.map fun c => D.str [c]).filter wP).length <= sizeLine := Nat.le_trans (List.length_filter_le _ _) (by rw [List.length_map]; exact hx)
      show aC (aL _ oNx [some (.val (.str x))]) = _
      simp only [aL, bM, jc, aH, g2, bh, gD, gz, rd0, dL, tyN, asB, fh, bn, R.ok_bind, List.map_nil, beq_self_eq_true, if_true, e, List.map_id, hz, List.length_nil, Nat.zero_le, AC, mU, em, R.ok_out, O.seq, aC]
    . exact Or.inl (if_neg hx)
def dF (p : List Nat) : D := .tup (p.map fun (k : Nat) => .int (k : Int))
def cF : Nat -> D -> List (List Nat)
  | 0, _ => []
  | n + 1, .tup xs => [] :: (List.range xs.length).flatMap fun k => (cF n (xs.getD k .non)).map (k :: ·)
  | _ + 1, _ => [[]]
def okd : Nat -> D -> Bool
  | 0, _ => false
  | _ + 1, .exc _ => false
  | n + 1, .tup xs => xs.all (okd n) && decide ((cF (n + 1) (.tup xs)).length <= 1000) && decide (xs.length <= 1000)
  | _ + 1, _ => true
def bt (n : Nat) : List D -> R D
  | [d] => if okd n d = true /\ n <= 500 then .ok (.lst false ((cF n d).map dF)) else .no
  | _ => .no
theorem im : ∀ (n : Nat) (d : D) (p : List Nat), p ∈ cF n d -> p.length < n
  | 0, _, p, h => by simp [cF] at h
  | n + 1, d, p, h => by
    cases d with
    | tup xs =>
      simp only [cF, List.mem_cons, List.mem_flatMap, List.mem_map] at h
      rcases h with rfl | ⟨k, _, q, hq, rfl⟩
      . simp
      . have := im n _ q hq
        simp; omega
    | _ => simp [cF] at h; subst h; simp
theorem wS (n k : Nat) (hn : n <= 500) (ps : List (List Nat)) (h : ∀ p ∈ ps, p.length <= n) : fi (fun _ => R.ok true) (g2 bx (aH mkT (ac (fun ρ => rdV ρ 1) fun _ => R.ok [])) fun ρ => rdV ρ 0) (ps.map dF) [none, some (.val (.int (k : Int)))] = .ok ((ps.map (k :: ·)).map dF) := by
  have z : (ps.map (k :: ·)).map dF = (ps.map dF).map fun d => match d with | .tup qs => .tup (.int k :: qs) | d => d := by
    rw [List.map_map, List.map_map]; refine List.map_congr_left fun p _ => ?_; simp [dF]
  rw [z]
  refine dH _ _ _ none fun d hd => ⟨rfl, ?_⟩
  obtain ⟨p, hp, rfl⟩ := List.mem_map.1 hd
  have hl := h p hp
  have k1 : mkT [.int (k : Int)] = .ok (.tup [.int (k : Int)]) := m_t (by simp)
  have k2 : bx (.tup [.int (k : Int)]) (dF p) = some (.tup (.int k :: p.map fun (k : Nat) => .int (k : Int))) := by
    unfold dF
    rw [rl (by have := bK; simp; omega)]; rfl
  clear hd hl hp
  walk_at "run"
  rfl
theorem rO (n : Nat) (hn : n <= 500) (xs : List D) (hx : xs.all (okd n) = true) : ∀ (ks : List Nat) (acc : List D) (kk : Option Sl), (∀ k ∈ ks, k < xs.length) -> acc.length + (ks.flatMap fun k => (cF n (xs.getD k .non)).map (k :: ·)).length <= 1000 ->
    ∃ kk', cC (fR 2) (cf (bt n)) (ks.map fun (i : Nat) => D.int (i : Int)) [some (.val (.tup xs)), some (.own acc), kk] = .nx [some (.val (.tup xs)), some (.own (acc ++ (ks.flatMap fun k => (cF n (xs.getD k .non)).map (k :: ·)).map dF)), kk']
  | [], acc, kk, _, _ => ⟨kk, by simp [cC]⟩
  | k :: ks, acc, kk, hk, hz => by
    rw [List.flatMap_cons, List.length_append] at hz
    obtain ⟨kk', ih⟩ := rO n hn xs hx ks (acc ++ ((cF n (xs.getD k .non)).map (k :: ·)).map dF) (some (.val (.int (k : Int)))) (fun j hj => hk j (List.mem_cons_of_mem _ hj)) (by simp at hz ⊢; omega)
    refine ⟨kk', ?_⟩
    have hlt := hk k (List.mem_cons_self ..)
    have g1 : xs[k]? = some (xs.getD k .non) := by rw [List.getElem?_eq_getElem hlt]; simp [List.getD, hlt]
    have o1 : okd n (xs.getD k .non) = true := List.all_eq_true.1 hx _ (List.mem_of_getElem? g1)
    have x1 : ixD (.tup xs) (.int (k : Int)) = some (xs.getD k .non) := Ah g1
    have p1 : bt n [xs.getD k .non] = .ok (.lst false ((cF n (xs.getD k .non)).map dF)) := if_pos ⟨o1, hn⟩
    have c1 := wS n k hn (cF n (xs.getD k .non)) fun p hp => Nat.le_of_lt (im n _ p hp)
    have i1 : ∀ d : D, bn (.lst false ((cF n (xs.getD k .non)).map dF)) = .ok ((cF n (xs.getD k .non)).map dF) := fun _ => rfl
    have i2 : fh [2] [some (.val (.tup xs)), some (.own acc), some (.val (.int (k : Int)))] = [none, some (.val (.int (k : Int)))] := rfl
    have z1 : (((cF n (xs.getD k .non)).map (k :: ·)).map dF).length <= sizeLine := by have := bK; simp at hz ⊢; omega
    have z2 : acc.length + (((cF n (xs.getD k .non)).map (k :: ·)).map dF).length <= sizeLine := by have := bK; simp at hz ⊢; omega
    have hB : cf (bt n) [some (.val (.tup xs)), some (.own acc), some (.val (.int (k : Int)))] = .nx [some (.val (.tup xs)), some (.own (acc ++ ((cF n (xs.getD k .non)).map (k :: ·)).map dF)), some (.val (.int (k : Int)))] := by
      unfold cf
      have i1' := i1 .non
      clear ih hz hk hx hlt g1 o1 i1
      walk_at "run"
    rw [List.map_cons, eB (ρ1 := [some (.val (.tup xs)), some (.own acc), some (.val (.int (k : Int)))]) rfl hB, ih, List.flatMap_cons, List.map_append, List.append_assoc]
theorem ly (n : Nat) : ∀ ds : List D, ds.length = 1 -> bt (n + 1) ds = .no \/ aC (cJ (bt n) (aF 3 ds)) = bt (n + 1) ds := by
  intro ds hl
  unfold cJ gO gZ gR
  match ds, hl with
  | [d], _ =>
    by_cases hk : okd (n + 1) d = true /\ n + 1 <= 500
    . refine Or.inr ?_
      have e2 : bt (n + 1) [d] = .ok (.lst false ((cF (n + 1) d).map dF)) := if_pos hk
      rw [e2]
      show aC (aL _ (aL (oIf _ (aL (sD (fR 2) _ (cf (bt n))) oNx) oNx) (vY 1 _)) [some (.val d), none, none]) = _
      have k1 : mkT [] = .ok (.tup []) := m_t (by simp)
      have z0 : 0 + 1 <= sizeLine := by decide
      cases d with
      | exc C => exact absurd hk.1 (by simp [okd])
      | tup xs =>
        have h1 := hk.1
        simp only [okd, Bool.and_eq_true, decide_eq_true_eq] at h1
        have h2 : 1 + ((List.range xs.length).flatMap fun k => (cF n (xs.getD k .non)).map (k :: ·)).length <= 1000 := by have := h1.1.2; simp only [cF, List.length_cons] at this; omega
        have hxl : xs.length <= 1000 := h1.2
        obtain ⟨kk', hL⟩ := rO n (by omega) xs h1.1.1 (List.range xs.length) [.tup []] none (fun k hk => List.mem_range.1 hk) (by simpa using h2)
        have r1 : cy [.int (xs.length : Int)] = .ok ((List.range xs.length).map fun (i : Nat) => D.int (i : Int)) := lB hxl
        have y1 : dL (fun x => x == "tuple") (.tup xs) = .ok (.bl true) := rfl
        clear hk e2 h1 h2 hl hxl
        walk_at "run"
        simp [cF, dF]
      | _ =>
        walk_at "run"
        rfl
    . exact Or.inl (if_neg hk)
def mX : List Nat -> D -> D -> Option D
  | [], _, v => some v
  | k :: ks, .tup xs, v => match xs[k]? with
    | some x => if xs.length <= 1000 then (mX ks x v).map fun y => .tup (xs.take k ++ [y] ++ xs.drop (k + 1)) else none
    | none => none
  | _, _, _ => none
def lu : List D -> Option (List Nat)
  | [] => some []
  | .int i :: ds => if 0 <= i then (lu ds).map (i.toNat :: ·) else none
  | _ :: _ => none
theorem oP : ∀ {ds : List D} {ks : List Nat}, lu ds = some ks -> ds = ks.map fun (k : Nat) => D.int (k : Int)
  | [], ks, h => by simp [lu] at h; subst h; rfl
  | d :: ds, ks, h => by
    cases d <;> first | (cases h; done) | skip
    rename_i i
    simp only [lu] at h
    by_cases hi : 0 <= i
    . rw [if_pos hi] at h
      cases q : lu ds with
      | none => rw [q] at h; cases h
      | some ms => rw [q] at h; cases h; rw [oP q, List.map_cons, Int.toNat_of_nonneg hi]
    . rw [if_neg hi] at h; cases h
theorem my : ∀ ks : List Nat, lu (ks.map fun (k : Nat) => D.int (k : Int)) = some ks
  | [] => rfl
  | k :: ks => by simp [lu, my ks]
def jx (n : Nat) : List D -> R D
  | [d, .tup p, v] => match lu p with
    | some ks => if ks.length < n /\ n <= 500 then ofO (mX ks d v) else .no
    | none => .no
  | _ => .no
theorem kU {n : Nat} {d v : D} {ks : List Nat} (h : ks.length < n /\ n <= 500) : jx n [d, .tup (ks.map fun (k : Nat) => D.int (k : Int)), v] = ofO (mX ks d v) := by
  simp only [jx, my]; rw [if_pos h]
theorem pH (n : Nat) : ∀ ds : List D, ds.length = 3 -> jx (n + 1) ds = .no \/ aC (eS (jx n) (aF 4 ds)) = jx (n + 1) ds := by
  intro ds hl
  unfold eS kC kv kJ
  match ds, hl with
  | [d, pd, v], _ =>
    cases pd <;> first | exact Or.inl rfl | skip
    rename_i p hl
    cases hi : lu p with
    | none => refine Or.inl ?_; simp only [jx, hi]
    | some ks =>
      have e := oP hi
      subst e
      by_cases hk : ks.length < n + 1 /\ n + 1 <= 500
      . rw [kU hk]
        have k0 : mkT [] = .ok (.tup []) := m_t (by simp)
        cases ks with
        | nil =>
          refine Or.inr ?_
          show aC (aL _ _ [some (.val d), some (.val (.tup [])), some (.val v), none]) = _
          have q1 : eqF (.tup []) (.tup []) = some (.bl true) := rfl
          walk_at "run"
          rfl
        | cons j js =>
          cases hp : mX (j :: js) d v with
          | none => exact Or.inl rfl
          | some r =>
            refine Or.inr ?_
            cases d <;> first | (cases hp; done) | skip
            rename_i hl2 xs
            unfold mX at hp
            cases hx : xs[j]? with
            | none => rw [hx] at hp; cases hp
            | some x =>
              rw [hx] at hp
              dsimp only at hp
              by_cases hz : xs.length <= 1000
              . rw [if_pos hz] at hp
                cases hy : mX js x v with
                | none => rw [hy] at hp; cases hp
                | some y =>
                  rw [hy] at hp
                  cases hp
                  have hj : j < xs.length := (List.getElem?_eq_some_iff.mp hx).1
                  show aC (aL _ _ [some (.val (.tup xs)), some (.val (.tup (.int (j : Int) :: js.map fun (k : Nat) => D.int (k : Int)))), some (.val v), none]) = _
                  have q1 : eqF (.tup (.int (j : Int) :: js.map fun (k : Nat) => D.int (k : Int))) (.tup []) = some (.bl false) := by simp [eqF, eqD, eqZ]
                  have q2 : ixD (.tup (.int (j : Int) :: js.map fun (k : Nat) => D.int (k : Int))) (.int 0) = some (.int (j : Int)) := Ah (k := 0) rfl
                  have q3 : ixD (.tup xs) (.int (j : Int)) = some x := Ah hx
                  have q4 : fL (.int (j : Int) :: js.map fun (k : Nat) => D.int (k : Int)) (some 1) none = js.map fun (k : Nat) => D.int (k : Int) := jP _ 1
                  have q5 := uP xs j
                  have q6 : fL xs (some ((j : Int) + 1)) none = xs.drop (j + 1) := jP xs (j + 1)
                  have q7 : jx n [x, .tup (js.map fun (k : Nat) => D.int (k : Int)), v] = .ok y := by
                    rw [kU (by simp at hk; omega), hy]; rfl
                  have k1 : mkT [y] = .ok (.tup [y]) := m_t (by simp)
                  have q8 : bx (.tup (xs.take j)) (.tup [y]) = some (.tup (xs.take j ++ [y])) := rl (by have := bK; simp; omega)
                  have q9 : bx (.tup (xs.take j ++ [y])) (.tup (xs.drop (j + 1))) = some (.tup (xs.take j ++ [y] ++ xs.drop (j + 1))) := rl (by have := bK; simp; omega)
                  clear hk hi hl hx hz hj hy
                  walk_at "run"
              . rw [if_neg hz] at hp; cases hp
      . refine Or.inl ?_; simp only [jx, hi]; rw [if_neg hk]
theorem qM : ∀ ds : List D, ds.length = 1 -> bt 0 ds = .no := by
  intro ds hl
  match ds, hl with
  | [d], _ =>
    have e : okd 0 d = false := by simp only [okd]
    simp only [bt, e]
    rfl
theorem A4 : ∀ ds : List D, ds.length = 3 -> jx 0 ds = .no := by
  intro ds hl
  match ds, hl with
  | [d, p, v], _ =>
    cases p <;> first | rfl | skip
    simp only [jx]
    split <;> simp
def pt : Nat -> D -> Bool
  | 0, _ => false
  | _ + 1, .int _ => true
  | _ + 1, .str x => decide (x.length <= 900)
  | n + 1, .tup xs => xs.all (pt n) && decide (xs.length <= 900)
  | _ + 1, _ => false
def bN : Nat -> D -> Bool
  | 0, _ => true
  | _ + 1, .exc _ => false
  | _ + 1, .str x => decide (x.length <= 1000)
  | n + 1, .tup xs => xs.all (bN n)
  | n + 1, .lst _ xs => xs.all (bN n)
  | _ + 1, _ => true
theorem gG : ∀ (n : Nat) (d : D), bN (n + 1) d = true -> bN n d = true
  | 0, _, _ => rfl
  | n + 1, d, h => by
    cases d <;> first | (simp [bN] at h; done) | rfl | skip
    . exact h
    . simp only [bN, List.all_eq_true] at h ⊢
      exact fun x hx => gG n x (h x hx)
    . simp only [bN, List.all_eq_true] at h ⊢
      exact fun x hx => gG n x (h x hx)
theorem nh : ∀ (n m : Nat) (d : D), pt n d = true -> bN m d = true
  | 0, _, _, h => by simp [pt] at h
  | n + 1, 0, _, _ => rfl
  | n + 1, m + 1, d, h => by
    cases d <;> first | (simp [pt] at h; done) | rfl | skip
    . simp only [pt, decide_eq_true_eq] at h; simp only [bN, decide_eq_true_eq]; omega
    . simp only [pt, Bool.and_eq_true, List.all_eq_true] at h
      simp only [bN, List.all_eq_true]
      exact fun x hx => nh n m x (h.1 x hx)
theorem oK (n : Nat) : ∀ (ks : List Nat) (d v r : D), mX ks d v = some r -> bN n d = true -> bN n v = true -> bN n r = true
  | [], d, v, r, h, _, hv => by simp only [mX, Option.some.injEq] at h; subst h; exact hv
  | k :: ks, d, v, r, h, hd, hv => by
    cases n with
    | zero => rfl
    | succ n =>
      cases d <;> first | (simp [mX] at h; done) | skip
      rename_i xs
      unfold mX at h
      cases hx : xs[k]? with
      | none => rw [hx] at h; cases h
      | some x =>
        rw [hx] at h
        dsimp only at h
        split at h
        . cases hy : mX ks x v with
          | none => rw [hy] at h; cases h
          | some y =>
            rw [hy] at h
            cases h
            simp only [bN, List.all_eq_true] at hd ⊢
            have gy := oK n ks x v y hy (hd x (List.mem_of_getElem? hx)) (gG n v hv)
            intro z hz
            simp only [List.mem_append, List.mem_singleton] at hz
            rcases hz with (hz | rfl) | hz
            . exact hd z (List.mem_of_mem_take hz)
            . exact gy
            . exact hd z (List.mem_of_mem_drop hz)
        . cases h
def sH : List Nat -> D -> Option D
  | [], d => some d
  | k :: ks, .tup xs => (xs[k]?).bind (sH ks)
  | _ :: _, _ => none
theorem lH : ∀ (n : Nat) (d : D) (ks : List Nat), pt n d = true -> ks ∈ cF n d -> (∃ x, sH ks d = some x /\ ∃ m, pt m x = true) /\ ∀ v, ∃ r, mX ks d v = some r
  | 0, _, _, h, _ => by simp [pt] at h
  | n + 1, d, ks, h, hk => by
    cases ks with
    | nil => exact ⟨⟨d, rfl, n + 1, h⟩, fun v => ⟨v, rfl⟩⟩
    | cons k ks =>
      cases d <;> first | (simp [cF] at hk; done) | skip
      rename_i xs
      simp only [cF, List.mem_cons, List.mem_flatMap, List.mem_map, List.mem_range, reduceCtorEq, false_or] at hk
      obtain ⟨j, hj, q, hq, e⟩ := hk
      cases e
      simp only [pt, Bool.and_eq_true, List.all_eq_true, decide_eq_true_eq] at h
      have g1 : xs[k]? = some (xs.getD k .non) := by rw [List.getElem?_eq_getElem hj]; simp [List.getD, hj]
      obtain ⟨⟨x, hx, m, hm⟩, hp⟩ := lH n _ ks (h.1 _ (List.mem_of_getElem? g1)) hq
      refine ⟨⟨x, ?_, m, hm⟩, fun v => ?_⟩
      . simp only [sH, g1, Option.bind_some]; exact hx
      . obtain ⟨r, hr⟩ := hp v
        refine ⟨.tup (xs.take k ++ [r] ++ xs.drop (k + 1)), ?_⟩
        simp only [mX, g1]
        rw [if_pos (by omega), hr]; rfl
def gW (h : D) : List D := [.int 0, .int 1, .int 2, .int 11, .int 12, .int 40, .int 41, .int (-1), .bl true, .non, .str [97], .str [], .tup [.str [103, 111], .int 0, .int 0], .tup [.int 0, .int 0], .lst false [.int 0], .tup [h], .tup [h, h]]
def signL : List D := [.str [10], .str [], .str [97], .str [9]]
def qz (w : Int) : List Nat := match signL.getD (if 19 < w then (w - 19).toNat else 0) .non with
  | .str x => x
  | _ => []
def kz (ns : List Int) (a : Nat) (h : D) : D :=
  if bO ns (a + 1) 23 < 17 then (gW h).getD (bO ns (a + 1) 23).toNat .non
  else match h with
    | .tup xs => if xs.length = 0 then .int 7 else if bO ns (a + 1) 23 < 20 then .tup (xs.take (bO ns (a + 2) xs.length).toNat ++ xs.drop ((bO ns (a + 2) xs.length).toNat + 1)) else .tup (xs.take ((bO ns (a + 2) xs.length).toNat + 1) ++ xs.drop (bO ns (a + 2) xs.length).toNat)
    | .str x => .str (x.take (bO ns (a + 2) (x.length + 1)).toNat ++ qz (bO ns (a + 1) 23) ++ x.drop ((bO ns (a + 2) (x.length + 1)).toNat + 1))
    | .int i => .int (i + 1)
    | _ => .int 7
def cZ (ns : List Int) (a : Nat) (T : D) : List Nat := (cF 4 T).getD (bO ns a (cF 4 T).length).toNat []
def cq : List D -> R D
  | [.lst _ ds, .int a, T] => match gr ds with
    | some ns => if 0 <= a /\ pt 4 T = true /\ okd 4 T = true then ofO (mX (cZ ns a.toNat T) T (kz ns a.toNat ((sH (cZ ns a.toNat T) T).getD .non))) else .no
    | none => .no
  | _ => .no
theorem oG (n : Nat) (d : D) : 0 < (cF (n + 1) d).length := by
  cases d <;> simp [cF]
theorem kP (ns : List Int) (a : Nat) (T : D) : cZ ns a T ∈ cF 4 T := by
  have h0 : 0 < (cF 4 T).length := oG 3 T
  have h := cb ns a (m := ((cF 4 T).length : Int)) (by omega)
  unfold cZ
  have hl : (bO ns a (cF 4 T).length).toNat < (cF 4 T).length := by omega
  rw [List.getD_eq_getElem?_getD, List.getElem?_eq_getElem hl]
  exact List.getElem_mem hl
theorem kI (v : Int) : (qz v).length <= 1 := by
  unfold qz
  generalize (if 19 < v then (v - 19).toNat else 0) = k
  rcases Nat.lt_or_ge k 4 with hk | hk
  . have : k = 0 \/ k = 1 \/ k = 2 \/ k = 3 := by omega
    rcases this with rfl | rfl | rfl | rfl <;> decide
  . have : signL.getD k .non = .non := by
      rw [List.getD_eq_getElem?_getD, List.getElem?_eq_none (by show 4 <= k; exact hk)]; rfl
    rw [this]; decide
theorem lU (s0 s1 s2 s3 s4 s7 s8 s9 s10 : Option Sl) : ∀ (ks : List Nat) (d x : D) (kk : Option Sl), sH ks d = some x ->
    ∃ kk', cC (fR 6) (bB (bt 4) bH (jx 4)) (ks.map fun (i : Nat) => D.int (i : Int)) [s0, s1, s2, s3, s4, some (.val d), kk, s7, s8, s9, s10] = .nx [s0, s1, s2, s3, s4, some (.val x), kk', s7, s8, s9, s10]
  | [], d, x, kk, h => by simp only [sH, Option.some.injEq] at h; subst h; exact ⟨kk, rfl⟩
  | k :: ks, d, x, kk, h => by
    cases d <;> first | (simp [sH] at h; done) | skip
    rename_i xs
    cases hx : xs[k]? with
    | none => simp [sH, hx] at h
    | some y =>
      simp only [sH, hx, Option.bind_some] at h
      obtain ⟨kk', ih⟩ := lU s0 s1 s2 s3 s4 s7 s8 s9 s10 ks y x (some (.val (.int (k : Int)))) h
      refine ⟨kk', ?_⟩
      have q3 : ixD (.tup xs) (.int (k : Int)) = some y := Ah hx
      have hB : (bB (bt 4) bH (jx 4)) [s0, s1, s2, s3, s4, some (.val (.tup xs)), some (.val (.int (k : Int))), s7, s8, s9, s10] = .nx [s0, s1, s2, s3, s4, some (.val y), some (.val (.int (k : Int))), s7, s8, s9, s10] := by
        unfold bB
        clear ih h hx
        walk_at "run"
      rw [List.map_cons, eB (ρ1 := [s0, s1, s2, s3, s4, some (.val (.tup xs)), some (.val (.int (k : Int))), s7, s8, s9, s10]) rfl hB]
      exact ih
theorem fX : ∀ ds : List D, ds.length = 3 -> cq ds = .no \/ aC (bw (bt 4) bH (jx 4) (aF 11 ds)) = cq ds := by
  intro ds hl
  unfold bw
  match ds, hl with
  | [l, ad, T], _ =>
    cases l <;> first | exact Or.inl rfl | skip
    cases ad <;> first | exact Or.inl rfl | skip
    rename_i fz ds a hl
    cases hi : gr ds with
    | none => refine Or.inl ?_; simp only [cq, hi]
    | some ns =>
      have e := gU hi
      subst e
      by_cases hk : 0 <= a /\ pt 4 T = true /\ okd 4 T = true
      . refine Or.inr ?_
        have e2 : cq [.lst fz (ns.map .int), .int a, T] = ofO (mX (cZ ns a.toNat T) T (kz ns a.toNat ((sH (cZ ns a.toNat T) T).getD .non))) := by simp only [cq, hi]; rw [if_pos hk]
        rw [e2]
        obtain ⟨ha, hp, ho⟩ := hk
        obtain ⟨a, rfl⟩ := Int.eq_ofNat_of_zero_le ha
        rw [Int.toNat_natCast]
        show aC (aL _ _ [some (.val (.lst fz (ns.map .int))), some (.val (.int a)), some (.val T), none, none, none, none, none, none, none, none]) = _
        obtain ⟨⟨x, hx, m, hm⟩, hput⟩ := lH 4 T _ hp (kP ns a T)
        obtain ⟨r, hr⟩ := hput (kz ns a x)
        rw [hx, Option.getD_some, hr]
        have kl := im 4 T _ (kP ns a T)
        have P1 : bt 4 [T] = .ok (.lst false ((cF 4 T).map dF)) := if_pos ⟨ho, by decide⟩
        have h0 : 0 < (cF 4 T).length := oG 3 T
        have h1 := cb ns a (m := ((cF 4 T).length : Int)) (by omega)
        have P2 : bH [.lst fz (ns.map .int), .int (a : Int), .int (((cF 4 T).map dF).length : Int)] = .ok (.int (bO ns a (cF 4 T).length)) := by rw [List.length_map]; exact bI (by omega)
        have P3 : ixD (.lst false ((cF 4 T).map dF)) (.int (bO ns a (cF 4 T).length)) = some (dF (cZ ns a T)) := by
          have hlt : (bO ns a (cF 4 T).length).toNat < (cF 4 T).length := by omega
          rw [<- Int.toNat_of_nonneg h1.1]
          refine zn ?_
          rw [List.getElem?_map, List.getElem?_eq_getElem hlt]
          unfold cZ
          rw [List.getD_eq_getElem?_getD, List.getElem?_eq_getElem hlt]; rfl
        have P4 : bn (dF (cZ ns a T)) = .ok ((cZ ns a T).map fun (k : Nat) => .int (k : Int)) := rfl
        obtain ⟨kk', hL⟩ := lU (some (.val (.lst fz (ns.map .int)))) (some (.val (.int a))) (some (.val T)) (some (.val (.lst false ((cF 4 T).map dF)))) (some (.val (dF (cZ ns a T)))) none none none none (cZ ns a T) T x none hx
        skip
        have P5 : bH [.lst fz (ns.map .int), .int ((a : Int) + 1), .int 23] = .ok (.int (bO ns (a + 1) 23)) := bI (n := a + 1) (by decide)
        have P6 : jx 4 [T, dF (cZ ns a T), kz ns a x] = .ok r := by
          unfold dF; rw [kU ⟨kl, by decide⟩, hr]; rfl
        have k0 : mkT [] = .ok (.tup []) := m_t (by simp)
        have k1 : ∀ x, mkT [x] = .ok (.tup [x]) := fun _ => m_t (by simp)
        have k2 : ∀ x y, mkT [x, y] = .ok (.tup [x, y]) := fun _ _ => m_t (by simp)
        have k3 : ∀ x y z, mkT [x, y, z] = .ok (.tup [x, y, z]) := fun _ _ _ => m_t (by simp)
        have z17 : 17 <= sizeLine := by decide
        have z1 : 1 <= sizeLine := by decide
        have z4 : 4 <= sizeLine := by decide
        have n1 : qA (.int 1) = .ok (.int (-1)) := rfl
        have hw0 := cb ns (a + 1) (m := 23) (by decide)
        clear e2 hi hl hput hr kl h0 h1 ho hp hx
        have R0 : bT (bt 4) bH (jx 4) [some (.val (.lst fz (ns.map .int))), some (.val (.int a)), some (.val T), none, none, none, none, none, none, none, none] = .nx [some (.val (.lst fz (ns.map .int))), some (.val (.int a)), some (.val T), some (.val (.lst false ((cF 4 T).map dF))), none, none, none, none, none, none, none] := by
          unfold bT
          clear P6
          walk_at "run"
        have R1 : bX (bt 4) bH (jx 4) [some (.val (.lst fz (ns.map .int))), some (.val (.int a)), some (.val T), some (.val (.lst false ((cF 4 T).map dF))), none, none, none, none, none, none, none] = .nx [some (.val (.lst fz (ns.map .int))), some (.val (.int a)), some (.val T), some (.val (.lst false ((cF 4 T).map dF))), some (.val (dF (cZ ns a T))), none, none, none, none, none, none] := by
          unfold bX
          clear R0 P6
          walk_at "run"
        have R2 : bV (bt 4) bH (jx 4) [some (.val (.lst fz (ns.map .int))), some (.val (.int a)), some (.val T), some (.val (.lst false ((cF 4 T).map dF))), some (.val (dF (cZ ns a T))), none, none, none, none, none, none] = .nx [some (.val (.lst fz (ns.map .int))), some (.val (.int a)), some (.val T), some (.val (.lst false ((cF 4 T).map dF))), some (.val (dF (cZ ns a T))), some (.val T), none, none, none, none, none] := by
          unfold bV
          clear R0 R1 P6
          walk_at "run"
        have R3 : bU (bt 4) bH (jx 4) [some (.val (.lst fz (ns.map .int))), some (.val (.int a)), some (.val T), some (.val (.lst false ((cF 4 T).map dF))), some (.val (dF (cZ ns a T))), some (.val T), none, none, none, none, none] = .nx [some (.val (.lst fz (ns.map .int))), some (.val (.int a)), some (.val T), some (.val (.lst false ((cF 4 T).map dF))), some (.val (dF (cZ ns a T))), some (.val x), kk', none, none, none, none] := by
          unfold bU
          clear R0 R1 R2 P6
          walk_at "run"
        have R4 : bW (bt 4) bH (jx 4) [some (.val (.lst fz (ns.map .int))), some (.val (.int a)), some (.val T), some (.val (.lst false ((cF 4 T).map dF))), some (.val (dF (cZ ns a T))), some (.val x), kk', none, none, none, none] = .nx [some (.val (.lst fz (ns.map .int))), some (.val (.int a)), some (.val T), some (.val (.lst false ((cF 4 T).map dF))), some (.val (dF (cZ ns a T))), some (.val x), kk', some (.val (.lst false (gW x))), none, none, none] := by
          unfold bW gW
          clear R0 R1 R2 R3 P6
          walk_at "run"
        have R5 : bZ (bt 4) bH (jx 4) [some (.val (.lst fz (ns.map .int))), some (.val (.int a)), some (.val T), some (.val (.lst false ((cF 4 T).map dF))), some (.val (dF (cZ ns a T))), some (.val x), kk', some (.val (.lst false (gW x))), none, none, none] = .nx [some (.val (.lst fz (ns.map .int))), some (.val (.int a)), some (.val T), some (.val (.lst false ((cF 4 T).map dF))), some (.val (dF (cZ ns a T))), some (.val x), kk', some (.val (.lst false (gW x))), some (.val (.int (bO ns (a + 1) 23))), none, none] := by
          unfold bZ
          clear R0 R1 R2 R3 R4 P6
          walk_at "run"
        rw [nv, R0, xC, nv, R1, xC, nv, R2, xC, nv, R3, xC, nv, R4, xC, nv, R5, xC]
        clear R0 R1 R2 R3 R4 R5 hL P1 P2 P3 P4 P5
        unfold dI dD cQ cP
        by_cases hw : bO ns (a + 1) 23 < 17
        . have d1 : decide (bO ns (a + 1) 23 < 17) = true := by simp [hw]
          have q1 : ixD (.lst false (gW x)) (.int (bO ns (a + 1) 23)) = some (kz ns a x) := by
            have e : kz ns a x = (gW x).getD (bO ns (a + 1) 23).toNat .non := if_pos hw
            rw [e, <- Int.toNat_of_nonneg hw0.1]
            refine zn ?_
            have hlt : (bO ns (a + 1) 23).toNat < (gW x).length := by show _ < 17; omega
            rw [Int.toNat_natCast, List.getD_eq_getElem?_getD, List.getElem?_eq_getElem hlt]; rfl
          clear hw hw0 hm
          walk_at "run"
        . have d1 : decide (bO ns (a + 1) 23 < 17) = false := by simp [hw]
          have y1 : ∀ f xs, dL f (.tup xs) = .ok (.bl (f "tuple")) := fun _ _ => rfl
          have y2 : ∀ f xs, dL f (.str xs) = .ok (.bl (f "str")) := fun _ _ => rfl
          have y3 : ∀ f xs, dL f (.int xs) = .ok (.bl (f "int")) := fun _ _ => rfl
          have u1 : ("tuple" == "tuple") = true := rfl
          have u2 : ("tuple" == "str") = false := rfl
          have u3 : ("str" == "str") = true := rfl
          have u4 : ("str" == "tuple") = false := rfl
          have u5 : ("int" == "tuple") = false := rfl
          have u6 : ("int" == "str") = false := rfl
          have u7 : L2.isInt "int" = true := rfl
          have u8 : L2.isInt "tuple" = false := rfl
          cases x <;> first | (cases m <;> cases hm; done) | skip
          . rename_i i
            have e : kz ns a (.int i) = .int (i + 1) := by simp only [kz, hw, if_false]
            rw [e] at P6
            clear hw hw0 hm e
            walk_at "run"
          . rename_i s
            have hs : s.length <= 900 := by cases m <;> simp [pt] at hm; exact hm
            have hj := cb ns (a + 2) (m := (s.length : Int) + 1) (by omega)
            have P7 : bH [.lst fz (ns.map .int), .int ((a : Int) + 2), .int ((s.length : Int) + 1)] = .ok (.int (bO ns (a + 2) ((s.length : Int) + 1))) := bI (n := a + 2) (by omega)
            have e : kz ns a (.str s) = .str (s.take (bO ns (a + 2) (s.length + 1)).toNat ++ qz (bO ns (a + 1) 23) ++ s.drop ((bO ns (a + 2) (s.length + 1)).toNat + 1)) := by simp only [kz, hw, if_false]
            rw [e] at P6
            obtain ⟨j, hjj⟩ : ∃ j : Nat, bO ns (a + 2) ((s.length : Int) + 1) = (j : Int) := ⟨_, (Int.toNat_of_nonneg hj.1).symm⟩
            rw [hjj] at P7
            rw [hjj, Int.toNat_natCast] at P6
            have hsg := kI (bO ns (a + 1) 23)
            have c1 := uP s j
            have c2 : fL s (some ((j : Int) + 1)) none = s.drop (j + 1) := jP s (j + 1)
            have a1 : bx (.str (s.take j)) (.str (qz (bO ns (a + 1) 23))) = some (.str (s.take j ++ qz (bO ns (a + 1) 23))) := lL (by have := bK; simp; omega)
            have a2 : bx (.str (s.take j ++ qz (bO ns (a + 1) 23))) (.str (s.drop (j + 1))) = some (.str (s.take j ++ qz (bO ns (a + 1) 23) ++ s.drop (j + 1))) := lL (by have := bK; simp; omega)
            by_cases h19 : 19 < bO ns (a + 1) 23
            . have d2 : decide (19 < bO ns (a + 1) 23) = true := by simp [h19]
              have q2 : ixD (.lst false signL) (.int (bO ns (a + 1) 23 - 19)) = some (.str (qz (bO ns (a + 1) 23))) := by
                unfold qz
                rw [if_pos h19]
                generalize bO ns (a + 1) 23 = v at hw0 h19
                have : v = 20 \/ v = 21 \/ v = 22 := by omega
                rcases this with rfl | rfl | rfl <;> rfl
              unfold signL at q2
              clear hw hw0 hm e hj hjj hs h19 hsg
              walk_at "run"
            . have d2 : decide (19 < bO ns (a + 1) 23) = false := by simp [h19]
              have q2 : ixD (.lst false signL) (.int 0) = some (.str (qz (bO ns (a + 1) 23))) := by
                unfold qz
                rw [if_neg h19]; rfl
              unfold signL at q2
              clear hw hw0 hm e hj hjj hs h19 hsg
              walk_at "run"
          . rename_i xs
            have hs : xs.length <= 900 := by cases m <;> simp [pt] at hm; exact hm.2
            cases xs with
            | nil =>
              have e : kz ns a (.tup []) = .int 7 := by simp only [kz, hw, if_false, List.length_nil, if_true]
              rw [e] at P6
              have v1 : neF (.tup []) (.tup []) = some (.bl false) := rfl
              clear hw hw0 hm e hs
              walk_at "run"
            | cons y ys =>
              generalize hxs : y :: ys = xs at hs hm P6
              have hl0 : 0 < xs.length := by rw [<- hxs]; simp
              have v1 : neF (.tup xs) (.tup []) = some (.bl true) := by rw [<- hxs]; simp [neF, eqD, eqZ]
              have hj := cb ns (a + 2) (m := (xs.length : Int)) (by omega)
              have P7 : bH [.lst fz (ns.map .int), .int ((a : Int) + 2), .int (xs.length : Int)] = .ok (.int (bO ns (a + 2) (xs.length : Int))) := bI (n := a + 2) (by omega)
              obtain ⟨j, hjj⟩ : ∃ j : Nat, bO ns (a + 2) (xs.length : Int) = (j : Int) := ⟨_, (Int.toNat_of_nonneg hj.1).symm⟩
              rw [hjj] at P7
              have ne : ¬ xs.length = 0 := by omega
              have c1 := uP xs j
              have c2 : fL xs (some ((j : Int) + 1)) none = xs.drop (j + 1) := jP xs (j + 1)
              have c3 : fL xs none (some ((j : Int) + 1)) = xs.take (j + 1) := uP xs (j + 1)
              have c4 := jP xs j
              by_cases h20 : bO ns (a + 1) 23 < 20
              . have d2 : decide (bO ns (a + 1) 23 < 20) = true := by simp [h20]
                have e : kz ns a (.tup xs) = .tup (xs.take j ++ xs.drop (j + 1)) := by simp only [kz, hw, if_false, ne, h20, if_true, hjj, Int.toNat_natCast]
                rw [e] at P6
                have a1 : bx (.tup (xs.take j)) (.tup (xs.drop (j + 1))) = some (.tup (xs.take j ++ xs.drop (j + 1))) := rl (by have := bK; simp; omega)
                clear hw hw0 hm e hj hjj hs h20 hl0 ne hxs
                walk_at "run"
              . have d2 : decide (bO ns (a + 1) 23 < 20) = false := by simp [h20]
                have e : kz ns a (.tup xs) = .tup (xs.take (j + 1) ++ xs.drop j) := by simp only [kz, hw, if_false, ne, h20, hjj, Int.toNat_natCast]
                rw [e] at P6
                have a1 : bx (.tup (xs.take (j + 1))) (.tup (xs.drop j)) = some (.tup (xs.take (j + 1) ++ xs.drop j)) := rl (by have := bK; simp; omega)
                clear hw hw0 hm e hj hjj hs h20 hl0 ne hxs
                walk_at "run"
      . refine Or.inl ?_; simp only [cq, hi]; rw [if_neg hk]
theorem pY (h : D) (hp : ∀ m, bN m h = true) (k : Nat) : bN 4 ((gW h).getD k .non) = true := by
  have h3 := hp 3
  have hall : ∀ x ∈ gW h, bN 4 x = true := by
    have e : (gW h).all (bN 4) = true := by
      have e0 : (gW h).all (bN 4) = (bN 3 h && (bN 3 h && bN 3 h)) := by cases hh : bN 3 h <;> simp [gW, bN, hh] <;> decide
      rw [e0, h3]; rfl
    exact List.all_eq_true.1 e
  rcases Nat.lt_or_ge k (gW h).length with hk | hk
  . rw [List.getD_eq_getElem?_getD, List.getElem?_eq_getElem hk]
    exact hall _ (List.getElem_mem hk)
  . rw [List.getD_eq_getElem?_getD, List.getElem?_eq_none hk]; rfl
theorem ro (ns : List Int) (a : Nat) (h : D) {m : Nat} (hp : pt m h = true) : bN 4 (kz ns a h) = true := by
  have hg : ∀ j, bN j h = true := fun j => nh m j h hp
  unfold kz
  split
  . exact pY h hg _
  . cases h <;> first | rfl | skip
    . rename_i x
      have h1 : x.length <= 900 := by cases m <;> simp [pt] at hp; exact hp
      have h2 := kI (bO ns (a + 1) 23)
      simp only [bN, decide_eq_true_eq, List.length_append, List.length_take, List.length_drop]
      omega
    . rename_i xs
      have h1 : ∀ x ∈ xs, bN 3 x = true := by
        have := hg 4
        simp only [bN, List.all_eq_true] at this
        exact this
      dsimp only
      split
      . rfl
      . split
        all_goals
          simp only [bN, List.all_eq_true, List.mem_append]
          intro x hx
          rcases hx with hx | hx
          . exact h1 x (List.mem_of_mem_take hx)
          . exact h1 x (List.mem_of_mem_drop hx)
end Q
namespace Q
open L2
open PySem (sizeLine Addr)
noncomputable def zQz9 (cv : List D -> R D) : Ev -> O := (bM (jc (g2 eqF (gOf iK (ac (fun ρ => rdV ρ 0) (fun _ => R.ok []))) (fun _ => R.ok (D.int 2))) (jc (g2 eqF (g2 ixD (fun ρ => rdV ρ 0) (fun _ => R.ok (D.int 0))) (fun _ => R.ok (D.str [115, 97, 121]))) (jc (aM 1 cv (ac (g2 ixD (fun ρ => rdV ρ 0) (fun _ => R.ok (D.int 1))) (fun _ => R.ok []))) (g3 leD leD (fun _ => R.ok (D.int 1)) (gOf iK (ac (g2 ixD (fun ρ => rdV ρ 0) (fun _ => R.ok (D.int 1))) (fun _ => R.ok []))) (fun _ => R.ok (D.int 40)))))))
noncomputable def fM (cv : List D -> R D) : Ev -> O := (aL (zQz9 cv) oNx)
noncomputable def pq (bu : List D -> R D) : Ev -> O := (oIf (rF (gB2 neF (gOf iK (ac (fun ρ => rdV ρ 0) (fun _ => R.ok []))) (fun _ => R.ok (D.int 3))) (gB2 neF (g2 ixD (fun ρ => rdV ρ 0) (fun _ => R.ok (D.int 0))) (fun _ => R.ok (D.str [103, 111])))) (aL (bM (fun _ => R.ok (D.bl false))) oNx) oNx)
noncomputable def pi (bu : List D -> R D) : Ev -> O := (bM (jc (aM 3 bu (ac (g2 ixD (fun ρ => rdV ρ 0) (fun _ => R.ok (D.int 1))) (ac (fun _ => R.ok (D.int 0)) (ac (g2 yn (fun _ => R.ok (D.int 12)) (fun _ => R.ok (D.int 1))) (fun _ => R.ok []))))) (aM 3 bu (ac (g2 ixD (fun ρ => rdV ρ 0) (fun _ => R.ok (D.int 2))) (ac (fun _ => R.ok (D.int 0)) (ac (fun _ => R.ok (D.int 40)) (fun _ => R.ok [])))))))
noncomputable def gQ (bu : List D -> R D) : Ev -> O := (aL (pq bu) (aL (pi bu) oNx))
noncomputable def jw (di eO : List D -> R D) : Ev -> O := (oIf (gBn (aH iu (aH (dL (· == "tuple")) (fun ρ => rdV ρ 0)))) (aL (bM (fun _ => R.ok (D.bl false))) oNx) oNx)
noncomputable def jB (di eO : List D -> R D) : Ev -> O := (bM (gOr (aM 1 di (ac (fun ρ => rdV ρ 0) (fun _ => R.ok []))) (gOr (aM 1 eO (ac (fun ρ => rdV ρ 0) (fun _ => R.ok []))) (g2 eqF (fun ρ => rdV ρ 0) (aH mkT (ac (fun _ => R.ok (D.str [119, 105, 112, 101])) (fun _ => R.ok [])))))))
noncomputable def dS (di eO : List D -> R D) : Ev -> O := (aL (jw di eO) (aL (jB di eO) oNx))
noncomputable def fW (aY : List D -> R D) (ae : Addr) : Ev -> O := (oIf (gBn (aH iu (aM 1 aY (ac (fun ρ => rdV ρ 0) (fun _ => R.ok []))))) (aL (jl ae (ac (fun _ => R.ok (D.str [116, 104, 105, 115, 32, 105, 115, 32, 110, 111, 32, 111, 114, 100, 101, 114])) (fun _ => R.ok []))) oNx) oNx)
noncomputable def ck (aY : List D -> R D) (ae : Addr) : Ev -> O := (aL (fW aY ae) oNx)
noncomputable def fB (aQ aZ : List D -> R D) : Ev -> O := (oIf (rF (gBn (aH iu (aH (dL (· == "tuple")) (fun ρ => rdV ρ 0)))) (rF (gB2 eqF (fun ρ => rdV ρ 0) (aH mkT (fun _ => R.ok []))) (gBn (aH iu (aH (dL (· == "str")) (g2 ixD (fun ρ => rdV ρ 0) (fun _ => R.ok (D.int 0)))))))) (aL (bM (fun _ => R.ok (D.bl false))) oNx) oNx)
noncomputable def fE (aQ aZ : List D -> R D) : Ev -> O := (oIf (gB2 eqF (g2 ixD (fun ρ => rdV ρ 0) (fun _ => R.ok (D.int 0))) (fun _ => R.ok (D.str [115, 97, 121]))) (aL (bM (jc (g2 eqF (gOf iK (ac (fun ρ => rdV ρ 0) (fun _ => R.ok []))) (fun _ => R.ok (D.int 2))) (jc (aM 1 aQ (ac (g2 ixD (fun ρ => rdV ρ 0) (fun _ => R.ok (D.int 1))) (fun _ => R.ok []))) (g3 ltD ltD (fun _ => R.ok (D.int 0)) (gOf iK (ac (g2 ixD (fun ρ => rdV ρ 0) (fun _ => R.ok (D.int 1))) (fun _ => R.ok []))) (fun _ => R.ok (D.int 41)))))) oNx) oNx)
noncomputable def fD (aQ aZ : List D -> R D) : Ev -> O := (oIf (gB2 eqF (g2 ixD (fun ρ => rdV ρ 0) (fun _ => R.ok (D.int 0))) (fun _ => R.ok (D.str [103, 111]))) (aL (bM (jc (g2 eqF (gOf iK (ac (fun ρ => rdV ρ 0) (fun _ => R.ok []))) (fun _ => R.ok (D.int 3))) (jc (aM 3 aZ (ac (g2 ixD (fun ρ => rdV ρ 0) (fun _ => R.ok (D.int 1))) (ac (fun _ => R.ok (D.int 0)) (ac (fun _ => R.ok (D.int 11)) (fun _ => R.ok []))))) (aM 3 aZ (ac (g2 ixD (fun ρ => rdV ρ 0) (fun _ => R.ok (D.int 2))) (ac (fun _ => R.ok (D.int 0)) (ac (fun _ => R.ok (D.int 40)) (fun _ => R.ok [])))))))) oNx) oNx)
noncomputable def fG (aQ aZ : List D -> R D) : Ev -> O := (bM (g2 eqF (fun ρ => rdV ρ 0) (aH mkT (ac (fun _ => R.ok (D.str [119, 105, 112, 101])) (fun _ => R.ok [])))))
noncomputable def bS (aQ aZ : List D -> R D) : Ev -> O := (aL (fB aQ aZ) (aL (fE aQ aZ) (aL (fD aQ aZ) (aL (fG aQ aZ) oNx))))
def eU : D -> Bool
  | .tup [.str x, .str y] => (x == [115, 97, 121]) && (plain y && (decide (1 <= y.length) && decide (y.length <= 40)))
  | _ => false
def iT : D -> Bool
  | .tup [.str x, b, c] => (x == [103, 111]) && (inB b 0 11 && inB c 0 40)
  | _ => false
def dY : D -> Bool
  | .tup [.str x] => x == [119, 105, 112, 101]
  | _ => false
def bq (d : D) : Bool := eU d || (iT d || dY d)
def zI : List D -> R D
  | [.tup xs] => if bN 3 (.tup xs) = true then .ok (.bl (eU (.tup xs))) else .no
  | _ => .no
def goF : List D -> R D
  | [.tup xs] => if bN 3 (.tup xs) = true then .ok (.bl (iT (.tup xs))) else .no
  | _ => .no
def dl : List D -> R D
  | [d] => if bN 3 d = true then .ok (.bl (bq d)) else .no
  | _ => .no
def cR (C : Addr) : List D -> R D
  | [d] => if bN 3 d = true then (if bq d = true then .ok .non else .ex C) else .no
  | _ => .no
def isX (x : List Nat) : D -> Bool
  | .str y => y == x
  | _ => false
def zb : D -> Bool
  | .str y => decide (1 <= y.length) && decide (y.length <= 40)
  | _ => false
theorem pf (a b : D) : eU (.tup [a, b]) = (isX ([115, 97, 121]) a && (yh b && zb b)) := by
  cases a <;> cases b <;> first | rfl | (simp only [eU, isX, yh, zb, Bool.and_false, Bool.false_and])
theorem CS (a b c : D) : iT (.tup [a, b, c]) = (isX ([103, 111]) a && (inB b 0 11 && inB c 0 40)) := by
  cases a <;> first | rfl | (simp only [iT, isX, Bool.false_and])
theorem xn (a : D) : dY (.tup [a]) = isX ([119, 105, 112, 101]) a := by
  cases a <;> rfl
theorem Am {d : D} (h : vz d = true) (x : List Nat) : eqF d (.str x) = some (.bl (isX x d)) := by
  cases d <;> first | (cases h; done) | rfl
theorem zo {d : D} (h : vz d = true) (x : List Nat) : neF d (.str x) = some (.bl (!isX x d)) := by
  cases d <;> first | (cases h; done) | rfl
theorem eW {n : Nat} {d : D} (h : bN (n + 1) d = true) : vz d = true := by
  cases d <;> first | (simp [bN] at h; done) | rfl
theorem pr {n : Nat} {d : D} (h : bN (n + 1) d = true) : lq [d] = .ok (.bl (yh d)) := by
  cases d <;> first | (simp [bN] at h; done) | rfl | skip
  rename_i x
  simp only [bN, decide_eq_true_eq] at h
  have := bK
  exact if_pos (by omega)
theorem qN : ∀ ds : List D, ds.length = 1 -> zI ds = .no \/ aC (fM lq (aF 1 ds)) = zI ds := by
  have c1 : True := trivial
  have c2 : True := trivial
  have c3 : True := trivial
  have r1 : True := trivial
  have k1 : True := trivial
  have k3 : True := trivial
  intro ds hl
  unfold fM zQz9
  match ds, hl with
  | [d], _ =>
    cases d <;> first | exact Or.inl rfl | skip
    rename_i xs hl
    by_cases hg : bN 3 (.tup xs) = true
    . refine Or.inr ?_
      have e2 : zI [.tup xs] = .ok (.bl (eU (.tup xs))) := if_pos hg
      rw [e2]
      show aC (aL _ _ [some (.val (.tup xs))]) = _
      clear hl e2 c1
      match xs, hg with
      | [], _ =>
        have q : (((0 : Nat) : Int) == 2) = false := rfl
        walk_at "run"
        all_goals rfl
      | [a], _ =>
        have q : (((1 : Nat) : Int) == 2) = false := rfl
        have e : eU (.tup [a]) = false := by cases a <;> rfl
        walk_at "run"
      | a :: b :: c :: l, _ =>
        have q : (((l.length + 1 + 1 + 1 : Nat) : Int) == 2) = false := by simp; omega
        have e : eU (.tup (a :: b :: c :: l)) = false := by cases a <;> cases b <;> rfl
        walk_at "run"
      | [a, b], hg =>
        simp only [bN, List.all_cons, List.all_nil, Bool.and_true, Bool.and_eq_true] at hg
        have q : (((2 : Nat) : Int) == 2) = true := rfl
        have x0 : ixD (.tup [a, b]) (.int 0) = some a := rfl
        have x1 : ixD (.tup [a, b]) (.int 1) = some b := rfl
        have p1 := pr hg.2
        have ea := Am (eW hg.1) ([115, 97, 121])
        rw [pf]
        cases h1 : isX ([115, 97, 121]) a with
        | false =>
          walk_at "run"
          all_goals rfl
        | true =>
          cases h2 : yh b with
          | false =>
            walk_at "run"
            all_goals rfl
          | true =>
            cases b <;> first | (cases h2; done) | skip
            rename_i y
            simp only [zb]
            have d3 : ∀ n : Nat, decide ((1 : Int) <= (n : Int)) = decide (1 <= n) := fun n => by by_cases h : 1 <= n <;> simp [h] <;> omega
            have d4 : ∀ n : Nat, decide ((n : Int) <= (40 : Int)) = decide (n <= 40) := fun n => by by_cases h : n <= 40 <;> simp [h] <;> omega
            clear hg
            cases h3 : decide (1 <= y.length) <;> cases h4 : decide (y.length <= 40)
            all_goals
              walk_at "run"
              try rfl
    . exact Or.inl (if_neg hg)
theorem uL : ∀ ds : List D, ds.length = 1 -> goF ds = .no \/ aC (gQ xa (aF 1 ds)) = goF ds := by
  have c1 : True := trivial
  have c2 : True := trivial
  have c3 : True := trivial
  have r1 : True := trivial
  have k1 : True := trivial
  have k3 : True := trivial
  intro ds hl
  unfold gQ pi pq
  match ds, hl with
  | [d], _ =>
    cases d <;> first | exact Or.inl rfl | skip
    rename_i xs hl
    by_cases hg : bN 3 (.tup xs) = true
    . refine Or.inr ?_
      have e2 : goF [.tup xs] = .ok (.bl (iT (.tup xs))) := if_pos hg
      rw [e2]
      show aC (aL _ _ [some (.val (.tup xs))]) = _
      clear hl e2 c1
      match xs, hg with
      | [], _ =>
        have q : (((0 : Nat) : Int) == 3) = false := rfl
        walk_at "run"
        all_goals rfl
      | [a], _ =>
        have q : (((1 : Nat) : Int) == 3) = false := rfl
        have e : iT (.tup [a]) = false := by cases a <;> rfl
        walk_at "run"
      | [a, b], _ =>
        have q : (((2 : Nat) : Int) == 3) = false := rfl
        have e : iT (.tup [a, b]) = false := by cases a <;> rfl
        walk_at "run"
      | a :: b :: c :: d :: l, _ =>
        have q : (((l.length + 1 + 1 + 1 + 1 : Nat) : Int) == 3) = false := by simp; omega
        have e : iT (.tup (a :: b :: c :: d :: l)) = false := by cases a <;> rfl
        walk_at "run"
      | [a, b, c], hg =>
        simp only [bN, List.all_cons, List.all_nil, Bool.and_true, Bool.and_eq_true] at hg
        have q : (((3 : Nat) : Int) == 3) = true := rfl
        have x0 : ixD (.tup [a, b, c]) (.int 0) = some a := rfl
        have x1 : ixD (.tup [a, b, c]) (.int 1) = some b := rfl
        have x2 : ixD (.tup [a, b, c]) (.int 2) = some c := rfl
        have ea := zo (eW hg.1) ([103, 111])
        have p1 := fO (lo := 0) (hi := 11) (eW hg.2.1)
        have p2 := fO (lo := 0) (hi := 40) (eW hg.2.2)
        have m1 : (12 : Int) - 1 = 11 := rfl
        rw [CS]
        clear hg
        cases h1 : isX ([103, 111]) a with
        | false =>
          walk_at "run"
          all_goals rfl
        | true =>
          cases h2 : inB b 0 11 <;> cases h3 : inB c 0 40
          all_goals
            walk_at "run"
            try rfl
    . exact Or.inl (if_neg hg)
theorem sy {xs : List D} (hg : bN 3 (.tup xs) = true) : eqF (.tup xs) (.tup [.str [119, 105, 112, 101]]) = some (.bl (dY (.tup xs))) := by
  match xs, hg with
  | [], _ => rfl
  | [a], hg =>
    simp only [bN, List.all_cons, List.all_nil, Bool.and_true] at hg
    rw [xn]
    have := eW hg
    cases a <;> first | (cases this; done) | skip
    all_goals simp [eqF, eqD, eqZ, isX]
  | a :: b :: l, hg =>
    simp only [bN, List.all_cons, Bool.and_eq_true] at hg
    have := eW hg.1
    have e : dY (.tup (a :: b :: l)) = false := by cases a <;> rfl
    rw [e]
    cases a <;> first | (cases this; done) | skip
    all_goals simp [eqF, eqD, eqZ]
theorem nr : ∀ ds : List D, ds.length = 1 -> dl ds = .no \/ aC (dS zI goF (aF 1 ds)) = dl ds := by
  have c1 : True := trivial
  have c2 : True := trivial
  have c3 : True := trivial
  have r1 : True := trivial
  have k1 : True := trivial
  have k3 : True := trivial
  intro ds hl
  unfold dS jB jw
  match ds, hl with
  | [d], _ =>
    by_cases hg : bN 3 d = true
    . refine Or.inr ?_
      have e2 : dl [d] = .ok (.bl (bq d)) := if_pos hg
      rw [e2]
      show aC (aL _ _ [some (.val d)]) = _
      clear hl e2 c1 c2
      cases d <;> first | (simp [bN] at hg; done) | rfl | skip
      rename_i xs hl2
      clear hl2
      have y1 : dL (fun x => x == "tuple") (.tup xs) = .ok (.bl true) := rfl
      have s1 : zI [.tup xs] = .ok (.bl (eU (.tup xs))) := if_pos hg
      have s2 : goF [.tup xs] = .ok (.bl (iT (.tup xs))) := if_pos hg
      have s3 := sy hg
      have k1 : ∀ x, mkT [x] = .ok (.tup [x]) := fun _ => m_t (by simp)
      unfold bq
      clear hg
      cases h1 : eU (.tup xs) <;> cases h2 : iT (.tup xs)
      all_goals
        walk_at "run"
        try rfl
    . exact Or.inl (if_neg hg)
theorem kq {C : Addr} : ∀ ds : List D, ds.length = 1 -> (cR C) ds = .no \/ aC (ck dl C (aF 1 ds)) = (cR C) ds := by
  have c1 : True := trivial
  have c2 : True := trivial
  have c3 : True := trivial
  have r1 : True := trivial
  have k1 : True := trivial
  have k3 : True := trivial
  intro ds hl
  unfold ck fW
  match ds, hl with
  | [d], _ =>
    by_cases hg : bN 3 d = true
    . refine Or.inr ?_
      have e1 : dl [d] = .ok (.bl (bq d)) := if_pos hg
      have e2 : cR C [d] = if bq d = true then .ok .non else .ex C := if_pos hg
      rw [e2]
      show aC (aL _ _ [some (.val d)]) = _
      clear hl e2 c1 hg
      cases h1 : bq d
      all_goals
        walk_at "run"
        try rfl
    . exact Or.inl (if_neg hg)
def ku : List D -> Option (List (List Nat))
  | [] => some []
  | .str x :: ds => (ku ds).map (x :: ·)
  | _ :: _ => none
structure SOk (wd : Nat) (rows : List (List Nat)) (r c : Nat) : Prop where
  w : wd <= 100
  c : c <= wd
  r : r < rows.length
  m : rows.length <= 100
  l : ∀ x ∈ rows, x.length = wd
def tD : List D -> Bool
  | [b] => yh b && zb b
  | _ => false
def goT : List D -> Bool
  | [b, c] => inB b 0 11 && inB c 0 40
  | _ => false
theorem sS (l : List D) : bq (.tup (.str ([115, 97, 121]) :: l)) = tD l := by
  have h1 : (([115, 97, 121]) == [103, 111]) = false := by decide
  have h2 : (([115, 97, 121]) == [119, 105, 112, 101]) = false := by decide
  match l with
  | [] => simp [bq, eU, iT, dY, tD, h2]
  | [b] => rw [bq, pf]; simp [isX, iT, dY, tD]
  | [b, c] => simp [bq, eU, iT, dY, tD, h1]
  | b :: c :: d :: l => simp [bq, eU, iT, dY, tD]
theorem wB (l : List D) : bq (.tup (.str ([103, 111]) :: l)) = goT l := by
  have h1 : (([103, 111]) == [115, 97, 121]) = false := by decide
  have h2 : (([103, 111]) == [119, 105, 112, 101]) = false := by decide
  match l with
  | [] => simp [bq, eU, iT, dY, goT, h2]
  | [b] => rw [bq, pf]; simp [isX, iT, dY, goT, h1]
  | [b, c] => simp [bq, eU, iT, dY, goT]
  | b :: c :: d :: l => simp [bq, eU, iT, dY, goT]
theorem qO {h : List Nat} (l : List D) (h1 : (h == [115, 97, 121]) = false) (h2 : (h == [103, 111]) = false) : bq (.tup (.str h :: l)) = dY (.tup (.str h :: l)) := by
  match l with
  | [] => simp [bq, eU, iT]
  | [b] => rw [bq, pf]; simp [isX, iT, h1]
  | [b, c] => simp [bq, eU, iT, h2]
  | b :: c :: d :: l => simp [bq, eU, iT]
theorem ud {a : D} (l : List D) (ha : ∀ h, a ≠ .str h) : bq (.tup (a :: l)) = false := by
  cases a <;> first | exact absurd rfl (ha _) | skip
  all_goals
    match l with
    | [] => rfl
    | [_] => rfl
    | [_, _] => rfl
    | _ :: _ :: _ :: _ => rfl
theorem jN : ∀ ds : List D, ds.length = 1 -> dl ds = .no \/ aC (bS lq xa (aF 1 ds)) = dl ds := by
  have c1 : True := trivial
  have c2 : True := trivial
  have c3 : True := trivial
  have r1 : True := trivial
  have k1 : True := trivial
  have k3 : True := trivial
  intro ds hl
  unfold bS fG fD fE fB
  match ds, hl with
  | [d], _ =>
    by_cases hg : bN 3 d = true
    . refine Or.inr ?_
      have e2 : dl [d] = .ok (.bl (bq d)) := if_pos hg
      rw [e2]
      show aC (aL _ _ [some (.val d)]) = _
      clear e2 c1 c2 hl
      cases d <;> first | (simp [bN] at hg; done) | rfl | skip
      rename_i xs hl2
      clear hl2
      have y1 : dL (fun x => x == "tuple") (.tup xs) = .ok (.bl true) := rfl
      have k0 : mkT [] = .ok (.tup []) := m_t (by simp)
      have k1 : ∀ x, mkT [x] = .ok (.tup [x]) := fun _ => m_t (by simp)
      cases xs with
      | nil =>
        have q1 : eqF (.tup []) (.tup []) = some (.bl true) := rfl
        walk_at "run"
        all_goals rfl
      | cons a l =>
        have q1 : eqF (.tup (a :: l)) (.tup []) = some (.bl false) := by simp [eqF, eqD, eqZ]
        have x0 : ixD (.tup (a :: l)) (.int 0) = some a := Ah (k := 0) rfl
        have s3 := sy hg
        by_cases ha : ∃ h, a = .str h
        . obtain ⟨h, rfl⟩ := ha
          have y2 : dL (fun x => x == "str") (.str h) = .ok (.bl true) := rfl
          by_cases h1 : h = [115, 97, 121]
          . subst h1
            rw [sS]
            have e1 : ([115, 97, 121] == [115, 97, 121]) = true := beq_self_eq_true _
            clear s3
            match l, hg with
            | [], hg =>
              have q : (((1 : Nat) : Int) == 2) = false := rfl
              clear hg
              walk_at "run"
              all_goals rfl
            | b :: c :: l, hg =>
              have q : (((l.length + 1 + 1 + 1 : Nat) : Int) == 2) = false := by simp; omega
              clear hg
              walk_at "run"
              all_goals rfl
            | [b], hg =>
              simp only [bN, List.all_cons, List.all_nil, Bool.and_true, Bool.and_eq_true] at hg
              have q : (((2 : Nat) : Int) == 2) = true := rfl
              have x1 : ixD (.tup [.str ([115, 97, 121]), b]) (.int 1) = some b := rfl
              have p1 := pr hg.2
              clear hg
              cases h2 : yh b with
              | false =>
                have e : tD [b] = false := by simp [tD, h2]
                walk_at "run"
              | true =>
                cases b <;> first | (cases h2; done) | skip
                rename_i y
                have e : tD [.str y] = (decide (1 <= y.length) && decide (y.length <= 40)) := by simp only [tD, h2, zb, Bool.true_and]
                have d3 : ∀ n : Nat, decide ((0 : Int) < (n : Int)) = decide (1 <= n) := fun n => by by_cases h : 1 <= n <;> simp [h] <;> omega
                have d4 : ∀ n : Nat, decide ((n : Int) < (41 : Int)) = decide (n <= 40) := fun n => by by_cases h : n <= 40 <;> simp [h] <;> omega
                rw [e]
                clear e
                cases h3 : decide (1 <= y.length) <;> cases h4 : decide (y.length <= 40)
                all_goals
                  walk_at "run"
                  try rfl
          . have e1 : (h == [115, 97, 121]) = false := beq_eq_false_iff_ne.2 h1
            by_cases h2 : h = [103, 111]
            . subst h2
              rw [wB]
              have e2 : ([103, 111] == [103, 111]) = true := beq_self_eq_true _
              clear s3 h1
              match l, hg with
              | [], hg =>
                have q : (((1 : Nat) : Int) == 3) = false := rfl
                clear hg
                walk_at "run"
                all_goals rfl
              | [b], hg =>
                have q : (((2 : Nat) : Int) == 3) = false := rfl
                clear hg
                walk_at "run"
                all_goals rfl
              | b :: c :: d :: l, hg =>
                have q : (((l.length + 1 + 1 + 1 + 1 : Nat) : Int) == 3) = false := by simp; omega
                clear hg
                walk_at "run"
                all_goals rfl
              | [b, c], hg =>
                simp only [bN, List.all_cons, List.all_nil, Bool.and_true, Bool.and_eq_true] at hg
                have q : (((3 : Nat) : Int) == 3) = true := rfl
                have x1 : ixD (.tup [.str ([103, 111]), b, c]) (.int 1) = some b := rfl
                have x2 : ixD (.tup [.str ([103, 111]), b, c]) (.int 2) = some c := rfl
                have p1 := fO (lo := 0) (hi := 11) (eW hg.2.1)
                have p2 := fO (lo := 0) (hi := 40) (eW hg.2.2)
                have e : goT [b, c] = (inB b 0 11 && inB c 0 40) := rfl
                rw [e]
                clear hg e
                cases h3 : inB b 0 11 <;> cases h4 : inB c 0 40
                all_goals
                  walk_at "run"
                  try rfl
            . have e2 : (h == [103, 111]) = false := beq_eq_false_iff_ne.2 h2
              rw [qO l e1 e2]
              clear hg h1 h2
              walk_at "run"
        . have na : ∀ h, a ≠ .str h := fun h q => ha ⟨h, q⟩
          rw [ud l na]
          have y2 : dL (fun x => x == "str") a = .ok (.bl false) := by
            simp only [bN, List.all_cons, Bool.and_eq_true] at hg
            have := eW hg.1
            cases a <;> first | (cases this; done) | exact absurd rfl (na _) | rfl
          clear hg s3 ha na
          walk_at "run"
    . exact Or.inl (if_neg hg)
end Q
namespace Q
open L2
open PySem (sizeLine Addr)
noncomputable def fw (aD : List D -> R D) (ae : Addr) : Ev -> O := (oIf (gBn (aH iu (aH (dL (· == "list")) (fun ρ => rdV ρ 0)))) (aL (jl ae (ac (fun _ => R.ok (D.str [116, 104, 105, 115, 32, 105, 115, 32, 110, 111, 32, 108, 105, 115, 116, 32, 111, 102, 32, 111, 114, 100, 101, 114, 115])) (fun _ => R.ok []))) oNx) oNx)
noncomputable def bo (aD : List D -> R D) (ae : Addr) : Ev -> O := (aL (qo (aM 1 aD (ac (fun ρ => rdV ρ 1) (fun _ => R.ok [])))) oNx)
noncomputable def fF (aD : List D -> R D) (ae : Addr) : Ev -> O := (sD (fR 1) (aH bn (fun ρ => rdV ρ 0)) (bo aD ae))
noncomputable def cM (aD : List D -> R D) (ae : Addr) : Ev -> O := (aL (fw aD ae) (aL (fF aD ae) oNx))
inductive Od where
  | say (x : List Nat)
  | go (r c : Nat)
  | wipe
def oD : Od -> D
  | .say x => .tup [.str [115, 97, 121], .str x]
  | .go r c => .tup [.str [103, 111], .int (r : Int), .int (c : Int)]
  | .wipe => .tup [.str [119, 105, 112, 101]]
def okO : Od -> Bool
  | .say x => plain x && (decide (1 <= x.length) && decide (x.length <= 40))
  | .go r c => decide (r <= 11) && decide (c <= 40)
  | .wipe => true
def odD : D -> Option Od
  | .tup [.str h, .str x] => if h = [115, 97, 121] then some (.say x) else none
  | .tup [.str h, .int r, .int c] => if h = [103, 111] /\ 0 <= r /\ 0 <= c then some (.go r.toNat c.toNat) else none
  | .tup [.str h] => if h = [119, 105, 112, 101] then some .wipe else none
  | _ => none
theorem iW (o : Od) : odD (oD o) = some o := by
  cases o <;> simp [oD, odD]
theorem fN (o : Od) : bq (oD o) = okO o := by
  cases o with
  | say x => simp only [oD]; rw [sS]; simp [tD, yh, zb, okO]
  | go r c =>
    simp only [oD]; rw [wB]
    simp only [goT, inB, okO]
    have a1 : decide ((0 : Int) <= (r : Int)) = true := by simp
    have a2 : decide ((0 : Int) <= (c : Int)) = true := by simp
    have a3 : decide ((r : Int) <= 11) = decide (r <= 11) := by by_cases h : r <= 11 <;> simp [h] <;> omega
    have a4 : decide ((c : Int) <= 40) = decide (c <= 40) := by by_cases h : c <= 40 <;> simp [h] <;> omega
    rw [a1, a2, a3, a4, Bool.true_and, Bool.true_and]
  | wipe => decide
theorem BW {o : D} (h : iT o = true) : ∃ n c : Nat, o = .tup [.str [103, 111], .int (n : Int), .int (c : Int)] := by
  unfold iT at h
  split at h
  . rename_i x b c
    simp only [Bool.and_eq_true, beq_iff_eq] at h
    obtain ⟨rfl, h1, h2⟩ := h
    cases b <;> first | (cases h1; done) | skip
    cases c <;> first | (cases h2; done) | skip
    rename_i i j
    simp only [inB, Bool.and_eq_true, decide_eq_true_eq] at h1 h2
    obtain ⟨i, rfl⟩ := Int.eq_ofNat_of_zero_le h1.1
    obtain ⟨j, rfl⟩ := Int.eq_ofNat_of_zero_le h2.1
    exact ⟨i, j, rfl⟩
  . cases h
theorem py {d : D} (h : bq d = true) : ∃ o, d = oD o := by
  unfold bq at h
  rcases Bool.or_eq_true_iff.mp h with h | h
  . unfold eU at h
    split at h
    . simp only [Bool.and_eq_true, beq_iff_eq] at h
      obtain ⟨rfl, _⟩ := h
      exact ⟨.say _, rfl⟩
    . cases h
  . rcases Bool.or_eq_true_iff.mp h with h | h
    . obtain ⟨n, c, rfl⟩ := BW h
      exact ⟨.go n c, rfl⟩
    . unfold dY at h
      split at h
      . rw [beq_iff_eq] at h; subst h; exact ⟨.wipe, rfl⟩
      . cases h
theorem ul {os : List Od} (h : ∀ o ∈ os, okO o = true) : (os.map oD).all bq = true := by
  rw [List.all_eq_true]
  intro d hd
  obtain ⟨o, ho, rfl⟩ := List.mem_map.1 hd
  rw [fN]; exact h o ho
theorem kT {o : Od} (h : okO o = true) : bN 3 (oD o) = true := by
  cases o with
  | say x =>
    simp only [okO, Bool.and_eq_true, decide_eq_true_eq] at h
    have h2 := h.2.2
    simp only [oD, bN, List.all_cons, List.all_nil, Bool.and_true, Bool.and_eq_true, decide_eq_true_eq]
    exact ⟨by decide, by omega⟩
  | go r c => rfl
  | wipe => rfl
def tgD : D -> Bool
  | .exc _ => false
  | .lst _ ds => ds.all (bN 3) && decide (ds.length <= 1000)
  | _ => true
def nL : D -> Bool
  | .lst _ ds => ds.all bq
  | _ => false
theorem zy {f : Bool} {os : List Od} (h : ∀ o ∈ os, okO o = true) (hl : os.length <= 1000) : tgD (.lst f (os.map oD)) = true /\ nL (.lst f (os.map oD)) = true := by
  refine ⟨?_, ul h⟩
  simp only [tgD, Bool.and_eq_true, decide_eq_true_eq, List.length_map, List.all_eq_true]
  refine ⟨fun d hd => ?_, hl⟩
  obtain ⟨o, ho, rfl⟩ := List.mem_map.1 hd
  exact kT (h o ho)
theorem xt {asg : D -> Ev -> R Ev} {g : Ev -> O} {d : D} {ds : List D} {ρ ρ1 ρ2 : Ev} {C : Addr} (h1 : asg d ρ = .ok ρ1) (h2 : g ρ1 = .ex C ρ2) : cC asg g (d :: ds) ρ = .ex C ρ2 := by
  simp only [cC, h1, R.ok_out, h2]
def xj (C : Addr) : List D -> R D
  | [t] => if tgD t = true then (if nL t = true then .ok .non else .ex C) else .no
  | _ => .no
theorem pv {C : Addr} (x0 : Option Sl) : ∀ (ds : List D) (x1 : Option Sl), ds.all (bN 3) = true -> (ds.all bq = true -> ∃ y1, cC (fR 1) (bo (cR C) C) ds [x0, x1] = .nx [x0, y1]) /\ (ds.all bq = false -> ∃ ρ, cC (fR 1) (bo (cR C) C) ds [x0, x1] = .ex C ρ)
  | [], x1, _ => ⟨fun _ => ⟨x1, rfl⟩, fun h => by cases h⟩
  | d :: ds, x1, h => by
    rw [List.all_cons, Bool.and_eq_true] at h
    have e1 : cR C [d] = if bq d = true then .ok .non else .ex C := if_pos h.1
    obtain ⟨i1, i2⟩ := pv (C := C) x0 ds (some (.val d)) h.2
    cases hd : bq d with
    | true =>
      rw [hd, if_pos rfl] at e1
      have hB : bo (cR C) C [x0, some (.val d)] = .nx [x0, some (.val d)] := by
        unfold bo
        clear h hd i1 i2
        walk_at "run"
      refine ⟨fun ha => ?_, fun ha => ?_⟩
      . rw [List.all_cons, hd, Bool.true_and] at ha
        obtain ⟨y, hy⟩ := i1 ha
        exact ⟨y, by rw [eB (ρ1 := [x0, some (.val d)]) rfl hB, hy]⟩
      . rw [List.all_cons, hd, Bool.true_and] at ha
        obtain ⟨y, hy⟩ := i2 ha
        exact ⟨y, by rw [eB (ρ1 := [x0, some (.val d)]) rfl hB, hy]⟩
    | false =>
      rw [hd, if_neg (by decide)] at e1
      have hB : bo (cR C) C [x0, some (.val d)] = .ex C [x0, some (.val d)] := by
        unfold bo
        clear h hd i1 i2
        walk_at "run"
      refine ⟨fun ha => ?_, fun _ => ⟨[x0, some (.val d)], ?_⟩⟩
      . rw [List.all_cons, hd, Bool.false_and] at ha; cases ha
      . exact xt (ρ1 := [x0, some (.val d)]) rfl hB
theorem jG {C : Addr} : ∀ ds : List D, ds.length = 1 -> xj C ds = .no \/ aC (cM (cR C) C (aF 2 ds)) = xj C ds := by
  intro ds hl
  match ds, hl with
  | [t], _ =>
    by_cases hd : tgD t = true
    . refine Or.inr ?_
      have e0 : xj C [t] = if nL t = true then .ok .non else .ex C := if_pos hd
      rw [e0]
      show aC (aL _ _ [some (.val t), none]) = _
      unfold fw fF
      have tb : ∀ b : Bool, iu (.bl b) = .ok b := fun _ => rfl
      cases t <;> first | (cases hd; done) | rfl | skip
      rename_i f ts hl2
      simp only [tgD, Bool.and_eq_true, decide_eq_true_eq] at hd
      have y1 : dL (fun x => x == "list") (.lst f ts) = .ok (.bl true) := rfl
      have il : bn (.lst f ts) = .ok ts := rfl
      have eo : nL (.lst f ts) = ts.all bq := rfl
      rw [eo]
      obtain ⟨i1, i2⟩ := pv (C := C) (some (.val (.lst f ts))) ts none hd.1
      cases ha : ts.all bq with
      | true =>
        obtain ⟨y, hy⟩ := i1 ha
        rw [if_pos rfl]
        clear hl hl2 e0 hd i1 i2 ha eo
        walk_at "run"
      | false =>
        obtain ⟨y, hy⟩ := i2 ha
        rw [if_neg (by decide)]
        clear hl hl2 e0 hd i1 i2 ha eo
        walk_at "run"
    . exact Or.inl (if_neg hd)
end Q
namespace Q70
open L2 Q
open PySem (sizeLine Addr)
noncomputable def fT : Ev -> O := (bM (jc (g2 neF (fun ρ => rdV ρ 0) (fun _ => R.ok (D.str []))) (gOf wM (ac (bh (gz (aH bn (fun ρ => rdV ρ 0)) [] (fun _ => R.ok true) (g2 zh (fun ρ => rdV ρ 0) (fun _ => R.ok (D.str [48, 49, 50, 51, 52, 53, 54, 55, 56, 57]))))) (fun _ => R.ok [])))))
noncomputable def cn : Ev -> O := (aL fT oNx)
noncomputable def iB : Ev -> O := (bM (tR [(aH vR (fun ρ => rdV ρ 0)), (fun _ => R.ok (D.str [32])), (aH vR (fun ρ => rdV ρ 1))]))
noncomputable def dg : Ev -> O := (aL iB oNx)
noncomputable def dR (bz : List D -> R D) : Ev -> O := (bM (jc (aM 1 bz (ac (fun ρ => rdV ρ 0) (fun _ => R.ok []))) (g2 leD (gOf iK (ac (fun ρ => rdV ρ 0) (fun _ => R.ok []))) (fun _ => R.ok (D.int 2)))))
noncomputable def bC (bz : List D -> R D) : Ev -> O := (aL (dR bz) oNx)
noncomputable def fk (aP : List D -> R D) : Ev -> O := (eJ 1 (eG "str" iy (fun ρ => rdV ρ 0) (ac (fun _ => R.ok (D.str [32])) (fun _ => R.ok []))))
noncomputable def fA (aP : List D -> R D) : Ev -> O := (oIf (rF (gB2 neF (gOf iK (ac (fun ρ => rdV ρ 1) (fun _ => R.ok []))) (fun _ => R.ok (D.int 2))) (gBn (aH iu (gOf wM (ac (bh (gz (aH bn (fun ρ => rdV ρ 1)) [] (fun _ => R.ok true) (aM 1 aP (ac (fun ρ => rdV ρ 0) (fun _ => R.ok []))))) (fun _ => R.ok [])))))) (aL (bM (fun _ => R.ok D.non)) oNx) oNx)
noncomputable def fj (aP : List D -> R D) : Ev -> O := (bM (aH mkT (ac (gOf oj (ac (g2 ixD (fun ρ => rdV ρ 1) (fun _ => R.ok (D.int 0))) (fun _ => R.ok []))) (ac (gOf oj (ac (g2 ixD (fun ρ => rdV ρ 1) (fun _ => R.ok (D.int 1))) (fun _ => R.ok []))) (fun _ => R.ok [])))))
noncomputable def bQ (aP : List D -> R D) : Ev -> O := (aL (fk aP) (aL (fA aP) (aL (fj aP) oNx)))
noncomputable def jJ (ah : Addr) : Ev -> O := (oIf (rF (gBn (aH iu (aH (dL (· == "str")) (fun ρ => rdV ρ 0)))) (nH (gB2 neF (fun ρ => rdV ρ 0) (fun _ => R.ok (D.str []))) (gBn (aH iu (eG "str" qm (fun ρ => rdV ρ 0) (ac (fun _ => R.ok (D.str [10])) (fun _ => R.ok []))))))) (aL (jl ah (ac (fun _ => R.ok (D.str [116, 104, 105, 115, 32, 105, 115, 32, 110, 111, 32, 116, 101, 120, 116, 32, 111, 102, 32, 108, 105, 110, 101, 115, 32, 116, 104, 97, 116, 32, 97, 114, 101, 32, 101, 97, 99, 104, 32, 101, 110, 100, 101, 100, 32, 98, 121, 32, 97, 32, 108, 105, 110, 101, 32, 102, 101, 101, 100])) (fun _ => R.ok []))) oNx) oNx)
noncomputable def je (ah : Addr) : Ev -> O := (bM (gSl (eG "str" iy (fun ρ => rdV ρ 0) (ac (fun _ => R.ok (D.str [10])) (fun _ => R.ok []))) (fun _ => R.ok none) (ce (aH qA (fun _ => R.ok (D.int 1))))))
noncomputable def dN (ah : Addr) : Ev -> O := (aL (jJ ah) (aL (je ah) oNx))
noncomputable def eM (aD bi : List D -> R D) : Ev -> O := (qo (aM 1 aD (ac (fun ρ => rdV ρ 0) (fun _ => R.ok []))))
noncomputable def eK (aD bi : List D -> R D) : Ev -> O := (oIf (gB2 eqF (g2 ixD (fun ρ => rdV ρ 0) (fun _ => R.ok (D.int 0))) (fun _ => R.ok (D.str [115, 97, 121]))) (aL (bM (g2 bx (fun _ => R.ok (D.str [115, 97, 121, 32])) (g2 ixD (fun ρ => rdV ρ 0) (fun _ => R.ok (D.int 1))))) oNx) oNx)
noncomputable def eN (aD bi : List D -> R D) : Ev -> O := (oIf (gB2 eqF (g2 ixD (fun ρ => rdV ρ 0) (fun _ => R.ok (D.int 0))) (fun _ => R.ok (D.str [103, 111]))) (aL (bM (g2 bx (fun _ => R.ok (D.str [103, 111, 32])) (aM 2 bi (ac (g2 ixD (fun ρ => rdV ρ 0) (fun _ => R.ok (D.int 1))) (ac (g2 ixD (fun ρ => rdV ρ 0) (fun _ => R.ok (D.int 2))) (fun _ => R.ok [])))))) oNx) oNx)
noncomputable def eR (aD bi : List D -> R D) : Ev -> O := (bM (fun _ => R.ok (D.str [119, 105, 112, 101])))
noncomputable def cL (aD bi : List D -> R D) : Ev -> O := (aL (eM aD bi) (aL (eK aD bi) (aL (eN aD bi) (aL (eR aD bi) oNx))))
noncomputable def eu (bj aw : List D -> R D) : Ev -> O := (qo (aM 1 bj (ac (fun ρ => rdV ρ 0) (fun _ => R.ok []))))
noncomputable def er (bj aw : List D -> R D) : Ev -> O := (bM (eG "str" oh (fun _ => R.ok (D.str [])) (ac (bh (gz (aH bn (fun ρ => rdV ρ 0)) [] (fun _ => R.ok true) (g2 bx (aM 1 aw (ac (fun ρ => rdV ρ 0) (fun _ => R.ok []))) (fun _ => R.ok (D.str [10]))))) (fun _ => R.ok []))))
noncomputable def cj (bj aw : List D -> R D) : Ev -> O := (aL (eu bj aw) (aL (er bj aw) oNx))
noncomputable def fb (aV : List D -> R D) : Ev -> O := (eJ 1 (eG "str" mY (fun ρ => rdV ρ 0) (ac (fun _ => R.ok (D.str [32])) (fun _ => R.ok []))))
noncomputable def eY (aV : List D -> R D) : Ev -> O := (oIf (gB2 eqF (g2 ixD (fun ρ => rdV ρ 1) (fun _ => R.ok (D.int 0))) (fun _ => R.ok (D.str [115, 97, 121]))) (aL (bM (aH mkT (ac (fun _ => R.ok (D.str [115, 97, 121])) (ac (g2 ixD (fun ρ => rdV ρ 1) (fun _ => R.ok (D.int 2))) (fun _ => R.ok []))))) oNx) oNx)
noncomputable def fc (aV : List D -> R D) : Ev -> O := (oIf (gB2 eqF (g2 ixD (fun ρ => rdV ρ 1) (fun _ => R.ok (D.int 0))) (fun _ => R.ok (D.str [103, 111]))) (aL (eJ 2 (aM 1 aV (ac (g2 ixD (fun ρ => rdV ρ 1) (fun _ => R.ok (D.int 2))) (fun _ => R.ok [])))) (aL (bM (gIf (gB2 isF (fun ρ => rdV ρ 2) (fun _ => R.ok D.non)) (fun _ => R.ok D.non) (aH mkT (ac (fun _ => R.ok (D.str [103, 111])) (ac (g2 ixD (fun ρ => rdV ρ 2) (fun _ => R.ok (D.int 0))) (ac (g2 ixD (fun ρ => rdV ρ 2) (fun _ => R.ok (D.int 1))) (fun _ => R.ok []))))))) oNx)) oNx)
noncomputable def ff (aV : List D -> R D) : Ev -> O := (bM (aH mkT (ac (fun _ => R.ok (D.str [119, 105, 112, 101])) (fun _ => R.ok []))))
noncomputable def bL (aV : List D -> R D) : Ev -> O := (aL (fb aV) (aL (eY aV) (aL (fc aV) (aL (ff aV) oNx))))
noncomputable def dq (aX aY aw : List D -> R D) (ah : Addr) : Ev -> O := (eJ 1 (aM 1 aX (ac (fun ρ => rdV ρ 0) (fun _ => R.ok []))))
noncomputable def cX (aX aY aw : List D -> R D) (ah : Addr) : Ev -> O := (oIf (rF (gBn (aH iu (aM 1 aY (ac (fun ρ => rdV ρ 1) (fun _ => R.ok []))))) (gB2 neF (aM 1 aw (ac (fun ρ => rdV ρ 1) (fun _ => R.ok []))) (fun ρ => rdV ρ 0))) (aL (jl ah (ac (fun _ => R.ok (D.str [110, 111, 32, 111, 114, 100, 101, 114, 32, 105, 115, 32, 119, 114, 105, 116, 116, 101, 110, 32, 115, 111])) (fun _ => R.ok []))) oNx) oNx)
noncomputable def cW (aX aY aw : List D -> R D) (ah : Addr) : Ev -> O := (bM (fun ρ => rdV ρ 1))
noncomputable def cH (aX aY aw : List D -> R D) (ah : Addr) : Ev -> O := (aL (dq aX aY aw ah) (aL (cX aX aY aw ah) (aL (cW aX aY aw ah) oNx)))
noncomputable def cI (cz bG : List D -> R D) : Ev -> O := (bM (bh (mK (aH bn (aM 1 cz (ac (fun ρ => rdV ρ 0) (fun _ => R.ok [])))) [] (fun _ => R.ok true) (aM 1 bG (ac (fun ρ => rdV ρ 0) (fun _ => R.ok []))))))
noncomputable def cg (cz bG : List D -> R D) : Ev -> O := (aL (cI cz bG) oNx)
noncomputable def dE (aw aR : List D -> R D) (aS bc : List D -> R D) (rs : List Addr) : Ev -> O := (eJ 2 (fun _ => R.ok D.non))
noncomputable def dJ (aw aR : List D -> R D) (aS bc : List D -> R D) (rs : List Addr) : Ev -> O := (eJ 3 (fun _ => R.ok D.non))
noncomputable def dz (aw aR : List D -> R D) (aS bc : List D -> R D) (rs : List Addr) : Ev -> O := (wX (aL (eJ 3 (vh [aM 1 aw (ac (fun ρ => rdV ρ 1) (fun _ => R.ok [])), aM 1 aR (ac (fun ρ => rdV ρ 1) (fun _ => R.ok [])), aM 1 aS (ac (fun ρ => rdV ρ 1) (fun _ => R.ok []))] (fun ρ => rdV ρ 0))) oNx) (aL (eJ 2 (fun ρ => rdV ρ 4)) oNx) (mz rs) 4)
noncomputable def dA (aw aR : List D -> R D) (aS bc : List D -> R D) (rs : List Addr) : Ev -> O := (oIf (gB2 isF (fun ρ => rdV ρ 2) (fun _ => R.ok D.non)) (aL (bM (fun ρ => rdV ρ 3)) oNx) oNx)
noncomputable def dv (aw aR : List D -> R D) (aS bc : List D -> R D) (rs : List Addr) : Ev -> O := (bM (aM 1 bc (ac (fun ρ => rdV ρ 2) (fun _ => R.ok []))))
noncomputable def fI (aw aR : List D -> R D) (aS bc : List D -> R D) (rs : List Addr) : Ev -> O := (aL (dE aw aR aS bc rs) (aL (dJ aw aR aS bc rs) (aL (dz aw aR aS bc rs) (aL (dA aw aR aS bc rs) (aL (dv aw aR aS bc rs) oNx)))))
noncomputable def jR : Ev -> O := (eJ 1 (fun _ => R.ok (D.str [])))
noncomputable def br : Ev -> O := (aL (eJ 1 (g2 bx (g2 bx (fun ρ => rdV ρ 1) (fun _ => R.ok (D.str [32]))) (gOf oq (ac (fun ρ => rdV ρ 3) (fun _ => R.ok []))))) oNx)
noncomputable def cw : Ev -> O := (aL (eJ 1 (g2 bx (fun ρ => rdV ρ 1) (g2 ixD (fun ρ => rdV ρ 2) (fun _ => R.ok (D.int 0))))) (aL (sD (fR 3) (aH bn (gSl (fun ρ => rdV ρ 2) (ce (fun _ => R.ok (D.int 1))) (fun _ => R.ok none))) br) (aL (eJ 1 (g2 bx (fun ρ => rdV ρ 1) (fun _ => R.ok (D.str [10])))) oNx)))
noncomputable def jd : Ev -> O := (sD (fR 2) (aH bn (fun ρ => rdV ρ 0)) cw)
noncomputable def jV : Ev -> O := (bM (fun ρ => rdV ρ 1))
noncomputable def dW : Ev -> O := (aL jR (aL jd (aL jV oNx)))
theorem bJ : 20000 <= sizeLine := by decide
theorem kF {n k : Nat} (hk : 0 < k) (h : n < 10 ^ k) : (bF n).length <= k := by
  unfold bF; rw [List.length_map]; exact (Nat.length_toDigits_le_iff (by decide) hk).2 h
theorem nZ (n : Nat) : 1 <= (bF n).length := by
  unfold bF; rw [List.length_map]
  have : Nat.toDigits 10 n ≠ [] := Nat.toDigits_ne_nil
  exact List.length_pos_iff.2 this
theorem yt (n : Nat) : ∀ c ∈ bF n, 48 <= c /\ c <= 57 := by
  intro c hc
  unfold bF at hc
  obtain ⟨ch, h1, rfl⟩ := List.mem_map.1 hc
  have := Nat.isDigit_of_mem_toDigits (by decide) (by decide) h1
  simp only [Char.isDigit, Bool.and_eq_true, decide_eq_true_eq, UInt32.le_iff_toNat_le] at this
  exact this
theorem wq : ∀ d : Nat, d < 10 -> (Nat.digitChar d).toNat - 48 = d := by decide
theorem vk (x : List Nat) (c : Nat) : qD (x ++ [c]) = qD x * 10 + (c - 48) := by
  unfold qD; rw [List.foldl_append]; rfl
theorem tx (n : Nat) : qD (bF n) = n := by
  induction n using Nat.strongRecOn with
  | _ n ih =>
    by_cases h : n < 10
    . have e : bF n = [(Nat.digitChar n).toNat] := by unfold bF; rw [Nat.toDigits_of_lt_base h]; rfl
      rw [e]
      show 0 * 10 + ((Nat.digitChar n).toNat - 48) = n
      rw [wq n h]; omega
    . have e : bF n = bF (n / 10) ++ [(Nat.digitChar (n % 10)).toNat] := by
        have t := Nat.toDigits_append_toDigits (b := 10) (n := n / 10) (d := n % 10) (by decide) (by omega) (by omega)
        rw [show 10 * (n / 10) + n % 10 = n by omega] at t
        unfold bF
        rw [<- t, List.map_append, Nat.toDigits_of_lt_base (show n % 10 < 10 by omega)]; rfl
      rw [e, vk, ih (n / 10) (by omega), wq (n % 10) (by omega)]
      omega
theorem ut (n : Nat) : tT (bF n) = true := by
  unfold tT; rw [List.all_eq_true]; intro c hc
  have := yt n c hc
  simp only [Bool.and_eq_true, decide_eq_true_eq]; exact this
noncomputable def agF : List D -> R D := fun ds => aC (cn (aF 1 ds))
theorem ko : ∀ ds : List D, ds.length = 1 -> agF ds = .no \/ aC (cn (aF 1 ds)) = agF ds := fun _ _ => .inr rfl
def qC (x : List Nat) : Bool := !(x == []) && tT x
theorem xF (c : Nat) : decide (c ∈ [48, 49, 50, 51, 52, 53, 54, 55, 56, 57]) = (decide (48 <= c) && decide (c <= 57)) := by
  by_cases h : 48 <= c /\ c <= 57
  . rw [decide_eq_true h.1, decide_eq_true h.2, decide_eq_true]; rfl
    simp only [List.mem_cons, List.mem_nil_iff, or_false]; omega
  . rw [decide_eq_false (p := c ∈ [48, 49, 50, 51, 52, 53, 54, 55, 56, 57])]
    . by_cases h1 : 48 <= c
      . rw [decide_eq_true h1, decide_eq_false (by omega)]; rfl
      . rw [decide_eq_false h1]; rfl
    . simp only [List.mem_cons, List.mem_nil_iff, or_false]; omega
theorem zZ {x : List Nat} (hx : x.length <= 1000) : agF [.str x] = .ok (.bl (qC x)) := by
  have lb := bJ
  have cm : fi (fun _ => R.ok true) (g2 zh (fun ρ => rdV ρ 0) (fun _ => R.ok (D.str [48, 49, 50, 51, 52, 53, 54, 55, 56, 57]))) (x.map fun c => .str [c]) [none] = .ok ((x.map fun c => D.str [c]).map fun d => .bl (match d with | .str [c] => decide (48 <= c) && decide (c <= 57) | _ => false)) := by
    refine dH (fun d => .bl (match d with | .str [c] => decide (48 <= c) && decide (c <= 57) | _ => false)) [] _ none fun d hd => ⟨rfl, ?_⟩
    obtain ⟨c, _, rfl⟩ := List.mem_map.1 hd
    show _ = R.ok (D.bl (decide (48 <= c) && decide (c <= 57)))
    rw [<- xF]; rfl
  have al := kX (fun d => match d with | .str [c] => decide (48 <= c) && decide (c <= 57) | _ => false) false (x.map fun c => D.str [c])
  have ea : ((x.map fun c => D.str [c]).all fun d => match d with | .str [c] => decide (48 <= c) && decide (c <= 57) | _ => false) = tT x := by
    rw [List.all_map]; rfl
  rw [ea] at al
  have z : ((x.map fun c => D.str [c]).map fun d => D.bl (match d with | .str [c] => decide (48 <= c) && decide (c <= 57) | _ => false)).length <= sizeLine := by simp; omega
  have it : bn (.str x) = .ok (x.map fun c => .str [c]) := rfl
  have i1 : ∀ a0 : Option Sl, fh [] [a0] = [none] := fun _ => rfl
  generalize (x.map fun c => D.str [c]).map (fun d => D.bl (match d with | .str [c] => decide (48 <= c) && decide (c <= 57) | _ => false)) = u at *
  generalize x.map (fun c => D.str [c]) = v at *
  show aC (aL _ _ [some (.val (.str x))]) = _
  unfold fT qC
  cases hx0 : (x == []) with
  | true =>
    clear lb hx z al cm ea
    walk_at "run"
    all_goals rfl
  | false =>
    have e : (!false && tT x) = tT x := rfl
    rw [e]
    clear lb hx ea e
    walk_at "run"
    all_goals rfl
theorem rZ {x : List Nat} (h : qC x = true) (hx : x.length <= 600) : oj [.str x] = some (.int (qD x : Nat)) := by
  unfold qC at h
  rw [Bool.and_eq_true] at h
  have hd : x.dropWhile (fun c => c == 32) = x := by
    cases x with
    | nil => rfl
    | cons c r =>
      have := List.all_eq_true.1 h.2 c (List.mem_cons_self ..)
      simp only [Bool.and_eq_true, decide_eq_true_eq] at this
      exact List.dropWhile_cons_of_neg (by simp; omega)
  show (if tT (x.dropWhile (fun c => c == 32)) = true /\ x.dropWhile (fun c => c == 32) ≠ [] /\ x.length <= 640 then some (D.int ((qD (x.dropWhile (fun c => c == 32)) : Nat) : Int)) else none) = _
  rw [hd, if_pos]
  exact ⟨h.2, fun z => by rw [z] at h; simp at h, by omega⟩
theorem hZ (n : Nat) : qC (bF n) = true := by
  unfold qC
  rw [ut, Bool.and_true]
  have := nZ n
  cases h : bF n with
  | nil => rw [h] at this; simp at this
  | cons a l => rfl

def oT : Od -> List Nat
  | .say x => [115, 97, 121, 32] ++ x
  | .go r c => [103, 111, 32] ++ (bF r ++ [32] ++ bF c)
  | .wipe => [119, 105, 112, 101]
theorem Bw {x : List Nat} (h : qC x = true) (c : Nat) (hc : c < 48) : c ∉ x := fun hm => by
  unfold qC at h
  rw [Bool.and_eq_true] at h
  have := List.all_eq_true.1 h.2 c hm
  simp only [Bool.and_eq_true, decide_eq_true_eq] at this
  omega
theorem mD {r c : Nat} (hr : r <= 11) (hc : c <= 40) : (bF r).length <= 2 /\ (bF c).length <= 2 := ⟨kF (by decide) (by omega), kF (by decide) (by omega)⟩
theorem pb {o : Od} (h : okO o = true) : (oT o).length <= 44 := by
  cases o with
  | say x =>
    simp only [okO, Bool.and_eq_true, decide_eq_true_eq] at h
    show ([115, 97, 121, 32] ++ x).length <= 44
    simp; omega
  | go r c =>
    simp only [okO, Bool.and_eq_true, decide_eq_true_eq] at h
    have := mD h.1 h.2
    show ([103, 111, 32] ++ (bF r ++ [32] ++ bF c)).length <= 44
    simp; omega
  | wipe => decide
theorem ye {o : Od} (h : okO o = true) : 10 ∉ oT o := by
  cases o with
  | say x =>
    simp only [okO, Bool.and_eq_true] at h
    intro z
    have z : 10 ∈ [115, 97, 121, 32] ++ x := z
    rcases List.mem_append.1 z with z | z
    . simp at z
    . have := List.all_eq_true.1 h.1 10 z
      simp at this
  | go r c =>
    intro z
    have z : 10 ∈ [103, 111, 32] ++ (bF r ++ [32] ++ bF c) := z
    have h1 := Bw (hZ r) 10 (by decide)
    have h2 := Bw (hZ c) 10 (by decide)
    simp [h1, h2] at z
  | wipe => decide
noncomputable def stF : List D -> R D := fun ds => aC (dg (aF 2 ds))
theorem mL : ∀ ds : List D, ds.length = 2 -> stF ds = .no \/ aC (dg (aF 2 ds)) = stF ds := fun _ _ => .inr rfl
theorem Aq {r c : Nat} (hr : r <= 11) (hc : c <= 40) : stF [.int (r : Int), .int (c : Int)] = .ok (.str (bF r ++ [32] ++ bF c)) := by
  have lb := bJ
  have f1 := AZ (n := r) (by omega)
  have f2 := AZ (n := c) (by omega)
  have g := mD hr hc
  have b1 : (bF r).length <= sizeLine := by omega
  have b2 : (bF r ++ [32]).length <= sizeLine := by simp; omega
  have b3 : (bF r ++ [32] ++ bF c).length <= sizeLine := by simp; omega
  have en : ∀ a : List Nat, ([] : List Nat) ++ a = a := fun _ => rfl
  show aC (aL _ _ [some (.val (.int (r : Int))), some (.val (.int (c : Int)))]) = _
  unfold iB
  clear lb hr hc g
  walk_at "run"
noncomputable def ze : List D -> R D := fun ds => aC (bC agF (aF 1 ds))
theorem gN : ∀ ds : List D, ds.length = 1 -> ze ds = .no \/ aC (bC agF (aF 1 ds)) = ze ds := fun _ _ => .inr rfl
def shB (x : List Nat) : Bool := qC x && decide (x.length <= 2)
theorem zE {x : List Nat} (hx : x.length <= 1000) : ze [.str x] = .ok (.bl (shB x)) := by
  have a1 := zZ hx
  have q : decide ((x.length : Int) <= 2) = decide (x.length <= 2) := by
    by_cases h : x.length <= 2
    . rw [decide_eq_true h, decide_eq_true (by omega)]
    . rw [decide_eq_false h, decide_eq_false (by omega)]
  show aC (aL _ _ [some (.val (.str x))]) = _
  unfold dR shB
  clear hx
  cases hf : qC x with
  | true => rw [hf] at a1; walk_at "run"; try rfl
  | false => rw [hf] at a1; walk_at "run"; try rfl
noncomputable def soF : List D -> R D := fun ds => aC (bQ ze (aF 2 ds))
theorem jK : ∀ ds : List D, ds.length = 1 -> soF ds = .no \/ aC (bQ ze (aF 2 ds)) = soF ds := fun _ _ => .inr rfl
def ic (x : List Nat) : D := match aN 32 x with
  | [p, q] => if shB p = true /\ shB q = true then .tup [.int (qD p : Nat), .int (qD q : Nat)] else .non
  | _ => .non
theorem Bh {x : List Nat} (hx : x.length <= 1000) : soF [.str x] = .ok (ic x) := by
  have lb := bJ
  have sp : iy (.str x) [.str [32]] = some (.lst false ((aN 32 x).map .str)) := if_pos (by omega)
  have kd : gv "str" (.str x) = true := rfl
  have sl := fH 32 x
  have cm : fi (fun _ => R.ok true) (aM 1 ze (ac (fun ρ => rdV ρ 0) (fun _ => R.ok []))) ((aN 32 x).map .str) [none] = .ok (((aN 32 x).map D.str).map fun d => .bl (match d with | .str p => shB p | _ => false)) := by
    refine dH (fun d => .bl (match d with | .str p => shB p | _ => false)) [] _ none fun d hd => ⟨rfl, ?_⟩
    obtain ⟨p, hp, rfl⟩ := List.mem_map.1 hd
    have := eD 32 x p hp
    have a1 := zE (x := p) (by omega)
    show _ = R.ok (D.bl (shB p))
    clear hd this hp
    walk_at "run"
  have al := kX (fun d => match d with | .str p => shB p | _ => false) false ((aN 32 x).map D.str)
  have ea : (((aN 32 x).map D.str).all fun d => match d with | .str p => shB p | _ => false) = (aN 32 x).all shB := by rw [List.all_map]; rfl
  rw [ea] at al
  have z : (((aN 32 x).map D.str).map fun d => D.bl (match d with | .str p => shB p | _ => false)).length <= sizeLine := by simp; omega
  have it : ∀ (f : Bool) (l : List D), bn (.lst f l) = .ok l := fun _ _ => rfl
  have i1 : ∀ a0 a1 : Option Sl, fh [] [a0, a1] = [none] := fun _ _ => rfl
  have ll : ((aN 32 x).map D.str).length = (aN 32 x).length := List.length_map ..
  show aC (aL _ _ [some (.val (.str x)), none]) = _
  unfold fk fA fj
  by_cases h2 : (aN 32 x).length = 2
  . have q : (((aN 32 x).length : Int) == 2) = true := by rw [beq_iff_eq]; omega
    obtain ⟨p, q', e⟩ : ∃ p q', aN 32 x = [p, q'] := by
      match h : aN 32 x, h2 with
      | [p, q'], _ => exact ⟨p, q', rfl⟩
    cases hf : (aN 32 x).all shB with
    | true =>
      rw [hf] at al
      have hpq : shB p = true /\ shB q' = true := by rw [e] at hf; simpa using hf
      have es : ic x = .tup [.int (qD p : Nat), .int (qD q' : Nat)] := by unfold ic; rw [e]; exact if_pos hpq
      have l1 := eD 32 x p (by rw [e]; simp)
      have l2 := eD 32 x q' (by rw [e]; simp)
      have fp : qC p = true /\ p.length <= 2 := by have := hpq.1; unfold shB at this; simpa using this
      have fq : qC q' = true /\ q'.length <= 2 := by have := hpq.2; unfold shB at this; simpa using this
      have n1 := rZ fp.1 (by omega)
      have n2 := rZ fq.1 (by omega)
      have x0 : ixD (.lst false ((aN 32 x).map D.str)) (.int 0) = some (.str p) := by rw [e]; exact zn (k := 0) rfl
      have x1 : ixD (.lst false ((aN 32 x).map D.str)) (.int 1) = some (.str q') := by rw [e]; exact zn (k := 1) rfl
      have tt : ∀ a b : D, mkT [a, b] = .ok (.tup [a, b]) := fun _ _ => m_t (by simp)
      rw [es]
      generalize ((aN 32 x).map D.str).map (fun d => D.bl (match d with | .str p => shB p | _ => false)) = u at *
      generalize (aN 32 x).map D.str = v at *
      clear lb hx sl ea e es hf hpq l1 l2 fp fq h2
      walk_at "run"
    | false =>
      rw [hf] at al
      have es : ic x = .non := by
        unfold ic; rw [e]
        refine if_neg fun z => ?_
        rw [e] at hf; simp [z.1, z.2] at hf
      rw [es]
      generalize ((aN 32 x).map D.str).map (fun d => D.bl (match d with | .str p => shB p | _ => false)) = u at *
      generalize (aN 32 x).map D.str = v at *
      clear lb hx sl ea e es hf h2
      walk_at "run"
  . have q : (((aN 32 x).length : Int) == 2) = false := by rw [beq_eq_false_iff_ne]; omega
    have es : ic x = .non := by
      unfold ic
      split
      . rename_i p q' e; rw [e] at h2; simp at h2
      . rfl
    rw [es]
    generalize ((aN 32 x).map D.str).map (fun d => D.bl (match d with | .str p => shB p | _ => false)) = u at *
    generalize (aN 32 x).map D.str = v at *
    clear lb hx sl ea es h2
    walk_at "run"
theorem yu {r c : Nat} (hr : r <= 11) (hc : c <= 40) : ic (bF r ++ [32] ++ bF c) = .tup [.int (r : Int), .int (c : Int)] := by
  have g := mD hr hc
  have e : aN 32 (bF r ++ [32] ++ bF c) = [bF r, bF c] := by
    rw [List.append_assoc]
    show aN 32 (bF r ++ 32 :: bF c) = _
    rw [fK _ (Bw (hZ r) 32 (by decide)), ij (Bw (hZ c) 32 (by decide))]
  unfold ic
  rw [e]
  show (if shB (bF r) = true /\ shB (bF c) = true then _ else _) = _
  rw [if_pos, tx, tx]
  unfold shB
  rw [hZ, hZ]
  simp; exact g
theorem mj (x : List Nat) : ic x = .non \/ ∃ a b : Nat, ic x = .tup [.int (a : Int), .int (b : Int)] := by
  unfold ic
  split
  . split
    . exact .inr ⟨_, _, rfl⟩
    . exact .inl rfl
  . exact .inl rfl
noncomputable def ooF : List D -> R D := fun ds => aC (bL soF (aF 3 ds))
theorem iL : ∀ ds : List D, ds.length = 1 -> ooF ds = .no \/ aC (bL soF (aF 3 ds)) = ooF ds := fun _ _ => .inr rfl
def qB (x : List Nat) : D := if (cU 32 x).1 = [115, 97, 121] then .tup [.str [115, 97, 121], .str (cU 32 x).2.2] else if (cU 32 x).1 = [103, 111] then (match ic (cU 32 x).2.2 with | .tup [a, b] => .tup [.str [103, 111], a, b] | _ => .non) else .tup [.str [119, 105, 112, 101]]
theorem wc {x : List Nat} (hx : x.length <= 1000) : ooF [.str x] = .ok (qB x) := by
  have lb := bJ
  have pl := jt 32 x
  have pt : mY (.str x) [.str [32]] = some (.tup [.str (cU 32 x).1, .str (cU 32 x).2.1, .str (cU 32 x).2.2]) := if_pos (by omega)
  have so := Bh (x := (cU 32 x).2.2) (by omega)
  have kd : gv "str" (.str x) = true := rfl
  have x0 : ∀ a b c : D, ixD (.tup [a, b, c]) (.int 0) = some a := fun _ _ _ => rfl
  have x2 : ∀ a b c : D, ixD (.tup [a, b, c]) (.int 2) = some c := fun _ _ _ => rfl
  have y0 : ∀ a b : D, ixD (.tup [a, b]) (.int 0) = some a := fun _ _ => rfl
  have y1 : ∀ a b : D, ixD (.tup [a, b]) (.int 1) = some b := fun _ _ => rfl
  have t1 : ∀ a : D, mkT [a] = .ok (.tup [a]) := fun _ => m_t (by simp)
  have t2' : ∀ a b : D, mkT [a, b] = .ok (.tup [a, b]) := fun _ _ => m_t (by simp)
  have t3 : ∀ a b c : D, mkT [a, b, c] = .ok (.tup [a, b, c]) := fun _ _ _ => m_t (by simp)
  have i1 : isF .non .non = some (.bl true) := rfl
  have i2 : ∀ l, isF (.tup l) .non = some (.bl false) := fun _ => rfl
  have sg := mj (cU 32 x).2.2
  show aC (aL _ _ [some (.val (.str x)), none, none]) = _
  unfold fb eY fc ff qB
  generalize (cU 32 x).1 = u1 at *
  generalize (cU 32 x).2.1 = u2 at *
  generalize (cU 32 x).2.2 = u3 at *
  clear lb hx pl
  by_cases h1 : u1 = [115, 97, 121]
  . subst h1
    rw [if_pos rfl]
    have q : (([115, 97, 121] : List Nat) == [115, 97, 121]) = true := rfl
    walk_at "run"
  . have q : (u1 == [115, 97, 121]) = false := by rw [beq_eq_false_iff_ne]; exact h1
    rw [if_neg h1]
    by_cases h2 : u1 = [103, 111]
    . subst h2
      rw [if_pos rfl]
      have q2 : (([103, 111] : List Nat) == [103, 111]) = true := rfl
      rcases sg with e | ⟨a, b, e⟩
      . rw [e] at so ⊢; clear h1; walk_at "run"
      . rw [e] at so ⊢; clear h1; walk_at "run"
    . have q2 : (u1 == [103, 111]) = false := by rw [beq_eq_false_iff_ne]; exact h2
      rw [if_neg h2]
      clear h1 h2 sg
      walk_at "run"
theorem su {x : List Nat} (hx : x.length <= 1000) : bN 3 (qB x) = true := by
  have pl := jt 32 x
  unfold qB
  split
  . simp only [bN, List.all_cons, List.all_nil, Bool.and_true, Bool.and_eq_true, decide_eq_true_eq]
    exact ⟨by decide, by omega⟩
  . split
    . rcases mj (cU 32 x).2.2 with e | ⟨a, b, e⟩
      . rw [e]; rfl
      . rw [e]; rfl
    . rfl
theorem rH {o : Od} (h : okO o = true) : qB (oT o) = oD o := by
  cases o with
  | say x =>
    have e : cU 32 (oT (.say x)) = ([115, 97, 121], [32], x) := rfl
    unfold qB
    rw [e]; rfl
  | go r c =>
    simp only [okO, Bool.and_eq_true, decide_eq_true_eq] at h
    have e : cU 32 (oT (.go r c)) = ([103, 111], [32], bF r ++ [32] ++ bF c) := rfl
    unfold qB
    rw [e]
    show (if ([103, 111] : List Nat) = [115, 97, 121] then _ else if ([103, 111] : List Nat) = [103, 111] then _ else _) = _
    rw [if_neg (by decide), if_pos rfl, yu h.1 h.2]; rfl
  | wipe => rfl
end Q70
namespace Q70
open L2 Q
open PySem (sizeLine Addr)
noncomputable def otF (C : Addr) : List D -> R D := fun ds => aC (cL (cR C) stF (aF 1 ds))
theorem kS {C : Addr} : ∀ ds : List D, ds.length = 1 -> otF C ds = .no \/ aC (cL (cR C) stF (aF 1 ds)) = otF C ds := fun _ _ => .inr rfl
theorem zw {C : Addr} {o : Od} (h : okO o = true) : cR C [oD o] = .ok .non := by
  show (if bN 3 (oD o) = true then (if bq (oD o) = true then R.ok D.non else .ex C) else .no) = _
  rw [if_pos (kT h), fN, if_pos h]
theorem rS {C : Addr} {o : Od} (h : okO o = true) : otF C [oD o] = .ok (.str (oT o)) := by
  have lb := bJ
  have c1 := zw (C := C) h
  show aC (aL _ _ [some (.val (oD o))]) = _
  unfold eM eK eN eR
  have x0 : ∀ a b c : D, ixD (.tup [a, b, c]) (.int 0) = some a := fun _ _ _ => rfl
  have x1 : ∀ a b c : D, ixD (.tup [a, b, c]) (.int 1) = some b := fun _ _ _ => rfl
  have x2 : ∀ a b c : D, ixD (.tup [a, b, c]) (.int 2) = some c := fun _ _ _ => rfl
  have y0 : ∀ a b : D, ixD (.tup [a, b]) (.int 0) = some a := fun _ _ => rfl
  have y1 : ∀ a b : D, ixD (.tup [a, b]) (.int 1) = some b := fun _ _ => rfl
  have z0 : ∀ a : D, ixD (.tup [a]) (.int 0) = some a := fun _ => rfl
  have q1 : (([115, 97, 121] : List Nat) == [115, 97, 121]) = true := rfl
  have q2 : (([103, 111] : List Nat) == [115, 97, 121]) = false := rfl
  have q3 : (([103, 111] : List Nat) == [103, 111]) = true := rfl
  have q4 : (([119, 105, 112, 101] : List Nat) == [115, 97, 121]) = false := rfl
  have q5 : (([119, 105, 112, 101] : List Nat) == [103, 111]) = false := rfl
  cases o with
  | say x =>
    simp only [okO, Bool.and_eq_true, decide_eq_true_eq] at h
    have a1 : bx (.str [115, 97, 121, 32]) (.str x) = some (.str (oT (.say x))) := lL (by simp; omega)
    have c1 : cR C [.tup [.str [115, 97, 121], .str x]] = .ok .non := c1
    have e : oD (.say x) = .tup [.str [115, 97, 121], .str x] := rfl
    rw [e]
    generalize oT (.say x) = w at *
    clear lb h e
    walk_at "run"
  | go r c =>
    simp only [okO, Bool.and_eq_true, decide_eq_true_eq] at h
    have g := mD h.1 h.2
    have s1 := Aq h.1 h.2
    have a1 : bx (.str [103, 111, 32]) (.str (bF r ++ [32] ++ bF c)) = some (.str (oT (.go r c))) := lL (by simp; omega)
    have c1 : cR C [.tup [.str [103, 111], .int (r : Int), .int (c : Int)]] = .ok .non := c1
    have e : oD (.go r c) = .tup [.str [103, 111], .int (r : Int), .int (c : Int)] := rfl
    rw [e]
    generalize oT (.go r c) = w at *
    generalize bF r ++ [32] ++ bF c = w2 at *
    clear lb h g e
    walk_at "run"
  | wipe =>
    have c1 : cR C [.tup [.str [119, 105, 112, 101]]] = .ok .non := c1
    have e : oD .wipe = .tup [.str [119, 105, 112, 101]] := rfl
    have e2 : oT .wipe = [119, 105, 112, 101] := rfl
    rw [e, e2]
    clear lb h e e2
    walk_at "run"
theorem zC {C : Addr} {d : D} (h : bN 3 d = true) (hn : bq d = false) : otF C [d] = .ex C := by
  have c1 : cR C [d] = .ex C := by
    show (if bN 3 d = true then (if bq d = true then R.ok D.non else .ex C) else .no) = _
    rw [if_pos h, hn]; rfl
  show aC (aL _ _ [some (.val d)]) = _
  unfold eM eK eN eR
  clear h hn
  walk_at "run"
def txL (os : List Od) : List Nat := (os.map fun o => oT o ++ [10]).flatten
theorem ng {os : List Od} (h : ∀ o ∈ os, okO o = true) : (txL os).length <= 45 * os.length := by
  induction os with
  | nil => simp [txL]
  | cons o os ih =>
    have i := ih fun p hp => h p (List.mem_cons_of_mem _ hp)
    have := pb (h o (List.mem_cons_self ..))
    have e : txL (o :: os) = (oT o ++ [10]) ++ txL os := rfl
    rw [e, List.length_append, List.length_append, List.length_cons]
    simp; omega
noncomputable def osF (C : Addr) : List D -> R D := fun ds => aC (cj (xj C) (otF C) (aF 1 ds))
theorem ki {C : Addr} : ∀ ds : List D, ds.length = 1 -> osF C ds = .no \/ aC (cj (xj C) (otF C) (aF 1 ds)) = osF C ds := fun _ _ => .inr rfl
theorem pA : ∀ l : List (List Nat), ik [] l = l.flatten
  | [] => rfl
  | [q] => by simp [ik]
  | q :: r :: l => by
    have ih := pA (r :: l)
    show q ++ [] ++ ik [] (r :: l) = _
    rw [ih]; simp
theorem oM : ∀ l : List (List Nat), L2.ku (l.map .str) = some l
  | [] => rfl
  | q :: l => by
    have ih := oM l
    rw [List.map_cons]
    unfold L2.ku
    first | (rw [ih]; rfl) | (simp only [ih]; rfl) | simp [ih]
theorem CF {C : Addr} {f : Bool} {os : List Od} (h : ∀ o ∈ os, okO o = true) (hl : os.length <= 10) : osF C [.lst f (os.map oD)] = .ok (.str (txL os)) := by
  have lb := bJ
  have tg := zy (f := f) h (by omega)
  have c1 : xj C [.lst f (os.map oD)] = .ok .non := by
    show (if tgD (.lst f (os.map oD)) = true then (if nL (.lst f (os.map oD)) = true then R.ok D.non else .ex C) else .no) = _
    rw [if_pos tg.1, if_pos tg.2]
  have cm : fi (fun _ => R.ok true) (g2 bx (aM 1 (otF C) (ac (fun ρ => rdV ρ 0) (fun _ => R.ok []))) (fun _ => R.ok (D.str [10]))) (os.map oD) [none] = .ok ((os.map fun o => oT o ++ [10]).map .str) := by
    have := dH (gt := fun _ => R.ok true) (ge := g2 bx (aM 1 (otF C) (ac (fun ρ => rdV ρ 0) (fun _ => R.ok []))) (fun _ => R.ok (D.str [10]))) (fun d => match odD d with | some o => .str (oT o ++ [10]) | none => .non) [] (os.map oD) none fun d hd => ⟨rfl, by
      obtain ⟨o, ho, rfl⟩ := List.mem_map.1 hd
      have o1 := rS (C := C) (h o ho)
      have ol := pb (h o ho)
      have a1 : bx (.str (oT o)) (.str [10]) = some (.str (oT o ++ [10])) := lL (by simp; omega)
      rw [iW]
      show _ = R.ok (D.str (oT o ++ [10]))
      generalize oD o = d at *
      generalize oT o ++ [10] = w at *
      clear hd ho ol tg c1
      walk_at "run"⟩
    rw [this, List.map_map, List.map_map]
    congr 1
    refine List.map_congr_left fun o _ => ?_
    show (match odD (oD o) with | some o => D.str (oT o ++ [10]) | none => .non) = _
    rw [iW]; rfl
  have tl := ng h
  have jn : oh (.str []) [.lst false ((os.map fun o => oT o ++ [10]).map .str)] = some (.str (txL os)) := by
    simp only [oh, oM, pA]
    have e : (((os.map fun o => oT o ++ [10]).map List.length).sum) = (txL os).length := by unfold txL; rw [List.length_flatten]
    rw [if_pos (by rw [e]; simp; omega)]; rfl
  have kd : gv "str" (.str []) = true := rfl
  have it : ∀ (f : Bool) (l : List D), bn (.lst f l) = .ok l := fun _ _ => rfl
  have i1 : ∀ a0 : Option Sl, fh [] [a0] = [none] := fun _ => rfl
  have z : ((os.map fun o => oT o ++ [10]).map D.str).length <= sizeLine := by simp; omega
  show aC (aL _ _ [some (.val (.lst f (os.map oD)))]) = _
  unfold eu er
  generalize (os.map fun o => oT o ++ [10]).map D.str = u at *
  generalize os.map oD = v at *
  generalize txL os = w at *
  clear lb tg h hl tl
  walk_at "run"
theorem zU {C : Addr} {f : Bool} {ds : List D} (h : tgD (.lst f ds) = true) (hn : nL (.lst f ds) = false) : osF C [.lst f ds] = .ex C := by
  have c1 : xj C [.lst f ds] = .ex C := by
    show (if tgD (.lst f ds) = true then (if nL (.lst f ds) = true then R.ok D.non else .ex C) else .no) = _
    rw [if_pos h, hn]; rfl
  show aC (aL _ _ [some (.val (.lst f ds))]) = _
  unfold eu er
  clear h hn
  walk_at "run"
noncomputable def lnF (C : Addr) : List D -> R D := fun ds => aC (dN C (aF 1 ds))
theorem nI {C : Addr} : ∀ ds : List D, ds.length = 1 -> lnF C ds = .no \/ aC (dN C (aF 1 ds)) = lnF C ds := fun _ _ => .inr rfl
def qv (x : List Nat) : Bool := (x == []) || (x.getLast? == some 10)
theorem eP {α : Type} (xs : List α) : fL xs none (some (-1)) = xs.dropLast := by
  unfold fL
  have e : HT.sIx xs.length xs.length (some (-1)) = xs.length - 1 := by
    show (if (-1 : Int) < 0 then ((-1 : Int) + (xs.length : Int)).toNat else min (-1 : Int).toNat xs.length) = _
    rw [if_pos (by omega)]; omega
  rw [e, HT.sIx_none, List.drop_zero, Nat.sub_zero, List.dropLast_eq_take]
theorem wN {C : Addr} {x : List Nat} (hx : x.length <= 1000) : lnF C [.str x] = if qv x = true then .ok (.lst false ((aN 10 x).dropLast.map .str)) else .ex C := by
  have sp : iy (.str x) [.str [10]] = some (.lst false ((aN 10 x).map .str)) := if_pos (by omega)
  have kd : gv "str" (.str x) = true := rfl
  have ty : dL (fun x => x == "str") (.str x) = .ok (.bl true) := rfl
  have en : qm (.str x) [.str [10]] = some (.bl (x.getLast? == some 10)) := rfl
  have ng1 : qA (.int 1) = .ok (.int (-1)) := rfl
  have cu : fL ((aN 10 x).map D.str) none (some (-1)) = (aN 10 x).dropLast.map .str := by rw [eP, List.map_dropLast]
  show aC (aL _ _ [some (.val (.str x))]) = _
  unfold jJ je qv
  generalize (aN 10 x).dropLast.map D.str = u at *
  generalize (aN 10 x).map D.str = v at *
  clear hx
  cases h1 : (x == []) with
  | true => rw [Bool.true_or, if_pos rfl]; walk_at "run"
  | false =>
    rw [Bool.false_or]
    cases h2 : (x.getLast? == some 10) with
    | true => rw [h2] at en; rw [if_pos rfl]; walk_at "run"
    | false => rw [h2] at en; rw [if_neg (by decide)]; walk_at "run"
noncomputable def roF (C6 C7 : Addr) : List D -> R D := fun ds => aC (cH ooF dl (otF C6) C7 (aF 2 ds))
theorem lr {C6 C7 : Addr} : ∀ ds : List D, ds.length = 1 -> roF C6 C7 ds = .no \/ aC (cH ooF dl (otF C6) C7 (aF 2 ds)) = roF C6 C7 ds := fun _ _ => .inr rfl
theorem Bq {C6 C7 : Addr} {x : List Nat} (hx : x.length <= 1000) : roF C6 C7 [.str x] = .ex C7 \/ ∃ o, okO o = true /\ roF C6 C7 [.str x] = .ok (oD o) /\ oT o = x := by
  have o1 := wc hx
  have g := su hx
  have go : roF C6 C7 [.str x] = aC (aL (dq ooF dl (otF C6) C7) (aL (cX ooF dl (otF C6) C7) (aL (cW ooF dl (otF C6) C7) oNx)) [some (.val (.str x)), none]) := rfl
  have ho : dl [qB x] = .ok (.bl (bq (qB x))) := if_pos g
  rw [go]
  unfold dq cX cW
  cases hi : bq (qB x) with
  | false =>
    rw [hi] at ho
    refine .inl ?_
    generalize qB x = d at *
    clear go hx g hi
    walk_at "run"
  | true =>
    rw [hi] at ho
    obtain ⟨o, eo⟩ := py hi
    rw [eo, fN] at hi
    rw [eo] at o1 ho
    have t1 := rS (C := C6) hi
    cases hc : (oT o == x) with
    | true =>
      refine .inr ⟨o, hi, ?_, by simpa using hc⟩
      generalize oD o = d at *
      clear go hx g hi eo
      walk_at "run"
    | false =>
      refine .inl ?_
      generalize oD o = d at *
      clear go hx g hi eo
      walk_at "run"
theorem Ck {C6 C7 : Addr} {o : Od} (h : okO o = true) : roF C6 C7 [.str (oT o)] = .ok (oD o) := by
  have o1 := wc (x := oT o) (by have := pb h; omega)
  rw [rH h] at o1
  have ho : dl [oD o] = .ok (.bl true) := by
    show (if bN 3 (oD o) = true then R.ok (D.bl (bq (oD o))) else .no) = _
    rw [if_pos (kT h), fN, h]
  have t1 := rS (C := C6) h
  have n5 : ∀ z : List Nat, (z == z) = true := fun z => by simp
  show aC (aL _ _ [some (.val (.str (oT o))), none]) = _
  unfold dq cX cW
  generalize oD o = d at *
  generalize oT o = w at *
  clear h
  walk_at "run"
noncomputable def rsF (C6 C7 : Addr) : List D -> R D := fun ds => aC (cg (lnF C7) (roF C6 C7) (aF 1 ds))
theorem ke {C6 C7 : Addr} : ∀ ds : List D, ds.length = 1 -> rsF C6 C7 ds = .no \/ aC (cg (lnF C7) (roF C6 C7) (aF 1 ds)) = rsF C6 C7 ds := fun _ _ => .inr rfl
theorem tB {ge : Ev -> R D} {d : D} {ds : List D} {a : Option Sl} : cc (fR 0) (fun _ => R.ok true) ge (d :: ds) [a] = (ge [some (.val d)] >>= fun x => cc (fR 0) (fun _ => R.ok true) ge ds [some (.val d)] >>= fun xs => .ok (x :: xs)) := rfl
theorem ky {C6 C7 : Addr} : ∀ (ls : List (List Nat)) (a : Option Sl), (∀ x ∈ ls, x.length <= 1000) -> cc (fR 0) (fun _ => R.ok true) (aM 1 (roF C6 C7) (ac (fun ρ => rdV ρ 0) (fun _ => R.ok []))) (ls.map .str) [a] = .ex C7 \/ ∃ os : List Od, (∀ o ∈ os, okO o = true) /\ cc (fR 0) (fun _ => R.ok true) (aM 1 (roF C6 C7) (ac (fun ρ => rdV ρ 0) (fun _ => R.ok []))) (ls.map .str) [a] = .ok (os.map oD) /\ os.map oT = ls
  | [], a, _ => .inr ⟨[], fun o ho => by simp at ho, rfl, rfl⟩
  | x :: ls, a, h => by
    have ih := ky (C6 := C6) (C7 := C7) ls (some (.val (.str x))) fun y hy => h y (List.mem_cons_of_mem _ hy)
    have e1 : (aM 1 (roF C6 C7) (ac (fun ρ => rdV ρ 0) (fun _ => R.ok []))) [some (.val (.str x))] = roF C6 C7 [.str x] := by
      clear ih; walk_at "run"
    rw [List.map_cons, tB, e1]
    rcases Bq (C6 := C6) (C7 := C7) (h x (List.mem_cons_self ..)) with e | ⟨o, ho, e, et⟩
    . rw [e]; exact .inl rfl
    . rw [e, R.ok_bind]
      rcases ih with e2 | ⟨os, h1, e2, h2⟩
      . rw [e2]; exact .inl rfl
      . rw [e2, R.ok_bind]
        refine .inr ⟨o :: os, fun p hp => ?_, rfl, by rw [List.map_cons, et, h2]⟩
        rcases List.mem_cons.1 hp with rfl | hp
        . exact ho
        . exact h1 p hp
theorem kD : ∀ x : List Nat, ∃ l q, aN 10 x = l ++ [q] /\ (l.map fun p => p ++ [10]).flatten ++ q = x /\ (qv x = true -> q = [])
  | [] => ⟨[], [], rfl, rfl, fun _ => rfl⟩
  | d :: r => by
    obtain ⟨l, q, e, ej, eq⟩ := kD r
    by_cases hd : d = 10
    . subst hd
      refine ⟨[] :: l, q, by rw [aN, if_pos rfl, e]; rfl, by simp [ej], fun hb => ?_⟩
      refine eq ?_
      unfold qv at hb ⊢
      cases r with
      | nil => rfl
      | cons c r => simpa using hb
    . cases l with
      | nil =>
        refine ⟨[], d :: q, ?_, ?_, fun hb => ?_⟩
        . rw [aN, if_neg hd, e]; rfl
        . simp at ej ⊢; exact ej
        . exfalso
          cases r with
          | nil => unfold qv at hb; simp at hb; exact hd hb
          | cons c r =>
            have : qv (c :: r) = true := by unfold qv at hb ⊢; simpa using hb
            have := eq this
            subst this
            simp at ej
      | cons p l =>
        refine ⟨(d :: p) :: l, q, ?_, ?_, fun hb => ?_⟩
        . rw [aN, if_neg hd, e]; rfl
        . simp at ej ⊢; exact ej
        . refine eq ?_
          cases r with
          | nil => rfl
          | cons c r => unfold qv at hb ⊢; simpa using hb
theorem vQ {C6 C7 : Addr} {x : List Nat} (hx : x.length <= 1000) : rsF C6 C7 [.str x] = .ex C7 \/ ∃ os : List Od, (∀ o ∈ os, okO o = true) /\ rsF C6 C7 [.str x] = .ok (.lst false (os.map oD)) /\ txL os = x := by
  have lb := bJ
  have l1 := wN (C := C7) hx
  have go : rsF C6 C7 [.str x] = aC (aL (cI (lnF C7) (roF C6 C7)) oNx [some (.val (.str x))]) := rfl
  have it : ∀ (f : Bool) (l : List D), bn (.lst f l) = .ok l := fun _ _ => rfl
  have i1 : ∀ a0 : Option Sl, fh [] [a0] = [none] := fun _ => rfl
  have sl := fH 10 x
  rw [go]
  unfold cI
  cases hb : qv x with
  | false =>
    rw [hb, if_neg (by decide)] at l1
    refine .inl ?_
    clear go hx lb sl
    walk_at "run"
  | true =>
    rw [hb, if_pos rfl] at l1
    obtain ⟨l, q, e, ej, eq⟩ := kD x
    have hq := eq hb
    rw [hq, List.append_nil] at ej
    have ed : (aN 10 x).dropLast = l := by rw [e]; simp
    rw [ed] at l1
    have z : (l.map D.str).length <= sizeLine := by
      have : (aN 10 x).length = l.length + 1 := by rw [e]; simp
      simp; omega
    rcases ky (C6 := C6) (C7 := C7) l none (fun p hp => by have := eD 10 x p (by rw [e]; simp [hp]); omega) with c | ⟨os, h1, c, h2⟩
    . refine .inl ?_
      generalize l.map D.str = u at *
      clear go hx lb sl e ej eq ed hb
      walk_at "run"
    . refine .inr ⟨os, h1, ?_, ?_⟩
      . generalize l.map D.str = u at *
        clear go hx lb sl e ej eq ed hb h2
        walk_at "run"
      . rw [<- ej, <- h2]; unfold txL; rw [List.map_map]; rfl
theorem lj : ∀ {os : List Od}, (∀ o ∈ os, okO o = true) -> aN 10 (txL os) = os.map oT ++ [[]]
  | [], _ => rfl
  | o :: os, h => by
    have ih := lj fun p hp => h p (List.mem_cons_of_mem _ hp)
    have e : txL (o :: os) = oT o ++ 10 :: txL os := by unfold txL; simp
    rw [e, fK _ (ye (h o (List.mem_cons_self ..))), ih]; rfl
theorem sT : ∀ os : List Od, qv (txL os) = true
  | [] => rfl
  | o :: os => by
    have ih := sT os
    have e : txL (o :: os) = (oT o ++ [10]) ++ txL os := rfl
    rw [e]
    unfold qv at ih ⊢
    cases h : txL os with
    | nil => simp
    | cons c r => rw [h] at ih; simp at ih ⊢; exact ih
theorem ph {C6 C7 : Addr} : ∀ (os : List Od) (a : Option Sl), (∀ o ∈ os, okO o = true) -> cc (fR 0) (fun _ => R.ok true) (aM 1 (roF C6 C7) (ac (fun ρ => rdV ρ 0) (fun _ => R.ok []))) ((os.map oT).map .str) [a] = .ok (os.map oD)
  | [], a, _ => rfl
  | o :: os, a, h => by
    have ih := ph (C6 := C6) (C7 := C7) os (some (.val (.str (oT o)))) fun y hy => h y (List.mem_cons_of_mem _ hy)
    have e1 : (aM 1 (roF C6 C7) (ac (fun ρ => rdV ρ 0) (fun _ => R.ok []))) [some (.val (.str (oT o)))] = roF C6 C7 [.str (oT o)] := by
      clear ih; walk_at "run"
    rw [List.map_cons, List.map_cons, tB, e1, Ck (h o (List.mem_cons_self ..)), R.ok_bind, ih]; rfl
theorem CP {C6 C7 : Addr} {os : List Od} (h : ∀ o ∈ os, okO o = true) (hl : os.length <= 10) : rsF C6 C7 [.str (txL os)] = .ok (.lst false (os.map oD)) := by
  have lb := bJ
  have tl := ng h
  have l1 := wN (C := C7) (x := txL os) (by omega)
  rw [sT, if_pos rfl, lj h] at l1
  have ed : (os.map oT ++ [[]]).dropLast = os.map oT := by simp
  rw [ed] at l1
  have c := ph (C6 := C6) (C7 := C7) os none h
  have it : ∀ (f : Bool) (l : List D), bn (.lst f l) = .ok l := fun _ _ => rfl
  have i1 : ∀ a0 : Option Sl, fh [] [a0] = [none] := fun _ => rfl
  have z : ((os.map oT).map D.str).length <= sizeLine := by simp; omega
  show aC (aL _ _ [some (.val (.str (txL os)))]) = _
  unfold cI
  generalize (os.map oT).map D.str = u at *
  generalize os.map oD = v at *
  generalize txL os = w at *
  clear lb tl h hl ed
  walk_at "run"
end Q70
namespace Q70
open L2 Q
open PySem (sizeLine Addr)
noncomputable def dk : Ev -> O := (eJ 3 (g2 hU (fun ρ => rdV ρ 1) (g2 bx (gOf iK (ac (fun ρ => rdV ρ 0) (fun _ => R.ok []))) (fun _ => R.ok (D.int 1)))))
noncomputable def cY : Ev -> O := (eJ 4 (g2 ixD (fun ρ => rdV ρ 2) (g2 hU (g2 gS (fun ρ => rdV ρ 1) (fun _ => R.ok (D.int 1000))) (gOf iK (ac (fun ρ => rdV ρ 2) (fun _ => R.ok []))))))
noncomputable def dj : Ev -> O := (eJ 5 (g2 bx (g2 bx (fun ρ => rdV ρ 3) (fun _ => R.ok (D.int 1))) (g2 hU (g2 gS (fun ρ => rdV ρ 1) (fun _ => R.ok (D.int 7))) (fun _ => R.ok (D.int 9)))))
noncomputable def cS : Ev -> O := (eJ 6 (g2 hU (g2 gS (fun ρ => rdV ρ 1) (fun _ => R.ok (D.int 100000))) (fun _ => R.ok (D.int 8))))
noncomputable def db : Ev -> O := (oIf (gB2 ltD (fun ρ => rdV ρ 6) (fun _ => R.ok (D.int 2))) (aL (bM (g2 bx (g2 bx (gSl (fun ρ => rdV ρ 0) (fun _ => R.ok none) (ce (fun ρ => rdV ρ 3))) (fun ρ => rdV ρ 4)) (gSl (fun ρ => rdV ρ 0) (ce (fun ρ => rdV ρ 3)) (fun _ => R.ok none)))) oNx) oNx)
noncomputable def dh : Ev -> O := (oIf (gB2 eqF (fun ρ => rdV ρ 6) (fun _ => R.ok (D.int 2))) (aL (bM (g2 bx (gSl (fun ρ => rdV ρ 0) (fun _ => R.ok none) (ce (fun ρ => rdV ρ 3))) (gSl (fun ρ => rdV ρ 0) (ce (g2 bx (fun ρ => rdV ρ 3) (fun _ => R.ok (D.int 1)))) (fun _ => R.ok none)))) oNx) oNx)
noncomputable def dm : Ev -> O := (oIf (gB2 ltD (fun ρ => rdV ρ 6) (fun _ => R.ok (D.int 5))) (aL (bM (g2 bx (g2 bx (gSl (fun ρ => rdV ρ 0) (fun _ => R.ok none) (ce (fun ρ => rdV ρ 3))) (fun ρ => rdV ρ 4)) (gSl (fun ρ => rdV ρ 0) (ce (g2 bx (fun ρ => rdV ρ 3) (fun _ => R.ok (D.int 1)))) (fun _ => R.ok none)))) oNx) oNx)
noncomputable def cV : Ev -> O := (oIf (gB2 eqF (fun ρ => rdV ρ 6) (fun _ => R.ok (D.int 5))) (aL (bM (g2 bx (gSl (fun ρ => rdV ρ 0) (fun _ => R.ok none) (ce (fun ρ => rdV ρ 3))) (gSl (fun ρ => rdV ρ 0) (ce (fun ρ => rdV ρ 5)) (fun _ => R.ok none)))) oNx) oNx)
noncomputable def da : Ev -> O := (oIf (gB2 eqF (fun ρ => rdV ρ 6) (fun _ => R.ok (D.int 6))) (aL (bM (g2 bx (gSl (fun ρ => rdV ρ 0) (fun _ => R.ok none) (ce (fun ρ => rdV ρ 5))) (gSl (fun ρ => rdV ρ 0) (ce (fun ρ => rdV ρ 3)) (fun _ => R.ok none)))) oNx) oNx)
noncomputable def cK : Ev -> O := (bM (g2 ixD (bh (gD (ac (g2 bx (fun ρ => rdV ρ 0) (fun _ => R.ok (D.str [32]))) (ac (g2 bx (fun _ => R.ok (D.str [32])) (fun ρ => rdV ρ 0)) (ac (g2 bx (gSl (fun ρ => rdV ρ 0) (ce (fun ρ => rdV ρ 3)) (fun _ => R.ok none)) (gSl (fun ρ => rdV ρ 0) (fun _ => R.ok none) (ce (fun ρ => rdV ρ 3)))) (ac (fun _ => R.ok (D.str [])) (ac (g2 bx (fun ρ => rdV ρ 0) (fun ρ => rdV ρ 0)) (fun _ => R.ok [])))))))) (g2 hU (fun ρ => rdV ρ 1) (fun _ => R.ok (D.int 5)))))
noncomputable def cG : Ev -> O := (aL dk (aL cY (aL dj (aL cS (aL db (aL dh (aL dm (aL cV (aL da (aL cK oNx))))))))))
noncomputable def doF (FW : List D -> R D) (C6 C7 : Addr) : List D -> R D := fun ds => aC (fI (otF C6) (osF C6) (rsF C6 C7) FW [C6, C7] (aF 5 ds))
theorem rN {ar ae aB au ax aA ah : Addr} {FW : List D -> R D} (nd : [ar, ae, aB, au, ax, aA, ah].Nodup) : ∀ ds : List D, ds.length = 2 -> doF FW ae ah ds = .no \/ aC (fI (otF ae) (osF ae) (rsF ae ah) FW [ae, ah] (aF 5 ds)) = doF FW ae ah ds := fun _ _ => .inr rfl
section
variable {FW : List D -> R D} {C6 C7 C : Addr} {a x w : D}
theorem wO (h : otF C6 [a] = .ok x) : doF FW C6 C7 [.int 0, a] = .ok x := by
  have i1 : isF .non .non = some (.bl true) := rfl
  show aC (aL _ _ [some (.val (.int 0)), some (.val a), none, none, none]) = _
  unfold dE dJ dz dA dv
  walk_at "run"
  all_goals rfl
theorem AR (h : otF C6 [a] = .ex C) (hC : C ∈ [C6, C7]) (hw : FW [.exc C] = .ok w) : doF FW C6 C7 [.int 0, a] = .ok w := by
  have hv : mz [C6, C7] C = some true := if_pos hC
  have i2 : ∀ C, isF (.exc C) .non = some (.bl false) := fun _ => rfl
  show aC (aL _ _ [some (.val (.int 0)), some (.val a), none, none, none]) = _
  unfold dE dJ dz dA dv
  clear hC
  walk_at "run"
  all_goals rfl
theorem zY (h : osF C6 [a] = .ok x) : doF FW C6 C7 [.int 1, a] = .ok x := by
  have i1 : isF .non .non = some (.bl true) := rfl
  show aC (aL _ _ [some (.val (.int 1)), some (.val a), none, none, none]) = _
  unfold dE dJ dz dA dv
  walk_at "run"
  all_goals rfl
theorem Bk (h : osF C6 [a] = .ex C) (hC : C ∈ [C6, C7]) (hw : FW [.exc C] = .ok w) : doF FW C6 C7 [.int 1, a] = .ok w := by
  have hv : mz [C6, C7] C = some true := if_pos hC
  have i2 : ∀ C, isF (.exc C) .non = some (.bl false) := fun _ => rfl
  show aC (aL _ _ [some (.val (.int 1)), some (.val a), none, none, none]) = _
  unfold dE dJ dz dA dv
  clear hC
  walk_at "run"
  all_goals rfl
theorem vT (h : rsF C6 C7 [a] = .ok x) : doF FW C6 C7 [.int 2, a] = .ok x := by
  have i1 : isF .non .non = some (.bl true) := rfl
  show aC (aL _ _ [some (.val (.int 2)), some (.val a), none, none, none]) = _
  unfold dE dJ dz dA dv
  walk_at "run"
  all_goals rfl
theorem wg (h : rsF C6 C7 [a] = .ex C) (hC : C ∈ [C6, C7]) (hw : FW [.exc C] = .ok w) : doF FW C6 C7 [.int 2, a] = .ok w := by
  have hv : mz [C6, C7] C = some true := if_pos hC
  have i2 : ∀ C, isF (.exc C) .non = some (.bl false) := fun _ => rfl
  show aC (aL _ _ [some (.val (.int 2)), some (.val a), none, none, none]) = _
  unfold dE dJ dz dA dv
  clear hC
  walk_at "run"
  all_goals rfl
end
noncomputable def ltF : List D -> R D := fun ds => aC (dW (aF 4 ds))
theorem nO : ∀ ds : List D, ds.length = 1 -> ltF ds = .no \/ aC (dW (aF 4 ds)) = ltF ds := fun _ _ => .inr rfl
theorem yv (x0 x3 : Option Sl) (w : List Nat) (o : Od) (h : okO o = true) (hw : w.length <= 1000) : ∃ y3, cw [x0, some (.val (.str w)), some (.val (oD o)), x3] = .nx [x0, some (.val (.str (w ++ (oT o ++ [10])))), some (.val (oD o)), y3] := by
  have lb := bJ
  have it : ∀ l : List D, bn (.tup l) = .ok l := fun _ => rfl
  have ad : ∀ y z : List Nat, y.length + z.length <= 20000 -> bx (.str y) (.str z) = some (.str (y ++ z)) := fun y z h => lL (by omega)
  cases o with
  | say x =>
    simp only [okO, Bool.and_eq_true, decide_eq_true_eq] at h
    refine ⟨some (.val (.str x)), ?_⟩
    have a1 := ad w [115, 97, 121] (by simp; omega)
    have a2 := ad (w ++ [115, 97, 121]) [32] (by simp; omega)
    have a3 := ad (w ++ [115, 97, 121] ++ [32]) x (by simp; omega)
    have a4 := ad (w ++ [115, 97, 121] ++ [32] ++ x) [10] (by simp; omega)
    have e : w ++ [115, 97, 121] ++ [32] ++ x ++ [10] = w ++ (oT (.say x) ++ [10]) := by simp [oT]
    rw [e] at a4
    have y0 : ixD (oD (.say x)) (.int 0) = some (.str [115, 97, 121]) := rfl
    have cu : tH (some 1) none (oD (.say x)) = some (.tup [.str x]) := rfl
    have s1 : oq [.str x] = some (.str x) := rfl
    have lp : cC (fR 3) br [.str x] [x0, some (.val (.str (w ++ [115, 97, 121]))), some (.val (oD (.say x))), x3] = .nx [x0, some (.val (.str (w ++ [115, 97, 121] ++ [32] ++ x))), some (.val (oD (.say x))), some (.val (.str x))] := by
      have hB : br [x0, some (.val (.str (w ++ [115, 97, 121]))), some (.val (oD (.say x))), some (.val (.str x))] = .nx [x0, some (.val (.str (w ++ [115, 97, 121] ++ [32] ++ x))), some (.val (oD (.say x))), some (.val (.str x))] := by
        unfold br
        generalize oD (.say x) = d at *
        generalize w ++ [115, 97, 121] ++ [32] ++ x = w3 at *
        generalize w ++ [115, 97, 121] ++ [32] = w2 at *
        generalize w ++ [115, 97, 121] = w1 at *
        clear a1 a4 e ad lb h hw y0 cu it
        walk_at "run"
      rw [eB (ρ1 := [x0, some (.val (.str (w ++ [115, 97, 121]))), some (.val (oD (.say x))), some (.val (.str x))]) rfl hB]; rfl
    unfold cw
    generalize oD (.say x) = d at *
    generalize w ++ (oT (.say x) ++ [10]) = w4 at *
    generalize w ++ [115, 97, 121] ++ [32] ++ x = w3 at *
    generalize w ++ [115, 97, 121] ++ [32] = w2 at *
    generalize w ++ [115, 97, 121] = w1 at *
    clear e ad lb h hw a2 a3
    walk_at "run"
  | go r c =>
    simp only [okO, Bool.and_eq_true, decide_eq_true_eq] at h
    have g := mD h.1 h.2
    refine ⟨some (.val (.int (c : Int))), ?_⟩
    have a1 := ad w [103, 111] (by simp; omega)
    have a2 := ad (w ++ [103, 111]) [32] (by simp; omega)
    have a3 := ad (w ++ [103, 111] ++ [32]) (bF r) (by simp; omega)
    have a5 := ad (w ++ [103, 111] ++ [32] ++ bF r) [32] (by simp; omega)
    have a6 := ad (w ++ [103, 111] ++ [32] ++ bF r ++ [32]) (bF c) (by simp; omega)
    have a4 := ad (w ++ [103, 111] ++ [32] ++ bF r ++ [32] ++ bF c) [10] (by simp; omega)
    have e : w ++ [103, 111] ++ [32] ++ bF r ++ [32] ++ bF c ++ [10] = w ++ (oT (.go r c) ++ [10]) := by simp [oT]
    rw [e] at a4
    have y0 : ixD (oD (.go r c)) (.int 0) = some (.str [103, 111]) := rfl
    have cu : tH (some 1) none (oD (.go r c)) = some (.tup [.int (r : Int), .int (c : Int)]) := rfl
    have st : ∀ n : Nat, n < 10000000000 -> oq [.int (n : Int)] = some (.str (bF n)) := fun n hn => by
      show (if 0 <= (n : Int) /\ (n : Int) < 10000000000 then some (D.str (bF (n : Int).toNat)) else none) = _
      rw [if_pos (by omega), Int.toNat_natCast]
    have s1 := st r (by omega)
    have s2 := st c (by omega)
    have lp : cC (fR 3) br [.int (r : Int), .int (c : Int)] [x0, some (.val (.str (w ++ [103, 111]))), some (.val (oD (.go r c))), x3] = .nx [x0, some (.val (.str (w ++ [103, 111] ++ [32] ++ bF r ++ [32] ++ bF c))), some (.val (oD (.go r c))), some (.val (.int (c : Int)))] := by
      have hB : br [x0, some (.val (.str (w ++ [103, 111]))), some (.val (oD (.go r c))), some (.val (.int (r : Int)))] = .nx [x0, some (.val (.str (w ++ [103, 111] ++ [32] ++ bF r))), some (.val (oD (.go r c))), some (.val (.int (r : Int)))] := by
        unfold br
        generalize oD (.go r c) = d at *
        generalize w ++ [103, 111] ++ [32] ++ bF r = w3 at *
        generalize w ++ [103, 111] ++ [32] = w2 at *
        generalize w ++ [103, 111] = w1 at *
        clear a1 a4 a5 a6 e ad lb h hw y0 cu it st g s2
        walk_at "run"
      have hB2 : br [x0, some (.val (.str (w ++ [103, 111] ++ [32] ++ bF r))), some (.val (oD (.go r c))), some (.val (.int (c : Int)))] = .nx [x0, some (.val (.str (w ++ [103, 111] ++ [32] ++ bF r ++ [32] ++ bF c))), some (.val (oD (.go r c))), some (.val (.int (c : Int)))] := by
        unfold br
        generalize oD (.go r c) = d at *
        generalize w ++ [103, 111] ++ [32] ++ bF r ++ [32] ++ bF c = w5 at *
        generalize w ++ [103, 111] ++ [32] ++ bF r ++ [32] = w4 at *
        generalize w ++ [103, 111] ++ [32] ++ bF r = w3 at *
        clear a1 a2 a3 a4 e ad lb h hw y0 cu it st g s1 hB
        walk_at "run"
      rw [eB (ρ1 := [x0, some (.val (.str (w ++ [103, 111]))), some (.val (oD (.go r c))), some (.val (.int (r : Int)))]) rfl hB, eB (ρ1 := [x0, some (.val (.str (w ++ [103, 111] ++ [32] ++ bF r))), some (.val (oD (.go r c))), some (.val (.int (c : Int)))]) rfl hB2]; rfl
    unfold cw
    generalize oD (.go r c) = d at *
    generalize w ++ (oT (.go r c) ++ [10]) = w6 at *
    generalize w ++ [103, 111] ++ [32] ++ bF r ++ [32] ++ bF c = w5 at *
    generalize w ++ [103, 111] ++ [32] ++ bF r ++ [32] = w4 at *
    generalize w ++ [103, 111] ++ [32] ++ bF r = w3 at *
    generalize w ++ [103, 111] ++ [32] = w2 at *
    generalize w ++ [103, 111] = w1 at *
    clear e ad lb h hw a2 a3 a5 a6 st g s1 s2
    walk_at "run"
  | wipe =>
    refine ⟨x3, ?_⟩
    have a1 := ad w [119, 105, 112, 101] (by simp; omega)
    have a4 := ad (w ++ [119, 105, 112, 101]) [10] (by simp; omega)
    have e : w ++ [119, 105, 112, 101] ++ [10] = w ++ (oT .wipe ++ [10]) := by simp [oT]
    rw [e] at a4
    have y0 : ixD (oD .wipe) (.int 0) = some (.str [119, 105, 112, 101]) := rfl
    have cu : tH (some 1) none (oD .wipe) = some (.tup []) := rfl
    have ln := uG (fR 3) br
    unfold cw
    generalize oD .wipe = d at *
    generalize w ++ (oT .wipe ++ [10]) = w6 at *
    generalize w ++ [119, 105, 112, 101] = w1 at *
    clear e ad lb h hw
    walk_at "run"
theorem qR (x0 : Option Sl) : ∀ (os : List Od) (w : List Nat) (x2 x3 : Option Sl), (∀ o ∈ os, okO o = true) -> w.length + (txL os).length <= 1000 -> ∃ y2 y3, cC (fR 2) cw (os.map oD) [x0, some (.val (.str w)), x2, x3] = .nx [x0, some (.val (.str (w ++ txL os))), y2, y3]
  | [], w, x2, x3, _, _ => ⟨x2, x3, by show O.nx _ = _; simp [txL]⟩
  | o :: os, w, x2, x3, h, hl => by
    have el : (txL (o :: os)).length = (oT o ++ [10]).length + (txL os).length := by rw [<- List.length_append]; rfl
    obtain ⟨y3, hB⟩ := yv x0 x3 w o (h o (List.mem_cons_self ..)) (by omega)
    obtain ⟨z2', z3, ih⟩ := qR x0 os (w ++ (oT o ++ [10])) (some (.val (oD o))) y3 (fun p hp => h p (List.mem_cons_of_mem _ hp)) (by rw [List.length_append]; omega)
    refine ⟨z2', z3, ?_⟩
    rw [List.map_cons, eB (ρ1 := [x0, some (.val (.str w)), some (.val (oD o)), x3]) rfl hB, ih]
    have e : w ++ (oT o ++ [10]) ++ txL os = w ++ txL (o :: os) := by rw [List.append_assoc]; rfl
    rw [e]
theorem xr {f : Bool} {os : List Od} (h : ∀ o ∈ os, okO o = true) (hl : (txL os).length <= 1000) : ltF [.lst f (os.map oD)] = .ok (.str (txL os)) := by
  obtain ⟨y2, y3, hL⟩ := qR (some (.val (.lst f (os.map oD)))) os [] none none h (by simp; omega)
  have e : ([] : List Nat) ++ txL os = txL os := rfl
  rw [e] at hL
  have it : ∀ (f : Bool) (l : List D), bn (.lst f l) = .ok l := fun _ _ => rfl
  show aC (aL _ _ [some (.val (.lst f (os.map oD))), none, none, none]) = _
  unfold jR jd jV
  generalize os.map oD = u at *
  generalize txL os = w at *
  clear h hl e
  walk_at "run"
noncomputable def spF : List D -> R D := fun ds => aC (cG (aF 7 ds))
theorem lK : ∀ ds : List D, ds.length = 3 -> spF ds = .no \/ aC (cG (aF 7 ds)) = spF ds := fun _ _ => .inr rfl
theorem yx {x : List Nat} (hx : x.length <= 240) (c : Nat) : ∃ z, spF [.str x, .int (c : Int), .str [32, 48, 49, 50, 57, 10, 115, 97, 121, 103, 111, 119, 105, 112, 101, 126]] = .ok (.str z) /\ z.length <= 900 := by
  have lb := bJ
  obtain ⟨at_, h1⟩ : ∃ a, hU (.int (c : Int)) (.int ((x.length : Int) + 1)) = some (.int a) := ⟨_, by simp only [hU]; exact if_pos (by omega)⟩
  obtain ⟨q1, h2⟩ : ∃ a, gS (.int (c : Int)) (.int 1000) = some (.int a) := ⟨_, by simp only [gS]; exact if_pos (by omega)⟩
  obtain ⟨s, h3, h4⟩ : ∃ s i, hU (.int q1) (.int 16) = some (.int i) /\ ixD (.str [32, 48, 49, 50, 57, 10, 115, 97, 121, 103, 111, 119, 105, 112, 101, 126]) (.int i) = some (.str [s]) := by
    have hr : 0 <= q1 % 16 /\ q1 % 16 < 16 := ⟨Int.emod_nonneg _ (by omega), Int.emod_lt_of_pos _ (by omega)⟩
    have : ∃ s, ixD (.str [32, 48, 49, 50, 57, 10, 115, 97, 121, 103, 111, 119, 105, 112, 101, 126]) (.int (q1 % 16)) = some (.str [s]) := by
      generalize q1 % 16 = v at hr
      have : v = 0 \/ v = 1 \/ v = 2 \/ v = 3 \/ v = 4 \/ v = 5 \/ v = 6 \/ v = 7 \/ v = 8 \/ v = 9 \/ v = 10 \/ v = 11 \/ v = 12 \/ v = 13 \/ v = 14 \/ v = 15 := by omega
      rcases this with rfl | rfl | rfl | rfl | rfl | rfl | rfl | rfl | rfl | rfl | rfl | rfl | rfl | rfl | rfl | rfl <;> exact ⟨_, rfl⟩
    obtain ⟨s, hs⟩ := this
    exact ⟨s, _, by simp only [hU]; exact if_pos (by omega), hs⟩
  obtain ⟨h4, h5⟩ := h4
  obtain ⟨q7, h6⟩ : ∃ a, gS (.int (c : Int)) (.int 7) = some (.int a) := ⟨_, by simp only [gS]; exact if_pos (by omega)⟩
  obtain ⟨m9, h7⟩ : ∃ a, hU (.int q7) (.int 9) = some (.int a) := ⟨_, by simp only [hU]; exact if_pos (by omega)⟩
  obtain ⟨qh, h8⟩ : ∃ a, gS (.int (c : Int)) (.int 100000) = some (.int a) := ⟨_, by simp only [gS]; exact if_pos (by omega)⟩
  obtain ⟨way, h9, w0, w8⟩ : ∃ a, hU (.int qh) (.int 8) = some (.int a) /\ 0 <= a /\ a < 8 := ⟨qh % 8, by simp only [hU]; exact if_pos (by omega), Int.emod_nonneg _ (by omega), Int.emod_lt_of_pos _ (by omega)⟩
  obtain ⟨m5, h10, v0, v5⟩ : ∃ a, hU (.int (c : Int)) (.int 5) = some (.int a) /\ 0 <= a /\ a < 5 := ⟨(c : Int) % 5, by simp only [hU]; exact if_pos (by omega), Int.emod_nonneg _ (by omega), Int.emod_lt_of_pos _ (by omega)⟩
  have l1 := hV x none (some at_)
  have l2 := hV x (some at_) none
  have l3 := hV x (some (at_ + 1)) none
  have l4 := hV x (some (at_ + 1 + m9)) none
  have l5 := hV x none (some (at_ + 1 + m9))
  have h4' : hU (.int q1) (.int ((16 : Nat) : Int)) = some (.int h3) := h4
  have z5 : 5 <= sizeLine := by omega
  show ∃ z, aC (aL _ _ [some (.val (.str x)), some (.val (.int (c : Int))), some (.val (.str [32, 48, 49, 50, 57, 10, 115, 97, 121, 103, 111, 119, 105, 112, 101, 126])), none, none, none, none]) = _ /\ _
  unfold dk cY dj cS db dh dm cV da cK
  generalize e1 : fL x none (some at_) = u1 at *
  generalize e2 : fL x (some at_) none = u2 at *
  generalize e3 : fL x (some (at_ + 1)) none = u3 at *
  generalize e4 : fL x (some (at_ + 1 + m9)) none = u4 at *
  generalize e5 : fL x none (some (at_ + 1 + m9)) = u5 at *
  have ad : ∀ y z : List Nat, y.length + z.length <= 20000 -> bx (.str y) (.str z) = some (.str (y ++ z)) := fun y z h => lL (by omega)
  have a1 := ad u1 [s] (by simp; omega)
  have a2 := ad (u1 ++ [s]) u2 (by simp; omega)
  have a3 := ad u1 u3 (by omega)
  have a4 := ad (u1 ++ [s]) u3 (by simp; omega)
  have a5 := ad u1 u4 (by omega)
  have a6 := ad u5 u2 (by omega)
  have a7 := ad x [32] (by simp; omega)
  have a8 := ad [32] x (by simp; omega)
  have a9 := ad u2 u1 (by omega)
  have a10 := ad x x (by omega)
  have lens : (u1 ++ [s] ++ u2).length <= 900 /\ (u1 ++ u3).length <= 900 /\ (u1 ++ [s] ++ u3).length <= 900 /\ (u1 ++ u4).length <= 900 /\ (u5 ++ u2).length <= 900 /\ (x ++ [32]).length <= 900 /\ ([32] ++ x).length <= 900 /\ (u2 ++ u1).length <= 900 /\ (x ++ x).length <= 900 := by
    simp only [List.length_append, List.length_cons, List.length_nil]; omega
  obtain ⟨n1, n2, n3, n4, n5, n6, n7, n8, n9⟩ := lens
  clear l1 l2 l3 l4 l5 ad lb
  generalize h12 : u1 ++ [s] = u12 at *
  generalize u12 ++ u2 = r1 at *
  generalize u1 ++ u3 = r2 at *
  generalize u12 ++ u3 = r3 at *
  generalize u1 ++ u4 = r4 at *
  generalize u5 ++ u2 = r5 at *
  generalize x ++ [32] = r6 at *
  generalize h7' : [32] ++ x = r7 at *
  generalize u2 ++ u1 = r8 at *
  generalize x ++ x = r9 at *
  clear h12 h7'
  have cs : ∃ z, (z ∈ [r1, r2, r3, r4, r5, r6, r7, r8, [], r9]) /\ aC ((aL dk (aL cY (aL dj (aL cS (aL db (aL dh (aL dm (aL cV (aL da (aL cK oNx)))))))))) [some (.val (.str x)), some (.val (.int (c : Int))), some (.val (.str [32, 48, 49, 50, 57, 10, 115, 97, 121, 103, 111, 119, 105, 112, 101, 126])), none, none, none, none]) = .ok (.str z) := by
    unfold dk cY dj cS db dh dm cV da cK
    clear n1 n2 n3 n4 n5 n6 n7 n8 n9 hx
    have W : way = 0 \/ way = 1 \/ way = 2 \/ way = 3 \/ way = 4 \/ way = 5 \/ way = 6 \/ way = 7 := by omega
    clear w0 w8
    rcases W with rfl | rfl | rfl | rfl | rfl | rfl | rfl | rfl
    . refine ⟨r1, by simp, ?_⟩; walk_at "run"; all_goals rfl
    . refine ⟨r1, by simp, ?_⟩; walk_at "run"; all_goals rfl
    . refine ⟨r2, by simp, ?_⟩; walk_at "run"; all_goals rfl
    . refine ⟨r3, by simp, ?_⟩; walk_at "run"; all_goals rfl
    . refine ⟨r3, by simp, ?_⟩; walk_at "run"; all_goals rfl
    . refine ⟨r4, by simp, ?_⟩; walk_at "run"; all_goals rfl
    . refine ⟨r5, by simp, ?_⟩; walk_at "run"; all_goals rfl
    . have V : m5 = 0 \/ m5 = 1 \/ m5 = 2 \/ m5 = 3 \/ m5 = 4 := by omega
      clear v0 v5
      rcases V with rfl | rfl | rfl | rfl | rfl
      . refine ⟨r6, by simp, ?_⟩; walk_at "run"; all_goals rfl
      . refine ⟨r7, by simp, ?_⟩; walk_at "run"; all_goals rfl
      . refine ⟨r8, by simp, ?_⟩; walk_at "run"; all_goals rfl
      . refine ⟨[], by simp, ?_⟩; walk_at "run"; all_goals rfl
      . refine ⟨r9, by simp, ?_⟩; walk_at "run"; all_goals rfl
  obtain ⟨z, hz, e⟩ := cs
  refine ⟨z, e, ?_⟩
  simp only [List.mem_cons, List.mem_nil_iff, or_false] at hz
  rcases hz with rfl | rfl | rfl | rfl | rfl | rfl | rfl | rfl | rfl | rfl <;> first | assumption | simp
end Q70
namespace Q70
open L2 Q
open PySem (sizeLine Addr)
noncomputable def wx (af ay : List D -> R D) (aE av : List D -> R D) (am ag : List D -> R D) : Ev -> O := (wD 1 (gD (fun _ => R.ok [])))
noncomputable def mW (af ay : List D -> R D) (aE av : List D -> R D) (am ag : List D -> R D) : Ev -> O := (aL (wD 3 (gD (ac (aH mkT (ac (fun _ => R.ok (D.str [119, 105, 112, 101])) (fun _ => R.ok []))) (ac (aH mkT (ac (fun _ => R.ok (D.str [103, 111])) (ac (aM 3 af (ac (fun ρ => rdV ρ 0) (ac (g2 bx (fun _ => R.ok (D.int 10)) (fun ρ => rdV ρ 2)) (ac (fun _ => R.ok (D.int 12)) (fun _ => R.ok []))))) (ac (aM 3 af (ac (fun ρ => rdV ρ 0) (ac (g2 bx (fun _ => R.ok (D.int 20)) (fun ρ => rdV ρ 2)) (ac (fun _ => R.ok (D.int 41)) (fun _ => R.ok []))))) (fun _ => R.ok []))))) (fun _ => R.ok []))))) (aL (Bv 3 (aH mkT (ac (fun _ => R.ok (D.str [115, 97, 121])) (ac (g2 ixD (bh (gD (ac (fun _ => R.ok (D.str [97])) (ac (fun _ => R.ok (D.str [32])) (ac (fun _ => R.ok (D.str [103, 111, 32, 49, 32, 50])) (ac (fun _ => R.ok (D.str [119, 105, 112, 101])) (ac (fun _ => R.ok (D.str [126, 32, 115, 97, 121])) (ac (fun _ => R.ok (D.str [32, 120, 32])) (fun _ => R.ok []))))))))) (aM 3 af (ac (fun ρ => rdV ρ 0) (ac (g2 bx (fun _ => R.ok (D.int 30)) (fun ρ => rdV ρ 2)) (ac (fun _ => R.ok (D.int 6)) (fun _ => R.ok [])))))) (fun _ => R.ok []))))) (aL (vC 3 1 (g2 ixD (fun ρ => rdV ρ 3) (aM 3 af (ac (fun ρ => rdV ρ 0) (ac (g2 bx (fun _ => R.ok (D.int 40)) (fun ρ => rdV ρ 2)) (ac (fun _ => R.ok (D.int 3)) (fun _ => R.ok []))))))) oNx)))
noncomputable def wE (af ay : List D -> R D) (aE av : List D -> R D) (am ag : List D -> R D) : Ev -> O := (sD (fR 2) (aH cy (ac (aM 3 af (ac (fun ρ => rdV ρ 0) (ac (fun _ => R.ok (D.int 0)) (ac (fun _ => R.ok (D.int 6)) (fun _ => R.ok []))))) (fun _ => R.ok []))) (mW af ay aE av am ag))
noncomputable def wJ (af ay : List D -> R D) (aE av : List D -> R D) (am ag : List D -> R D) : Ev -> O := (eJ 4 (aM 1 ay (ac (fun ρ => rdV ρ 1) (fun _ => R.ok []))))
noncomputable def wL (af ay : List D -> R D) (aE av : List D -> R D) (am ag : List D -> R D) : Ev -> O := (oIf (rF (gB2 neF (aM 2 aE (ac (fun _ => R.ok (D.int 1)) (ac (fun ρ => rdV ρ 1) (fun _ => R.ok [])))) (fun ρ => rdV ρ 4)) (gB2 neF (aM 2 aE (ac (fun _ => R.ok (D.int 2)) (ac (fun ρ => rdV ρ 4) (fun _ => R.ok [])))) (fun ρ => rdV ρ 1))) (aL (bM (fun _ => R.ok (D.bl false))) oNx) oNx)
noncomputable def wH (af ay : List D -> R D) (aE av : List D -> R D) (am ag : List D -> R D) : Ev -> O := (oIf (gB2 neF (bh (gz (aH bn (fun ρ => rdV ρ 1)) [] (fun _ => R.ok true) (aM 2 aE (ac (fun _ => R.ok (D.int 0)) (ac (fun ρ => rdV ρ 0) (fun _ => R.ok [])))))) (bh (gz (aH bn (fun ρ => rdV ρ 1)) [] (fun _ => R.ok true) (gSl (aM 1 ay (ac (bh (gD (ac (fun ρ => rdV ρ 0) (fun _ => R.ok [])))) (fun _ => R.ok []))) (fun _ => R.ok none) (ce (aH qA (fun _ => R.ok (D.int 1)))))))) (aL (bM (fun _ => R.ok (D.bl false))) oNx) oNx)
noncomputable def oQ (af ay : List D -> R D) (aE av : List D -> R D) (am ag : List D -> R D) : Ev -> O := (aL (eJ 5 (aM 3 av (ac (fun ρ => rdV ρ 4) (ac (aM 3 af (ac (fun ρ => rdV ρ 0) (ac (g2 bx (fun _ => R.ok (D.int 50)) (fun ρ => rdV ρ 2)) (ac (g2 zd (fun _ => R.ok (D.int 10)) (fun _ => R.ok (D.int 9))) (fun _ => R.ok []))))) (ac (fun _ => R.ok (D.str [32, 48, 49, 50, 57, 10, 115, 97, 121, 103, 111, 119, 105, 112, 101, 126])) (fun _ => R.ok [])))))) (aL (eJ 6 (aM 2 aE (ac (fun _ => R.ok (D.int 2)) (ac (fun ρ => rdV ρ 5) (fun _ => R.ok []))))) (aL (oIf (nH (gB2 neF (fun ρ => rdV ρ 6) (fun _ => R.ok (D.str [110, 111, 32, 116, 101, 120, 116]))) (gB2 neF (bh (gz (aH bn (fun ρ => rdV ρ 6)) [] (gBn (aH iu (aM 1 am (ac (fun ρ => rdV ρ 0) (fun _ => R.ok []))))) (fun ρ => rdV ρ 0))) (bh (gD (fun _ => R.ok []))))) (aL (bM (fun _ => R.ok (D.bl false))) oNx) oNx) (aL (oIf (nH (gB2 neF (fun ρ => rdV ρ 6) (fun _ => R.ok (D.str [110, 111, 32, 116, 101, 120, 116]))) (gB2 neF (aM 1 ay (ac (fun ρ => rdV ρ 6) (fun _ => R.ok []))) (fun ρ => rdV ρ 5))) (aL (bM (fun _ => R.ok (D.bl false))) oNx) oNx) oNx))))
noncomputable def vZ (af ay : List D -> R D) (aE av : List D -> R D) (am ag : List D -> R D) : Ev -> O := (sD (fR 2) (aH cy (ac (fun _ => R.ok (D.int 6)) (fun _ => R.ok []))) (oQ af ay aE av am ag))
noncomputable def wv (af ay : List D -> R D) (aE av : List D -> R D) (am ag : List D -> R D) : Ev -> O := (wD 7 (gD (ac (fun _ => R.ok (D.str [97])) (ac (fun _ => R.ok (D.str [115, 97, 121, 10])) (ac (fun _ => R.ok (D.str [115, 97, 121, 32, 10])) (ac (fun _ => R.ok (D.str [119, 105, 112, 101])) (ac (fun _ => R.ok (D.str [119, 105, 112, 101, 32, 10])) (ac (fun _ => R.ok (D.str [103, 111, 32, 49, 10])) (ac (fun _ => R.ok (D.str [103, 111, 32, 49, 50, 32, 48, 10])) (ac (fun _ => R.ok (D.str [103, 111, 32, 48, 32, 52, 49, 10])) (ac (fun _ => R.ok (D.str [103, 111, 32, 48, 49, 32, 50, 10])) (fun _ => R.ok []))))))))))))
noncomputable def rq (af ay : List D -> R D) (aE av : List D -> R D) (am ag : List D -> R D) : Ev -> O := (wF 7 (bh (gD (ac (fun _ => R.ok (D.str [103, 111, 32, 32, 49, 32, 50, 10])) (ac (fun _ => R.ok (D.str [10])) (fun _ => R.ok []))))))
noncomputable def sP (af ay : List D -> R D) (aE av : List D -> R D) (am ag : List D -> R D) : Ev -> O := (wF 7 (bh (gD (ac (g2 bx (g2 bx (fun _ => R.ok (D.str [115, 97, 121, 32])) (g2 kM (fun _ => R.ok (D.str [97])) (fun _ => R.ok (D.int 41)))) (fun _ => R.ok (D.str [10]))) (ac (fun _ => R.ok (D.str [103, 111, 32, 49, 32, 50, 32, 51, 10])) (ac (fun _ => R.ok (D.str [103, 111, 32, 45, 49, 32, 48, 10])) (fun _ => R.ok [])))))))
noncomputable def sw (af ay : List D -> R D) (aE av : List D -> R D) (am ag : List D -> R D) : Ev -> O := (oIf (gB2 neF (aM 2 aE (ac (fun _ => R.ok (D.int 2)) (ac (g2 ixD (fun ρ => rdV ρ 7) (aM 3 af (ac (fun ρ => rdV ρ 0) (ac (fun _ => R.ok (D.int 60)) (ac (fun _ => R.ok (D.int 14)) (fun _ => R.ok [])))))) (fun _ => R.ok [])))) (fun _ => R.ok (D.str [110, 111, 32, 116, 101, 120, 116]))) (aL (bM (fun _ => R.ok (D.bl false))) oNx) oNx)
noncomputable def qQ (af ay : List D -> R D) (aE av : List D -> R D) (am ag : List D -> R D) : Ev -> O := (eJ 8 (aM 3 ag (ac (fun ρ => rdV ρ 0) (ac (fun _ => R.ok (D.int 70)) (ac (aH mkT (ac (fun _ => R.ok (D.str [103, 111])) (ac (fun _ => R.ok (D.int 1)) (ac (fun _ => R.ok (D.int 2)) (fun _ => R.ok []))))) (fun _ => R.ok []))))))
noncomputable def sQ (af ay : List D -> R D) (aE av : List D -> R D) (am ag : List D -> R D) : Ev -> O := (oIf (aH iu (aM 1 am (ac (fun ρ => rdV ρ 8) (fun _ => R.ok [])))) (aL (bM (g2 eqF (aM 2 aE (ac (fun _ => R.ok (D.int 0)) (ac (fun ρ => rdV ρ 8) (fun _ => R.ok [])))) (gSl (aM 1 ay (ac (bh (gD (ac (fun ρ => rdV ρ 8) (fun _ => R.ok [])))) (fun _ => R.ok []))) (fun _ => R.ok none) (ce (aH qA (fun _ => R.ok (D.int 1))))))) oNx) oNx)
noncomputable def qI (af ay : List D -> R D) (aE av : List D -> R D) (am ag : List D -> R D) : Ev -> O := (bM (g2 eqF (bh (gD (ac (aM 2 aE (ac (fun _ => R.ok (D.int 0)) (ac (fun ρ => rdV ρ 8) (fun _ => R.ok [])))) (ac (aM 2 aE (ac (fun _ => R.ok (D.int 1)) (ac (g2 bx (fun ρ => rdV ρ 1) (bh (gD (ac (fun ρ => rdV ρ 8) (fun _ => R.ok []))))) (fun _ => R.ok [])))) (fun _ => R.ok []))))) (g2 kM (bh (gD (ac (fun _ => R.ok (D.str [110, 111, 32, 111, 114, 100, 101, 114])) (fun _ => R.ok [])))) (fun _ => R.ok (D.int 2)))))
noncomputable def nt (af ay : List D -> R D) (aE av : List D -> R D) (am ag : List D -> R D) : Ev -> O := (aL (wx af ay aE av am ag) (aL (wE af ay aE av am ag) (vY 1 (aL (wJ af ay aE av am ag) (aL (wL af ay aE av am ag) (aL (wH af ay aE av am ag) (aL (vZ af ay aE av am ag) (aL (wv af ay aE av am ag) (aL (rq af ay aE av am ag) (aL (sP af ay aE av am ag) (vY 7 (aL (sw af ay aE av am ag) (aL (qQ af ay aE av am ag) (aL (sQ af ay aE av am ag) (aL (qI af ay aE av am ag) oNx)))))))))))))))
theorem Ea : zd (.int 10) (.int 9) = some (.int 1000000000) := rfl
theorem gF (ns : List Int) (k : Nat) {m : Int} (h : 0 < m) : ∃ p : Nat, bO ns k m = (p : Int) /\ (p : Int) < m := by
  have := cb ns k h
  exact ⟨(bO ns k m).toNat, by omega, by omega⟩
theorem pJ (ns : List Int) (fz : Bool) (k : Nat) (T : D) (hp : pt 4 T = true) (ho : okd 4 T = true) : ∃ d, cq [.lst fz (ns.map .int), .int (k : Int), T] = .ok d /\ bN 4 d = true := by
  obtain ⟨⟨x, hx, m, hm⟩, hput⟩ := lH 4 T _ hp (kP ns k T)
  obtain ⟨r, hr⟩ := hput (kz ns k x)
  refine ⟨r, ?_, oK 4 _ _ _ r hr (nh 4 4 _ hp) (ro ns k x hm)⟩
  have e : cq [.lst fz (ns.map .int), .int (k : Int), T] = ofO (mX (cZ ns k T) T (kz ns k ((sH (cZ ns k T) T).getD .non))) := by
    simp only [cq, ft, Int.toNat_natCast]
    rw [if_pos ⟨by omega, hp, ho⟩]
  rw [e, hx, Option.getD_some, hr]; rfl
theorem Bb (f : Bool) (os : List Od) : cl 10 (.lst f (os.map oD)) = true := by
  show (os.map oD).all (cl 9) = true
  rw [List.all_eq_true]
  intro d hd
  obtain ⟨o, _, rfl⟩ := List.mem_map.1 hd
  cases o <;> rfl
theorem Bc (f : Bool) (l : List (List Nat)) : cl 10 (.lst f (l.map .str)) = true := by
  show (l.map D.str).all (cl 9) = true
  rw [List.all_eq_true]
  intro d hd
  obtain ⟨o, _, rfl⟩ := List.mem_map.1 hd
  rfl
def rK (l : List Nat) : Bool := match odD (qB l) with
  | some o => okO o && (oT o == l)
  | none => false
theorem xc {o : Od} (h : okO o = true) : rK (oT o) = true := by
  unfold rK
  rw [rH h, iW]
  show (okO o && (oT o == oT o)) = true
  rw [h]; simp
theorem zG {C6 C7 : Addr} {x : List Nat} (hx : x.length <= 1000) (h : (qv x && (aN 10 x).dropLast.all rK) = false) : rsF C6 C7 [.str x] = .ex C7 := by
  rcases vQ (C6 := C6) (C7 := C7) hx with e | ⟨os, h1, _, rfl⟩
  . exact e
  . exfalso
    rw [sT, lj h1] at h
    have ed : (os.map oT ++ [[]]).dropLast = os.map oT := by simp
    rw [ed, Bool.true_and, List.all_map] at h
    have : os.all (rK ∘ oT) = true := List.all_eq_true.2 fun o ho => xc (h1 o ho)
    rw [this] at h; cases h
def oddL : List (List Nat) := [[97], [115, 97, 121, 10], [115, 97, 121, 32, 10], [119, 105, 112, 101], [119, 105, 112, 101, 32, 10], [103, 111, 32, 49, 10], [103, 111, 32, 49, 50, 32, 48, 10], [103, 111, 32, 48, 32, 52, 49, 10], [103, 111, 32, 48, 49, 32, 50, 10], [103, 111, 32, 32, 49, 32, 50, 10], [10], [115, 97, 121, 32] ++ List.replicate 41 97 ++ [10], [103, 111, 32, 49, 32, 50, 32, 51, 10], [103, 111, 32, 45, 49, 32, 48, 10]]
theorem uX : oddL.all (fun x => decide (x.length <= 1000) && !(qv x && (aN 10 x).dropLast.all rK)) = true := by decide
theorem AQ (ns : List Int) {C6 C7 : Addr} : ∃ o, ixD (.lst false (oddL.map .str)) (.int (bO ns 60 14)) = some o /\ rsF C6 C7 [o] = .ex C7 := by
  obtain ⟨p, e, hp⟩ := gF ns 60 (m := 14) (by decide)
  have hl : p < oddL.length := by show p < 14; omega
  refine ⟨.str oddL[p], ?_, ?_⟩
  . rw [e]; exact zn (by rw [List.getElem?_map, List.getElem?_eq_getElem hl]; rfl)
  . have := List.all_eq_true.1 uX oddL[p] (List.getElem_mem hl)
    rw [Bool.and_eq_true, decide_eq_true_eq, Bool.not_eq_true'] at this
    exact zG this.1 this.2
section
variable {FW F2 F3 F4 F5 F6 : List D -> R D} {C6 C7 : Addr} (ns : List Int) (fz : Bool)
theorem Ad (k : Nat) : ∃ x, ixD (.lst false [.str [97], .str [32], .str [103, 111, 32, 49, 32, 50], .str [119, 105, 112, 101], .str [126, 32, 115, 97, 121], .str [32, 120, 32]]) (.int (bO ns k 6)) = some (.str x) /\ okO (.say x) = true := by
  have h := cb ns k (m := 6) (by decide)
  generalize bO ns k 6 = v at h
  have : v = 0 \/ v = 1 \/ v = 2 \/ v = 3 \/ v = 4 \/ v = 5 := by omega
  rcases this with rfl | rfl | rfl | rfl | rfl | rfl <;> exact ⟨_, rfl, by decide⟩
theorem sB (k : Nat) (os : List Od) (hl : os.length <= 10) (x3 : Option Sl) : ∃ o y3, okO o = true /\ mW bH F2 F3 F4 F5 F6 [some (.val (.lst fz (ns.map .int))), some (.own (os.map oD)), some (.val (.int (k : Int))), x3, none, none, none, none, none]
    = .nx [some (.val (.lst fz (ns.map .int))), some (.own (os.map oD ++ [oD o])), some (.val (.int (k : Int))), y3, none, none, none, none, none] := by
  have lb := bJ
  obtain ⟨a, ea, ha⟩ := gF ns (10 + k) (m := 12) (by decide)
  obtain ⟨b, eb, hb⟩ := gF ns (20 + k) (m := 41) (by decide)
  obtain ⟨x, hx, ox⟩ := Ad ns (30 + k)
  have k1 : (10 : Int) + (k : Int) = ((10 + k : Nat) : Int) := by omega
  have k2 : (20 : Int) + (k : Int) = ((20 + k : Nat) : Int) := by omega
  have k3 : (30 : Int) + (k : Int) = ((30 + k : Nat) : Int) := by omega
  have k4 : (40 : Int) + (k : Int) = ((40 + k : Nat) : Int) := by omega
  have p1 : bH [.lst fz (ns.map .int), .int ((10 + k : Nat) : Int), .int 12] = .ok (.int (a : Int)) := by rw [bI (by decide), ea]
  have p2 : bH [.lst fz (ns.map .int), .int ((20 + k : Nat) : Int), .int 41] = .ok (.int (b : Int)) := by rw [bI (by decide), eb]
  have p3 : bH [.lst fz (ns.map .int), .int ((30 + k : Nat) : Int), .int 6] = .ok (.int (bO ns (30 + k) 6)) := bI (by decide)
  have t1 : ∀ a : D, mkT [a] = .ok (.tup [a]) := fun _ => m_t (by simp)
  have t2' : ∀ a b : D, mkT [a, b] = .ok (.tup [a, b]) := fun _ _ => m_t (by simp)
  have t3 : ∀ a b c : D, mkT [a, b, c] = .ok (.tup [a, b, c]) := fun _ _ _ => m_t (by simp)
  have sz : (os.map oD).length < sizeLine := by rw [List.length_map]; omega
  have z2' : (2 : Nat) <= sizeLine := by omega
  have z3 : (2 : Nat) < sizeLine := by omega
  have z6 : (6 : Nat) <= sizeLine := by omega
  have ow1 : ∀ (a0 : Option Sl) (ds : List D) (ρ : Ev), ownAt (a0 :: some (.own ds) :: ρ) 1 = .ok ds := fun _ _ _ => rfl
  have ow3 : ∀ (a0 a1 a2 : Option Sl) (ds : List D) (ρ : Ev), ownAt (a0 :: a1 :: a2 :: some (.own ds) :: ρ) 3 = .ok ds := fun _ _ _ _ _ => rfl
  have fr3 : ∀ (a0 a1 a2 : Option Sl) (ds : List D) (ρ : Ev), frz 3 (a0 :: a1 :: a2 :: some (.own ds) :: ρ) = a0 :: a1 :: a2 :: some (.val (.lst false ds)) :: ρ := fun _ _ _ _ _ => rfl
  obtain ⟨o, oo, io, fo, pc⟩ : ∃ o, okO o = true /\ ixD (.lst false [.tup [.str [119, 105, 112, 101]], .tup [.str [103, 111], .int (a : Int), .int (b : Int)], .tup [.str [115, 97, 121], .str x]]) (.int (bO ns (40 + k) 3)) = some (oD o) /\ fl 10 (oD o) = true /\ bH [.lst fz (ns.map .int), .int ((40 + k : Nat) : Int), .int 3] = .ok (.int (bO ns (40 + k) 3)) := by
    have h := cb ns (40 + k) (m := 3) (by decide)
    have pc : bH [.lst fz (ns.map .int), .int ((40 + k : Nat) : Int), .int 3] = .ok (.int (bO ns (40 + k) 3)) := bI (by decide)
    generalize bO ns (40 + k) 3 = v at h pc
    have : v = 0 \/ v = 1 \/ v = 2 := by omega
    rcases this with rfl | rfl | rfl
    . exact ⟨.wipe, rfl, rfl, rfl, pc⟩
    . exact ⟨.go a b, by simp [okO]; omega, rfl, rfl, pc⟩
    . exact ⟨.say x, ox, rfl, rfl, pc⟩
  refine ⟨o, some (.own [.tup [.str [119, 105, 112, 101]], .tup [.str [103, 111], .int (a : Int), .int (b : Int)], .tup [.str [115, 97, 121], .str x]]), oo, ?_⟩
  unfold mW
  generalize os.map oD = u at *
  generalize oD o = d at *
  clear lb ea eb ha hb oo ox hl
  walk_at "run"
theorem lY : ∀ (m k : Nat) (os : List Od) (x2 x3 : Option Sl), k + m <= 10 -> os.length = k -> (∀ o ∈ os, okO o = true) -> ∃ (os' : List Od) (y2 y3 : Option Sl), os'.length = k + m /\ (∀ o ∈ os', okO o = true) /\ cC (fR 2) (mW bH F2 F3 F4 F5 F6) ((List.range' k m).map fun (i : Nat) => D.int (i : Int)) [some (.val (.lst fz (ns.map .int))), some (.own (os.map oD)), x2, x3, none, none, none, none, none]
    = .nx [some (.val (.lst fz (ns.map .int))), some (.own (os'.map oD)), y2, y3, none, none, none, none, none]
  | 0, k, os, x2, x3, _, h1, h2 => ⟨os, x2, x3, h1, h2, rfl⟩
  | m + 1, k, os, x2, x3, hk, h1, h2 => by
    obtain ⟨o, y3, ho, hB⟩ := sB (F2 := F2) (F3 := F3) (F4 := F4) (F5 := F5) (F6 := F6) ns fz k os (by omega) x3
    obtain ⟨os', z2', z3, i1, i2, ih⟩ := lY m (k + 1) (os ++ [o]) (some (.val (.int (k : Int)))) y3 (by omega) (by simp [h1]) (fun p hp => by
      rcases List.mem_append.1 hp with hp | hp
      . exact h2 p hp
      . rw [List.mem_singleton] at hp; rw [hp]; exact ho)
    refine ⟨os', z2', z3, by omega, i2, ?_⟩
    have e : (os ++ [o]).map oD = os.map oD ++ [oD o] := by rw [List.map_append]; rfl
    rw [e] at ih
    rw [List.range'_succ, List.map_cons, eB (ρ1 := [some (.val (.lst fz (ns.map .int))), some (.own (os.map oD)), some (.val (.int (k : Int))), x3, none, none, none, none, none]) rfl hB]
    exact ih
theorem xu (w7 : FW [.exc C7] = .ok (.str mn)) {x : List Nat} (hx : x.length <= 240) (k : Nat) (x1 x3 x5 x6 : Option Sl) : ∃ y5 y6, oQ bH ltF (doF FW C6 C7) spF dl F6 [some (.val (.lst fz (ns.map .int))), x1, some (.val (.int (k : Int))), x3, some (.val (.str x)), x5, x6, none, none]
    = .nx [some (.val (.lst fz (ns.map .int))), x1, some (.val (.int (k : Int))), x3, some (.val (.str x)), y5, y6, none, none] := by
  have lb := bJ
  obtain ⟨c, ec, lc⟩ := gF ns (50 + k) (m := 1000000000) (by decide)
  have k1 : (50 : Int) + (k : Int) = ((50 + k : Nat) : Int) := by omega
  have pk : bH [.lst fz (ns.map .int), .int ((50 + k : Nat) : Int), .int 1000000000] = .ok (.int (c : Int)) := by rw [bI (by decide), ec]
  have p9 := Ea
  obtain ⟨z, hz, zl⟩ := yx hx c
  unfold oQ
  rcases vQ (C6 := C6) (C7 := C7) (x := z) (by omega) with e | ⟨os, h1, e, ev⟩
  . have d1 : doF FW C6 C7 [.int 2, .str z] = .ok (.str mn) := wg e (by simp) w7
    have n1 : neF (.str mn) (.str [110, 111, 32, 116, 101, 120, 116]) = some (.bl false) := rfl
    refine ⟨some (.val (.str z)), some (.val (.str mn)), ?_⟩
    clear e w7 hx ec lc zl lb
    walk_at "run"
  . have d1 : doF FW C6 C7 [.int 2, .str z] = .ok (.lst false (os.map oD)) := vT e
    have n1 : neF (.lst false (os.map oD)) (.str [110, 111, 32, 116, 101, 120, 116]) = some (.bl true) := rfl
    have lv := xr (f := false) h1 (by rw [ev]; omega)
    rw [ev] at lv
    have n5 : ∀ z : List Nat, (z == z) = true := fun z => by simp
    have cm : fi (gBn (aH iu (aM 1 dl (ac (fun ρ => rdV ρ 0) (fun _ => R.ok []))))) (fun ρ => rdV ρ 0) (os.map oD) [none] = .ok [] := by
      have := gH (gt := gBn (aH iu (aM 1 dl (ac (fun ρ => rdV ρ 0) (fun _ => R.ok []))))) (ge := fun ρ => rdV ρ 0) (fun _ => false) (fun d => d) [] (os.map oD) none fun d hd => ⟨by
        obtain ⟨o, ho, rfl⟩ := List.mem_map.1 hd
        have oo : dl [oD o] = .ok (.bl true) := by
          show (if bN 3 (oD o) = true then R.ok (D.bl (bq (oD o))) else .no) = _
          rw [if_pos (kT (h1 o ho)), fN, h1 o ho]
        generalize oD o = d at *
        clear e w7 hx ec lc zl lb d1 lv hd ho hz pk
        walk_at "run", fun z => by cases z⟩
      rw [this]
      have ef : (os.map oD).filter (fun _ => false) = [] := List.filter_eq_nil_iff.2 fun _ _ => by simp
      rw [ef]; rfl
    have it : ∀ (f : Bool) (l : List D), bn (.lst f l) = .ok l := fun _ _ => rfl
    have i1 : ∀ a0 a1 a2 a3 a4 a5 a6 a7 a8 : Option Sl, fh [] [a0, a1, a2, a3, a4, a5, a6, a7, a8] = [none] := fun _ _ _ _ _ _ _ _ _ => rfl
    have z0 : (0 : Nat) <= sizeLine := by omega
    have n0 : neF (.lst false []) (.lst false []) = some (.bl false) := rfl
    refine ⟨some (.val (.str z)), some (.val (.lst false (os.map oD))), ?_⟩
    generalize os.map oD = u at *
    clear e ev w7 hx ec lc zl h1 lb
    walk_at "run"
theorem rf (w7 : FW [.exc C7] = .ok (.str mn)) {x : List Nat} (hx : x.length <= 240) (x1 x3 : Option Sl) : ∀ (ks : List Nat) (x2 x5 x6 : Option Sl), ∃ y2 y5 y6, cC (fR 2) (oQ bH ltF (doF FW C6 C7) spF dl F6) (ks.map fun (i : Nat) => D.int (i : Int)) [some (.val (.lst fz (ns.map .int))), x1, x2, x3, some (.val (.str x)), x5, x6, none, none]
    = .nx [some (.val (.lst fz (ns.map .int))), x1, y2, x3, some (.val (.str x)), y5, y6, none, none]
  | [], x2, x5, x6 => ⟨x2, x5, x6, rfl⟩
  | k :: ks, x2, x5, x6 => by
    obtain ⟨y5, y6, hB⟩ := xu (C6 := C6) (F6 := F6) ns fz w7 hx k x1 x3 x5 x6
    obtain ⟨z2', z5, z6, ih⟩ := rf w7 hx x1 x3 ks (some (.val (.int (k : Int)))) y5 y6
    refine ⟨z2', z5, z6, ?_⟩
    rw [List.map_cons, eB (ρ1 := [some (.val (.lst fz (ns.map .int))), x1, some (.val (.int (k : Int))), x3, some (.val (.str x)), x5, x6, none, none]) rfl hB]
    exact ih
end
theorem BG {ar ae aB au ax aA ah : Addr} (nd : [ar, ae, aB, au, ax, aA, ah].Nodup) (ns : List Int) (fz : Bool) : aC (nt bH ltF (doF (pE aB ae au ax ar ah aA [ae, ah]) ae ah) spF dl cq (aF 9 [.lst fz (ns.map .int)])) = .ok (.bl true) := by
  have w6 := mH (rs := [ae, ah]) nd (by simp)
  have w7 := nU (rs := [ae, ah]) nd (by simp)
  generalize pE aB ae au ax ar ah aA [ae, ah] = FW at *
  clear nd
  generalize ae = C6 at *
  generalize ah = C7 at *
  have lb := bJ
  obtain ⟨n, en, hn⟩ := gF ns 0 (m := 6) (by decide)
  have p0 : bH [.lst fz (ns.map .int), .int 0, .int 6] = .ok (.int (n : Int)) := by rw [<- en]; exact bI (n := 0) (by decide)
  have rg0 : cy [.int (n : Int)] = .ok ((List.range' 0 n).map fun (i : Nat) => D.int (i : Int)) := by rw [lB (by omega), List.range_eq_range']
  obtain ⟨os, y2, y3, ol, ok, hL⟩ := lY (F2 := ltF) (F3 := doF FW C6 C7) (F4 := spF) (F5 := dl) (F6 := cq) ns fz n 0 [] none none (by omega) rfl (fun o ho => by simp at ho)
  have hL : cC (fR 2) (mW bH ltF (doF FW C6 C7) spF dl cq) ((List.range' 0 n).map fun (i : Nat) => D.int (i : Int)) [some (.val (.lst fz (ns.map .int))), some (.own []), none, none, none, none, none, none, none] = _ := hL
  have tl := ng ok
  have tl : (txL os).length <= 240 := by omega
  have lt1 := xr (f := false) ok (by omega)
  have d1 : doF FW C6 C7 [.int 1, .lst false (os.map oD)] = .ok (.str (txL os)) := zY (CF ok (by omega))
  have d2 : doF FW C6 C7 [.int 2, .str (txL os)] = .ok (.lst false (os.map oD)) := vT (CP ok (by omega))
  have n1 : neF (.lst false (os.map oD)) (.lst false (os.map oD)) = some (.bl false) := sE (Bb _ _)
  have cA : fi (fun _ => R.ok true) (aM 2 (doF FW C6 C7) (ac (fun _ => R.ok (D.int 0)) (ac (fun ρ => rdV ρ 0) (fun _ => R.ok [])))) (os.map oD) [none] = .ok ((os.map oT).map .str) := by
    have := dH (gt := fun _ => R.ok true) (ge := aM 2 (doF FW C6 C7) (ac (fun _ => R.ok (D.int 0)) (ac (fun ρ => rdV ρ 0) (fun _ => R.ok [])))) (fun d => match odD d with | some o => .str (oT o) | none => .non) [] (os.map oD) none fun d hd => ⟨rfl, by
      obtain ⟨o, ho, rfl⟩ := List.mem_map.1 hd
      have o1 : doF FW C6 C7 [.int 0, oD o] = .ok (.str (oT o)) := wO (rS (ok o ho))
      rw [iW]
      show _ = R.ok (D.str (oT o))
      generalize oD o = d at *
      clear hd ho hL lt1 d1 d2 n1
      walk_at "run"⟩
    rw [this, List.map_map, List.map_map]
    refine congrArg R.ok (List.map_congr_left fun o _ => ?_)
    show (match odD (oD o) with | some o => D.str (oT o) | none => .non) = _
    rw [iW]; rfl
  have one : ∀ o, okO o = true -> ltF [.lst false [oD o]] = .ok (.str (oT o ++ [10])) := fun o ho => by
    have := xr (f := false) (os := [o]) (fun p hp => by rw [List.mem_singleton] at hp; rw [hp]; exact ho) (by have := pb ho; unfold txL; simp; omega)
    have e : txL [o] = oT o ++ [10] := by unfold txL; simp
    rw [e] at this; exact this
  have cut1 : ∀ o, tH none (some (-1)) (.str (oT o ++ [10])) = some (.str (oT o)) := fun o => by
    show some (D.str (fL (oT o ++ [10]) none (some (-1)))) = _
    rw [eP]; simp
  have ng1 : qA (.int 1) = .ok (.int (-1)) := rfl
  have z1 : (1 : Nat) <= sizeLine := by omega
  have cB : fi (fun _ => R.ok true) (gSl (aM 1 ltF (ac (bh (gD (ac (fun ρ => rdV ρ 0) (fun _ => R.ok [])))) (fun _ => R.ok []))) (fun _ => R.ok none) (ce (aH qA (fun _ => R.ok (D.int 1))))) (os.map oD) [none] = .ok ((os.map oT).map .str) := by
    have := dH (gt := fun _ => R.ok true) (ge := gSl (aM 1 ltF (ac (bh (gD (ac (fun ρ => rdV ρ 0) (fun _ => R.ok [])))) (fun _ => R.ok []))) (fun _ => R.ok none) (ce (aH qA (fun _ => R.ok (D.int 1))))) (fun d => match odD d with | some o => .str (oT o) | none => .non) [] (os.map oD) none fun d hd => ⟨rfl, by
      obtain ⟨o, ho, rfl⟩ := List.mem_map.1 hd
      have o1 := one o (ok o ho)
      have o2 := cut1 o
      rw [iW]
      show _ = R.ok (D.str (oT o))
      have o3 : fL (oT o ++ [10]) none (some (-1)) = oT o := by rw [eP]; simp
      generalize oD o = d at *
      generalize oT o ++ [10] = w2 at *
      generalize oT o = w1 at *
      clear hd ho hL lt1 d1 d2 n1 cA one cut1
      walk_at "run"⟩
    rw [this, List.map_map, List.map_map]
    refine congrArg R.ok (List.map_congr_left fun o _ => ?_)
    show (match odD (oD o) with | some o => D.str (oT o) | none => .non) = _
    rw [iW]; rfl
  have zA : ((os.map oT).map D.str).length <= sizeLine := by simp; omega
  have nA : neF (.lst false ((os.map oT).map .str)) (.lst false ((os.map oT).map .str)) = some (.bl false) := sE (Bc _ _)
  obtain ⟨v2, v5, v6, hS⟩ := rf (C6 := C6) (F6 := cq) ns fz w7 (x := txL os) tl (some (.val (.lst false (os.map oD)))) y3 [0, 1, 2, 3, 4, 5] y2 none none
  have rg : cy [.int 6] = .ok (([0, 1, 2, 3, 4, 5] : List Nat).map fun (i : Nat) => D.int (i : Int)) := lB (n := 6) (by decide)
  obtain ⟨o, ho, hoc⟩ := AQ ns (C6 := C6) (C7 := C7)
  have d3 : doF FW C6 C7 [.int 2, o] = .ok (.str mn) := wg hoc (by simp) w7
  have p60 : bH [.lst fz (ns.map .int), .int 60, .int 14] = .ok (.int (bO ns 60 14)) := bI (n := 60) (by decide)
  have n3 : neF (.str mn) (.str [110, 111, 32, 116, 101, 120, 116]) = some (.bl false) := rfl
  have rep41 : kM (.str [97]) (.int 41) = some (.str (List.replicate 41 97)) := B0 (n := 41) (by decide)
  have ad1 : bx (.str [115, 97, 121, 32]) (.str (List.replicate 41 97)) = some (.str ([115, 97, 121, 32] ++ List.replicate 41 97)) := lL (by simp; omega)
  have ad2 : bx (.str ([115, 97, 121, 32] ++ List.replicate 41 97)) (.str [10]) = some (.str ([115, 97, 121, 32] ++ List.replicate 41 97 ++ [10])) := lL (by simp; omega)
  have od : oddL.map D.str = [.str [97], .str [115, 97, 121, 10], .str [115, 97, 121, 32, 10], .str [119, 105, 112, 101], .str [119, 105, 112, 101, 32, 10], .str [103, 111, 32, 49, 10], .str [103, 111, 32, 49, 50, 32, 48, 10], .str [103, 111, 32, 48, 32, 52, 49, 10], .str [103, 111, 32, 48, 49, 32, 50, 10], .str [103, 111, 32, 32, 49, 32, 50, 10], .str [10], .str ([115, 97, 121, 32] ++ List.replicate 41 97 ++ [10]), .str [103, 111, 32, 49, 32, 50, 32, 51, 10], .str [103, 111, 32, 45, 49, 32, 48, 10]] := rfl
  rw [od] at ho
  generalize [115, 97, 121, 32] ++ List.replicate 41 97 ++ [10] = q3 at *
  generalize [115, 97, 121, 32] ++ List.replicate 41 97 = q2 at *
  generalize List.replicate 41 97 = q1 at *
  obtain ⟨d, hd, gd⟩ := pJ ns fz 70 (.tup [.str [103, 111], .int 1, .int 2]) (by decide) (by decide)
  have gd3 := gG 3 d gd
  have hd : cq [.lst fz (ns.map .int), .int 70, .tup [.str [103, 111], .int 1, .int 2]] = .ok d := hd
  have oo : dl [d] = .ok (.bl (bq d)) := if_pos gd3
  have t3 : ∀ a b c : D, mkT [a, b, c] = .ok (.tup [a, b, c]) := fun _ _ _ => m_t (by simp)
  have it : ∀ (f : Bool) (l : List D), bn (.lst f l) = .ok l := fun _ _ => rfl
  have i1 : ∀ a0 a1 a2 a3 a4 a5 a6 a7 a8 : Option Sl, fh [] [a0, a1, a2, a3, a4, a5, a6, a7, a8] = [none] := fun _ _ _ _ _ _ _ _ _ => rfl
  have z0 : (0 : Nat) <= sizeLine := by omega
  have z2' : (2 : Nat) <= sizeLine := by omega
  have z3 : (3 : Nat) <= sizeLine := by omega
  have z9 : (9 : Nat) <= sizeLine := by omega
  have z11 : (11 : Nat) <= sizeLine := by omega
  have z14 : (14 : Nat) <= sizeLine := by omega
  have n5 : ∀ z : List Nat, (z == z) = true := fun z => by simp
  have fr1 : ∀ (a0 : Option Sl) (ds : List D) (ρ : Ev), frz 1 (a0 :: some (.own ds) :: ρ) = a0 :: some (.val (.lst false ds)) :: ρ := fun _ _ _ => rfl
  have fr7 : ∀ (a0 a1 a2 a3 a4 a5 a6 : Option Sl) (ds : List D) (ρ : Ev), frz 7 (a0 :: a1 :: a2 :: a3 :: a4 :: a5 :: a6 :: some (.own ds) :: ρ) = a0 :: a1 :: a2 :: a3 :: a4 :: a5 :: a6 :: some (.val (.lst false ds)) :: ρ := fun _ _ _ _ _ _ _ _ _ => rfl
  have ow7 : ∀ (a0 a1 a2 a3 a4 a5 a6 : Option Sl) (ds : List D) (ρ : Ev), ownAt (a0 :: a1 :: a2 :: a3 :: a4 :: a5 :: a6 :: some (.own ds) :: ρ) 7 = .ok ds := fun _ _ _ _ _ _ _ _ _ => rfl
  show aC (aL _ _ [some (.val (.lst fz (ns.map .int))), none, none, none, none, none, none, none, none]) = _
  unfold wx wE wJ wL wH vZ wv rq sP sw qQ sQ qI
  cases hi : bq d with
  | true =>
    rw [hi] at oo
    obtain ⟨ob, eb⟩ := py hi
    rw [eb, fN] at hi
    have b1 := one ob hi
    have b2 : doF FW C6 C7 [.int 0, oD ob] = .ok (.str (oT ob)) := wO (rS hi)
    have b3 : fL (oT ob ++ [10]) none (some (-1)) = oT ob := by rw [eP]; simp
    rw [eb] at hd oo
    generalize oT ob ++ [10] = w2 at *
    generalize oT ob = w1 at *
    generalize oD ob = dd at *
    generalize (os.map oT).map D.str = u1 at *
    generalize os.map oD = u2 at *
    generalize txL os = X at *
    generalize (List.range' 0 n).map (fun (i : Nat) => D.int (i : Int)) = r1 at *
    generalize ([0, 1, 2, 3, 4, 5] : List Nat).map (fun (i : Nat) => D.int (i : Int)) = r2 at *
    clear lb en hn w6 w7 ol ok tl one cut1 hoc gd gd3 hi eb od
    walk_at "run"
  | false =>
    rw [hi] at oo
    have b1 : doF FW C6 C7 [.int 0, d] = .ok (.str kR) := AR (zC gd3 hi) (by simp) w6
    have tg := zy (f := false) ok (by omega)
    have b2 : doF FW C6 C7 [.int 1, .lst false (os.map oD ++ [d])] = .ok (.str kR) := Bk (zU (by
      have h := tg.1
      simp only [tgD, Bool.and_eq_true, decide_eq_true_eq] at h ⊢
      refine ⟨by rw [List.all_append, h.1]; simp [gd3], by simp; omega⟩) (by
      show (os.map oD ++ [d]).all bq = false
      rw [List.all_append]; simp [hi])) (by simp) w6
    have b3 : bx (.lst false (os.map oD)) (.lst false [d]) = some (.lst false (os.map oD ++ [d])) := if_pos (by simp; omega)
    have b4 : kM (.lst false [.str [110, 111, 32, 111, 114, 100, 101, 114]]) (.int 2) = some (.lst false [.str kR, .str kR]) := B6 (n := 2) (by decide)
    have b5 : eqF (.lst false [.str kR, .str kR]) (.lst false [.str kR, .str kR]) = some (.bl true) := uV rfl
    generalize os.map oD ++ [d] = u3 at *
    generalize (os.map oT).map D.str = u1 at *
    generalize os.map oD = u2 at *
    generalize txL os = X at *
    generalize (List.range' 0 n).map (fun (i : Nat) => D.int (i : Int)) = r1 at *
    generalize ([0, 1, 2, 3, 4, 5] : List Nat).map (fun (i : Nat) => D.int (i : Int)) = r2 at *
    clear lb en hn w6 w7 ol ok tl one cut1 hoc gd gd3 hi od tg
    walk_at "run"
end Q70
namespace Q
open PySem PySem.Spec PyProof.Rows L2
theorem jW {us : List Value} (h : us.length = 1) : ∃ a, us = [a] := by
  match us, h with
  | [a], _ => exact ⟨a, rfl⟩
theorem Cy {us : List Value} (h : us.length = 2) : ∃ a b, us = [a, b] := by
  match us, h with
  | [a, b], _ => exact ⟨a, b, rfl⟩
theorem yL {us : List Value} (h : us.length = 3) : ∃ a b c, us = [a, b, c] := by
  match us, h with
  | [a, b, c], _ => exact ⟨a, b, c, rfl⟩
theorem AG {K : PySem.W.Frag} {hp : Heap} {mg : Str -> Option Value} {x : Str} {C : Addr} {bm : List Value} {nid : String} (kin : K.In hp) (gl : hp.Ns mainGlobals mg) (e1 : PySem.W.nsIn K mainGlobals x = some (some (.ref C))) (e2 : PySem.W.excIn K C bm nid = true) : OwnCls x C bm nid mg hp := by
  constructor
  . exact PySem.W.mg_of kin gl e1
  . unfold PySem.W.excIn at e2
    split at e2
    . rename_i dct kl sls look
      split at e2
      . rename_i C0 more s0 s1 s2 s3 nw s5 hmro hsls
        simp only [Bool.and_eq_true, beq_iff_eq, Bool.not_eq_true'] at e2
        obtain ⟨⟨⟨⟨⟨eC, en⟩, edel⟩, etail⟩, ens⟩, einit⟩ := e2
        obtain ⟨f1, f2, f3, f4, f5, f6, f7, f8, f9, f10, f11⟩ := kl
        dsimp only at hmro edel ens einit
        have es : sls = #[s0, s1, s2, s3, some (.builtin nw), s5] := by
          obtain ⟨ls⟩ := sls
          simp only at hsls
          rw [hsls]
        subst hmro edel es eC en
        exact ⟨more, f4, f1, f5, f2, f6, f7, f8, f9, f10, dct, s0, s1, s2, s3, s5, _, kin _ _ look, .of_isNs (PySem.W.isNs_of_in kin ens), PySem.W.nsMap_none_of_in kin ens einit, PySem.W.tail_of_in kin etail⟩
      . cases e2
    . cases e2
theorem wn {K : PySem.W.Frag} {hp : Heap} {mg : Str -> Option Value} {x : Str} {C : Addr} (kin : K.In hp) (gl : hp.Ns mainGlobals mg) (e1 : PySem.W.nsIn K mainGlobals x = some (some (.ref C))) (e2 : PySem.W.excIn K C [.type "ValueError", .type "Exception", .type "BaseException", .type "object"] "ValueError.__new__" = true) : Ref x C mg hp :=
  ⟨_, _, _, _, AG kin gl e1 e2, PySem.F.excBase_ValueError⟩
theorem ml {K : PySem.W.Frag} {G : Hp} : ∀ ns : List Int, Reps K G (ns.map V.int) (ns.map D.int)
  | [] => .nil
  | i :: ns => .cons (.int i) (ml ns)
def tI : List D -> R D
  | [.lst _ ds] => match gr ds with
    | some _ => .ok (.bl true)
    | none => .no
  | _ => .no
theorem Aa {g : List D -> R D} (h : ∀ (ns : List Int) (fz : Bool), g [.lst fz (ns.map .int)] = .ok (.bl true)) : ∀ ds : List D, ds.length = 1 -> tI ds = .no \/ g ds = tI ds := by
  intro ds hl
  match ds, hl with
  | [d], _ =>
    cases d <;> first | exact Or.inl rfl | skip
    rename_i fz ds hl
    cases hi : gr ds with
    | none => exact Or.inl (by simp only [tI, hi])
    | some ns =>
      have e := gU hi
      subst e
      refine Or.inr ?_
      rw [h ns fz]
      simp only [tI, hi]
theorem DP {l : PySem.W.OpenLaw} {q : Program} {loose : List Str} {XP : (Str -> Option Value) -> Heap -> Prop} {YP : World -> Heap -> Prop} {d : DefRec} {K : Params -> PySem.W.Frag} {L : Nat} (hL : Room L callerA) (hn : l.most = some 63) (hdf : d.params.defaults = [])
    (hY : ∀ (w : World) (h : Heap), YP w h -> (K w.params).In h)
    (F : ∀ (w : World) (mg : Str -> Option Value) (fa : Addr) (h : Heap), (K w.params).In h -> h.Ns mainGlobals mg -> mg d.name = some (.ref fa) ->
      ∃ fd : FuncData, (∀ (s : Shared) (u : Value), BindsTo s fd ⟨[u], []⟩ [("_law_script", u)]) /\ ∀ base : Heap, (K w.params).In base -> base.Ns mainGlobals mg -> FnF l.prog w (K w.params) mg base L fa fd ["_law_script"] tI) :
    PySem.W.WalkO q loose XP YP l.row.toRowW d [] (fun f vs => PySem.call f vs) :=
  L2.qL (n := 63) (k := L) (x := "_law_script") (CX := fun w => CXo l.prog w) (sp := fun w vs H Q E => vs.length = 1 /\ spF (K w.params) tI vs H Q E) hn (by decide) hdf hL hY F
    (fun w H a ns hl hO hS => ⟨rfl, H, [.lst true (ns.map .int)], .refl _, .cons (.fls hS (ml ns)) .nil, by
      have e : tI [.lst true (ns.map .int)] = .ok (.bl true) := by simp only [tI, ft]
      rw [e]
      exact fun v G' H' u r => r.bl_inv⟩)
    fun w H s e s' z => by obtain ⟨a, C, H', _, _, z⟩ := z; exact z
theorem bp {K : PySem.W.Frag} {h : Heap} {mg : Str -> Option Value} {x : Str} {st : Stmt} {f : Addr} {oc : Value} {od an : Option Addr} {osl : Array (Option Value)} {kV doc pm cdv ct : Value} (X : K.In h) (G : h.Ns mainGlobals mg) (a : PySem.W.nsIn K mainGlobals x = some (some (.ref f)))
    (l : K.lookup f = some ⟨oc, od, .func (PySem.W.fnOf x x (ia st) (fu st) (aI st) .none kV doc pm an cdv ct), osl⟩) (c : PySem.W.codeIn K cdv x = true) (k : PySem.W.keepIn K (.ref f) = true) : ∃ f fd, Fun K x x st f fd /\ mg x = some (.ref f) :=
  ⟨f, _, AD l c k, PySem.W.mg_of X G a⟩
end Q
namespace Q
open PySem PySem.Spec PyProof.Rows L2
section
variable {K : PySem.W.Frag} {C T : Addr}
theorem pp : PySem.W.kitOne K (.ref C) (.ref C) = some (C == C) := by
  unfold PySem.W.kitOne
  rw [if_pos (by simp)]; simp
theorem mk {t : Value} {b : Bool} {cd : ClassData} (h1 : PySem.W.clsIn K T = some cd) (h2 : PySem.W.typeIn K (.ref T) = some (.type "type")) (h3 : PySem.W.subIn K t (.ref T) = some b) : PySem.W.kitCls K t (.ref T) = some b := by
  unfold PySem.W.kitCls
  dsimp only
  rw [if_pos (by rw [h1, h2]; simp), h3]
theorem fg {cd : ClassData} (h1 : PySem.W.clsIn K T = some cd) (h2 : PySem.W.typeIn K (.ref T) = some (.type "type")) (h3 : PySem.W.subIn K (.ref C) (.ref T) = some false) (hne : C ≠ T) : PySem.W.kitOne K (.ref C) (.ref T) = some (C == T) := by
  unfold PySem.W.kitOne
  rw [if_neg (by simp [hne]), mk h1 h2 h3]
  simp [hne]
theorem wI (h3 : PySem.W.subIn K (.ref C) (.type "ValueError") = some true) : PySem.W.kitOne K (.ref C) (.type "ValueError") = some true := by
  unfold PySem.W.kitOne PySem.W.kitCls
  rw [if_neg (by simp)]
  dsimp only
  rw [if_pos (by decide +kernel), h3]
theorem wa {cd : ClassData} (h0 : PySem.W.subIn K (.ref T) (.type "BaseException") = some true) (h1 : PySem.W.clsIn K T = some cd) (h2 : PySem.W.typeIn K (.ref T) = some (.type "type")) (h3 : PySem.W.subIn K (.ref C) (.ref T) = some true) : PySem.W.exmOne K (.ref C) (.ref T) = some true := by
  unfold PySem.W.exmOne
  rw [if_pos (by rw [h0]; rfl), mk h1 h2 h3]
end
theorem wj {K : PySem.W.Frag} {C : Addr} {cd : ClassData} (g1 : PySem.W.findIn K (.ref C) "__getattribute__" = some (some (.builtin "BaseException.__getattribute__"))) (g2 : PySem.W.findIn K (.ref C) "__getattr__" = some none) (g3 : PySem.W.findIn K (.ref C) "__class__" = some (some (.builtin "object.__class__")))
    (g4 : PySem.W.specialIn K (.builtin "object.__class__") "__get__" = some (some (.builtin "getset_descriptor.__get__"))) (g5 : PySem.W.takesIn K (.builtin "object.__class__") = some true) (g6 : PySem.W.mroIn K C (.type "object") = some true) (g7 : PySem.W.subIn K (.ref C) (.type "BaseException") = some true)
    (g8 : PySem.W.clsIn K C = some cd) : ExcCls K C := ⟨g1, g2, g3, g4, g5, g6, g7, by rw [g8]; rfl⟩
end Q
namespace G70
open PySem PySem.Spec PyProof.Rows L2 Q Q70
abbrev top (i : Nat) : Stmt := PySem.Challenge.pw_screenlines_k70_whole_texts.main.body.getD i (.Pass ⟨0, 0, 0, 0⟩)
section
variable {P : Program} {w : World} {K : PySem.W.Frag} {mg : Str -> Option Value} {base : Heap}
theorem nS : FnScope ["_law_script", "_law_k"] ["_law_script", "_law_k"] (aI (top 36)) := ⟨rfl, rfl, rfl, by decide +kernel, rfl, by decide +kernel, by decide +kernel⟩
theorem oi {f : Addr} {fd : FuncData} (b_len : mg "len" = none) (F : Fun K "_law_cell" "_law_cell" (top 36) f fd) : FnF P w K mg base 1 f fd ["_law_script", "_law_k"] (fun ds => aC (eh (aF 2 ds))) := by
  have hN : (["_law_script", "_law_k"] : List Str).Nodup := by decide
  refine F.okF nS (k := 0) (g := eh) fun cdv A outer s H E hr => ?_
  have hu := hr.units
  have hh := hr.hd
  exact (ak (fJ (qH (aj at1) (fQ rfl b_len (aa (aj at0) ai))) (ak (bg (bv (aj at0) (aj at1))) aJ) aJ) (ak (fJ (iH hu (aj at0) (cr (dG ai))) (ak (bg aq) aJ) aJ) (ak (bg (aU (kB (bv (aj at0) (gY (aj at1) (fQ rfl b_len (aa (aj at0) ai)))) aq) (aj at1))) aJ)))
theorem nN : FnScope ["_law_script", "_law_k", "_law_many", "_law_drawn"] ["_law_script", "_law_k", "_law_many"] (aI (top 37)) := ⟨rfl, rfl, rfl, by decide +kernel, rfl, by decide +kernel, by decide +kernel⟩
theorem ot {f : Addr} {fd : FuncData} {bA : List D -> R D} (c__law_cell : Callee P w K mg base "_law_cell" 1 2 bA) (F : Fun K "_law_pick" "_law_pick" (top 37) f fd) : FnF P w K mg base 2 f fd ["_law_script", "_law_k", "_law_many"] (fun ds => aC (dP bA (aF 4 ds))) := by
  have hN : (["_law_script", "_law_k", "_law_many", "_law_drawn"] : List Str).Nodup := by decide
  refine F.okF nN (k := 1) (g := dP bA) fun cdv A outer s H E hr => ?_
  have hu := hr.units
  have hh := hr.hd
  exact (ak (ci at3 hN (gY (kB (aU (aO c__law_cell hr (aa (aj at0) (aa (aj at1) ai))) (kB aq (aU (aj at1) aq))) aq) aq)) (ak (bg (gY (gY (aU (kB (aj at3) (aj at3)) (li (aj at3) aq)) aq) (aj at2))) aJ))
theorem nG : FnScope ["_law_orders", "_law_text_here", "_law_order", "_law_part"] ["_law_orders"] (aI (top 54)) := ⟨rfl, rfl, rfl, by decide +kernel, rfl, by decide +kernel, by decide +kernel⟩
theorem nM {f : Addr} {fd : FuncData} (b_str : mg "str" = none) (F : Fun K "_law_text" "_law_text" (top 54) f fd) : FnF P w K mg base 1 f fd ["_law_orders"] (fun ds => aC (dW (aF 4 ds))) := by
  have hN : (["_law_orders", "_law_text_here", "_law_order", "_law_part"] : List Str).Nodup := by decide
  refine F.okF nG (k := 0) (g := dW) fun cdv A outer s H E hr => ?_
  have hu := hr.units
  have hh := hr.hd
  exact (ak (ci at1 hN (aG (l := []) rfl (by decide))) (ak (oF PassesOwn.leaving rfl (dU (aj at0)) (cE 2 hN) (ak (ci at1 hN (aU (aj at1) (bv (aj at2) aq))) (ak (oF PassesOwn.leaving rfl (dU (bb (aj at2) (bE aq) ba)) (cE 3 hN) (ak (ci at1 hN (aU (aU (aj at1) (aG (l := [32]) rfl (by decide))) (An rfl b_str (aa (aj at3) ai)))) aJ)) (ak (ci at1 hN (aU (aj at1) (aG (l := [10]) rfl (by decide)))) aJ)))) (ak (bg (aj at1)) aJ)))
theorem ov : FnScope ["thing"] ["thing"] (aI (top 13)) := ⟨rfl, rfl, rfl, by decide +kernel, rfl, by decide +kernel, by decide +kernel⟩
theorem nX {f : Addr} {fd : FuncData} (b_all : mg "all" = none) (b_isinstance : mg "isinstance" = none) (b_str : mg "str" = none) (F : Fun K "is_plain" "is_plain" (top 13) f fd) : FnF P w K mg base 1 f fd ["thing"] (fun ds => aC (dZ (aF 1 ds))) := by
  have hN : (["thing"] : List Str).Nodup := by decide
  refine F.okF ov (k := 0) (g := dZ) fun cdv A outer s H E hr => ?_
  have hu := hr.units
  have hh := hr.hd
  exact (ak (bg (cO (jb b_isinstance (aj at0) b_str) (fe (yb rfl rfl b_all (aa (fU (df (N' := ["sign"]) (ix := []) eA rfl (dU (aj at0)) (fun C s₂ H₂ fp => (kZ (aG (l := [32]) rfl (by decide)) (eZ at0) (aG (l := [126]) rfl (by decide)))) (fun C s₂ H₂ fp => fy))) ai))))) aJ)
theorem qZ : FnScope ["thing"] ["thing"] (aI (top 19)) := ⟨rfl, rfl, rfl, by decide +kernel, rfl, by decide +kernel, by decide +kernel⟩
theorem rC {f : Addr} {fd : FuncData} {cv : List D -> R D} (b_len : mg "len" = none) {t_MOST_SAID : Tok} (g_MOST_SAID : mg "MOST_SAID" = some (.int 40 t_MOST_SAID)) (c_is_plain : Callee P w K mg base "is_plain" 1 1 cv) (F : Fun K "is_say" "is_say" (top 19) f fd) : FnF P w K mg base 2 f fd ["thing"] (fun ds => aC (fM cv (aF 1 ds))) := by
  have hN : (["thing"] : List Str).Nodup := by decide
  refine F.okF qZ (k := 1) (g := fM cv) fun cdv A outer s H E hr => ?_
  have hu := hr.units
  have hh := hr.hd
  exact (ak (bg (cO (lD hu (fQ rfl b_len (aa (aj at0) ai)) aq) (cO (lD hu (bv (aj at0) aq) (aG (l := [115, 97, 121]) rfl (by decide))) (cO (aO c_is_plain hr (aa (bv (aj at0) aq) ai)) (fe (kZ aq (fQ rfl b_len (aa (bv (aj at0) aq) ai)) (iQ rfl g_MOST_SAID))))))) aJ)
theorem ow : FnScope ["thing"] ["thing"] (aI (top 11)) := ⟨rfl, rfl, rfl, by decide +kernel, rfl, by decide +kernel, by decide +kernel⟩
theorem nB {f : Addr} {fd : FuncData} (b_bool : mg "bool" = none) (eV : mg "int" = none) (b_isinstance : mg "isinstance" = none) (F : Fun K "is_whole" "is_whole" (top 11) f fd) : FnF P w K mg base 1 f fd ["thing"] (fun ds => aC (dM (aF 1 ds))) := by
  have hN : (["thing"] : List Str).Nodup := by decide
  refine F.okF ow (k := 0) (g := dM) fun cdv A outer s H E hr => ?_
  have hu := hr.units
  have hh := hr.hd
  exact (ak (bg (cO (om b_isinstance (aj at0) eV) (fe (wr (oV b_isinstance (aj at0) b_bool))))) aJ)
theorem mf : FnScope ["thing", "low", "high"] ["thing", "low", "high"] (aI (top 12)) := ⟨rfl, rfl, rfl, by decide +kernel, rfl, by decide +kernel, by decide +kernel⟩
theorem mQ {f : Addr} {fd : FuncData} {cD : List D -> R D} (c_is_whole : Callee P w K mg base "is_whole" 1 1 cD) (F : Fun K "is_within" "is_within" (top 12) f fd) : FnF P w K mg base 2 f fd ["thing", "low", "high"] (fun ds => aC (dc cD (aF 3 ds))) := by
  have hN : (["thing", "low", "high"] : List Str).Nodup := by decide
  refine F.okF mf (k := 1) (g := dc cD) fun cdv A outer s H E hr => ?_
  have hu := hr.units
  have hh := hr.hd
  exact (ak (bg (cO (aO c_is_whole hr (aa (aj at0) ai)) (fe (kZ (aj at1) (aj at0) (aj at2))))) aJ)
theorem uc : FnScope ["thing"] ["thing"] (aI (top 20)) := ⟨rfl, rfl, rfl, by decide +kernel, rfl, by decide +kernel, by decide +kernel⟩
theorem uC {f : Addr} {fd : FuncData} {bu : List D -> R D} (b_len : mg "len" = none) {t_MOST_ROWS : Tok} (g_MOST_ROWS : mg "MOST_ROWS" = some (.int 12 t_MOST_ROWS)) {t_MOST_WIDTH : Tok} (g_MOST_WIDTH : mg "MOST_WIDTH" = some (.int 40 t_MOST_WIDTH)) (c_is_within : Callee P w K mg base "is_within" 2 3 bu) (F : Fun K "is_go" "is_go" (top 20) f fd) : FnF P w K mg base 3 f fd ["thing"] (fun ds => aC (gQ bu (aF 1 ds))) := by
  have hN : (["thing"] : List Str).Nodup := by decide
  refine F.okF uc (k := 2) (g := gQ bu) fun cdv A outer s H E hr => ?_
  have hu := hr.units
  have hh := hr.hd
  exact (ak (fJ (iV (iA (fY hu (fQ rfl b_len (aa (aj at0) ai)) aq) (gm (fY hu (bv (aj at0) aq) (aG (l := [103, 111]) rfl (by decide)))))) (ak (bg jz) aJ) aJ) (ak (bg (cO (aO c_is_within hr (aa (bv (aj at0) aq) (aa aq (aa (wz (iQ rfl g_MOST_ROWS) aq) ai)))) (fe (aO c_is_within hr (aa (bv (aj at0) aq) (aa aq (aa (iQ rfl g_MOST_WIDTH) ai))))))) aJ))
theorem nJ : FnScope ["thing"] ["thing"] (aI (top 21)) := ⟨rfl, rfl, rfl, by decide +kernel, rfl, by decide +kernel, by decide +kernel⟩
theorem nF {f : Addr} {fd : FuncData} {di eO : List D -> R D} (b_isinstance : mg "isinstance" = none) (b_tuple : mg "tuple" = none) (c_is_say : Callee P w K mg base "is_say" 3 1 di) (c_is_go : Callee P w K mg base "is_go" 3 1 eO) (F : Fun K "is_order" "is_order" (top 21) f fd) : FnF P w K mg base 4 f fd ["thing"] (fun ds => aC (dS di eO (aF 1 ds))) := by
  have hN : (["thing"] : List Str).Nodup := by decide
  refine F.okF nJ (k := 3) (g := dS di eO) fun cdv A outer s H E hr => ?_
  have hu := hr.units
  have hh := hr.hd
  exact (ak (fJ (eX (cN (hJ b_isinstance (aj at0) b_tuple))) (ak (bg jz) aJ) aJ) (ak (bg (A5 (aO c_is_say hr (aa (aj at0) ai)) (A5 (aO c_is_go hr (aa (aj at0) ai)) (fe (lD hu (aj at0) (eF (aa (aG (l := [119, 105, 112, 101]) rfl (by decide)) ai))))))) aJ))
theorem kf : FnScope ["thing"] ["thing"] (aI (top 22)) := ⟨rfl, rfl, rfl, by decide +kernel, rfl, by decide +kernel, by decide +kernel⟩
theorem jY {f : Addr} {fd : FuncData} {aY : List D -> R D} {ae : Addr} (r_NoOrder : Ref "NoOrder" ae mg base) (c_is_order : Callee P w K mg base "is_order" 4 1 aY) (F : Fun K "check_order" "check_order" (top 22) f fd) : FnF P w K mg base 5 f fd ["thing"] (fun ds => aC (ck aY ae (aF 1 ds))) := by
  have hN : (["thing"] : List Str).Nodup := by decide
  refine F.okF kf (k := 4) (g := ck aY ae) fun cdv A outer s H E hr => ?_
  have hu := hr.units
  have hh := hr.hd
  exact (ak (fJ (eX (cN (aO c_is_order hr (aa (aj at0) ai)))) (ak (lh r_NoOrder hh (aG (l := [116, 104, 105, 115, 32, 105, 115, 32, 110, 111, 32, 111, 114, 100, 101, 114]) rfl (by decide))) aJ) aJ) aJ)
theorem ma : FnScope ["row", "column"] ["row", "column"] (aI (top 26)) := ⟨rfl, rfl, rfl, by decide +kernel, rfl, by decide +kernel, by decide +kernel⟩
theorem mO {f : Addr} {fd : FuncData} (F : Fun K "spot_text" "spot_text" (top 26) f fd) : FnF P w K mg base 1 f fd ["row", "column"] (fun ds => aC (dg (aF 2 ds))) := by
  have hN : (["row", "column"] : List Str).Nodup := by decide
  refine F.okF ma (k := 0) (g := dg) fun cdv A outer s H E hr => ?_
  have hu := hr.units
  have hh := hr.hd
  exact (ak (bg (yd (AA (aj at0)) (aG (l := [32]) rfl (by decide)) (AA (aj at1)))) aJ)
theorem lm : FnScope ["order"] ["order"] (aI (top 30)) := ⟨rfl, rfl, rfl, by decide +kernel, rfl, by decide +kernel, by decide +kernel⟩
theorem lG {f : Addr} {fd : FuncData} {aD bi : List D -> R D} (c_check_order : Callee P w K mg base "check_order" 5 1 aD) (c_spot_text : Callee P w K mg base "spot_text" 5 2 bi) (F : Fun K "order_text" "order_text" (top 30) f fd) : FnF P w K mg base 6 f fd ["order"] (fun ds => aC (cL aD bi (aF 1 ds))) := by
  have hN : (["order"] : List Str).Nodup := by decide
  refine F.okF lm (k := 5) (g := cL aD bi) fun cdv A outer s H E hr => ?_
  have hu := hr.units
  have hh := hr.hd
  exact (ak (sI (aO c_check_order hr (aa (aj at0) ai))) (ak (fJ (iH hu (bv (aj at0) aq) (aG (l := [115, 97, 121]) rfl (by decide))) (ak (bg (aU (aG (l := [115, 97, 121, 32]) rfl (by decide)) (bv (aj at0) aq))) aJ) aJ) (ak (fJ (iH hu (bv (aj at0) aq) (aG (l := [103, 111]) rfl (by decide))) (ak (bg (aU (aG (l := [103, 111, 32]) rfl (by decide)) (aO c_spot_text hr (aa (bv (aj at0) aq) (aa (bv (aj at0) aq) ai))))) aJ) aJ) (ak (bg (aG (l := [119, 105, 112, 101]) rfl (by decide))) aJ))))
theorem jU : FnScope ["thing", "order"] ["thing"] (aI (top 23)) := ⟨rfl, rfl, rfl, by decide +kernel, rfl, by decide +kernel, by decide +kernel⟩
theorem iX {f : Addr} {fd : FuncData} {aD : List D -> R D} {ae : Addr} (b_isinstance : mg "isinstance" = none) (b_list : mg "list" = none) (r_NoOrder : Ref "NoOrder" ae mg base) (c_check_order : Callee P w K mg base "check_order" 5 1 aD) (F : Fun K "check_orders" "check_orders" (top 23) f fd) : FnF P w K mg base 6 f fd ["thing"] (fun ds => aC (cM aD ae (aF 2 ds))) := by
  have hN : (["thing", "order"] : List Str).Nodup := by decide
  refine F.okF jU (k := 5) (g := cM aD ae) fun cdv A outer s H E hr => ?_
  have hu := hr.units
  have hh := hr.hd
  exact (ak (fJ (eX (cN (uk b_isinstance (aj at0) b_list))) (ak (lh r_NoOrder hh (aG (l := [116, 104, 105, 115, 32, 105, 115, 32, 110, 111, 32, 108, 105, 115, 116, 32, 111, 102, 32, 111, 114, 100, 101, 114, 115]) rfl (by decide))) aJ) aJ) (ak (oF PassesOwn.leaving rfl (dU (aj at0)) (cE 1 hN) (ak (sI (aO c_check_order hr (aa (aj at1) ai))) aJ)) aJ))
theorem km : FnScope ["orders"] ["orders"] (aI (top 31)) := ⟨rfl, rfl, rfl, by decide +kernel, rfl, by decide +kernel, by decide +kernel⟩
theorem kg {f : Addr} {fd : FuncData} {bj aw : List D -> R D} (c_check_orders : Callee P w K mg base "check_orders" 6 1 bj) (c_order_text : Callee P w K mg base "order_text" 6 1 aw) (F : Fun K "orders_text" "orders_text" (top 31) f fd) : FnF P w K mg base 7 f fd ["orders"] (fun ds => aC (cj bj aw (aF 1 ds))) := by
  have hN : (["orders"] : List Str).Nodup := by decide
  refine F.okF km (k := 6) (g := cj bj aw) fun cdv A outer s H E hr => ?_
  have hu := hr.units
  have hh := hr.hd
  exact (ak (sI (aO c_check_orders hr (aa (aj at0) ai))) (ak (bg (Be (aG (l := []) rfl (by decide)) (aa (fU (df (N' := ["order"]) (ix := []) eA rfl (dU (aj at0)) (fun C s₂ H₂ fp => (aU (aO c_order_text hr (aa (eZ at0) ai)) (aG (l := [10]) rfl (by decide)))) (fun C s₂ H₂ fp => fy))) ai))) aJ))
theorem oB : FnScope ["thing"] ["thing"] (aI (top 29)) := ⟨rfl, rfl, rfl, by decide +kernel, rfl, by decide +kernel, by decide +kernel⟩
theorem nD {f : Addr} {fd : FuncData} {ah : Addr} (b_isinstance : mg "isinstance" = none) (b_str : mg "str" = none) (r_NoText : Ref "NoText" ah mg base) (F : Fun K "lines_of" "lines_of" (top 29) f fd) : FnF P w K mg base 1 f fd ["thing"] (fun ds => aC (dN ah (aF 1 ds))) := by
  have hN : (["thing"] : List Str).Nodup := by decide
  refine F.okF oB (k := 0) (g := dN ah) fun cdv A outer s H E hr => ?_
  have hu := hr.units
  have hh := hr.hd
  exact (ak (fJ (iV (iA (eX (cN (jb b_isinstance (aj at0) b_str))) (gm (iV (lI (fY hu (aj at0) (aG (l := []) rfl (by decide))) (iR (eX (cN (Ao (aj at0) (aa (aG (l := [10]) rfl (by decide)) ai)))))))))) (ak (lh r_NoText hh (aG (l := [116, 104, 105, 115, 32, 105, 115, 32, 110, 111, 32, 116, 101, 120, 116, 32, 111, 102, 32, 108, 105, 110, 101, 115, 32, 116, 104, 97, 116, 32, 97, 114, 101, 32, 101, 97, 99, 104, 32, 101, 110, 100, 101, 100, 32, 98, 121, 32, 97, 32, 108, 105, 110, 101, 32, 102, 101, 101, 100]) rfl (by decide))) aJ) aJ) (ak (bg (bb (sA (aj at0) (aa (aG (l := [10]) rfl (by decide)) ai)) ba (bE (tU aq)))) aJ))
theorem kh : FnScope ["text"] ["text"] (aI (top 14)) := ⟨rfl, rfl, rfl, by decide +kernel, rfl, by decide +kernel, by decide +kernel⟩
theorem kj {f : Addr} {fd : FuncData} (b_all : mg "all" = none) {t_FIGURES : Tok} (g_FIGURES : mg "FIGURES" = some (.str "0123456789" t_FIGURES)) (F : Fun K "are_figures" "are_figures" (top 14) f fd) : FnF P w K mg base 1 f fd ["text"] (fun ds => aC (cn (aF 1 ds))) := by
  have hN : (["text"] : List Str).Nodup := by decide
  refine F.okF kh (k := 0) (g := cn) fun cdv A outer s H E hr => ?_
  have hu := hr.units
  have hh := hr.hd
  exact (ak (bg (cO (CQ hu (aj at0) (aG (l := []) rfl (by decide))) (fe (yb rfl rfl b_all (aa (fU (df (N' := ["sign"]) (ix := []) eA rfl (dU (aj at0)) (fun C s₂ H₂ fp => (AL (eZ at0) (uK (l := [48, 49, 50, 51, 52, 53, 54, 55, 56, 57]) rfl g_FIGURES rfl (by decide)))) (fun C s₂ H₂ fp => fy))) ai))))) aJ)
theorem gJ : FnScope ["text"] ["text"] (aI (top 27)) := ⟨rfl, rfl, rfl, by decide +kernel, rfl, by decide +kernel, by decide +kernel⟩
theorem gX {f : Addr} {fd : FuncData} {bz : List D -> R D} (b_len : mg "len" = none) {t_MOST_FIGURES : Tok} (g_MOST_FIGURES : mg "MOST_FIGURES" = some (.int 2 t_MOST_FIGURES)) (c_are_figures : Callee P w K mg base "are_figures" 1 1 bz) (F : Fun K "is_short_number" "is_short_number" (top 27) f fd) : FnF P w K mg base 2 f fd ["text"] (fun ds => aC (bC bz (aF 1 ds))) := by
  have hN : (["text"] : List Str).Nodup := by decide
  refine F.okF gJ (k := 1) (g := bC bz) fun cdv A outer s H E hr => ?_
  have hu := hr.units
  have hh := hr.hd
  exact (ak (bg (cO (aO c_are_figures hr (aa (aj at0) ai)) (fe (BN (fQ rfl b_len (aa (aj at0) ai)) (iQ rfl g_MOST_FIGURES))))) aJ)
theorem jr : FnScope ["text", "parts"] ["text"] (aI (top 28)) := ⟨rfl, rfl, rfl, by decide +kernel, rfl, by decide +kernel, by decide +kernel⟩
theorem jp {f : Addr} {fd : FuncData} {aP : List D -> R D} (b_all : mg "all" = none) (eV : mg "int" = none) (b_len : mg "len" = none) (c_is_short_number : Callee P w K mg base "is_short_number" 2 1 aP) (F : Fun K "spot_or_none" "spot_or_none" (top 28) f fd) : FnF P w K mg base 3 f fd ["text"] (fun ds => aC (bQ aP (aF 2 ds))) := by
  have hN : (["text", "parts"] : List Str).Nodup := by decide
  refine F.okF jr (k := 2) (g := bQ aP) fun cdv A outer s H E hr => ?_
  have hu := hr.units
  have hh := hr.hd
  exact (ak (ci at1 hN (sA (aj at0) (aa (aG (l := [32]) rfl (by decide)) ai))) (ak (fJ (iV (iA (fY hu (fQ rfl b_len (aa (aj at1) ai)) aq) (gm (eX (cN (yb rfl rfl b_all (aa (fU (df (N' := ["part"]) (ix := []) eA rfl (dU (aj at1)) (fun C s₂ H₂ fp => (aO c_is_short_number hr (aa (eZ at0) ai))) (fun C s₂ H₂ fp => fy))) ai))))))) (ak (bg jC) aJ) aJ) (ak (bg (eF (aa (wG rfl eV (aa (bv (aj at1) aq) ai)) (aa (wG rfl eV (aa (bv (aj at1) aq) ai)) ai)))) aJ)))
theorem iI : FnScope ["line", "parts", "spot"] ["line"] (aI (top 32)) := ⟨rfl, rfl, rfl, by decide +kernel, rfl, by decide +kernel, by decide +kernel⟩
theorem iM {f : Addr} {fd : FuncData} {aV : List D -> R D} (c_spot_or_none : Callee P w K mg base "spot_or_none" 3 1 aV) (F : Fun K "order_or_none" "order_or_none" (top 32) f fd) : FnF P w K mg base 4 f fd ["line"] (fun ds => aC (bL aV (aF 3 ds))) := by
  have hN : (["line", "parts", "spot"] : List Str).Nodup := by decide
  refine F.okF iI (k := 3) (g := bL aV) fun cdv A outer s H E hr => ?_
  have hu := hr.units
  have hh := hr.hd
  exact (ak (ci at1 hN (zx (aj at0) (aa (aG (l := [32]) rfl (by decide)) ai))) (ak (fJ (iH hu (bv (aj at1) aq) (aG (l := [115, 97, 121]) rfl (by decide))) (ak (bg (eF (aa (aG (l := [115, 97, 121]) rfl (by decide)) (aa (bv (aj at1) aq) ai)))) aJ) aJ) (ak (fJ (iH hu (bv (aj at1) aq) (aG (l := [103, 111]) rfl (by decide))) (ak (ci at2 hN (aO c_spot_or_none hr (aa (bv (aj at1) aq) ai))) (ak (bg (tN (zO (aj at2) jC) jC (eF (aa (aG (l := [103, 111]) rfl (by decide)) (aa (bv (aj at2) aq) (aa (bv (aj at2) aq) ai)))))) aJ)) aJ) (ak (bg (eF (aa (aG (l := [119, 105, 112, 101]) rfl (by decide)) ai))) aJ))))
theorem lO : FnScope ["line", "order"] ["line"] (aI (top 33)) := ⟨rfl, rfl, rfl, by decide +kernel, rfl, by decide +kernel, by decide +kernel⟩
theorem kW {f : Addr} {fd : FuncData} {aX aY aw : List D -> R D} {ah : Addr} (r_NoText : Ref "NoText" ah mg base) (c_order_or_none : Callee P w K mg base "order_or_none" 6 1 aX) (c_is_order : Callee P w K mg base "is_order" 6 1 aY) (c_order_text : Callee P w K mg base "order_text" 6 1 aw) (F : Fun K "read_order" "read_order" (top 33) f fd) : FnF P w K mg base 7 f fd ["line"] (fun ds => aC (cH aX aY aw ah (aF 2 ds))) := by
  have hN : (["line", "order"] : List Str).Nodup := by decide
  refine F.okF lO (k := 6) (g := cH aX aY aw ah) fun cdv A outer s H E hr => ?_
  have hu := hr.units
  have hh := hr.hd
  exact (ak (ci at1 hN (aO c_order_or_none hr (aa (aj at0) ai))) (ak (fJ (iV (iA (eX (cN (aO c_is_order hr (aa (aj at1) ai)))) (gm (fY hu (aO c_order_text hr (aa (aj at1) ai)) (aj at0))))) (ak (lh r_NoText hh (aG (l := [110, 111, 32, 111, 114, 100, 101, 114, 32, 105, 115, 32, 119, 114, 105, 116, 116, 101, 110, 32, 115, 111]) rfl (by decide))) aJ) aJ) (ak (bg (aj at1)) aJ)))
theorem ka : FnScope ["text"] ["text"] (aI (top 34)) := ⟨rfl, rfl, rfl, by decide +kernel, rfl, by decide +kernel, by decide +kernel⟩
theorem jZ {f : Addr} {fd : FuncData} {cz bG : List D -> R D} (c_lines_of : Callee P w K mg base "lines_of" 7 1 cz) (c_read_order : Callee P w K mg base "read_order" 7 1 bG) (F : Fun K "read_orders" "read_orders" (top 34) f fd) : FnF P w K mg base 8 f fd ["text"] (fun ds => aC (cg cz bG (aF 1 ds))) := by
  have hN : (["text"] : List Str).Nodup := by decide
  refine F.okF ka (k := 7) (g := cg cz bG) fun cdv A outer s H E hr => ?_
  have hu := hr.units
  have hh := hr.hd
  exact (ak (bg (fU (se rfl rfl (N' := ["line"]) (ix := []) eA rfl (dU (aO c_lines_of hr (aa (aj at0) ai))) (fun C s₂ H₂ fp pn xe => (aO c_read_order hr (aa (yg at0) ai))) (fun C s₂ H₂ fp => fy)))) aJ)
theorem nW : FnScope ["_law_kept", "_law_kinds"] ["_law_kept"] (aI (top 52)) := ⟨rfl, rfl, rfl, by decide +kernel, rfl, by decide +kernel, by decide +kernel⟩
theorem nY {f : Addr} {fd : FuncData} {ar ae : Addr} {aB au : Addr} {ax aA ah : Addr} {rs : List Addr} (b_ValueError : mg "ValueError" = none) (b_isinstance : mg "isinstance" = none) (Er : Errs K mg rs [("NoScreen", ar), ("NoOrder", ae), ("NoRoom", aB), ("NoNumber", au), ("NoTable", ax), ("NoTask", aA), ("NoText", ah)]) (F : Fun K "_law_word" "_law_word" (top 52) f fd) : FnF P w K mg base 1 f fd ["_law_kept"] (fun ds => aC (dQ aB ae au ax ar ah aA rs (aF 2 ds))) := by
  have hN : (["_law_kept", "_law_kinds"] : List Str).Nodup := by decide
  refine F.okF nW (k := 0) (g := dQ aB ae au ax ar ah aA rs) fun cdv A outer s H E hr => ?_
  have hu := hr.units
  have hh := hr.hd
  exact (ak (rB 1 hN (dG (aa (fZ (T := au) Er (.tail _ (.tail _ (.tail _ (.head _)))) b_isinstance (aj at0)) (aa (fZ (T := ae) Er (.tail _ (.head _)) b_isinstance (aj at0)) (aa (fZ (T := aB) Er (.tail _ (.tail _ (.head _))) b_isinstance (aj at0)) ai))))) (ak (hG 1 (cr (dG (aa (fZ (T := ar) Er (.head _) b_isinstance (aj at0)) (aa (fZ (T := ax) Er (.tail _ (.tail _ (.tail _ (.tail _ (.head _))))) b_isinstance (aj at0)) ai))))) (ak (hG 1 (cr (dG (aa (fZ (T := aA) Er (.tail _ (.tail _ (.tail _ (.tail _ (.tail _ (.head _)))))) b_isinstance (aj at0)) (aa (fZ (T := ah) Er (.tail _ (.tail _ (.tail _ (.tail _ (.tail _ (.tail _ (.head _))))))) b_isinstance (aj at0)) ai))))) (tK 1 (ak (fJ (iV (iA (fY hu (yQ (aj at1) (aa jz ai)) aq) (gm (eX (cN (zF Er b_isinstance b_ValueError (aj at0))))))) (ak (bg (aG (l := [119, 114, 111, 110, 103]) rfl (by decide))) aJ) aJ) (ak (bg (bv (cr (dG (aa (aG (l := [110, 111, 32, 110, 117, 109, 98, 101, 114]) rfl (by decide)) (aa (aG (l := [110, 111, 32, 111, 114, 100, 101, 114]) rfl (by decide)) (aa (aG (l := [110, 111, 32, 114, 111, 111, 109]) rfl (by decide)) (aa (aG (l := [110, 111, 32, 115, 99, 114, 101, 101, 110]) rfl (by decide)) (aa (aG (l := [110, 111, 32, 116, 97, 98, 108, 101]) rfl (by decide)) (aa (aG (l := [110, 111, 32, 116, 97, 115, 107]) rfl (by decide)) (aa (aG (l := [110, 111, 32, 116, 101, 120, 116]) rfl (by decide)) ai))))))))) (xm (aj at1) (aa jz ai)))) aJ))))))
theorem rP : FnScope ["_law_what", "_law_thing", "_law_kept", "_law_answer", "e"] ["_law_what", "_law_thing"] (aI (top 53)) := ⟨rfl, rfl, rfl, by decide +kernel, rfl, by decide +kernel, by decide +kernel⟩
theorem tu {f : Addr} {fd : FuncData} {aw aR : List D -> R D} {aS bc : List D -> R D} {ar ae : Addr} {aB au : Addr} {ax aA ah : Addr} {rs : List Addr} (c_order_text : Callee P w K mg base "order_text" 8 1 aw) (c_orders_text : Callee P w K mg base "orders_text" 8 1 aR) (c_read_orders : Callee P w K mg base "read_orders" 8 1 aS) (c__law_word : Callee P w K mg base "_law_word" 8 1 bc) (Er : Errs K mg rs [("NoScreen", ar), ("NoOrder", ae), ("NoRoom", aB), ("NoNumber", au), ("NoTable", ax), ("NoTask", aA), ("NoText", ah)]) (F : Fun K "_law_do" "_law_do" (top 53) f fd) : FnF P w K mg base 9 f fd ["_law_what", "_law_thing"] (fun ds => aC (fI aw aR aS bc rs (aF 5 ds))) := by
  have hN : (["_law_what", "_law_thing", "_law_kept", "_law_answer", "e"] : List Str).Nodup := by decide
  refine F.okF rP (k := 8) (g := fI aw aR aS bc rs) fun cdv A outer s H E hr => ?_
  have hu := hr.units
  have hh := hr.hd
  exact (ak (ci at2 hN jC) (ak (ci at3 hN jC) (ak (CH 4 Er hN rfl rfl rfl rfl (fun pn xe => (ak (zQ at3 hN (xv c_order_text c_orders_text c_read_orders hr (vP at0) (aa (vP at1) ai))) aJ)) (fun a xe => (ak (Bg at2 hN (AJ at4)) aJ))) (ak (fJ (zO (aj at2) jC) (ak (bg (aj at3)) aJ) aJ) (ak (bg (aO c__law_word hr (aa (aj at2) ai))) aJ)))))
theorem lJ : FnScope ["_law_text_here", "_law_cell_here", "_law_signs", "_law_at", "_law_sign", "_law_on", "_law_way"] ["_law_text_here", "_law_cell_here", "_law_signs"] (aI (top 51)) := ⟨rfl, rfl, rfl, by decide +kernel, rfl, by decide +kernel, by decide +kernel⟩
theorem lF {f : Addr} {fd : FuncData} (b_len : mg "len" = none) (F : Fun K "_law_spoilt" "_law_spoilt" (top 51) f fd) : FnF P w K mg base 1 f fd ["_law_text_here", "_law_cell_here", "_law_signs"] (fun ds => aC (cG (aF 7 ds))) := by
  have hN : (["_law_text_here", "_law_cell_here", "_law_signs", "_law_at", "_law_sign", "_law_on", "_law_way"] : List Str).Nodup := by decide
  refine F.okF lJ (k := 0) (g := cG) fun cdv A outer s H E hr => ?_
  have hu := hr.units
  have hh := hr.hd
  exact (ak (ci at3 hN (gY (aj at1) (aU (fQ rfl b_len (aa (aj at0) ai)) aq))) (ak (ci at4 hN (bv (aj at2) (gY (li (aj at1) aq) (fQ rfl b_len (aa (aj at2) ai))))) (ak (ci at5 hN (aU (aU (aj at3) aq) (gY (li (aj at1) aq) aq))) (ak (ci at6 hN (gY (li (aj at1) aq) aq)) (ak (fJ (qH (aj at6) aq) (ak (bg (aU (aU (bb (aj at0) ba (bE (aj at3))) (aj at4)) (bb (aj at0) (bE (aj at3)) ba))) aJ) aJ) (ak (fJ (iH hu (aj at6) aq) (ak (bg (aU (bb (aj at0) ba (bE (aj at3))) (bb (aj at0) (bE (aU (aj at3) aq)) ba))) aJ) aJ) (ak (fJ (qH (aj at6) aq) (ak (bg (aU (aU (bb (aj at0) ba (bE (aj at3))) (aj at4)) (bb (aj at0) (bE (aU (aj at3) aq)) ba))) aJ) aJ) (ak (fJ (iH hu (aj at6) aq) (ak (bg (aU (bb (aj at0) ba (bE (aj at3))) (bb (aj at0) (bE (aj at5)) ba))) aJ) aJ) (ak (fJ (iH hu (aj at6) aq) (ak (bg (aU (bb (aj at0) ba (bE (aj at5))) (bb (aj at0) (bE (aj at3)) ba))) aJ) aJ) (ak (bg (bv (cr (dG (aa (aU (aj at0) (aG (l := [32]) rfl (by decide))) (aa (aU (aG (l := [32]) rfl (by decide)) (aj at0)) (aa (aU (bb (aj at0) (bE (aj at3)) ba) (bb (aj at0) ba (bE (aj at3)))) (aa (aG (l := []) rfl (by decide)) (aa (aU (aj at0) (aj at0)) ai))))))) (gY (aj at1) aq))) aJ))))))))))
theorem jq : FnScope ["_law_thing"] ["_law_thing"] (aI (top 48)) := ⟨rfl, rfl, rfl, by decide +kernel, rfl, by decide +kernel, by decide +kernel⟩
theorem jI {f : Addr} {fd : FuncData} (b_isinstance : mg "isinstance" = none) (b_ord : mg "ord" = none) (b_str : mg "str" = none) (F : Fun K "_law_is_plain" "_law_is_plain" (top 48) f fd) : FnF P w K mg base 1 f fd ["_law_thing"] (fun ds => aC (bR (aF 1 ds))) := by
  have hN : (["_law_thing"] : List Str).Nodup := by decide
  refine F.okF jq (k := 0) (g := bR) fun cdv A outer s H E hr => ?_
  have hu := hr.units
  have hh := hr.hd
  exact (ak (bg (cO (jb b_isinstance (aj at0) b_str) (fe (lD hu (fU (df (N' := ["_law_sign"]) (ix := []) eA rfl (dU (aj at0)) (fun C s₂ H₂ fp => (eZ at0)) (fun C s₂ H₂ fp => (ri (eX (yX aq (B4 rfl b_ord (aa (eZ at0) ai)) aq)))))) (cr (dG ai)))))) aJ)
theorem mS : FnScope ["_law_thing", "_law_low", "_law_high"] ["_law_thing", "_law_low", "_law_high"] (aI (top 47)) := ⟨rfl, rfl, rfl, by decide +kernel, rfl, by decide +kernel, by decide +kernel⟩
theorem mx {f : Addr} {fd : FuncData} (b_bool : mg "bool" = none) (eV : mg "int" = none) (b_isinstance : mg "isinstance" = none) (F : Fun K "_law_whole" "_law_whole" (top 47) f fd) : FnF P w K mg base 1 f fd ["_law_thing", "_law_low", "_law_high"] (fun ds => aC (dn (aF 3 ds))) := by
  have hN : (["_law_thing", "_law_low", "_law_high"] : List Str).Nodup := by decide
  refine F.okF mS (k := 0) (g := dn) fun cdv A outer s H E hr => ?_
  have hu := hr.units
  have hh := hr.hd
  exact (ak (bg (cO (om b_isinstance (aj at0) eV) (cO (wr (oV b_isinstance (aj at0) b_bool)) (fe (kZ (aj at1) (aj at0) (aj at2)))))) aJ)
theorem jm : FnScope ["_law_thing"] ["_law_thing"] (aI (top 50)) := ⟨rfl, rfl, rfl, by decide +kernel, rfl, by decide +kernel, by decide +kernel⟩
theorem ji {f : Addr} {fd : FuncData} {aQ aZ : List D -> R D} (b_isinstance : mg "isinstance" = none) (b_len : mg "len" = none) (b_str : mg "str" = none) (b_tuple : mg "tuple" = none) (c__law_is_plain : Callee P w K mg base "_law_is_plain" 1 1 aQ) (c__law_whole : Callee P w K mg base "_law_whole" 1 3 aZ) (F : Fun K "_law_is_order" "_law_is_order" (top 50) f fd) : FnF P w K mg base 2 f fd ["_law_thing"] (fun ds => aC (bS aQ aZ (aF 1 ds))) := by
  have hN : (["_law_thing"] : List Str).Nodup := by decide
  refine F.okF jm (k := 1) (g := bS aQ aZ) fun cdv A outer s H E hr => ?_
  have hu := hr.units
  have hh := hr.hd
  exact (ak (fJ (iV (iA (eX (cN (hJ b_isinstance (aj at0) b_tuple))) (iA (iH hu (aj at0) (eF ai)) (gm (eX (cN (jb b_isinstance (bv (aj at0) aq) b_str))))))) (ak (bg jz) aJ) aJ) (ak (fJ (iH hu (bv (aj at0) aq) (aG (l := [115, 97, 121]) rfl (by decide))) (ak (bg (cO (lD hu (fQ rfl b_len (aa (aj at0) ai)) aq) (cO (aO c__law_is_plain hr (aa (bv (aj at0) aq) ai)) (fe (yB aq (fQ rfl b_len (aa (bv (aj at0) aq) ai)) aq))))) aJ) aJ) (ak (fJ (iH hu (bv (aj at0) aq) (aG (l := [103, 111]) rfl (by decide))) (ak (bg (cO (lD hu (fQ rfl b_len (aa (aj at0) ai)) aq) (cO (aO c__law_whole hr (aa (bv (aj at0) aq) (aa aq (aa aq ai)))) (fe (aO c__law_whole hr (aa (bv (aj at0) aq) (aa aq (aa aq ai)))))))) aJ) aJ) (ak (bg (lD hu (aj at0) (eF (aa (aG (l := [119, 105, 112, 101]) rfl (by decide)) ai)))) aJ))))
theorem gT : FnScope ["_law_thing", "_law_made", "_law_k"] ["_law_thing"] (aI (top 44)) := ⟨rfl, rfl, rfl, by decide +kernel, rfl, by decide +kernel, by decide +kernel⟩
theorem lS {k : Nat} {f : Addr} {fd : FuncData} {ao : List D -> R D} (b_isinstance : mg "isinstance" = none) (b_len : mg "len" = none) (b_range : mg "range" = none) (b_tuple : mg "tuple" = none) (c__law_places : Callee P w K mg base "_law_places" k 1 ao) (F : Fun K "_law_places" "_law_places" (top 44) f fd) : FnF P w K mg base (k + 1) f fd ["_law_thing"] (fun ds => aC (cJ ao (aF 3 ds))) := by
  have hN : (["_law_thing", "_law_made", "_law_k"] : List Str).Nodup := by decide
  refine F.okF gT (k := k) (g := cJ ao) fun cdv A outer s H E hr => ?_
  have hu := hr.units
  have hh := hr.hd
  exact (ak (rB 1 hN (dG (aa (eF ai) ai))) (ak (fJ (cN (hJ b_isinstance (aj at0) b_tuple)) (ak (oF PassesOwn.leaving rfl (lC rfl b_range (aa (fQ rfl b_len (aa (aj at0) ai)) ai)) (cE 2 hN) (ak (hG 1 (fU (df (N' := ["_law_place", "_law_k"]) (ix := [2]) eA rfl (dU (aO c__law_places hr (aa (bv (aj at0) (aj at2)) ai))) (fun C s₂ H₂ fp => (aU (eF (aa (eZ at1) ai)) (eZ at0))) (fun C s₂ H₂ fp => fy)))) aJ)) aJ) aJ) (tK 1 (ak (bg (aj at1)) aJ))))
theorem fS {f : Addr} {fd : FuncData} (b_isinstance : mg "isinstance" = none) (b_len : mg "len" = none) (b_range : mg "range" = none) (b_tuple : mg "tuple" = none) (F : Fun K "_law_places" "_law_places" (top 44) f fd) (m : mg "_law_places" = some (.ref f)) : ∀ n : Nat, Callee P w K mg base "_law_places" (n + 1) 1 (bt n)
  | 0 => F.callee m ((F.noF gT).to fun ds hl => .inl (qM ds hl)) fun _ _ _ _ _ _ us hl => by obtain ⟨a, rfl⟩ := jW hl; rfl
  | n + 1 => F.callee m ((lS b_isinstance b_len b_range b_tuple (fS b_isinstance b_len b_range b_tuple F m n) F).to (ly n)) fun _ _ _ _ _ _ us hl => by obtain ⟨a, rfl⟩ := jW hl; rfl
theorem kA : FnScope ["_law_thing", "_law_place", "_law_new", "_law_k"] ["_law_thing", "_law_place", "_law_new"] (aI (top 45)) := ⟨rfl, rfl, rfl, by decide +kernel, rfl, by decide +kernel, by decide +kernel⟩
theorem qu {k : Nat} {f : Addr} {fd : FuncData} {az : List D -> R D} (c__law_put : Callee P w K mg base "_law_put" k 3 az) (F : Fun K "_law_put" "_law_put" (top 45) f fd) : FnF P w K mg base (k + 1) f fd ["_law_thing", "_law_place", "_law_new"] (fun ds => aC (eS az (aF 4 ds))) := by
  have hN : (["_law_thing", "_law_place", "_law_new", "_law_k"] : List Str).Nodup := by decide
  refine F.okF kA (k := k) (g := eS az) fun cdv A outer s H E hr => ?_
  have hu := hr.units
  have hh := hr.hd
  exact (ak (fJ (iH hu (aj at1) (eF ai)) (ak (bg (aj at2)) aJ) aJ) (ak (ci at3 hN (bv (aj at1) aq)) (ak (bg (aU (aU (bb (aj at0) ba (bE (aj at3))) (eF (aa (aO c__law_put hr (aa (bv (aj at0) (aj at3)) (aa (bb (aj at1) (bE aq) ba) (aa (aj at2) ai)))) ai))) (bb (aj at0) (bE (aU (aj at3) aq)) ba))) aJ)))
theorem jf {f : Addr} {fd : FuncData} (F : Fun K "_law_put" "_law_put" (top 45) f fd) (m : mg "_law_put" = some (.ref f)) : ∀ n : Nat, Callee P w K mg base "_law_put" (n + 1) 3 (jx n)
  | 0 => F.callee m ((F.noF kA).to fun ds hl => .inl (A4 ds hl)) fun _ _ _ _ _ _ us hl => by obtain ⟨a, b, c, rfl⟩ := yL hl; rfl
  | n + 1 => F.callee m ((qu (jf F m n) F).to (pH n)) fun _ _ _ _ _ _ us hl => by obtain ⟨a, b, c, rfl⟩ := yL hl; rfl
theorem gj : FnScope ["_law_script", "_law_at", "_law_thing", "_law_places_here", "_law_place", "_law_here", "_law_k", "_law_some", "_law_way", "_law_spot", "_law_sign"] ["_law_script", "_law_at", "_law_thing"] (aI (top 46)) := ⟨rfl, rfl, rfl, by decide +kernel, rfl, by decide +kernel, by decide +kernel⟩
theorem gA {f : Addr} {fd : FuncData} {ao af az : List D -> R D} (eV : mg "int" = none) (b_isinstance : mg "isinstance" = none) (b_len : mg "len" = none) (b_str : mg "str" = none) (b_tuple : mg "tuple" = none) (c__law_places : Callee P w K mg base "_law_places" 5 1 ao) (c__law_pick : Callee P w K mg base "_law_pick" 5 3 af) (c__law_put : Callee P w K mg base "_law_put" 5 3 az) (F : Fun K "_law_spoilt_thing" "_law_spoilt_thing" (top 46) f fd) : FnF P w K mg base 6 f fd ["_law_script", "_law_at", "_law_thing"] (fun ds => aC (bw ao af az (aF 11 ds))) := by
  have hN : (["_law_script", "_law_at", "_law_thing", "_law_places_here", "_law_place", "_law_here", "_law_k", "_law_some", "_law_way", "_law_spot", "_law_sign"] : List Str).Nodup := by decide
  refine F.okF gj (k := 5) (g := bw ao af az) fun cdv A outer s H E hr => ?_
  have hu := hr.units
  have hh := hr.hd
  exact (ak (ci at3 hN (aO c__law_places hr (aa (aj at2) ai))) (ak (ci at4 hN (bv (aj at3) (aO c__law_pick hr (aa (aj at0) (aa (aj at1) (aa (fQ rfl b_len (aa (aj at3) ai)) ai)))))) (ak (ci at5 hN (aj at2)) (ak (oF PassesOwn.leaving rfl (dU (aj at4)) (cE 6 hN) (ak (ci at5 hN (bv (aj at5) (aj at6))) aJ)) (ak (ci at7 hN (cr (dG (aa aq (aa aq (aa aq (aa aq (aa aq (aa aq (aa aq (aa (tU aq) (aa jz (aa jC (aa (aG (l := [97]) rfl (by decide)) (aa (aG (l := []) rfl (by decide)) (aa (eF (aa (aG (l := [103, 111]) rfl (by decide)) (aa aq (aa aq ai)))) (aa (eF (aa aq (aa aq ai))) (aa (cr (dG (aa aq ai))) (aa (eF (aa (aj at5) ai)) (aa (eF (aa (aj at5) (aa (aj at5) ai))) ai)))))))))))))))))))) (ak (ci at8 hN (aO c__law_pick hr (aa (aj at0) (aa (aU (aj at1) aq) (aa aq ai))))) (ak (fJ (qH (aj at8) aq) (ak (bg (aO c__law_put hr (aa (aj at2) (aa (aj at4) (aa (bv (aj at7) (aj at8)) ai))))) aJ) aJ) (ak (fJ (iV (lI (cN (hJ b_isinstance (aj at5) b_tuple)) (iR (fY hu (aj at5) (eF ai))))) (ak (ci at6 hN (aO c__law_pick hr (aa (aj at0) (aa (aU (aj at1) aq) (aa (fQ rfl b_len (aa (aj at5) ai)) ai))))) (ak (bg (aO c__law_put hr (aa (aj at2) (aa (aj at4) (aa (tN (qH (aj at8) aq) (aU (bb (aj at5) ba (bE (aj at6))) (bb (aj at5) (bE (aU (aj at6) aq)) ba)) (aU (bb (aj at5) ba (bE (aU (aj at6) aq))) (bb (aj at5) (bE (aj at6)) ba))) ai))))) aJ)) aJ) (ak (fJ (cN (jb b_isinstance (aj at5) b_str)) (ak (ci at9 hN (aO c__law_pick hr (aa (aj at0) (aa (aU (aj at1) aq) (aa (aU (fQ rfl b_len (aa (aj at5) ai)) aq) ai))))) (ak (ci C2 hN (bv (cr (dG (aa (aG (l := [10]) rfl (by decide)) (aa (aG (l := []) rfl (by decide)) (aa (aG (l := [97]) rfl (by decide)) (aa (aG (l := [9]) rfl (by decide)) ai)))))) (tN (BT (aj at8) aq) (wz (aj at8) aq) aq))) (ak (bg (aO c__law_put hr (aa (aj at2) (aa (aj at4) (aa (aU (aU (bb (aj at5) ba (bE (aj at9))) (aj C2)) (bb (aj at5) (bE (aU (aj at9) aq)) ba)) ai))))) aJ))) aJ) (ak (bg (aO c__law_put hr (aa (aj at2) (aa (aj at4) (aa (tN (cN (om b_isinstance (aj at5) eV)) (aU (aj at5) aq) aq) ai))))) aJ))))))))))
theorem Ab : FnScope ["_law_script", "_law_orders", "_law_k", "_law_some", "_law_text_here", "_law_spoilt_here", "_law_told", "_law_odd", "_law_bad"] ["_law_script"] (aI (top 55)) := ⟨rfl, rfl, rfl, by decide +kernel, rfl, by decide +kernel, by decide +kernel⟩
theorem Av {f : Addr} {fd : FuncData} {af ay : List D -> R D} {aE av : List D -> R D} {am ag : List D -> R D} (b_range : mg "range" = none) (c__law_pick : Callee P w K mg base "_law_pick" 9 3 af) (c__law_text : Callee P w K mg base "_law_text" 9 1 ay) (c__law_do : Callee P w K mg base "_law_do" 9 2 aE) (c__law_spoilt : Callee P w K mg base "_law_spoilt" 9 3 av) (c__law_is_order : Callee P w K mg base "_law_is_order" 9 1 am) (c__law_spoilt_thing : Callee P w K mg base "_law_spoilt_thing" 9 3 ag) (F : Fun K "law" "law" (top 55) f fd) : FnF P w K mg base 10 f fd ["_law_script"] (fun ds => aC (nt af ay aE av am ag (aF 9 ds))) := by
  have hN : (["_law_script", "_law_orders", "_law_k", "_law_some", "_law_text_here", "_law_spoilt_here", "_law_told", "_law_odd", "_law_bad"] : List Str).Nodup := by decide
  refine F.okF Ab (k := 9) (g := nt af ay aE av am ag) fun cdv A outer s H E hr => ?_
  have hu := hr.units
  have hh := hr.hd
  exact (ak (rB 1 hN (dG ai)) (ak (oF PassesOwn.leaving rfl (lC rfl b_range (aa (aO c__law_pick hr (aa (aj at0) (aa aq (aa aq ai)))) ai)) (cE 2 hN) (ak (rB 3 hN (dG (aa (eF (aa (aG (l := [119, 105, 112, 101]) rfl (by decide)) ai)) (aa (eF (aa (aG (l := [103, 111]) rfl (by decide)) (aa (aO c__law_pick hr (aa (aj at0) (aa (aU aq (aj at2)) (aa aq ai)))) (aa (aO c__law_pick hr (aa (aj at0) (aa (aU aq (aj at2)) (aa aq ai)))) ai)))) ai)))) (ak (vn 3 (eF (aa (aG (l := [115, 97, 121]) rfl (by decide)) (aa (bv (cr (dG (aa (aG (l := [97]) rfl (by decide)) (aa (aG (l := [32]) rfl (by decide)) (aa (aG (l := [103, 111, 32, 49, 32, 50]) rfl (by decide)) (aa (aG (l := [119, 105, 112, 101]) rfl (by decide)) (aa (aG (l := [126, 32, 115, 97, 121]) rfl (by decide)) (aa (aG (l := [32, 120, 32]) rfl (by decide)) ai)))))))) (aO c__law_pick hr (aa (aj at0) (aa (aU aq (aj at2)) (aa aq ai))))) ai)))) (ak (sR 3 1 (bv (aj at3) (aO c__law_pick hr (aa (aj at0) (aa (aU aq (aj at2)) (aa aq ai)))))) aJ)))) (tK 1 (ak (ci at4 hN (aO c__law_text hr (aa (aj at1) ai))) (ak (fJ (iV (iA (fY hu (aO c__law_do hr (aa aq (aa (aj at1) ai))) (aj at4)) (gm (fY hu (aO c__law_do hr (aa aq (aa (aj at4) ai))) (aj at1))))) (ak (bg jz) aJ) aJ) (ak (fJ (fY hu (fU (df (N' := ["_law_order"]) (ix := []) eA rfl (dU (aj at1)) (fun C s₂ H₂ fp => (aO c__law_do hr (aa aq (aa (eZ at0) ai)))) (fun C s₂ H₂ fp => fy))) (fU (df (N' := ["_law_order"]) (ix := []) eA rfl (dU (aj at1)) (fun C s₂ H₂ fp => (bb (aO c__law_text hr (aa (cr (dG (aa (eZ at0) ai))) ai)) ba (bE (tU aq)))) (fun C s₂ H₂ fp => fy)))) (ak (bg jz) aJ) aJ) (ak (oF PassesOwn.leaving rfl (lC rfl b_range (aa aq ai)) (cE 2 hN) (ak (ci at5 hN (aO c__law_spoilt hr (aa (aj at4) (aa (aO c__law_pick hr (aa (aj at0) (aa (aU aq (aj at2)) (aa (AF aq aq) ai)))) (aa (aG (l := [32, 48, 49, 50, 57, 10, 115, 97, 121, 103, 111, 119, 105, 112, 101, 126]) rfl (by decide)) ai))))) (ak (ci at6 hN (aO c__law_do hr (aa aq (aa (aj at5) ai)))) (ak (fJ (iV (lI (fY hu (aj at6) (aG (l := [110, 111, 32, 116, 101, 120, 116]) rfl (by decide))) (iR (fY hu (fU (df (N' := ["_law_one"]) (ix := []) eA rfl (dU (aj at6)) (fun C s₂ H₂ fp => (eZ at0)) (fun C s₂ H₂ fp => (ri (eX (cN (aO c__law_is_order hr (aa (eZ at0) ai)))))))) (cr (dG ai)))))) (ak (bg jz) aJ) aJ) (ak (fJ (iV (lI (fY hu (aj at6) (aG (l := [110, 111, 32, 116, 101, 120, 116]) rfl (by decide))) (iR (fY hu (aO c__law_text hr (aa (aj at6) ai)) (aj at5))))) (ak (bg jz) aJ) aJ) aJ))))) (ak (rB 7 hN (dG (aa (aG (l := [97]) rfl (by decide)) (aa (aG (l := [115, 97, 121, 10]) rfl (by decide)) (aa (aG (l := [115, 97, 121, 32, 10]) rfl (by decide)) (aa (aG (l := [119, 105, 112, 101]) rfl (by decide)) (aa (aG (l := [119, 105, 112, 101, 32, 10]) rfl (by decide)) (aa (aG (l := [103, 111, 32, 49, 10]) rfl (by decide)) (aa (aG (l := [103, 111, 32, 49, 50, 32, 48, 10]) rfl (by decide)) (aa (aG (l := [103, 111, 32, 48, 32, 52, 49, 10]) rfl (by decide)) (aa (aG (l := [103, 111, 32, 48, 49, 32, 50, 10]) rfl (by decide)) ai))))))))))) (ak (hG 7 (cr (dG (aa (aG (l := [103, 111, 32, 32, 49, 32, 50, 10]) rfl (by decide)) (aa (aG (l := [10]) rfl (by decide)) ai))))) (ak (hG 7 (cr (dG (aa (aU (aU (aG (l := [115, 97, 121, 32]) rfl (by decide)) (kB (aG (l := [97]) rfl (by decide)) aq)) (aG (l := [10]) rfl (by decide))) (aa (aG (l := [103, 111, 32, 49, 32, 50, 32, 51, 10]) rfl (by decide)) (aa (aG (l := [103, 111, 32, 45, 49, 32, 48, 10]) rfl (by decide)) ai)))))) (tK 7 (ak (fJ (fY hu (aO c__law_do hr (aa aq (aa (bv (aj at7) (aO c__law_pick hr (aa (aj at0) (aa aq (aa aq ai))))) ai))) (aG (l := [110, 111, 32, 116, 101, 120, 116]) rfl (by decide))) (ak (bg jz) aJ) aJ) (ak (ci at8 hN (aO c__law_spoilt_thing hr (aa (aj at0) (aa aq (aa (eF (aa (aG (l := [103, 111]) rfl (by decide)) (aa aq (aa aq ai)))) ai))))) (ak (fJ (cN (aO c__law_is_order hr (aa (aj at8) ai))) (ak (bg (lD hu (aO c__law_do hr (aa aq (aa (aj at8) ai))) (bb (aO c__law_text hr (aa (cr (dG (aa (aj at8) ai))) ai)) ba (bE (tU aq))))) aJ) aJ) (ak (bg (lD hu (cr (dG (aa (aO c__law_do hr (aa aq (aa (aj at8) ai))) (aa (aO c__law_do hr (aa aq (aa (aU (aj at1) (cr (dG (aa (aj at8) ai)))) ai))) ai)))) (kB (cr (dG (aa (aG (l := [110, 111, 32, 111, 114, 100, 101, 114]) rfl (by decide)) ai))) aq))) aJ)))))))))))))))
theorem law_fn {f36 f37 f54 f13 f19 f11 f12 f20 f21 f22 f26 f30 f23 f31 f29 f14 f27 f28 f32 f33 f34 f52 f53 f51 f48 f47 f50 f44 f45 f46 f55 : Addr} {d36 d37 d54 d13 d19 d11 d12 d20 d21 d22 d26 d30 d23 d31 d29 d14 d27 d28 d32 d33 d34 d52 d53 d51 d48 d47 d50 d44 d45 d46 d55 : FuncData} (b_ValueError : mg "ValueError" = none) (b_all : mg "all" = none) (b_bool : mg "bool" = none) (eV : mg "int" = none) (b_isinstance : mg "isinstance" = none) (b_len : mg "len" = none) (b_list : mg "list" = none) (b_ord : mg "ord" = none) (b_range : mg "range" = none) (b_str : mg "str" = none) (b_tuple : mg "tuple" = none) {t_FIGURES : Tok} (g_FIGURES : mg "FIGURES" = some (.str "0123456789" t_FIGURES)) {t_MOST_FIGURES : Tok} (g_MOST_FIGURES : mg "MOST_FIGURES" = some (.int 2 t_MOST_FIGURES)) {t_MOST_ROWS : Tok} (g_MOST_ROWS : mg "MOST_ROWS" = some (.int 12 t_MOST_ROWS)) {t_MOST_SAID : Tok} (g_MOST_SAID : mg "MOST_SAID" = some (.int 40 t_MOST_SAID)) {t_MOST_WIDTH : Tok} (g_MOST_WIDTH : mg "MOST_WIDTH" = some (.int 40 t_MOST_WIDTH)) {ae : Addr} (r_NoOrder : Ref "NoOrder" ae mg base) {ah : Addr} (r_NoText : Ref "NoText" ah mg base) {ar aB : Addr} {au ax aA : Addr} (nd : [ar, ae, aB, au, ax, aA, ah].Nodup) (Er : Errs K mg [ae, ah] [("NoScreen", ar), ("NoOrder", ae), ("NoRoom", aB), ("NoNumber", au), ("NoTable", ax), ("NoTask", aA), ("NoText", ah)])
    (F36 : Fun K "_law_cell" "_law_cell" (top 36) f36 d36 /\ mg "_law_cell" = some (.ref f36))
    (F37 : Fun K "_law_pick" "_law_pick" (top 37) f37 d37 /\ mg "_law_pick" = some (.ref f37))
    (F54 : Fun K "_law_text" "_law_text" (top 54) f54 d54 /\ mg "_law_text" = some (.ref f54))
    (F13 : Fun K "is_plain" "is_plain" (top 13) f13 d13 /\ mg "is_plain" = some (.ref f13))
    (F19 : Fun K "is_say" "is_say" (top 19) f19 d19 /\ mg "is_say" = some (.ref f19))
    (F11 : Fun K "is_whole" "is_whole" (top 11) f11 d11 /\ mg "is_whole" = some (.ref f11))
    (F12 : Fun K "is_within" "is_within" (top 12) f12 d12 /\ mg "is_within" = some (.ref f12))
    (F20 : Fun K "is_go" "is_go" (top 20) f20 d20 /\ mg "is_go" = some (.ref f20))
    (F21 : Fun K "is_order" "is_order" (top 21) f21 d21 /\ mg "is_order" = some (.ref f21))
    (F22 : Fun K "check_order" "check_order" (top 22) f22 d22 /\ mg "check_order" = some (.ref f22))
    (F26 : Fun K "spot_text" "spot_text" (top 26) f26 d26 /\ mg "spot_text" = some (.ref f26))
    (F30 : Fun K "order_text" "order_text" (top 30) f30 d30 /\ mg "order_text" = some (.ref f30))
    (F23 : Fun K "check_orders" "check_orders" (top 23) f23 d23 /\ mg "check_orders" = some (.ref f23))
    (F31 : Fun K "orders_text" "orders_text" (top 31) f31 d31 /\ mg "orders_text" = some (.ref f31))
    (F29 : Fun K "lines_of" "lines_of" (top 29) f29 d29 /\ mg "lines_of" = some (.ref f29))
    (F14 : Fun K "are_figures" "are_figures" (top 14) f14 d14 /\ mg "are_figures" = some (.ref f14))
    (F27 : Fun K "is_short_number" "is_short_number" (top 27) f27 d27 /\ mg "is_short_number" = some (.ref f27))
    (F28 : Fun K "spot_or_none" "spot_or_none" (top 28) f28 d28 /\ mg "spot_or_none" = some (.ref f28))
    (F32 : Fun K "order_or_none" "order_or_none" (top 32) f32 d32 /\ mg "order_or_none" = some (.ref f32))
    (F33 : Fun K "read_order" "read_order" (top 33) f33 d33 /\ mg "read_order" = some (.ref f33))
    (F34 : Fun K "read_orders" "read_orders" (top 34) f34 d34 /\ mg "read_orders" = some (.ref f34))
    (F52 : Fun K "_law_word" "_law_word" (top 52) f52 d52 /\ mg "_law_word" = some (.ref f52))
    (F53 : Fun K "_law_do" "_law_do" (top 53) f53 d53 /\ mg "_law_do" = some (.ref f53))
    (F51 : Fun K "_law_spoilt" "_law_spoilt" (top 51) f51 d51 /\ mg "_law_spoilt" = some (.ref f51))
    (F48 : Fun K "_law_is_plain" "_law_is_plain" (top 48) f48 d48 /\ mg "_law_is_plain" = some (.ref f48))
    (F47 : Fun K "_law_whole" "_law_whole" (top 47) f47 d47 /\ mg "_law_whole" = some (.ref f47))
    (F50 : Fun K "_law_is_order" "_law_is_order" (top 50) f50 d50 /\ mg "_law_is_order" = some (.ref f50))
    (F44 : Fun K "_law_places" "_law_places" (top 44) f44 d44 /\ mg "_law_places" = some (.ref f44))
    (F45 : Fun K "_law_put" "_law_put" (top 45) f45 d45 /\ mg "_law_put" = some (.ref f45))
    (F46 : Fun K "_law_spoilt_thing" "_law_spoilt_thing" (top 46) f46 d46 /\ mg "_law_spoilt_thing" = some (.ref f46))
    (F55 : Fun K "law" "law" (top 55) f55 d55 /\ mg "law" = some (.ref f55)) :
    FnF P w K mg base 10 f55 d55 ["_law_script"] tI := by
  have k36 := F36.1.callee F36.2 ((oi (P := P) (w := w) (base := base) b_len F36.1).to nQ) fun _ _ _ _ _ _ us hl => by obtain ⟨a, b, rfl⟩ := Cy hl; rfl
  have k37 := F37.1.callee F37.2 ((ot k36 F37.1).to nz) fun _ _ _ _ _ _ us hl => by obtain ⟨a, b, c, rfl⟩ := yL hl; rfl
  have k54 := F54.1.callee F54.2 ((nM (P := P) (w := w) (base := base) b_str F54.1).to nO) fun _ _ _ _ _ _ us hl => by obtain ⟨a, rfl⟩ := jW hl; rfl
  have k13 := F13.1.callee F13.2 ((nX (P := P) (w := w) (base := base) b_all b_isinstance b_str F13.1).to ni) fun _ _ _ _ _ _ us hl => by obtain ⟨a, rfl⟩ := jW hl; rfl
  have k19 := F19.1.callee F19.2 ((rC b_len g_MOST_SAID k13 F19.1).to qN) fun _ _ _ _ _ _ us hl => by obtain ⟨a, rfl⟩ := jW hl; rfl
  have k11 := F11.1.callee F11.2 ((nB (P := P) (w := w) (base := base) b_bool eV b_isinstance F11.1).to nP) fun _ _ _ _ _ _ us hl => by obtain ⟨a, rfl⟩ := jW hl; rfl
  have k12 := F12.1.callee F12.2 ((mQ k11 F12.1).to lV) fun _ _ _ _ _ _ us hl => by obtain ⟨a, b, c, rfl⟩ := yL hl; rfl
  have k20 := F20.1.callee F20.2 ((uC b_len g_MOST_ROWS g_MOST_WIDTH k12 F20.1).to uL) fun _ _ _ _ _ _ us hl => by obtain ⟨a, rfl⟩ := jW hl; rfl
  have k21 := F21.1.callee F21.2 ((nF b_isinstance b_tuple (k19.mono 3) k20 F21.1).to nr) fun _ _ _ _ _ _ us hl => by obtain ⟨a, rfl⟩ := jW hl; rfl
  have k22 := F22.1.callee F22.2 ((jY r_NoOrder k21 F22.1).to kq) fun _ _ _ _ _ _ us hl => by obtain ⟨a, rfl⟩ := jW hl; rfl
  have k26 := F26.1.callee F26.2 ((mO (P := P) (w := w) (base := base) F26.1).to mL) fun _ _ _ _ _ _ us hl => by obtain ⟨a, b, rfl⟩ := Cy hl; rfl
  have k30 := F30.1.callee F30.2 ((lG k22 (k26.mono 5) F30.1).to kS) fun _ _ _ _ _ _ us hl => by obtain ⟨a, rfl⟩ := jW hl; rfl
  have k23 := F23.1.callee F23.2 ((iX b_isinstance b_list r_NoOrder k22 F23.1).to jG) fun _ _ _ _ _ _ us hl => by obtain ⟨a, rfl⟩ := jW hl; rfl
  have k31 := F31.1.callee F31.2 ((kg k23 k30 F31.1).to ki) fun _ _ _ _ _ _ us hl => by obtain ⟨a, rfl⟩ := jW hl; rfl
  have k29 := F29.1.callee F29.2 ((nD (P := P) (w := w) (base := base) b_isinstance b_str r_NoText F29.1).to nI) fun _ _ _ _ _ _ us hl => by obtain ⟨a, rfl⟩ := jW hl; rfl
  have k14 := F14.1.callee F14.2 ((kj (P := P) (w := w) (base := base) b_all g_FIGURES F14.1).to ko) fun _ _ _ _ _ _ us hl => by obtain ⟨a, rfl⟩ := jW hl; rfl
  have k27 := F27.1.callee F27.2 ((gX b_len g_MOST_FIGURES k14 F27.1).to gN) fun _ _ _ _ _ _ us hl => by obtain ⟨a, rfl⟩ := jW hl; rfl
  have k28 := F28.1.callee F28.2 ((jp b_all eV b_len k27 F28.1).to jK) fun _ _ _ _ _ _ us hl => by obtain ⟨a, rfl⟩ := jW hl; rfl
  have k32 := F32.1.callee F32.2 ((iM k28 F32.1).to iL) fun _ _ _ _ _ _ us hl => by obtain ⟨a, rfl⟩ := jW hl; rfl
  have k33 := F33.1.callee F33.2 ((kW r_NoText (k32.mono 6) (k21.mono 6) k30 F33.1).to lr) fun _ _ _ _ _ _ us hl => by obtain ⟨a, rfl⟩ := jW hl; rfl
  have k34 := F34.1.callee F34.2 ((jZ (k29.mono 7) k33 F34.1).to ke) fun _ _ _ _ _ _ us hl => by obtain ⟨a, rfl⟩ := jW hl; rfl
  have k52 := F52.1.callee F52.2 ((nY (P := P) (w := w) (base := base) b_ValueError b_isinstance Er F52.1).to (og nd)) fun _ _ _ _ _ _ us hl => by obtain ⟨a, rfl⟩ := jW hl; rfl
  have k53 := F53.1.callee F53.2 ((tu (k30.mono 8) (k31.mono 8) k34 (k52.mono 8) Er F53.1).to (rN nd)) fun _ _ _ _ _ _ us hl => by obtain ⟨a, b, rfl⟩ := Cy hl; rfl
  have k51 := F51.1.callee F51.2 ((lF (P := P) (w := w) (base := base) b_len F51.1).to lK) fun _ _ _ _ _ _ us hl => by obtain ⟨a, b, c, rfl⟩ := yL hl; rfl
  have k48 := F48.1.callee F48.2 ((jI (P := P) (w := w) (base := base) b_isinstance b_ord b_str F48.1).to jO) fun _ _ _ _ _ _ us hl => by obtain ⟨a, rfl⟩ := jW hl; rfl
  have k47 := F47.1.callee F47.2 ((mx (P := P) (w := w) (base := base) b_bool eV b_isinstance F47.1).to mR) fun _ _ _ _ _ _ us hl => by obtain ⟨a, b, c, rfl⟩ := yL hl; rfl
  have k50 := F50.1.callee F50.2 ((ji b_isinstance b_len b_str b_tuple k48 k47 F50.1).to jN) fun _ _ _ _ _ _ us hl => by obtain ⟨a, rfl⟩ := jW hl; rfl
  have k44 := fS (P := P) (w := w) (base := base) b_isinstance b_len b_range b_tuple F44.1 F44.2 4
  have k45 := jf (P := P) (w := w) (base := base)  F45.1 F45.2 4
  have k46 := F46.1.callee F46.2 ((gA eV b_isinstance b_len b_str b_tuple k44 (k37.mono 5) k45 F46.1).to fX) fun _ _ _ _ _ _ us hl => by obtain ⟨a, b, c, rfl⟩ := yL hl; rfl
  exact (Av b_range (k37.mono 9) (k54.mono 9) k53 (k51.mono 9) (k50.mono 9) (k46.mono 9) F55.1).to (Aa (Q70.BG nd))
end
theorem AY {P : Program} {w : World} {K : PySem.W.Frag} {mg : Str -> Option Value} {fa : Addr} (hfa : mg "law" = some (.ref fa)) (b_ValueError : mg "ValueError" = none) (b_all : mg "all" = none) (b_bool : mg "bool" = none) (eV : mg "int" = none) (b_isinstance : mg "isinstance" = none) (b_len : mg "len" = none) (b_list : mg "list" = none) (b_ord : mg "ord" = none) (b_range : mg "range" = none) (b_str : mg "str" = none) (b_tuple : mg "tuple" = none) (g_FIGURES : ∃ t, mg "FIGURES" = some (.str "0123456789" t)) (g_MOST_FIGURES : ∃ t, mg "MOST_FIGURES" = some (.int 2 t)) (g_MOST_ROWS : ∃ t, mg "MOST_ROWS" = some (.int 12 t)) (g_MOST_SAID : ∃ t, mg "MOST_SAID" = some (.int 40 t)) (g_MOST_WIDTH : ∃ t, mg "MOST_WIDTH" = some (.int 40 t)) {ae ah : Addr} (n_NoOrder : PySem.W.nsIn K mainGlobals "NoOrder" = some (some (.ref ae))) (x_NoOrder : PySem.W.excIn K ae [.type "ValueError", .type "Exception", .type "BaseException", .type "object"] "ValueError.__new__" = true) (n_NoText : PySem.W.nsIn K mainGlobals "NoText" = some (some (.ref ah))) (x_NoText : PySem.W.excIn K ah [.type "ValueError", .type "Exception", .type "BaseException", .type "object"] "ValueError.__new__" = true) {ar aB : Addr} {au ax aA : Addr} (nd : [ar, ae, aB, au, ax, aA, ah].Nodup) (Er : Errs K mg [ae, ah] [("NoScreen", ar), ("NoOrder", ae), ("NoRoom", aB), ("NoNumber", au), ("NoTable", ax), ("NoTask", aA), ("NoText", ah)])
    (h36 : ∃ f fd, Fun K "_law_cell" "_law_cell" (top 36) f fd /\ mg "_law_cell" = some (.ref f))
    (h37 : ∃ f fd, Fun K "_law_pick" "_law_pick" (top 37) f fd /\ mg "_law_pick" = some (.ref f))
    (h54 : ∃ f fd, Fun K "_law_text" "_law_text" (top 54) f fd /\ mg "_law_text" = some (.ref f))
    (h13 : ∃ f fd, Fun K "is_plain" "is_plain" (top 13) f fd /\ mg "is_plain" = some (.ref f))
    (h19 : ∃ f fd, Fun K "is_say" "is_say" (top 19) f fd /\ mg "is_say" = some (.ref f))
    (h11 : ∃ f fd, Fun K "is_whole" "is_whole" (top 11) f fd /\ mg "is_whole" = some (.ref f))
    (h12 : ∃ f fd, Fun K "is_within" "is_within" (top 12) f fd /\ mg "is_within" = some (.ref f))
    (h20 : ∃ f fd, Fun K "is_go" "is_go" (top 20) f fd /\ mg "is_go" = some (.ref f))
    (h21 : ∃ f fd, Fun K "is_order" "is_order" (top 21) f fd /\ mg "is_order" = some (.ref f))
    (h22 : ∃ f fd, Fun K "check_order" "check_order" (top 22) f fd /\ mg "check_order" = some (.ref f))
    (h26 : ∃ f fd, Fun K "spot_text" "spot_text" (top 26) f fd /\ mg "spot_text" = some (.ref f))
    (h30 : ∃ f fd, Fun K "order_text" "order_text" (top 30) f fd /\ mg "order_text" = some (.ref f))
    (h23 : ∃ f fd, Fun K "check_orders" "check_orders" (top 23) f fd /\ mg "check_orders" = some (.ref f))
    (h31 : ∃ f fd, Fun K "orders_text" "orders_text" (top 31) f fd /\ mg "orders_text" = some (.ref f))
    (h29 : ∃ f fd, Fun K "lines_of" "lines_of" (top 29) f fd /\ mg "lines_of" = some (.ref f))
    (h14 : ∃ f fd, Fun K "are_figures" "are_figures" (top 14) f fd /\ mg "are_figures" = some (.ref f))
    (h27 : ∃ f fd, Fun K "is_short_number" "is_short_number" (top 27) f fd /\ mg "is_short_number" = some (.ref f))
    (h28 : ∃ f fd, Fun K "spot_or_none" "spot_or_none" (top 28) f fd /\ mg "spot_or_none" = some (.ref f))
    (h32 : ∃ f fd, Fun K "order_or_none" "order_or_none" (top 32) f fd /\ mg "order_or_none" = some (.ref f))
    (h33 : ∃ f fd, Fun K "read_order" "read_order" (top 33) f fd /\ mg "read_order" = some (.ref f))
    (h34 : ∃ f fd, Fun K "read_orders" "read_orders" (top 34) f fd /\ mg "read_orders" = some (.ref f))
    (h52 : ∃ f fd, Fun K "_law_word" "_law_word" (top 52) f fd /\ mg "_law_word" = some (.ref f))
    (h53 : ∃ f fd, Fun K "_law_do" "_law_do" (top 53) f fd /\ mg "_law_do" = some (.ref f))
    (h51 : ∃ f fd, Fun K "_law_spoilt" "_law_spoilt" (top 51) f fd /\ mg "_law_spoilt" = some (.ref f))
    (h48 : ∃ f fd, Fun K "_law_is_plain" "_law_is_plain" (top 48) f fd /\ mg "_law_is_plain" = some (.ref f))
    (h47 : ∃ f fd, Fun K "_law_whole" "_law_whole" (top 47) f fd /\ mg "_law_whole" = some (.ref f))
    (h50 : ∃ f fd, Fun K "_law_is_order" "_law_is_order" (top 50) f fd /\ mg "_law_is_order" = some (.ref f))
    (h44 : ∃ f fd, Fun K "_law_places" "_law_places" (top 44) f fd /\ mg "_law_places" = some (.ref f))
    (h45 : ∃ f fd, Fun K "_law_put" "_law_put" (top 45) f fd /\ mg "_law_put" = some (.ref f))
    (h46 : ∃ f fd, Fun K "_law_spoilt_thing" "_law_spoilt_thing" (top 46) f fd /\ mg "_law_spoilt_thing" = some (.ref f))
    (h55 : ∃ f fd, Fun K "law" "law" (top 55) f fd /\ mg "law" = some (.ref f)) :
    ∃ fd : FuncData, (∀ (s : Shared) (u : Value), BindsTo s fd ⟨[u], []⟩ [("_law_script", u)]) /\ ∀ base : Heap, K.In base -> base.Ns mainGlobals mg -> FnF P w K mg base 10 fa fd ["_law_script"] tI := by
  obtain ⟨t_FIGURES, g_FIGURES⟩ := g_FIGURES
  obtain ⟨t_MOST_FIGURES, g_MOST_FIGURES⟩ := g_MOST_FIGURES
  obtain ⟨t_MOST_ROWS, g_MOST_ROWS⟩ := g_MOST_ROWS
  obtain ⟨t_MOST_SAID, g_MOST_SAID⟩ := g_MOST_SAID
  obtain ⟨t_MOST_WIDTH, g_MOST_WIDTH⟩ := g_MOST_WIDTH
  obtain ⟨f36, d36, F36⟩ := h36
  obtain ⟨f37, d37, F37⟩ := h37
  obtain ⟨f54, d54, F54⟩ := h54
  obtain ⟨f13, d13, F13⟩ := h13
  obtain ⟨f19, d19, F19⟩ := h19
  obtain ⟨f11, d11, F11⟩ := h11
  obtain ⟨f12, d12, F12⟩ := h12
  obtain ⟨f20, d20, F20⟩ := h20
  obtain ⟨f21, d21, F21⟩ := h21
  obtain ⟨f22, d22, F22⟩ := h22
  obtain ⟨f26, d26, F26⟩ := h26
  obtain ⟨f30, d30, F30⟩ := h30
  obtain ⟨f23, d23, F23⟩ := h23
  obtain ⟨f31, d31, F31⟩ := h31
  obtain ⟨f29, d29, F29⟩ := h29
  obtain ⟨f14, d14, F14⟩ := h14
  obtain ⟨f27, d27, F27⟩ := h27
  obtain ⟨f28, d28, F28⟩ := h28
  obtain ⟨f32, d32, F32⟩ := h32
  obtain ⟨f33, d33, F33⟩ := h33
  obtain ⟨f34, d34, F34⟩ := h34
  obtain ⟨f52, d52, F52⟩ := h52
  obtain ⟨f53, d53, F53⟩ := h53
  obtain ⟨f51, d51, F51⟩ := h51
  obtain ⟨f48, d48, F48⟩ := h48
  obtain ⟨f47, d47, F47⟩ := h47
  obtain ⟨f50, d50, F50⟩ := h50
  obtain ⟨f44, d44, F44⟩ := h44
  obtain ⟨f45, d45, F45⟩ := h45
  obtain ⟨f46, d46, F46⟩ := h46
  obtain ⟨f55, d55, F55⟩ := h55
  have e : fa = f55 := by
    have := hfa.symm.trans F55.2
    injection this with this
    injection this
  subst e
  refine ⟨d55, fun s u => ?_, fun base kb nb => ?_⟩
  . obtain ⟨oc, od, kV, doc, pm, an, cdv, ct, osl, rfl, lk, hcd⟩ := F55.1.ex
    exact .of_eq rfl
  . exact law_fn b_ValueError b_all b_bool eV b_isinstance b_len b_list b_ord b_range b_str b_tuple g_FIGURES g_MOST_FIGURES g_MOST_ROWS g_MOST_SAID g_MOST_WIDTH (wn kb nb n_NoOrder x_NoOrder) (wn kb nb n_NoText x_NoText) nd Er F36 F37 F54 F13 F19 F11 F12 F20 F21 F22 F26 F30 F23 F31 F29 F14 F27 F28 F32 F33 F34 F52 F53 F51 F48 F47 F50 F44 F45 F46 F55
theorem yk {K : PySem.W.Frag} {h : Heap} {mg : Str -> Option Value} {ar : Addr} {q_NoScreen : ClassData} {ae : Addr} {q_NoOrder : ClassData} {aB : Addr} {q_NoRoom : ClassData} {au : Addr} {q_NoNumber : ClassData} {ax : Addr} {q_NoTable : ClassData} {aA : Addr} {q_NoTask : ClassData} {ah : Addr} {q_NoText : ClassData} {C_LineError : Addr} {q_LineError : ClassData} (X : K.In h) (G : h.Ns mainGlobals mg)
    (n_NoScreen : PySem.W.nsIn K mainGlobals "NoScreen" = some (some (.ref ar)))
    (t_NoScreen : PySem.W.clsIn K ar = some q_NoScreen)
    (y_NoScreen : PySem.W.typeIn K (.ref ar) = some (.type "type"))
    (n_NoOrder : PySem.W.nsIn K mainGlobals "NoOrder" = some (some (.ref ae)))
    (t_NoOrder : PySem.W.clsIn K ae = some q_NoOrder)
    (y_NoOrder : PySem.W.typeIn K (.ref ae) = some (.type "type"))
    (n_NoRoom : PySem.W.nsIn K mainGlobals "NoRoom" = some (some (.ref aB)))
    (t_NoRoom : PySem.W.clsIn K aB = some q_NoRoom)
    (y_NoRoom : PySem.W.typeIn K (.ref aB) = some (.type "type"))
    (n_NoNumber : PySem.W.nsIn K mainGlobals "NoNumber" = some (some (.ref au)))
    (t_NoNumber : PySem.W.clsIn K au = some q_NoNumber)
    (y_NoNumber : PySem.W.typeIn K (.ref au) = some (.type "type"))
    (n_NoTable : PySem.W.nsIn K mainGlobals "NoTable" = some (some (.ref ax)))
    (t_NoTable : PySem.W.clsIn K ax = some q_NoTable)
    (y_NoTable : PySem.W.typeIn K (.ref ax) = some (.type "type"))
    (n_NoTask : PySem.W.nsIn K mainGlobals "NoTask" = some (some (.ref aA)))
    (t_NoTask : PySem.W.clsIn K aA = some q_NoTask)
    (y_NoTask : PySem.W.typeIn K (.ref aA) = some (.type "type"))
    (n_NoText : PySem.W.nsIn K mainGlobals "NoText" = some (some (.ref ah)))
    (t_NoText : PySem.W.clsIn K ah = some q_NoText)
    (y_NoText : PySem.W.typeIn K (.ref ah) = some (.type "type"))
    (n_LineError : PySem.W.nsIn K mainGlobals "LineError" = some (some (.ref C_LineError)))
    (t_LineError : PySem.W.clsIn K C_LineError = some q_LineError)
    (y_LineError : PySem.W.typeIn K (.ref C_LineError) = some (.type "type"))
    (s_NoOrder_NoScreen : PySem.W.subIn K (.ref ae) (.ref ar) = some false)
    (s_NoOrder_NoRoom : PySem.W.subIn K (.ref ae) (.ref aB) = some false)
    (s_NoOrder_NoNumber : PySem.W.subIn K (.ref ae) (.ref au) = some false)
    (s_NoOrder_NoTable : PySem.W.subIn K (.ref ae) (.ref ax) = some false)
    (s_NoOrder_NoTask : PySem.W.subIn K (.ref ae) (.ref aA) = some false)
    (s_NoOrder_NoText : PySem.W.subIn K (.ref ae) (.ref ah) = some false)
    (v_NoOrder : PySem.W.subIn K (.ref ae) (.type "ValueError") = some true)
    (l_NoOrder : PySem.W.subIn K (.ref ae) (.ref C_LineError) = some true)
    (e_NoOrder : ExcCls K ae)
    (s_NoText_NoScreen : PySem.W.subIn K (.ref ah) (.ref ar) = some false)
    (s_NoText_NoOrder : PySem.W.subIn K (.ref ah) (.ref ae) = some false)
    (s_NoText_NoRoom : PySem.W.subIn K (.ref ah) (.ref aB) = some false)
    (s_NoText_NoNumber : PySem.W.subIn K (.ref ah) (.ref au) = some false)
    (s_NoText_NoTable : PySem.W.subIn K (.ref ah) (.ref ax) = some false)
    (s_NoText_NoTask : PySem.W.subIn K (.ref ah) (.ref aA) = some false)
    (v_NoText : PySem.W.subIn K (.ref ah) (.type "ValueError") = some true)
    (l_NoText : PySem.W.subIn K (.ref ah) (.ref C_LineError) = some true)
    (e_NoText : ExcCls K ah)
    (lb : PySem.W.subIn K (.ref C_LineError) (.type "BaseException") = some true)
    (nd : [ar, ae, aB, au, ax, aA, ah].Nodup) : Errs K mg [ae, ah] [("NoScreen", ar), ("NoOrder", ae), ("NoRoom", aB), ("NoNumber", au), ("NoTable", ax), ("NoTask", aA), ("NoText", ah)] := by
  have ne : ∀ i j : Nat, i < 7 -> j < 7 -> i ≠ j -> [ar, ae, aB, au, ax, aA, ah].getD i 0 ≠ [ar, ae, aB, au, ax, aA, ah].getD j 0 := fun i j hi hj h z => h (List.getElem_inj nd |>.1 (by simpa [List.getD_eq_getElem?_getD, List.getElem?_eq_getElem, hi, hj] using z))
  refine ⟨fun t ht => ?_, fun r hr => ?_, fun r hr t ht => ?_, fun r hr => ?_, ⟨C_LineError, PySem.W.mg_of X G n_LineError, fun r hr => ?_⟩⟩
  . simp only [List.mem_cons, List.mem_nil_iff, or_false] at ht
    rcases ht with rfl | rfl | rfl | rfl | rfl | rfl | rfl
    . exact PySem.W.mg_of X G n_NoScreen
    . exact PySem.W.mg_of X G n_NoOrder
    . exact PySem.W.mg_of X G n_NoRoom
    . exact PySem.W.mg_of X G n_NoNumber
    . exact PySem.W.mg_of X G n_NoTable
    . exact PySem.W.mg_of X G n_NoTask
    . exact PySem.W.mg_of X G n_NoText
  . simp only [List.mem_cons, List.mem_nil_iff, or_false] at hr
    rcases hr with rfl | rfl
    . exact e_NoOrder
    . exact e_NoText
  . simp only [List.mem_cons, List.mem_nil_iff, or_false] at ht
    simp only [List.mem_cons, List.mem_nil_iff, or_false] at hr
    rcases hr with rfl | rfl
    . rcases ht with rfl | rfl | rfl | rfl | rfl | rfl | rfl
      . exact Q.fg t_NoScreen y_NoScreen s_NoOrder_NoScreen (ne 1 0 (by decide) (by decide) (by decide))
      . exact Q.pp
      . exact Q.fg t_NoRoom y_NoRoom s_NoOrder_NoRoom (ne 1 2 (by decide) (by decide) (by decide))
      . exact Q.fg t_NoNumber y_NoNumber s_NoOrder_NoNumber (ne 1 3 (by decide) (by decide) (by decide))
      . exact Q.fg t_NoTable y_NoTable s_NoOrder_NoTable (ne 1 4 (by decide) (by decide) (by decide))
      . exact Q.fg t_NoTask y_NoTask s_NoOrder_NoTask (ne 1 5 (by decide) (by decide) (by decide))
      . exact Q.fg t_NoText y_NoText s_NoOrder_NoText (ne 1 6 (by decide) (by decide) (by decide))
    . rcases ht with rfl | rfl | rfl | rfl | rfl | rfl | rfl
      . exact Q.fg t_NoScreen y_NoScreen s_NoText_NoScreen (ne 6 0 (by decide) (by decide) (by decide))
      . exact Q.fg t_NoOrder y_NoOrder s_NoText_NoOrder (ne 6 1 (by decide) (by decide) (by decide))
      . exact Q.fg t_NoRoom y_NoRoom s_NoText_NoRoom (ne 6 2 (by decide) (by decide) (by decide))
      . exact Q.fg t_NoNumber y_NoNumber s_NoText_NoNumber (ne 6 3 (by decide) (by decide) (by decide))
      . exact Q.fg t_NoTable y_NoTable s_NoText_NoTable (ne 6 4 (by decide) (by decide) (by decide))
      . exact Q.fg t_NoTask y_NoTask s_NoText_NoTask (ne 6 5 (by decide) (by decide) (by decide))
      . exact Q.pp
  . simp only [List.mem_cons, List.mem_nil_iff, or_false] at hr
    rcases hr with rfl | rfl
    . exact Q.wI v_NoOrder
    . exact Q.wI v_NoText
  . simp only [List.mem_cons, List.mem_nil_iff, or_false] at hr
    rcases hr with rfl | rfl
    . exact Q.wa lb t_LineError y_LineError l_NoOrder
    . exact Q.wa lb t_LineError y_LineError l_NoText
end G70
theorem PySem.W.Fast.tw17412689601107962720 : True := trivial
theorem PySem.W.Fast.tw9261819163404148640 : True := trivial
theorem PySem.W.Fast.tw8923273178348275073 : True := trivial
theorem PySem.W.Fast.tw17257549412752884386 : True := trivial
theorem PySem.W.Fast.tw5445956592889673254 : True := trivial
theorem PySem.W.Fast.tw9824871058168719146 : True := trivial
theorem PySem.W.Fast.tw1038451213338441870 : True := trivial
theorem PySem.W.Fast.tw12727934852514087854 : True := trivial
theorem PySem.W.Fast.tw17934393909805709200 : True := trivial
theorem PySem.W.Fast.tw10410013180076462612 : True := trivial
theorem PySem.W.Fast.tw12821471335725886582 : True := trivial
theorem PySem.W.Fast.tw4050372632944009943 : True := trivial
theorem PySem.W.Fast.tw5864070135968497880 : True := trivial
theorem PySem.W.Fast.tw12624483105980454523 : True := trivial
theorem PySem.W.Fast.tw5318781905634965341 : True := trivial
open PySem PySem.W PyProof.Rows
set_option maxRecDepth 100000 in
set_option maxHeartbeats 0 in
theorem PySem.Challenge.cw_screenlines_k70_whole_texts_holds : PySem.Challenge.rw_screenlines_k70_whole_texts.Holds := by
  w_on; o_law; k_head; (case hw => w_witness2)
  k_fill
  refine Q.DP (l := PySem.Challenge.rw_screenlines_k70_whole_texts) (L := 10) ⟨rfl, by decide, by decide⟩ rfl rfl (fun w h Y => PySem.W.kIn_of Y) ?F
  case F =>
    intro w mg fa h KX G hmg
    have b_ValueError : mg "ValueError" = none := PySem.W.mg_none_of KX G (by k_is)
    have b_all : mg "all" = none := PySem.W.mg_none_of KX G (by k_is)
    have b_bool : mg "bool" = none := PySem.W.mg_none_of KX G (by k_is)
    have eV : mg "int" = none := PySem.W.mg_none_of KX G (by k_is)
    have b_isinstance : mg "isinstance" = none := PySem.W.mg_none_of KX G (by k_is)
    have b_len : mg "len" = none := PySem.W.mg_none_of KX G (by k_is)
    have b_list : mg "list" = none := PySem.W.mg_none_of KX G (by k_is)
    have b_ord : mg "ord" = none := PySem.W.mg_none_of KX G (by k_is)
    have b_range : mg "range" = none := PySem.W.mg_none_of KX G (by k_is)
    have b_str : mg "str" = none := PySem.W.mg_none_of KX G (by k_is)
    have b_tuple : mg "tuple" = none := PySem.W.mg_none_of KX G (by k_is)
    have g_FIGURES : ∃ t, mg "FIGURES" = some (.str "0123456789" t) := ⟨_, PySem.W.mg_of KX G (by k_is)⟩
    have g_MOST_FIGURES : ∃ t, mg "MOST_FIGURES" = some (.int 2 t) := ⟨_, PySem.W.mg_of KX G (by k_is)⟩
    have g_MOST_ROWS : ∃ t, mg "MOST_ROWS" = some (.int 12 t) := ⟨_, PySem.W.mg_of KX G (by k_is)⟩
    have g_MOST_SAID : ∃ t, mg "MOST_SAID" = some (.int 40 t) := ⟨_, PySem.W.mg_of KX G (by k_is)⟩
    have g_MOST_WIDTH : ∃ t, mg "MOST_WIDTH" = some (.int 40 t) := ⟨_, PySem.W.mg_of KX G (by k_is)⟩
    have h36 := Q.bp (x := "_law_cell") (st := G70.top 36) KX G (by k_is) (by k_is) (by k_is) (by k_is)
    have h37 := Q.bp (x := "_law_pick") (st := G70.top 37) KX G (by k_is) (by k_is) (by k_is) (by k_is)
    have h54 := Q.bp (x := "_law_text") (st := G70.top 54) KX G (by k_is) (by k_is) (by k_is) (by k_is)
    have h13 := Q.bp (x := "is_plain") (st := G70.top 13) KX G (by k_is) (by k_is) (by k_is) (by k_is)
    have h19 := Q.bp (x := "is_say") (st := G70.top 19) KX G (by k_is) (by k_is) (by k_is) (by k_is)
    have h11 := Q.bp (x := "is_whole") (st := G70.top 11) KX G (by k_is) (by k_is) (by k_is) (by k_is)
    have h12 := Q.bp (x := "is_within") (st := G70.top 12) KX G (by k_is) (by k_is) (by k_is) (by k_is)
    have h20 := Q.bp (x := "is_go") (st := G70.top 20) KX G (by k_is) (by k_is) (by k_is) (by k_is)
    have h21 := Q.bp (x := "is_order") (st := G70.top 21) KX G (by k_is) (by k_is) (by k_is) (by k_is)
    have h22 := Q.bp (x := "check_order") (st := G70.top 22) KX G (by k_is) (by k_is) (by k_is) (by k_is)
    have h26 := Q.bp (x := "spot_text") (st := G70.top 26) KX G (by k_is) (by k_is) (by k_is) (by k_is)
    have h30 := Q.bp (x := "order_text") (st := G70.top 30) KX G (by k_is) (by k_is) (by k_is) (by k_is)
    have h23 := Q.bp (x := "check_orders") (st := G70.top 23) KX G (by k_is) (by k_is) (by k_is) (by k_is)
    have h31 := Q.bp (x := "orders_text") (st := G70.top 31) KX G (by k_is) (by k_is) (by k_is) (by k_is)
    have h29 := Q.bp (x := "lines_of") (st := G70.top 29) KX G (by k_is) (by k_is) (by k_is) (by k_is)
    have h14 := Q.bp (x := "are_figures") (st := G70.top 14) KX G (by k_is) (by k_is) (by k_is) (by k_is)
    have h27 := Q.bp (x := "is_short_number") (st := G70.top 27) KX G (by k_is) (by k_is) (by k_is) (by k_is)
    have h28 := Q.bp (x := "spot_or_none") (st := G70.top 28) KX G (by k_is) (by k_is) (by k_is) (by k_is)
    have h32 := Q.bp (x := "order_or_none") (st := G70.top 32) KX G (by k_is) (by k_is) (by k_is) (by k_is)
    have h33 := Q.bp (x := "read_order") (st := G70.top 33) KX G (by k_is) (by k_is) (by k_is) (by k_is)
    have h34 := Q.bp (x := "read_orders") (st := G70.top 34) KX G (by k_is) (by k_is) (by k_is) (by k_is)
    have h52 := Q.bp (x := "_law_word") (st := G70.top 52) KX G (by k_is) (by k_is) (by k_is) (by k_is)
    have h53 := Q.bp (x := "_law_do") (st := G70.top 53) KX G (by k_is) (by k_is) (by k_is) (by k_is)
    have h51 := Q.bp (x := "_law_spoilt") (st := G70.top 51) KX G (by k_is) (by k_is) (by k_is) (by k_is)
    have h48 := Q.bp (x := "_law_is_plain") (st := G70.top 48) KX G (by k_is) (by k_is) (by k_is) (by k_is)
    have h47 := Q.bp (x := "_law_whole") (st := G70.top 47) KX G (by k_is) (by k_is) (by k_is) (by k_is)
    have h50 := Q.bp (x := "_law_is_order") (st := G70.top 50) KX G (by k_is) (by k_is) (by k_is) (by k_is)
    have h44 := Q.bp (x := "_law_places") (st := G70.top 44) KX G (by k_is) (by k_is) (by k_is) (by k_is)
    have h45 := Q.bp (x := "_law_put") (st := G70.top 45) KX G (by k_is) (by k_is) (by k_is) (by k_is)
    have h46 := Q.bp (x := "_law_spoilt_thing") (st := G70.top 46) KX G (by k_is) (by k_is) (by k_is) (by k_is)
    have h55 := Q.bp (x := "law") (st := G70.top 55) KX G (by k_is) (by k_is) (by k_is) (by k_is)
    refine' G70.AY (P := _) (w := w) (K := L2.KOf KX) hmg b_ValueError b_all b_bool eV b_isinstance b_len b_list b_ord b_range b_str b_tuple g_FIGURES g_MOST_FIGURES g_MOST_ROWS g_MOST_SAID g_MOST_WIDTH ?n_NoOrder ?x_NoOrder ?n_NoText ?x_NoText ?nd (G70.yk KX G ?n_NoScreen ?t_NoScreen ?y_NoScreen ?n_NoOrder ?t_NoOrder ?y_NoOrder ?n_NoRoom ?t_NoRoom ?y_NoRoom ?n_NoNumber ?t_NoNumber ?y_NoNumber ?n_NoTable ?t_NoTable ?y_NoTable ?n_NoTask ?t_NoTask ?y_NoTask ?n_NoText ?t_NoText ?y_NoText ?n_LineError ?t_LineError ?y_LineError ?s_NoOrder_NoScreen ?s_NoOrder_NoRoom ?s_NoOrder_NoNumber ?s_NoOrder_NoTable ?s_NoOrder_NoTask ?s_NoOrder_NoText ?v_NoOrder ?l_NoOrder ?e_NoOrder ?s_NoText_NoScreen ?s_NoText_NoOrder ?s_NoText_NoRoom ?s_NoText_NoNumber ?s_NoText_NoTable ?s_NoText_NoTask ?v_NoText ?l_NoText ?e_NoText ?lb ?nd) h36 h37 h54 h13 h19 h11 h12 h20 h21 h22 h26 h30 h23 h31 h29 h14 h27 h28 h32 h33 h34 h52 h53 h51 h48 h47 h50 h44 h45 h46 h55
    all_goals (try dsimp only [L2.KOf])
    (case n_NoScreen => k_is)
    (case n_NoOrder => k_is)
    (case n_NoRoom => k_is)
    (case n_NoNumber => k_is)
    (case n_NoTable => k_is)
    (case n_NoTask => k_is)
    (case n_NoText => k_is)
    (case n_LineError => k_is)
    (case t_NoScreen => k_is)
    (case y_NoScreen => k_is)
    (case t_NoOrder => k_is)
    (case y_NoOrder => k_is)
    (case t_NoRoom => k_is)
    (case y_NoRoom => k_is)
    (case t_NoNumber => k_is)
    (case y_NoNumber => k_is)
    (case t_NoTable => k_is)
    (case y_NoTable => k_is)
    (case t_NoTask => k_is)
    (case y_NoTask => k_is)
    (case t_NoText => k_is)
    (case y_NoText => k_is)
    (case t_LineError => k_is)
    (case y_LineError => k_is)
    (case s_NoOrder_NoScreen => k_is)
    (case s_NoOrder_NoRoom => k_is)
    (case s_NoOrder_NoNumber => k_is)
    (case s_NoOrder_NoTable => k_is)
    (case s_NoOrder_NoTask => k_is)
    (case s_NoOrder_NoText => k_is)
    (case v_NoOrder => k_is)
    (case l_NoOrder => k_is)
    (case e_NoOrder => exact Q.wj (by k_is) (by k_is) (by k_is) (by k_is) (by k_is) (by k_is) (by k_is) (by k_is))
    (case s_NoText_NoScreen => k_is)
    (case s_NoText_NoOrder => k_is)
    (case s_NoText_NoRoom => k_is)
    (case s_NoText_NoNumber => k_is)
    (case s_NoText_NoTable => k_is)
    (case s_NoText_NoTask => k_is)
    (case v_NoText => k_is)
    (case l_NoText => k_is)
    (case e_NoText => exact Q.wj (by k_is) (by k_is) (by k_is) (by k_is) (by k_is) (by k_is) (by k_is) (by k_is))
    (case lb => k_is)
    (case nd => decide)
    (case x_NoOrder => k_exc)
    (case x_NoText => k_exc)
end
