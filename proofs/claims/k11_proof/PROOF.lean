import PyProof.Rows.All
import Wide.All
import OpenK.AllK
import Wide.FinOn
import Lean
import PyProof.EqAt
import PyProof.EqKinds
import PyProof.TupleCall
import PyProof.NeKinds
import PyProof.Draws
import KE.KTupSum
import PySem.Challenge.RW_screenlines_k11_whole_many_orders
-- CHANGE: your row's module here, as the last of these rows
set_option Elab.async false
set_option linter.all false
set_option maxRecDepth 100000
namespace L2
open PySem PySem.Spec PyProof.Rows

abbrev Key := Sum Int Str
def Bp : Key -> Value -> Bool
  | .inl k, v => Value.isInt k v
  | .inr x, v => Value.isStrOf x v
def EV (w : World) : Key -> Int
  | .inl k => hashInt k
  | .inr x => hashStr w x
theorem bS : ∀ {k : Key} {v : Value}, Bp k v = true -> (∃ i t, k = Sum.inl i /\ v = Value.int i t) \/ (∃ x t, k = Sum.inr x /\ v = Value.str x t)
  | .inl i, v, h => by
    obtain ⟨t, e⟩ := Value.isInt_shape (k := i) (v := v) h
    exact .inl ⟨i, t, rfl, e⟩
  | .inr x, v, h => by
    obtain ⟨t, e⟩ := Value.isStrOf_shape (x := x) (v := v) h
    exact .inr ⟨x, t, rfl, e⟩
theorem Bn (a b : Int) : decide ((Sum.inl a : Key) = Sum.inl b) = (a == b) := by
  by_cases e : a = b
  . subst e; simp
  . have h : ¬ (Sum.inl a : Key) = Sum.inl b := fun q => e (Sum.inl.inj q)
    rw [decide_eq_false h]
    exact (beq_eq_false_iff_ne.mpr e).symm
theorem Cm (a b : Str) : decide ((Sum.inr a : Key) = Sum.inr b) = decide (a = b) := by
  by_cases e : a = b
  . subst e; simp
  . have h : ¬ (Sum.inr a : Key) = Sum.inr b := fun q => e (Sum.inr.inj q)
    rw [decide_eq_false h, decide_eq_false e]
theorem AU (a : Int) (b : Str) : decide ((Sum.inl a : Key) = Sum.inr b) = false := decide_eq_false (fun q => nomatch q)
theorem BE (a : Str) (b : Int) : decide ((Sum.inr a : Key) = Sum.inl b) = false := decide_eq_false (fun q => nomatch q)

def pM (prog : Program) (w : World) : PySem.KeyKind prog w Key where
  is := Bp
  hash := EV w
  inj := fun v a b ha hb => by
    rcases bS ha with ⟨i, t, rfl, rfl⟩ | ⟨x, t, rfl, rfl⟩
    . rcases bS hb with ⟨j, u, rfl, e⟩ | ⟨y, u, rfl, e⟩
      . injection e with e1 _; rw [e1]
      . exact nomatch e
    . rcases bS hb with ⟨j, u, rfl, e⟩ | ⟨y, u, rfl, e⟩
      . exact nomatch e
      . injection e with e1 _; rw [e1]
  byValue := fun k v h => by
    rcases bS h with ⟨i, t, rfl, rfl⟩ | ⟨x, t, rfl, rfl⟩ <;> rfl
  pyHash := fun hv h => by
    rcases bS hv with ⟨i, t, rfl, rfl⟩ | ⟨x, t, rfl, rfl⟩
    . exact wpAny_pyHash_int h
    . exact wpAny_pyHash_str h
  eqBool := fun hu hv h => by
    rcases bS hu with ⟨i, t, rfl, rfl⟩ | ⟨x, t, rfl, rfl⟩
    . rcases bS hv with ⟨j, u, rfl, rfl⟩ | ⟨y, u, rfl, rfl⟩
      . rw [Bn] at h; exact wpAny_eqBool_int h
      . rw [AU] at h; exact SeqAt.EqAt.int_str i t y u _ _ _ _ h
    . rcases bS hv with ⟨j, u, rfl, rfl⟩ | ⟨y, u, rfl, rfl⟩
      . rw [BE] at h; exact SeqAt.EqAt.str_int x t j u _ _ _ _ h
      . rw [Cm] at h; exact wpAny_eqBool_str h
  «strs» := fun k x t v h => by
    rcases bS h with ⟨i, u, rfl, e⟩ | ⟨y, u, rfl, e⟩
    . exact nomatch e
    . injection e with e1 _
      subst e1
      cases v <;> rfl

end L2

namespace L2
open PySem PySem.Spec PyProof.Rows

inductive V where
  | non | bl (b : Bool) | int (i : Int) | str (x : Str) | byt (b : Array UInt8) | flt (b : UInt64) | ref (a : Addr) | ty (n : String)
  deriving DecidableEq

def RelV : V -> Value -> Prop
  | .non, u => u = Value.none
  | .bl b, u => u = Value.bool b
  | .int i, u => ∃ t, u = Value.int i t
  | .str x, u => ∃ t, u = Value.str x t
  | .byt b, u => ∃ t, u = Value.bytes b t
  | .flt b, u => ∃ t, u = Value.float b t
  | .ref a, u => u = Value.ref a
  | .ty n, u => u = Value.type n

abbrev Vals : List V -> List Value -> Prop := Paired RelV
theorem Vals.length {xs : List V} {us : List Value} (r : Vals xs us) : xs.length = us.length := Paired.length r
theorem Vals.get : ∀ {xs : List V} {us : List Value} {i : Nat} {x : V}, Vals xs us -> xs[i]? = some x -> ∃ u, us[i]? = some u /\ RelV x u
  | _, _, _, _, .nil, e => by simp at e
  | _, _, 0, _, .cons r _, e => by simp at e; subst e; exact ⟨_, rfl, r⟩
  | _, _, i + 1, x, .cons _ t, e => by
    obtain ⟨u, h1, h2⟩ := Vals.get (i := i) (x := x) t (by simpa using e)
    exact ⟨u, by simpa using h1, h2⟩
theorem Vals.set {x : V} {u : Value} (r : RelV x u) : ∀ {xs : List V} {us : List Value} (i : Nat), Vals xs us -> Vals (xs.set i x) (us.set i u)
  | _, _, _, .nil => .nil
  | _, _, 0, .cons _ t => .cons r t
  | _, _, i + 1, .cons q t => .cons q (Vals.set r i t)
theorem Vals.append : ∀ {xs ys : List V} {us ws : List Value}, Vals xs us -> Vals ys ws -> Vals (xs ++ ys) (us ++ ws)
  | _, _, _, _, .nil, s => s
  | _, _, _, _, .cons r t, s => .cons r (Vals.append t s)
theorem Vals.take : ∀ {xs : List V} {us : List Value} (n : Nat), Vals xs us -> Vals (xs.take n) (us.take n)
  | _, _, 0, _ => .nil
  | _, _, _ + 1, .nil => .nil
  | _, _, n + 1, .cons r t => .cons r (Vals.take n t)
theorem Vals.drop : ∀ {xs : List V} {us : List Value} (n : Nat), Vals xs us -> Vals (xs.drop n) (us.drop n)
  | _, _, 0, r => r
  | _, _, _ + 1, .nil => .nil
  | _, _, n + 1, .cons _ t => Vals.drop n t
def Ek : Option V -> Option Value -> Prop
  | some v, some u => RelV v u
  | none, none => True
  | _, _ => False
def KV {κ : Type} : List (κ × V) -> List (κ × Value) -> Prop := Paired fun (p : κ × V) (q : κ × Value) => p.1 = q.1 /\ RelV p.2 q.2

def kV : Key -> V
  | .inl i => .int i
  | .inr x => .str x

inductive HO where
  /-- a list -/
  | lst (xs : List V)
  /-- a tuple (never changes) -/
  | tup (xs : List V)
  /-- a dict whose keys are ints and texts; one whose keys are tuples of ints and texts (the empty one is both) -/
  | dK (kvs : List (Key × V)) | dT (kvs : List (List Key × V))
  /-- a set of ints: its members, its size -/
  | set (S : Int -> Bool) (n : Nat)
  /-- an instance of the class at C, its dict at dx, its attributes -/
  | ins (C dx : Addr) (fs : List (Str × V))
  /-- the dict of the instance at x -/
  | own (x : Addr)
  /-- the dict of an exception -/
  | xd (fs : List (Str × V))
  /-- a bound method, f of x -/
  | met (f x : Addr)
  /-- a range object lo, lo + 1, .. below hi -/
  | rng (lo hi : Int)
  /-- a thing that is known to the object (the script; a dict while a loop walks it): read, never written while it is so -/
  | frz (o : Obj) (u : HO)
  /-- a code object's table -/
  | tbl (ps : Array Value)
  /-- any other thing, by what is true of its one object (a def of one's own: SetO a S n := HO.ext fun h => ..) -/
  | ext (φ : Heap -> Prop)

abbrev Hp := Addr -> Option HO
def upd (H : Hp) (a : Addr) (o : HO) : Hp := fun b => if b = a then some o else H b
theorem bq {H : Hp} {a : Addr} {o : HO} : upd H a o a = some o := by unfold upd; rw [if_pos rfl]
theorem bi {H : Hp} {a b : Addr} {o : HO} (h : b ≠ a) : upd H a o b = H b := by unfold upd; rw [if_neg h]
theorem aZ {H : Hp} {a b : Addr} {o : HO} (h : H a = some o) (h' : H b = none) : a ≠ b := by
  intro e; subst e; rw [h] at h'; cases h'

section
variable (P : Program) (w : World)
def ObjOk (H : Hp) (h : Heap) (a : Addr) : HO -> Prop
  | .lst xs => xs.length <= sizeLine /\ ∃ (its : List Value) (n : Nat), Vals xs its /\ h.get? a = some { cls := .type "list", data := .seq its.toArray n }
  | .tup xs => xs.length <= sizeLine /\ ∃ its : List Value, Vals xs its /\ IsTup h a its.toArray
  | .dK kvs => kvs.length <= sizeLine /\ (a == sysModules) = false /\ ∃ vs, KV kvs vs /\ h.DictOf (pM P w) a vs
  | .dT kvs => kvs.length <= sizeLine /\ (a == sysModules) = false /\ ∃ xs : List (List Key × Addr × Value),
      Paired (fun (p : List Key × V) (q : List Key × Addr × Value) => p.1 = q.1 /\ H q.2.1 = some (.tup (p.1.map kV)) /\ RelV p.2 q.2.2) kvs xs /\
      ∃ o es ep, h.get? a = some o /\ o.ExactDict /\ o.data = .dict es ep /\ es.toList = xs.map (entryOfKey (tupleKind (pM P w))) /\ (xs.map (·.1)).Nodup
  | .set S n => h.SetOf (intKind P w) a S n
  | .ins C dx fs => H dx = some (.own a) /\ fs.length <= 1000 /\ dx ≠ a /\ h.get? a = some (PySem.W.instObj C dx) /\
      ∃ mA, h.Ns1 dx mA /\ (∀ f, Ek (fs.lookup f) (mA f)) /\ PySem.Within mA (fs.map (·.1))
  | .own _ => ∃ o, h.get? a = some o
  | .xd fs => ∃ mA, h.Ns1 a mA /\ ∀ f, Ek (fs.lookup f) (mA f)
  | .rng lo hi => ∃ t u v, h.get? a = some { cls := .type "range", data := .fields #[.int lo t, .int hi u, .int 1 v] }
  | .frz o u => h.get? a = some o /\ ObjOk H h a u
  | .tbl ps => h.get? a = some { cls := .none, data := .fields ps }
  | .met f x => h.get? a = some (PySem.W.methodObj (.ref f) (.ref x))
  | .ext φ => φ h /\ (∃ o, h.get? a = some o) /\ ∀ h1 h2 : Heap, φ h1 -> (∀ o, h1.get? a = some o -> h2.get? a = some o) -> φ h2
def HOk (H : Hp) (h : Heap) : Prop := ∀ a o, H a = some o -> ObjOk P w H h a o
end

section
variable {P : Program} {w : World} {H H' : Hp} {h h' : Heap} {a : Addr} {o : HO}
theorem ObjOk.lt (x : ObjOk P w H h a o) : a < h.objs.size := by
  cases o with
  | lst xs => obtain ⟨_, _, _, _, e⟩ := x; exact Heap.lt_size e
  | tup xs => obtain ⟨_, _, _, p⟩ := x; exact p.lt
  | dK kvs => obtain ⟨_, _, _, _, o, _, _, e, _⟩ := x; exact Heap.lt_size e
  | dT kvs => obtain ⟨_, _, _, _, o, _, _, e, _⟩ := x; exact Heap.lt_size e
  | set S n => obtain ⟨o, _, _, _, e, _⟩ := x; exact Heap.lt_size e
  | ins C dx fs => obtain ⟨_, _, _, e, _⟩ := x; exact Heap.lt_size e
  | own y => obtain ⟨_, e⟩ := x; exact Heap.lt_size e
  | xd fs => obtain ⟨_, ⟨_, _, _, e, _⟩, _⟩ := x; exact Heap.lt_size e
  | rng lo hi => obtain ⟨_, _, _, e⟩ := x; exact Heap.lt_size e
  | frz ob u => obtain ⟨e, _⟩ := x; exact Heap.lt_size e
  | tbl ps => exact Heap.lt_size (show h.get? a = some _ from x)
  | met f y => exact Heap.lt_size (show h.get? a = some _ from x)
  | ext φ => obtain ⟨_, ⟨_, e⟩, _⟩ := x; exact Heap.lt_size e
theorem Paired.mapP {α β : Type} {F G : α -> β -> Prop} : ∀ {l₁ : List α} {l₂ : List β}, Paired F l₁ l₂ -> (∀ a b, F a b -> G a b) -> Paired G l₁ l₂
  | _, _, .nil, _ => .nil
  | _, _, .cons r t, f => .cons (f _ _ r) (Paired.mapP t f)
theorem ObjOk.stay (x : ObjOk P w H h a o) (k : ∀ b u, (b = a \/ H b = some (.own a)) -> h.get? b = some u -> h'.get? b = some u)
    (ho : ∀ b, H b = some (.own a) -> H' b = some (.own a)) (ht : ∀ b xs, H b = some (.tup xs) -> H' b = some (.tup xs)) : ObjOk P w H' h' a o := by
  induction o with
  | lst xs => obtain ⟨z, its, n, r, e⟩ := x; exact ⟨z, its, n, r, k _ _ (.inl rfl) e⟩
  | tup xs => obtain ⟨z, its, r, ob, e, c⟩ := x; exact ⟨z, its, r, ob, k _ _ (.inl rfl) e, c⟩
  | dK kvs => obtain ⟨z, y, vs, r, ob, es, ep, e, c⟩ := x; exact ⟨z, y, vs, r, ob, es, ep, k _ _ (.inl rfl) e, c⟩
  | dT kvs =>
    obtain ⟨z, y, xs, r, ob, es, ep, e, c⟩ := x
    exact ⟨z, y, xs, Paired.mapP r fun p q z => ⟨z.1, ht _ _ z.2.1, z.2.2⟩, ob, es, ep, k _ _ (.inl rfl) e, c⟩
  | set S n => obtain ⟨ob, es, ep, t, e, c⟩ := x; exact ⟨ob, es, ep, t, k _ _ (.inl rfl) e, c⟩
  | ins C dx fs =>
    obtain ⟨d, z, ne, e, mA, ⟨od, es, ep, e2, c⟩, r⟩ := x
    exact ⟨ho _ d, z, ne, k _ _ (.inl rfl) e, mA, ⟨od, es, ep, k _ _ (.inr d) e2, c⟩, r⟩
  | own y => obtain ⟨ob, e⟩ := x; exact ⟨ob, k _ _ (.inl rfl) e⟩
  | xd fs => obtain ⟨mA, ⟨od, es, ep, e, c⟩, r⟩ := x; exact ⟨mA, ⟨od, es, ep, k _ _ (.inl rfl) e, c⟩, r⟩
  | rng lo hi => obtain ⟨t, u, v, e⟩ := x; exact ⟨t, u, v, k _ _ (.inl rfl) e⟩
  | frz ob u ih => obtain ⟨e, q⟩ := x; exact ⟨k _ _ (.inl rfl) e, ih q⟩
  | tbl ps =>
    have e : h.get? a = some { cls := .none, data := .fields ps } := x
    show h'.get? a = some { cls := .none, data := .fields ps }
    exact k a _ (.inl rfl) e
  | met f y =>
    have e : h.get? a = some (PySem.W.methodObj (.ref f) (.ref y)) := x
    show h'.get? a = some (PySem.W.methodObj (.ref f) (.ref y))
    exact k a _ (.inl rfl) e
  | ext φ => obtain ⟨p, ⟨o, e⟩, st⟩ := x; exact ⟨st _ _ p fun o q => k _ _ (.inl rfl) q, ⟨o, k _ _ (.inl rfl) e⟩, st⟩
theorem HOk.lt (x : HOk P w H h) (e : H a = some o) : a < h.objs.size := (x a o e).lt
theorem HOk.fresh (x : HOk P w H h) (e : h.objs.size <= a) : H a = none := by
  cases q : H a with
  | none => rfl
  | some u => exact absurd (Nat.lt_of_lt_of_le (x.lt q) e) (Nat.lt_irrefl _)
theorem HOk.kept (x : HOk P w H h) (k : ∀ b u, h.get? b = some u -> h'.get? b = some u) : HOk P w H h' := fun a o e =>
  (x a o e).stay (fun b u _ q => k b u q) (fun _ q => q) fun _ _ q => q
theorem HOk.laid (x : HOk P w H h) (k : ∀ b u, h.get? b = some u -> h'.get? b = some u) (hp : h.objs.size <= a) (new : ObjOk P w (upd H a o) h' a o) : HOk P w (upd H a o) h' := fun b u e => by
  have hn := x.fresh hp
  by_cases hb : b = a
  . subst hb; rw [bq] at e; cases e; exact new
  . rw [bi hb] at e
    exact (x b u e).stay (fun c v _ q => k c v q) (fun c q => by rw [bi (aZ q hn)]; exact q) fun c xs q => by rw [bi (aZ q hn)]; exact q
end

def Rd (H : Hp) (a : Addr) (u : HO) : Prop := H a = some u \/ ∃ o, H a = some (.frz o u)
theorem Rd.ok {P : Program} {w : World} {H : Hp} {h : Heap} {a : Addr} {u : HO} (r : Rd H a u) (x : HOk P w H h) : ObjOk P w H h a u := by
  rcases r with r | ⟨o, r⟩
  . exact x a u r
  . obtain ⟨_, q⟩ := x a _ r
    exact q
def Mut : Option HO -> Prop
  | some (.lst _) => True
  | some (.dK _) => True
  | some (.dT _) => True
  | some (.set _ _) => True
  | some (.ins _ _ _) => True
  | some (.ext _) => True
  | _ => False
section
variable {P : Program} {w : World} {H : Hp} {h h' : Heap} {x e : Addr} {o' : HO}
theorem HOk.write (ok : HOk P w H h) (mu : Mut (H x)) (he : e = x \/ H e = some (.own x)) (k : ∀ b u, b ≠ e -> h.get? b = some u -> h'.get? b = some u) (heo : ∃ u, h'.get? e = some u)
    (new : ObjOk P w (upd H x o') h' x o') : HOk P w (upd H x o') h' := fun b u q => by
  have nown : ∀ c y, H c = some (.own y) -> c ≠ x := fun c y r z => by subst z; rw [r] at mu; exact mu
  have ntup : ∀ c xs, H c = some (.tup xs) -> c ≠ x := fun c xs r z => by subst z; rw [r] at mu; exact mu
  by_cases hb : b = x
  . subst hb; rw [bq] at q; cases q; exact new
  . rw [bi hb] at q
    by_cases hbe : b = e
    . have q' : H b = some (.own x) := by
        rcases he with z | z
        . exact absurd (hbe.trans z) hb
        . rw [hbe]; exact z
      rw [q] at q'; cases q'
      obtain ⟨v, hv⟩ := heo
      exact ⟨v, by rw [hbe]; exact hv⟩
    . refine (ok b u q).stay (fun c v hc r => k c v ?_ r) (fun c r => by rw [bi (nown c b r)]; exact r) fun c xs r => by rw [bi (ntup c xs r)]; exact r
      rcases hc with rfl | hc
      . exact hbe
      . rintro rfl
        rcases he with z | z
        . exact nown c b hc z
        . rw [hc] at z; cases z; exact hb rfl
end

structure Un (fs ex : List Addr) (H H' : Hp) (h h' : Heap) : Prop where
  keep : ∀ b o, h.get? b = some o -> H b = none -> b ∉ fs -> b ∉ ex -> h'.get? b = some o
  slot : ∀ b o, h.get? b = some o -> H b = none -> b ∈ fs -> b ∉ ex -> ∃ sl, h'.get? b = some { o with slots := sl }
  free : ∀ b o, h.get? b = some o -> H b = none -> b ∉ ex -> H' b = none
  there : ∀ b o, h.get? b = some o -> b ∉ ex -> ∃ o', h'.get? b = some o'
  tups : ∀ b xs, H b = some (.tup xs) -> H' b = some (.tup xs)
  frzs : ∀ b o u, H b = some (.frz o u) -> H' b = some (.frz o u)
  tbls : ∀ b ps, H b = some (.tbl ps) -> ∃ more, H' b = some (.tbl (ps ++ more))
section
variable {fs fs' ex ex' : List Addr} {H H1 H2 : Hp} {h h1 h2 h' : Heap} {a x e : Addr} {o : HO}
theorem Un.any (u : Un fs ex H H1 h h1) {b : Addr} {ob : Obj} (q : h.get? b = some ob) (n : H b = none) (hx : b ∉ ex) : ∃ sl, h1.get? b = some { ob with slots := sl } := by
  by_cases hb : b ∈ fs
  . exact u.slot b ob q n hb hx
  . exact ⟨ob.slots, u.keep b ob q n hb hx⟩
theorem Un.kept (k : ∀ b u, h.get? b = some u -> h'.get? b = some u) : Un fs ex H H h h' :=
  ⟨fun b ob q _ _ _ => k b ob q, fun b ob q _ _ _ => ⟨ob.slots, k b ob q⟩, fun _ _ _ n _ => n, fun b ob q _ => ⟨ob, k b ob q⟩, fun _ _ q => q, fun _ _ _ q => q, fun _ ps q => ⟨#[], by rw [q]; simp⟩⟩
theorem Un.refl : Un fs ex H H h h := Un.kept fun _ _ q => q
theorem Un.laid (k : ∀ b u, h.get? b = some u -> h'.get? b = some u) (hp : h.objs.size <= a) (hn : H a = none) : Un fs ex H (upd H a o) h h' where
  keep := fun b u q _ _ _ => k b u q
  slot := fun b u q _ _ _ => ⟨u.slots, k b u q⟩
  free := fun b u q n _ => by rw [bi (Nat.ne_of_lt (Nat.lt_of_lt_of_le (Heap.lt_size q) hp))]; exact n
  there := fun b u q _ => ⟨u, k b u q⟩
  tups := fun b xs q => by rw [bi (aZ q hn)]; exact q
  frzs := fun b u xs q => by rw [bi (aZ q hn)]; exact q
  tbls := fun b ps q => ⟨#[], by rw [bi (aZ q hn), q]; simp⟩
theorem Un.write (mu : Mut (H x)) (he : e = x \/ H e = some (.own x)) (k : ∀ b u, b ≠ e -> h.get? b = some u -> h'.get? b = some u) (heo : ∃ u, h'.get? e = some u) : Un fs ex H (upd H x o) h h' := by
  have hx : ∀ b, H b = none -> b ≠ x := fun b n z => by subst z; rw [n] at mu; exact mu
  have hb : ∀ b, H b = none -> b ≠ e := fun b n z => by
    subst z
    rcases he with r | r
    . exact hx b n r
    . rw [n] at r; cases r
  have hm : ∀ b u, H b = some u -> ¬ Mut (some u) -> b ≠ x := fun b u q nm z => by subst z; rw [q] at mu; exact nm mu
  refine ⟨fun b u q n _ _ => k b u (hb b n) q, fun b u q n _ _ => ⟨u.slots, k b u (hb b n) q⟩, fun b u q n _ => by rw [bi (hx b n)]; exact n, fun b u q _ => ?_,
    fun b xs q => by rw [bi (hm b _ q fun z => z)]; exact q, fun b u xs q => by rw [bi (hm b _ q fun z => z)]; exact q, fun b ps q => ⟨#[], by rw [bi (hm b _ q fun z => z), q]; simp⟩⟩
  by_cases hbe : b = e
  . subst hbe; exact heo
  . exact ⟨u, k b u hbe q⟩
end

def trk (h : Heap) (H : Hp) : List Addr := (List.range h.objs.size).filter fun a => (H a).isSome
def xq (h : Heap) (H : Hp) : Heap := PySem.W.hideAll h (trk h H)
theorem tz (h : Heap) (H : Hp) : (xq h H).objs.size = h.objs.size := PySem.W.hideAll_size _ _
theorem xC {h : Heap} {H : Hp} {b : Addr} {o : Obj} (e : h.get? b = some o) (n : H b = none) : (xq h H).get? b = some o :=
  PySem.W.hideAll_get _ e fun hm => by
    have q : (H b).isSome = true := (List.mem_filter.mp hm).2
    rw [n] at q; simp at q
theorem Al {h : Heap} {H : Hp} {b : Addr} {o : Obj} (e : (xq h H).get? b = some o) : h.get? b = some o /\ H b = none := by
  have e' : h.get? b = some o := PySem.W.of_hideAll (trk h H) e
  refine ⟨e', ?_⟩
  cases q : H b with
  | none => rfl
  | some x =>
    have hm : b ∈ trk h H := List.mem_filter.mpr ⟨List.mem_range.mpr (Heap.lt_size e'), by simp [q]⟩
    have z : (xq h H).get? b = none := PySem.W.hideAll_none (trk h H) hm
    rw [z] at e; cases e

def yU (g h : Heap) (L : Addr) : List (Addr × Obj) := (List.range h.objs.size).filterMap fun a => if a = L \/ (g.get? a).isSome = true then none else (h.get? a).map fun o => (a, o)
def dI (g h : Heap) (L d : Addr) : List (Addr × Obj) := (yU g h L).filter fun p => decide (p.1 ≠ d)
end L2

namespace L2
open PySem PySem.Spec PyProof.Rows

structure Mod (K : PySem.W.Frag) (mg : Str -> Option Value) (base : Heap) : Prop where
  kin : K.In base
  glob : base.Ns mainGlobals mg
  blt : ∃ mb, base.Ns builtinsNs mb /\ ∀ x : Str, x ≠ "__name__" -> mb x = bootBuiltins x
  nolimit : base.NoLimit

structure Cx where
  prog : Program
  w : World
  K : PySem.W.Frag
  mg : Str -> Option Value
  base : Heap
  A : Around
  N : List Str
  s₀ : Shared
  H₀ : Hp
  env : Env
  outer : List Env
  stack : List Env
  ex : List Addr
  fn : Str -> Bool
  calm : Bool
  pn : List (Addr × Obj)
  xe : Value -> Shared -> Prop
def frs (l : List Env) : List Addr := l.filterMap (·.frame)
abbrev Cx.fs (X : Cx) : List Addr := frs X.outer

def Vis (sc : Scope) (x : Str) : Prop := sc.names.lookup x = some .local \/ sc.names.lookup x = some .cell \/ sc.names.lookup x = some .free
def Loc (sc : Scope) (x : Str) : Prop := sc.names.lookup x = some .local \/ sc.names.lookup x = some .cell
def Ef (env : Env) (h : Heap) (m : Str -> Option Value) (x : Str) (u : Value) : Prop :=
  (env.kindOf x = some .local /\ m x = some u) \/ ((env.kindOf x = some .cell \/ env.kindOf x = some .free) /\ ∃ c, env.cells.lookup x = some c /\ h.IsCell c (some u))

structure Cx.Ok (X : Cx) : Prop where
  mod : Mod X.K X.mg X.base
  kind : X.env.scope.kind = .function
  glob : X.env.globals = mainGlobals
  blt : X.env.builtins = builtinsNs
  above : X.s₀.heap.objs.size <= X.env.locals
  inj : ∀ x y c, X.env.cells.lookup x = some c -> X.env.cells.lookup y = some c -> x = y
  has : ∀ x, (X.env.kindOf x = some .cell \/ X.env.kindOf x = some .free) -> ∃ c, X.env.cells.lookup x = some c
  cab : ∀ x c, X.fn x = true -> X.env.cells.lookup x = some c -> X.s₀.heap.objs.size <= c
  hd : X.calm = true -> X.A.handled = none
  frames : X.A.frames = some X.stack
  stk : X.stack = X.outer \/ (X.stack = X.env :: X.outer /\ X.env.frame = some X.env.locals)
  exf : ∀ b ∈ X.ex, b ≠ X.env.locals /\ ∀ x c, X.env.cells.lookup x = some c -> c ≠ b
  bs : ∀ b o, X.base.get? b = some o -> X.s₀.heap.get? b = some o /\ X.H₀ b = none
  bsz : X.base.objs.size <= X.s₀.heap.objs.size
  noex : ∀ b o, X.base.get? b = some o -> b ∉ X.ex
  exfs : ∀ b ∈ X.ex, b ∉ X.fs
  funs : X.s₀.heap.FunFrames X.base X.outer
  frf : ∀ b ∈ X.fs, X.H₀ b = none

structure Inv (X : Cx) (pins : List (Addr × Obj)) (σ : List (Option V)) (H : Hp) (s : Shared) : Prop where
  ok : X.Ok
  os : s.os = X.s₀.os
  bare : AllBare s.gens
  base : Un X.fs X.ex X.H₀ H X.s₀.heap s.heap
  loc : ∃ m, s.heap.Ns X.env.locals m /\ ∀ (i : Nat) (x : Str) (v : V), X.N[i]? = some x -> σ[i]? = some (some v) -> Vis X.env.scope x -> ∃ u, RelV v u /\ Ef X.env s.heap m x u
  cell : ∀ x c, X.env.cells.lookup x = some c -> ∃ v, s.heap.IsCell c v
  free : H X.env.locals = none
  freeC : ∀ x c, X.env.cells.lookup x = some c -> H c = none
  pin : ∀ p ∈ X.pn ++ pins, s.heap.get? p.1 = some p.2 /\ H p.1 = none /\ p.1 ≠ X.env.locals /\ p.1 ∉ X.fs /\ ∀ v, p.2.data ≠ .cell v
  hok : HOk X.prog X.w H s.heap
  len : σ.length = X.N.length

section
variable {X : Cx} {pins : List (Addr × Obj)} {σ : List (Option V)} {H H' : Hp} {s : Shared} {h' : Heap}

theorem Cx.Ok.nofr (ok : X.Ok) {b : Addr} {o : Obj} (e : X.base.get? b = some o) : b ∉ X.fs := fun hb => by
  have := (ok.funs.mem hb).1
  rw [e] at this; cases this
theorem Inv.bs (I : Inv X pins σ H s) : ∀ b o, X.base.get? b = some o -> s.heap.get? b = some o /\ H b = none := fun b o e =>
  ⟨I.base.keep b o (I.ok.bs b o e).1 (I.ok.bs b o e).2 (I.ok.nofr e) (I.ok.noex b o e), I.base.free b o (I.ok.bs b o e).1 (I.ok.bs b o e).2 (I.ok.noex b o e)⟩
theorem Inv.bk (I : Inv X pins σ H s) : ∀ b o, X.base.get? b = some o -> s.heap.get? b = some o := fun b o e => (I.bs b o e).1
theorem Inv.mod (I : Inv X pins σ H s) : Mod X.K X.mg X.base := I.ok.mod
theorem Inv.kIn (I : Inv X pins σ H s) : X.K.In s.heap := I.ok.mod.kin.keeps I.bk
theorem Inv.lt (I : Inv X pins σ H s) : X.env.locals < s.heap.objs.size := let ⟨_, hn, _⟩ := I.loc; hn.lt
theorem Inv.sz (I : Inv X pins σ H s) : X.s₀.heap.objs.size <= s.heap.objs.size := Nat.le_trans I.ok.above (Nat.le_of_lt I.lt)
theorem Inv.nofs (I : Inv X pins σ H s) {a : Addr} (h : s.heap.objs.size <= a) : a ∉ X.fs := fun hb => by
  obtain ⟨_, o, ho, _⟩ := I.ok.funs.mem hb
  exact absurd (Nat.lt_of_lt_of_le (Heap.lt_size ho) (Nat.le_trans I.sz h)) (Nat.lt_irrefl _)
theorem Inv.cne (I : Inv X pins σ H s) : ∀ x c, X.env.cells.lookup x = some c -> c ≠ X.env.locals := fun x c e z => by
  obtain ⟨v, o, ho, hd⟩ := I.cell x c e
  obtain ⟨m, ⟨o', es, ep, ho', hd', _⟩, _⟩ := I.loc
  rw [z, ho'] at ho; cases ho; rw [hd'] at hd; cases hd
theorem Inv.funs (I : Inv X pins σ H s) : s.heap.FunFrames X.base X.outer := by
  have all : ∀ (l : List Env), (∀ b ∈ frs l, b ∈ X.fs) -> X.s₀.heap.FunFrames X.base l -> s.heap.FunFrames X.base l := by
    intro l
    induction l with
    | nil => intro _ _; trivial
    | cons env r ih =>
      intro hs hl
      obtain ⟨hk, ⟨L, o, hf, hn, ho, hd⟩, hr⟩ := hl
      have hL : L ∈ X.fs := hs L (by unfold frs; rw [List.filterMap_cons, hf]; exact List.mem_cons_self)
      obtain ⟨sl, e⟩ := I.base.slot L o ho (I.ok.frf L hL) hL fun z => I.ok.exfs L z hL
      exact ⟨hk, ⟨L, _, hf, hn, e, hd⟩, ih (fun b hb => hs b (by unfold frs; rw [List.filterMap_cons, hf]; exact List.mem_cons_of_mem _ hb)) hr⟩
  exact all X.outer (fun _ hb => hb) I.ok.funs

theorem Inv.stack (I : Inv X pins σ H s) : s.heap.FunFrames X.base X.stack := by
  rcases I.ok.stk with e | ⟨e, hf⟩
  . rw [e]; exact I.funs
  . rw [e]
    obtain ⟨m, hn, _⟩ := I.loc
    refine .cons (by rw [I.ok.kind]; decide) hf hn ?_ I.funs
    exact Heap.get?_none_of_le (Nat.le_trans I.ok.bsz I.ok.above)
theorem Inv.stkSub (I : Inv X pins σ H s) : ∀ b ∈ frs X.stack, b ∈ X.env.locals :: X.fs := fun b hb => by
  rcases I.ok.stk with e | ⟨e, hf⟩
  . rw [e] at hb; exact List.mem_cons_of_mem _ hb
  . rw [e] at hb
    unfold frs at hb
    rw [List.filterMap_cons, hf] at hb
    exact hb
theorem Inv.stkFree (I : Inv X pins σ H s) : ∀ b ∈ frs X.stack, H b = none := fun b hb => by
  rcases List.mem_cons.mp (I.stkSub b hb) with e | hb
  . rw [e]; exact I.free
  . obtain ⟨_, o, ho, _⟩ := I.ok.funs.mem hb
    exact I.base.free b o ho (I.ok.frf b hb) fun z => I.ok.exfs b z hb

theorem Inv.step {g' : Array GenState} {t' : Nat} {d' : Drawn} {ch : List Addr} (I : Inv X pins σ H s)
    (hch : ∀ b ∈ ch, (b ∈ X.ex \/ X.s₀.heap.objs.size <= b) /\ b ≠ X.env.locals /\ (∀ x c, X.env.cells.lookup x = some c -> c ≠ b) /\ ∀ p ∈ X.pn ++ pins, p.1 ≠ b)
    (keep : ∀ b o, b ≠ X.env.locals -> b ∉ X.fs -> b ∉ ch -> s.heap.get? b = some o -> H b = none -> h'.get? b = some o)
    (slot : ∀ b o, b ≠ X.env.locals -> b ∈ X.fs -> b ∉ ch -> s.heap.get? b = some o -> H b = none -> ∃ sl, h'.get? b = some { o with slots := sl }) (free : ∀ b o, b ∉ ch -> s.heap.get? b = some o -> H b = none -> H' b = none)
    (there : ∀ b o, b ∉ ch -> s.heap.get? b = some o -> ∃ o', h'.get? b = some o')
    (tups : ∀ b xs, H b = some (.tup xs) -> H' b = some (.tup xs)) (frzs : ∀ b o u, H b = some (.frz o u) -> H' b = some (.frz o u)) (tbls : ∀ b ps, H b = some (.tbl ps) -> ∃ more, H' b = some (.tbl (ps ++ more)))
    (ns : ∀ m, s.heap.Ns X.env.locals m -> h'.Ns X.env.locals m) (hok : HOk X.prog X.w H' h') (hg : AllBare g') :
    Inv X pins σ H' { s with heap := h', gens := g', drawn := d', toks := t' } := by
  have neL : ∀ b o, X.s₀.heap.get? b = some o -> b ≠ X.env.locals := fun b o e => Nat.ne_of_lt (Nat.lt_of_lt_of_le (Heap.lt_size e) I.ok.above)
  have neC : ∀ b o, X.s₀.heap.get? b = some o -> b ∉ X.ex -> b ∉ ch := fun b o e hx hb => by
    rcases (hch b hb).1 with z | z
    . exact hx z
    . exact absurd (Nat.lt_of_lt_of_le (Heap.lt_size e) z) (Nat.lt_irrefl _)
  have cellK : ∀ x c, X.env.cells.lookup x = some c -> ∀ v, s.heap.IsCell c v -> h'.IsCell c v := fun x c e v ⟨o, ho, hd⟩ => by
    have nch : c ∉ ch := fun z => (hch c z).2.2.1 x c e rfl
    by_cases hc : c ∈ X.fs
    . obtain ⟨sl, q⟩ := slot c o (I.cne x c e) hc nch ho (I.freeC x c e)
      exact ⟨_, q, hd⟩
    . exact ⟨o, keep c o (I.cne x c e) hc nch ho (I.freeC x c e), hd⟩
  refine ⟨I.ok, I.os, hg, ⟨fun b o e n hb hx => ?_, fun b o e n hb hx => ?_, fun b o e n hx => ?_, fun b o e hx => ?_, fun b xs e => tups b xs (I.base.tups b xs e), fun b o xs e => frzs b o xs (I.base.frzs b o xs e), fun b ps e => ?_⟩, ?_, fun x c e => ?_, ?_, fun x c e => ?_, fun p hp => ?_, hok, I.len⟩
  . exact keep b o (neL b o e) hb (neC b o e hx) (I.base.keep b o e n hb hx) (I.base.free b o e n hx)
  . obtain ⟨sl, e1⟩ := I.base.slot b o e n hb hx
    obtain ⟨sl', e2⟩ := slot b _ (neL b o e) hb (neC b o e hx) e1 (I.base.free b o e n hx)
    exact ⟨sl', e2⟩
  . obtain ⟨o', e1⟩ := I.base.there b o e hx
    exact free b o' (neC b o e hx) e1 (I.base.free b o e n hx)
  . obtain ⟨o', e1⟩ := I.base.there b o e hx
    exact there b o' (neC b o e hx) e1
  . obtain ⟨m1, e1⟩ := I.base.tbls b ps e
    obtain ⟨m2, e2⟩ := tbls b _ e1
    exact ⟨m1 ++ m2, by rw [e2, Array.append_assoc]⟩
  . obtain ⟨m, hn, hl⟩ := I.loc
    refine ⟨m, ns m hn, fun i x v e1 e2 e3 => ?_⟩
    obtain ⟨u, r, l⟩ := hl i x v e1 e2 e3
    refine ⟨u, r, ?_⟩
    rcases l with l | ⟨k, c, e, z⟩
    . exact .inl l
    . exact .inr ⟨k, c, e, cellK x c e _ z⟩
  . obtain ⟨v, z⟩ := I.cell x c e
    exact ⟨v, cellK x c e v z⟩
  . obtain ⟨m, ⟨o, _, _, ho, _⟩, _⟩ := I.loc
    exact free _ o (fun z => (hch _ z).2.1 rfl) ho I.free
  . obtain ⟨v, o, ho, hd⟩ := I.cell x c e
    exact free c o (fun z => (hch c z).2.2.1 x c e rfl) ho (I.freeC x c e)
  . obtain ⟨e, n, ne, nf, d⟩ := I.pin p hp
    have nch : p.1 ∉ ch := fun z => (hch p.1 z).2.2.2 p hp rfl
    exact ⟨keep p.1 p.2 ne nf nch e n, free p.1 p.2 nch e n, ne, nf, d⟩
theorem Inv.un {t' : Nat} (I : Inv X pins σ H s) (u : Un X.fs [] H H' s.heap h') (hok : HOk X.prog X.w H' h') : Inv X pins σ H' { s with heap := h', toks := t' } := by
  obtain ⟨m, ⟨o, es, ep, ho, r⟩, _⟩ := id I.loc
  obtain ⟨sl, hL⟩ := u.any ho I.free (by simp)
  exact I.step (g' := s.gens) (d' := s.drawn) (ch := []) (fun _ z => nomatch z) (fun b o _ hb _ e n => u.keep b o e n hb (by simp)) (fun b o _ hb _ e n => u.slot b o e n hb (by simp)) (fun b o _ e n => u.free b o e n (by simp)) (fun b o _ e => u.there b o e (by simp)) u.tups u.frzs u.tbls (fun m' hm => by
    obtain ⟨o', es', ep', ho', r'⟩ := hm
    rw [ho] at ho'; cases ho'
    exact ⟨_, es', ep', hL, r'⟩) hok I.bare
theorem Inv.call {g' : Array GenState} {t' : Nat} {d' : Drawn} {ch : List Addr} (I : Inv X pins σ H s) (u : Un (frs X.stack) ch H H' s.heap h') (hok : HOk X.prog X.w H' h') (hg : AllBare g')
    (hch : ∀ b ∈ ch, (b ∈ X.ex \/ X.s₀.heap.objs.size <= b) /\ b ≠ X.env.locals /\ (∀ x c, X.env.cells.lookup x = some c -> c ≠ b) /\ ∀ p ∈ X.pn ++ pins, p.1 ≠ b) :
    Inv X pins σ H' { s with heap := h', gens := g', drawn := d', toks := t' } := by
  obtain ⟨m, ⟨o, es, ep, ho, r⟩, _⟩ := id I.loc
  obtain ⟨sl, hL⟩ := u.any ho I.free fun z => (hch _ z).2.1 rfl
  exact I.step (ch := ch) hch (fun b o hL hb hc e n => u.keep b o e n (fun z => (List.mem_cons.mp (I.stkSub b z)).elim hL hb) hc) (fun b o _ _ hc e n => u.any e n hc) (fun b o hc e n => u.free b o e n hc) (fun b o hc e => u.there b o e hc) u.tups u.frzs u.tbls (fun m' hm => by
    obtain ⟨o', es', ep', ho', r'⟩ := hm
    rw [ho] at ho'; cases ho'
    exact ⟨_, es', ep', hL, r'⟩) hok hg
theorem Inv.turned {t' : Nat} {it : Addr} (I : Inv X pins σ H s) (k : ∀ b o, b ≠ it -> s.heap.get? b = some o -> h'.get? b = some o) (hn : H it = none) (hL : it ≠ X.env.locals)
    (h1 : it ∈ X.ex \/ X.s₀.heap.objs.size <= it) (h2 : ∀ x c, X.env.cells.lookup x = some c -> c ≠ it) (h3 : ∀ p ∈ X.pn ++ pins, p.1 ≠ it) : Inv X pins σ H { s with heap := h', toks := t' } := by
  have nit : ∀ b u, H b = some u -> b ≠ it := fun b u e z => by rw [z, hn] at e; cases e
  refine I.step (g' := s.gens) (d' := s.drawn) (ch := [it]) (fun b hb => ?_) (fun b o _ _ hc e _ => k b o (fun z => hc (by simp [z])) e) (fun b o _ _ hc e _ => ⟨o.slots, k b o (fun z => hc (by simp [z])) e⟩) (fun _ _ _ _ n => n)
    (fun b o hc e => ⟨o, k b o (fun z => hc (by simp [z])) e⟩) (fun _ _ e => e) (fun _ _ _ e => e) (fun b ps e => ⟨#[], by rw [e]; simp⟩) (fun m hm => ?_) (fun b u e => ?_) I.bare
  . have e : b = it := by simpa using hb
    subst e
    exact ⟨h1, hL, h2, h3⟩
  . obtain ⟨o, es, ep, ho, r⟩ := hm
    exact ⟨o, es, ep, k _ o (Ne.symm hL) ho, r⟩
  . refine (I.hok b u e).stay (fun c v hc q => k c v ?_ q) (fun _ q => q) fun _ _ q => q
    rcases hc with z | z
    . rw [z]; exact nit b u e
    . exact nit c _ z
theorem Inv.tok (I : Inv X pins σ H s) (t : Nat) : Inv X pins σ H { s with toks := t } := I.un (h' := s.heap) (t' := t) Un.refl I.hok
theorem Inv.kept {t' : Nat} (I : Inv X pins σ H s) (k : ∀ b u, s.heap.get? b = some u -> h'.get? b = some u) : Inv X pins σ H { s with heap := h', toks := t' } := I.un (Un.kept k) (I.hok.kept k)
theorem Inv.laid {a : Addr} {o : HO} {t' : Nat} (I : Inv X pins σ H s) (k : ∀ b u, s.heap.get? b = some u -> h'.get? b = some u) (hp : s.heap.objs.size <= a) (new : ObjOk X.prog X.w (upd H a o) h' a o) :
    Inv X pins σ (upd H a o) { s with heap := h', toks := t' } := I.un (Un.laid k hp (I.hok.fresh hp)) (I.hok.laid k hp new)
theorem Inv.write {x e : Addr} {o : HO} {t' : Nat} (I : Inv X pins σ H s) (mu : Mut (H x)) (he : e = x \/ H e = some (.own x)) (k : ∀ b u, b ≠ e -> s.heap.get? b = some u -> h'.get? b = some u) (heo : ∃ u, h'.get? e = some u)
    (new : ObjOk X.prog X.w (upd H x o) h' x o) : Inv X pins σ (upd H x o) { s with heap := h', toks := t' } := I.un (Un.write mu he k heo) (I.hok.write mu he k heo new)
theorem Inv.pins_of {pins' : List (Addr × Obj)} (I : Inv X pins σ H s) (h : ∀ p ∈ pins', s.heap.get? p.1 = some p.2 /\ H p.1 = none /\ p.1 ≠ X.env.locals /\ p.1 ∉ X.fs /\ ∀ v, p.2.data ≠ .cell v) : Inv X pins' σ H s :=
  ⟨I.ok, I.os, I.bare, I.base, I.loc, I.cell, I.free, I.freeC, fun p hp => (List.mem_append.mp hp).elim (fun z => I.pin p (List.mem_append_left _ z)) (h p), I.hok, I.len⟩

theorem lW {N : List Str} (hN : N.Nodup) {i j : Nat} {x : Str} (a : N[i]? = some x) (b : N[j]? = some x) : i = j := by
  obtain ⟨h1, e1⟩ := List.getElem?_eq_some_iff.mp a
  obtain ⟨h2, e2⟩ := List.getElem?_eq_some_iff.mp b
  exact (List.getElem_inj hN).mp (e1.trans e2.symm)

theorem kx {M : Model} {A : Around} {E : Value -> Shared -> Prop} {i : Nat} {x : Str} {v : V} {u : Value} {Q : Unit -> Shared -> Prop} (I : Inv X pins σ H s) (hN : X.N.Nodup) (hi : X.N[i]? = some x) (hx : Loc X.env.scope x) (r : RelV v u)
    (h : ∀ s', Inv X pins (σ.set i (some v)) H s' -> (∃ a, Heap.SameBut a s.heap s'.heap /\ (a = X.env.locals \/ X.env.cells.lookup x = some a)) -> Q () s') (hf : X.fn x = true \/ X.env.scope.names.lookup x = some .local := by first | exact .inl rfl | exact .inr rfl | assumption) : wpAny M A (storeName X.env x u) Q E s := by
  obtain ⟨m, hn, hl⟩ := id I.loc
  have hcls : (X.env.scope.kind == .class || (X.env.scope.kind == .module && X.env.locals != X.env.globals)) = false := by rw [I.ok.kind]; rfl
  have hiσ : i < σ.length := by rw [I.len]; exact (List.getElem?_eq_some_iff.mp hi).1
  have cne := I.cne
  have tracked : ∀ {a : Addr} {h' : Heap}, (∃ o, s.heap.get? a = some o /\ H a = none) -> Heap.SameBut a s.heap h' -> HOk X.prog X.w H h' := fun {a h'} ha hs b ob e => by
    obtain ⟨_, _, hfree⟩ := ha
    refine (I.hok b ob e).stay (fun c w' hc q => (hs.2 c ?_).trans q) (fun _ q => q) fun _ _ q => q
    rintro rfl
    rcases hc with rfl | hc
    . rw [hfree] at e; cases e
    . rw [hfree] at hc; cases hc
  rcases hx with hk | hk
  . refine wpAny_storeName_local hk hn (fun h' hn' hs => ?_) hcls
    obtain ⟨oL, _, _, hoL, _⟩ := id hn
    refine h _ ⟨I.ok, I.os, I.bare, ⟨fun b o e n hb hx => ?_, fun b o e n hb hx => ?_, I.base.free, fun b o e hx => ?_, I.base.tups, I.base.frzs, I.base.tbls⟩, ⟨_, hn', fun j y v' e1 e2 e3 => ?_⟩, fun y c e => ?_, I.free, I.freeC, fun p hp => ?_, tracked ⟨oL, hoL, I.free⟩ hs, by simpa using I.len⟩ ⟨_, hs, .inl rfl⟩
    . exact (hs.2 b (Nat.ne_of_lt (Nat.lt_of_lt_of_le (Heap.lt_size e) I.ok.above))).trans (I.base.keep b o e n hb hx)
    . obtain ⟨sl, e1⟩ := I.base.slot b o e n hb hx
      exact ⟨sl, (hs.2 b (Nat.ne_of_lt (Nat.lt_of_lt_of_le (Heap.lt_size e) I.ok.above))).trans e1⟩
    . obtain ⟨o', e1⟩ := I.base.there b o e hx
      exact ⟨o', (hs.2 b (Nat.ne_of_lt (Nat.lt_of_lt_of_le (Heap.lt_size e) I.ok.above))).trans e1⟩
    . by_cases hj : j = i
      . subst hj
        rw [hi] at e1; cases e1
        rw [List.getElem?_set_self hiσ] at e2
        cases e2
        exact ⟨u, r, .inl ⟨hk, by simp⟩⟩
      . rw [List.getElem?_set_ne (Ne.symm hj)] at e2
        obtain ⟨u', r', q⟩ := hl j y v' e1 e2 e3
        refine ⟨u', r', ?_⟩
        rcases q with ⟨k, e⟩ | ⟨k, c, e, z⟩
        . refine .inl ⟨k, ?_⟩
          have : y ≠ x := fun e => hj (lW hN e1 (e ▸ hi))
          simp [this, e]
        . exact .inr ⟨k, c, e, z.sameBut hs (cne y c e)⟩
    . obtain ⟨w', z⟩ := I.cell y c e
      exact ⟨w', z.sameBut hs (cne y c e)⟩
    . obtain ⟨e, n, ne, nf, d⟩ := I.pin p hp
      exact ⟨(hs.2 p.1 ne).trans e, n, ne, nf, d⟩
  . have hfn : X.fn x = true := by
      rcases hf with z | z
      . exact z
      . rw [z] at hk; cases hk
    obtain ⟨c, hc⟩ := I.ok.has x (.inl hk)
    obtain ⟨w', z⟩ := I.cell x c hc
    refine wpAny_storeName_cell I.ok.kind hk hc z (fun h' hc' hs => ?_)
    obtain ⟨oc, hoc, hocd⟩ := id z
    refine h { s with heap := h' } ⟨I.ok, I.os, I.bare, ⟨fun b o e n hb hx => ?_, fun b o e n hb hx => ?_, I.base.free, fun b o e hx => ?_, I.base.tups, I.base.frzs, I.base.tbls⟩, ⟨m, hn.sameBut hs (Ne.symm (cne x c hc)), fun j y v' e1 e2 e3 => ?_⟩, fun y c' e => ?_, I.free, I.freeC, fun p hp => ?_, tracked ⟨oc, hoc, I.freeC x c hc⟩ hs, by simpa using I.len⟩ ⟨c, hs, .inr hc⟩
    . exact (hs.2 b (Nat.ne_of_lt (Nat.lt_of_lt_of_le (Heap.lt_size e) (I.ok.cab x c hfn hc)))).trans (I.base.keep b o e n hb hx)
    . obtain ⟨sl, e1⟩ := I.base.slot b o e n hb hx
      exact ⟨sl, (hs.2 b (Nat.ne_of_lt (Nat.lt_of_lt_of_le (Heap.lt_size e) (I.ok.cab x c hfn hc)))).trans e1⟩
    . obtain ⟨o', e1⟩ := I.base.there b o e hx
      exact ⟨o', (hs.2 b (Nat.ne_of_lt (Nat.lt_of_lt_of_le (Heap.lt_size e) (I.ok.cab x c hfn hc)))).trans e1⟩
    . by_cases hj : j = i
      . subst hj
        rw [hi] at e1; cases e1
        rw [List.getElem?_set_self hiσ] at e2
        cases e2
        exact ⟨u, r, .inr ⟨.inl hk, c, hc, hc'⟩⟩
      . rw [List.getElem?_set_ne (Ne.symm hj)] at e2
        obtain ⟨u', r', q⟩ := hl j y v' e1 e2 e3
        refine ⟨u', r', ?_⟩
        rcases q with q | ⟨k, c', e, z'⟩
        . exact .inl q
        . refine .inr ⟨k, c', e, z'.sameBut hs ?_⟩
          rintro rfl
          exact hj (lW hN e1 (I.ok.inj _ _ _ e hc ▸ hi))
    . by_cases hcc : c' = c
      . subst hcc; exact ⟨_, hc'⟩
      . obtain ⟨w2, z2⟩ := I.cell y c' e
        exact ⟨w2, z2.sameBut hs hcc⟩
    . obtain ⟨e, n, ne, nf, d⟩ := I.pin p hp
      refine ⟨(hs.2 p.1 ?_).trans e, n, ne, nf, d⟩
      intro q
      rw [q, hoc] at e
      have q' : oc = p.2 := Option.some.inj e
      exact d w' (by rw [<- q']; exact hocd)
theorem jm {M : Model} {A : Around} {E : Value -> Shared -> Prop} {i : Nat} {x : Str} {v : V} {u : Value} {Q : Unit -> Shared -> Prop} (I : Inv X pins σ H s) (hN : X.N.Nodup) (hi : X.N[i]? = some x) (hx : Loc X.env.scope x) (r : RelV v u)
    (h : ∀ s', Inv X pins (σ.set i (some v)) H s' -> Q () s') (hf : X.fn x = true \/ X.env.scope.names.lookup x = some .local := by first | exact .inl rfl | exact .inr rfl | assumption) : wpAny M A (storeName X.env x u) Q E s :=
  kx I hN hi hx r (fun s' I' _ => h s' I') hf
theorem Inv.call' {s' : Shared} {ch : List Addr} (I : Inv X pins σ H s) (ho : s'.os = s.os) (u : Un (frs X.stack) ch H H' s.heap s'.heap) (hok : HOk X.prog X.w H' s'.heap) (hg : AllBare s'.gens)
    (hch : ∀ b ∈ ch, (b ∈ X.ex \/ X.s₀.heap.objs.size <= b) /\ b ≠ X.env.locals /\ (∀ x c, X.env.cells.lookup x = some c -> c ≠ b) /\ ∀ p ∈ X.pn ++ pins, p.1 ≠ b) : Inv X pins σ H' s' := by
  obtain ⟨h', g', d', t', o'⟩ := s'
  have e : o' = s.os := ho
  subst e
  exact I.call (g' := g') (t' := t') (d' := d') u hok hg hch
end

abbrev XK := Value -> Option Addr -> Hp -> Prop
abbrev St := List (Option V)
abbrev VK := V -> Hp -> Prop
abbrev TE := St -> Hp -> VK -> Prop
abbrev TT := St -> Hp -> (Bool -> Hp -> Prop) -> Prop
abbrev TA := St -> Hp -> (List V -> Hp -> Prop) -> Prop
structure Ends where
  nx : St -> Hp -> Prop
  rt : VK
  bk : St -> Hp -> Prop := fun _ _ => False
  ct : St -> Hp -> Prop := fun _ _ => False
abbrev TS := Ends -> St -> Hp -> Prop

def EP (X : Cx) (pins : List (Addr × Obj)) (σ : St) (Q : VK) (u : Value) (s' : Shared) : Prop := ∃ v H', Inv X pins σ H' s' /\ RelV v u /\ Q v H'
def TP (X : Cx) (pins : List (Addr × Obj)) (σ : St) (Q : Bool -> Hp -> Prop) (b : Bool) (s' : Shared) : Prop := ∃ H', Inv X pins σ H' s' /\ Q b H'
def AP (X : Cx) (pins : List (Addr × Obj)) (σ : St) (Q : List V -> Hp -> Prop) (us : List Value) (s' : Shared) : Prop := ∃ vs H', Inv X pins σ H' s' /\ Vals vs us /\ Q vs H'
def SP (X : Cx) (pins : List (Addr × Obj)) (D : Ends) (f : Flow) (s' : Shared) : Prop :=
  match f with
  | .next => ∃ σ' H', Inv X pins σ' H' s' /\ D.nx σ' H'
  | .brk => ∃ σ' H', Inv X pins σ' H' s' /\ D.bk σ' H'
  | .cont => ∃ σ' H', Inv X pins σ' H' s' /\ D.ct σ' H'
  | .ret u => ∃ v σ' H', Inv X pins σ' H' s' /\ RelV v u /\ D.rt v H'

def PE (X : Cx) (e : Expr) (t : TE) : Prop :=
  ∀ (pins : List (Addr × Obj)) (s : Shared) (σ : St) (H : Hp) (Q : VK), Inv X pins σ H s -> t σ H Q -> wpAny (model X.prog X.w) X.A (eval e X.env) (EP X pins σ Q) X.xe s
def PT (X : Cx) (e : Expr) (t : TT) : Prop :=
  ∀ (pins : List (Addr × Obj)) (s : Shared) (σ : St) (H : Hp) (Q : Bool -> Hp -> Prop), Inv X pins σ H s -> t σ H Q -> wpAny (model X.prog X.w) X.A (isTrue e X.env (eval e X.env)) (TP X pins σ Q) X.xe s
def PW (X : Cx) (e : Expr) (t : TT) : Prop :=
  ∀ (whole : Sem Value) (pins : List (Addr × Obj)) (s : Shared) (σ : St) (H : Hp) (Q : Bool -> Hp -> Prop), Inv X pins σ H s -> t σ H Q -> wpAny (model X.prog X.w) X.A (isTrue e X.env whole) (TP X pins σ Q) X.xe s
def PA (X : Cx) (es : List Expr) (t : TA) : Prop :=
  ∀ (pos : Pos) (pins : List (Addr × Obj)) (s : Shared) (σ : St) (H : Hp) (Q : List V -> Hp -> Prop), Inv X pins σ H s -> t σ H Q -> wpAny (model X.prog X.w) X.A (spliced (backTo pos (starEach es X.env))) (AP X pins σ Q) X.xe s
def PS (X : Cx) (st : Stmt) (t : TS) : Prop :=
  ∀ (pins : List (Addr × Obj)) (s : Shared) (σ : St) (H : Hp) (D : Ends), Inv X pins σ H s -> t D σ H -> wpAny (model X.prog X.w) X.A (exec st X.env) (SP X pins D) X.xe s
def PSs (X : Cx) (st : List Stmt) (t : TS) : Prop :=
  ∀ (pins : List (Addr × Obj)) (s : Shared) (σ : St) (H : Hp) (D : Ends), Inv X pins σ H s -> t D σ H -> wpAny (model X.prog X.w) X.A (execs st X.env) (SP X pins D) X.xe s
theorem thn {α : Type} {t : Sem α} {Q Q' : α -> Shared -> Prop} {M : Model} {A : Around} {E : Value -> Shared -> Prop} {s : Shared} (h : wpAny M A t Q E s) (hQ : ∀ a s, Q a s -> Q' a s) : wpAny M A t Q' E s := wpAny_mono h hQ fun _ _ x => x
end L2

namespace L2
open PySem PySem.Spec PyProof.Rows
section
variable {X : Cx}

def EB (i : Nat) : TE := fun σ H Q => ∃ v, σ[i]? = some (some v) /\ Q v H
def tC (v : V) : TE := fun _ H Q => Q v H
theorem nP {i : Nat} {x : Str} {pos : Pos} (hN : X.N[i]? = some x) (hv : Vis X.env.scope x) (hd : (x == ("__debug__" : Str)) = false := by decide) (hcd : (x == ("__classdict__" : Str)) = false := by decide) : PE X (.Name x pos) (EB i) := by
  intro pins s σ H Q I h
  obtain ⟨v, e, h⟩ := h
  obtain ⟨m, hn, hl⟩ := I.loc
  obtain ⟨u, r, l⟩ := hl i x v hN e hv
  have fin : EP X pins σ Q u s := ⟨v, H, I, r, h⟩
  rcases l with ⟨hk, hm⟩ | ⟨hk, c, hc, hcell⟩
  . exact wpAny_Name (wpAny_loadName_local I.ok.kind hk hn hm fin) hd
  . rcases hk with hk | hk
    . exact wpAny_Name (wpAny_loadName_cell I.ok.kind hk hc hcell fin) hd
    . exact wpAny_Name (wpAny_loadName_free I.ok.kind hk hc hcell fin hcd) hd
theorem CC {i j pos} : PE X (.Constant (.int i) j pos) (tC (.int i)) := fun _ _ _ H _ I h => wpAny_Constant_int ⟨.int i, H, I.tok _, ⟨_, rfl⟩, h⟩
theorem DF {b j pos} : PE X (.Constant (.bool b) j pos) (tC (.bl b)) := fun _ _ _ H _ I h => Constant_bool ⟨.bl b, H, I, rfl, h⟩
theorem BU {j pos} : PE X (.Constant .none j pos) (tC .non) := fun _ _ _ H _ I h => Constant_none ⟨.non, H, I, rfl, h⟩
theorem BO {x j pos} : PE X (.Constant (.str x) j pos) (tC (.str x)) := fun _ _ _ H _ I h => Calls.Constant_str ⟨.str x, H, I.tok _, ⟨_, rfl⟩, h⟩

def Gl (X : Cx) (x : Str) : Prop := X.env.kindOf x = some .globalImplicit
theorem nc {E : Value -> Shared -> Prop} {pins : List (Addr × Obj)} {s : Shared} {σ : St} {H : Hp} {x : Str} {u : Value} {pos : Pos} {Q : Value -> Shared -> Prop} (I : Inv X pins σ H s) (hg : Gl X x) (hm : X.mg x = some u) (h : Q u s)
    (hd : (x == ("__debug__" : Str)) = false := by decide) : wpAny (model X.prog X.w) X.A (eval (.Name x pos) X.env) Q E s :=
  Calls.Name_function_global I.ok.kind hg (Calls.loadGlobal_global (by rw [I.ok.glob]; exact I.mod.glob.keeps I.bk) hm h) hd
theorem qD {E : Value -> Shared -> Prop} {pins : List (Addr × Obj)} {s : Shared} {σ : St} {H : Hp} {x : Str} {u : Value} {pos : Pos} {Q : Value -> Shared -> Prop} (I : Inv X pins σ H s) (hg : Gl X x) (hm : X.mg x = none) (hv : bootBuiltins x = some u) (h : Q u s)
    (hn : x ≠ "__name__" := by decide) (hd : (x == ("__debug__" : Str)) = false := by decide) : wpAny (model X.prog X.w) X.A (eval (.Name x pos) X.env) Q E s := by
  obtain ⟨mb, h1, h2⟩ := I.mod.blt
  exact Calls.Name_function_global I.ok.kind hg (Calls.loadGlobal_builtin (by rw [I.ok.glob]; exact I.mod.glob.keeps I.bk) hm (by rw [I.ok.blt]; exact h1.keeps I.bk) ((h2 x hn).trans hv) h) hd
theorem mC {x : Str} {v : V} {u : Value} {pos : Pos} (hg : Gl X x) (hm : X.mg x = some u) (r : RelV v u) (hd : (x == ("__debug__" : Str)) = false := by decide) : PE X (.Name x pos) (tC v) :=
  fun _ _ _ H _ I h => nc I hg hm ⟨v, H, I, r, h⟩ hd
theorem uy {x : Str} {v : V} {u : Value} {pos : Pos} (hg : Gl X x) (hm : X.mg x = none) (hv : bootBuiltins x = some u) (r : RelV v u) (hn : x ≠ "__name__" := by decide) (hd : (x == ("__debug__" : Str)) = false := by decide) : PE X (.Name x pos) (tC v) :=
  fun _ _ _ H _ I h => qD I hg hm hv ⟨v, H, I, r, h⟩ hn hd

variable {a b : Expr} {ta tb : TE} {pos : Pos}
variable {tA tB' : TT} {dI : List Expr}
def E5 (t u : TT) : TT := fun σ H Q => t σ H fun c H1 => if c = true then u σ H1 Q else Q false H1
def tOr (t u : TT) : TT := fun σ H Q => t σ H fun c H1 => if c = true then Q true H1 else u σ H1 Q
def Fc (t : TT) : TT := fun σ H Q => t σ H fun c H1 => Q (!c) H1
theorem yO (ha : PT X a tA) : PW X (.BoolOp .And [a] pos) tA := by
  intro wh pins s σ H Q I h
  refine isTrue_and (thn (ha pins s σ H Q I h) fun c s1 e => ?_)
  cases c with
  | true => exact isTrue_and_nil e
  | false => exact e
theorem B4 (ha : PT X a tA) : PW X (.BoolOp .Or [a] pos) tA := by
  intro wh pins s σ H Q I h
  refine isTrue_or (thn (ha pins s σ H Q I h) fun c s1 e => ?_)
  cases c with
  | false => exact isTrue_or_nil e
  | true => exact e
theorem Bv (ha : PT X a tA) (hb : PW X (.BoolOp .And (b :: dI) pos) tB') : PW X (.BoolOp .And (a :: b :: dI) pos) (E5 tA tB') := by
  intro wh pins s σ H Q I h
  refine isTrue_and (thn (ha pins s σ H _ I h) fun c s1 ⟨H1, I1, q1⟩ => ?_)
  cases c with
  | true => exact hb wh pins s1 σ H1 Q I1 q1
  | false => exact ⟨H1, I1, q1⟩
theorem CV (ha : PT X a tA) (hb : PW X (.BoolOp .Or (b :: dI) pos) tB') : PW X (.BoolOp .Or (a :: b :: dI) pos) (tOr tA tB') := by
  intro wh pins s σ H Q I h
  refine isTrue_or (thn (ha pins s σ H _ I h) fun c s1 ⟨H1, I1, q1⟩ => ?_)
  cases c with
  | true => exact ⟨H1, I1, q1⟩
  | false => exact hb wh pins s1 σ H1 Q I1 q1
theorem Bg (ha : PT X a tA) : PT X (.UnaryOp .Not a pos) (Fc tA) := by
  intro pins s σ H Q I h
  exact isTrue_not (ha pins s σ H (fun c H1 => Q (!c) H1) I h)
def Dk (ta tb : TE) : TE := fun σ H Q => ta σ H fun x H1 => ∃ c, x = .bl c /\ if c = true then tb σ H1 Q else Q (.bl false) H1
def Fu (ta tb : TE) : TE := fun σ H Q => ta σ H fun x H1 => ∃ c, x = .bl c /\ if c = true then Q (.bl true) H1 else tb σ H1 Q
def C7 (ta : TE) : TE := fun σ H Q => ta σ H fun x H1 => ∃ c, x = .bl c /\ Q (.bl (!c)) H1
theorem BX {op} {t : TE} (h : PE X a t) : PE X (.BoolOp op [a] pos) t := fun pins s σ H Q I hw => BoolOp_one (h pins s σ H Q I hw)
theorem A6 (ha : PE X a ta) (hb : PE X (.BoolOp .And (b :: dI) pos) tb) : PE X (.BoolOp .And (a :: b :: dI) pos) (Dk ta tb) := by
  intro pins s σ H Q I h
  refine BoolOp_and (thn (ha pins s σ H _ I h) fun v s1 ⟨x, H1, I1, r1, q1⟩ => ?_)
  obtain ⟨c, rfl, q1⟩ := q1
  cases r1
  refine wpAny_truthy_bool ?_
  cases c with
  | true => exact hb pins s1 σ H1 Q I1 q1
  | false => exact ⟨.bl false, H1, I1, rfl, q1⟩
theorem DT (ha : PE X a ta) (hb : PE X (.BoolOp .Or (b :: dI) pos) tb) : PE X (.BoolOp .Or (a :: b :: dI) pos) (Fu ta tb) := by
  intro pins s σ H Q I h
  refine BoolOp_or (thn (ha pins s σ H _ I h) fun v s1 ⟨x, H1, I1, r1, q1⟩ => ?_)
  obtain ⟨c, rfl, q1⟩ := q1
  cases r1
  refine wpAny_truthy_bool ?_
  cases c with
  | false => exact hb pins s1 σ H1 Q I1 q1
  | true => exact ⟨.bl true, H1, I1, rfl, q1⟩
theorem Bc (ha : PE X a ta) : PE X (.UnaryOp .Not a pos) (C7 ta) := by
  intro pins s σ H Q I h
  refine UnaryOp_ (thn (ha pins s σ H _ I h) fun v s1 ⟨x, H1, I1, r1, q1⟩ => ?_)
  obtain ⟨c, rfl, q1⟩ := q1
  cases r1
  exact not_of (wpAny_truthy_bool ⟨.bl (!c), H1, I1, rfl, q1⟩)
def tIf (t : TT) (ta tb : TE) : TE := fun σ H Q => t σ H fun c H1 => if c = true then ta σ H1 Q else tb σ H1 Q
theorem xt {c : Expr} (hc : PT X c tA) (ha : PE X a ta) (hb : PE X b tb) : PE X (.IfExp c a b pos) (tIf tA ta tb) := by
  intro pins s σ H Q I h
  refine wpAny_IfExp (thn (hc pins s σ H _ I h) fun d s1 ⟨H1, I1, q1⟩ => ?_)
  cases d with
  | true => exact ha pins s1 σ H1 Q I1 q1
  | false => exact hb pins s1 σ H1 Q I1 q1
end
end L2

namespace L2
open PySem PySem.Spec PyProof.Rows

def SqL (K : PySem.W.Frag) (H : Hp) (a : Addr) (xs : List V) : Prop :=
  Rd H a (.lst xs) \/
    ∃ (o : Obj) (its : Array Value) (n : Nat), K.lookup a = some o /\ o.cls = .type "list" /\ o.dict = none /\ o.data = .seq its n /\ its.size <= sizeLine /\ Vals xs its.toList
def SqT (K : PySem.W.Frag) (H : Hp) (a : Addr) (xs : List V) : Prop :=
  Rd H a (.tup xs) \/
    ∃ (o : Obj) (its : Array Value) (n : Nat), K.lookup a = some o /\ o.cls = .type "tuple" /\ o.data = .seq its n /\ its.size <= sizeLine /\ Vals xs its.toList
def Fe : Value -> Option V
  | .none => some .non
  | .bool b => some (.bl b)
  | .int i _ => some (.int i)
  | .str x _ => some (.str x)
  | .bytes b _ => some (.byt b)
  | .float b _ => some (.flt b)
  | .ref a => some (.ref a)
  | .type n => some (.ty n)
  | _ => none
theorem RelV.abs {x : V} {u : Value} (r : RelV x u) : Fe u = some x := by
  cases x with
  | non => cases r; rfl
  | bl _ => cases r; rfl
  | int _ => obtain ⟨t, rfl⟩ := r; rfl
  | str _ => obtain ⟨t, rfl⟩ := r; rfl
  | byt _ => obtain ⟨t, rfl⟩ := r; rfl
  | flt _ => obtain ⟨t, rfl⟩ := r; rfl
  | ref _ => cases r; rfl
  | ty _ => cases r; rfl
theorem RelV.inj {x y : V} {u : Value} (r : RelV x u) (q : RelV y u) : x = y := Option.some.inj (r.abs.symm.trans q.abs)
theorem Vals.inj : ∀ {xs ys : List V} {us : List Value}, Vals xs us -> Vals ys us -> xs = ys
  | _, _, _, .nil, .nil => rfl
  | _, _, _, .cons r t, .cons r' t' => by rw [r.inj r', Vals.inj t t']
section
variable {X : Cx} {pins : List (Addr × Obj)} {σ : St} {H : Hp} {s : Shared} {a : Addr} {xs ys : List V}
theorem SqL.of {K : PySem.W.Frag} (h : H a = some (.lst xs)) : SqL K H a xs := .inl (.inl h)
theorem SqT.of {K : PySem.W.Frag} (h : H a = some (.tup xs)) : SqT K H a xs := .inl (.inl h)
theorem Inv.list (I : Inv X pins σ H s) (h : SqL X.K H a xs) : ∃ its : List Value, Vals xs its /\ PlainL s.heap a its.toArray /\ xs.length <= sizeLine := by
  rcases h with h | ⟨o, its, n, hk, hc, hd, hs, hz, r⟩
  . obtain ⟨z, its, n, r, e⟩ := h.ok I.hok
    exact ⟨its, r, ⟨_, n, e, rfl, rfl, rfl⟩, z⟩
  . refine ⟨its.toList, r, ⟨o, n, I.kIn a o hk, hc, hd, by simpa using hs⟩, ?_⟩
    have e := r.length
    simp only [Array.length_toList] at e
    omega
theorem Inv.tuple (I : Inv X pins σ H s) (h : SqT X.K H a xs) : ∃ its : List Value, Vals xs its /\ IsTup s.heap a its.toArray /\ xs.length <= sizeLine := by
  rcases h with h | ⟨o, its, n, hk, hc, hs, hz, r⟩
  . obtain ⟨z, its, r, p⟩ := h.ok I.hok
    exact ⟨its, r, p, z⟩
  . refine ⟨its.toList, r, ⟨o, I.kIn a o hk, hc, n, by simpa using hs⟩, ?_⟩
    have e := r.length
    simp only [Array.length_toList] at e
    omega
theorem Inv.list_inj (I : Inv X pins σ H s) (h : SqL X.K H a xs) (h' : SqL X.K H a ys) : xs = ys := by
  obtain ⟨its, r, ⟨o, n, e, _, _, d⟩, _⟩ := I.list h
  obtain ⟨its', r', ⟨o', n', e', _, _, d'⟩, _⟩ := I.list h'
  rw [e] at e'; cases e'
  rw [d] at d'
  injection d' with d1 _
  have : its = its' := by simpa using congrArg Array.toList d1
  subst this
  exact r.inj r'
theorem Inv.tuple_inj (I : Inv X pins σ H s) (h : SqT X.K H a xs) (h' : SqT X.K H a ys) : xs = ys := by
  obtain ⟨its, r, ⟨o, e, _, n, d⟩, _⟩ := I.tuple h
  obtain ⟨its', r', ⟨o', e', _, n', d'⟩, _⟩ := I.tuple h'
  rw [e] at e'; cases e'
  rw [d] at d'
  injection d' with d1 _
  have : its = its' := by simpa using congrArg Array.toList d1
  subst this
  exact r.inj r'
end

abbrev Cx.wish (X : Cx) (E : Value -> Shared -> Prop) : Cx := { X with xe := E }
section
variable {X : Cx} {pins : List (Addr × Obj)} {σ : St} {H : Hp} {s : Shared} {E : Value -> Shared -> Prop}
end

section
variable {X : Cx} {st : Stmt} {dI : List Stmt} {t u : TS} {e : Expr} {te : TE} {pos : Pos}
def D1 : TS := fun D σ H => D.nx σ H
def E8 (t u : TS) : TS := fun D σ H => t { D with nx := u D } σ H
theorem zK : PSs X [] D1 := fun _ _ σ H _ I h => wpAny_execs_nil ⟨σ, H, I, h⟩
theorem xF (h1 : PS X st t) (h2 : PSs X dI u) : PSs X (st :: dI) (E8 t u) := by
  intro pins s σ H D I h
  refine wpAny_execs_cons (thn (h1 pins s σ H { D with nx := u D } I h) fun f s1 q => ?_)
  cases f with
  | next =>
    obtain ⟨σ', H', I', q⟩ := q
    exact h2 pins s1 σ' H' D I' q
  | ret v => exact q
  | brk => exact q
  | cont => exact q
theorem Inv.quiet {pins : List (Addr × Obj)} {σ : St} {H : Hp} {s : Shared} (I : Inv X pins σ H s) : interactive X.env = false := by simp [interactive, I.ok.kind]
def C8 (te : TE) : TS := fun D σ H => te σ H fun _ H1 => D.nx σ H1
theorem mx (he : PE X e te) (hs : swapsWith e none pos.line X.env = pure false := by rfl) : PS X (.Expr e pos) (C8 te) := by
  intro pins s σ H D I h
  exact wpAny_Expr_any (thn (he pins s σ H _ I h) fun v s1 ⟨x, H1, I1, r1, q1⟩ => ⟨σ, H1, I1, q1⟩) I.quiet hs
def EO (te : TE) : TS := fun D σ H => te σ H D.rt
theorem Cd (he : PE X e te) : PS X (.Return (some e) pos) (EO te) := by
  intro pins s σ H D I h
  exact wpAny_Return_some (thn (he pins s σ H _ I h) fun v s1 ⟨x, H1, I1, r1, q1⟩ => ⟨x, σ, H1, I1, r1, q1⟩)
def Fo (c : TT) (t u : TS) : TS := fun D σ H => c σ H fun b H1 => if b = true then t D σ H1 else u D σ H1
theorem C3 {c : Expr} {a b : List Stmt} {tc : TT} (hc : PT X c tc) (ha : PSs X a t) (hb : PSs X b u) : PS X (.If c a b pos) (Fo tc t u) := by
  intro pins s σ H D I h
  refine wpAny_If (thn (hc pins s σ H _ I h) fun d s1 ⟨H1, I1, q1⟩ => ?_)
  cases d with
  | true => exact ha pins s1 σ H1 D I1 q1
  | false => exact hb pins s1 σ H1 D I1 q1
end

abbrev TG := V -> St -> Hp -> (St -> Hp -> Prop) -> Prop
abbrev TGs := List V -> St -> Hp -> (St -> Hp -> Prop) -> Prop
def PG (X : Cx) (target : Expr) (t : TG) : Prop :=
  ∀ (pins : List (Addr × Obj)) (s : Shared) (σ : St) (H : Hp) (v : V) (u : Value) (Q : St -> Hp -> Prop), Inv X pins σ H s -> RelV v u -> t v σ H Q ->
    wpAny (model X.prog X.w) X.A (assign target X.env u) (fun _ s' => ∃ σ' H', Inv X pins σ' H' s' /\ Q σ' H') X.xe s
def PGs (X : Cx) (ts : List Expr) (t : TGs) : Prop :=
  ∀ (pins : List (Addr × Obj)) (s : Shared) (σ : St) (H : Hp) (vs : List V) (us : List Value) (Q : St -> Hp -> Prop), Inv X pins σ H s -> Vals vs us -> t vs σ H Q ->
    wpAny (model X.prog X.w) X.A (assignInOrder ((assignEach ts X.env).map (·.2)) us) (fun _ s' => ∃ σ' H', Inv X pins σ' H' s' /\ Q σ' H') X.xe s
abbrev Dc := V -> V -> V -> Hp -> (Hp -> Prop) -> Prop
def Ee (X : Cx) (t : Dc) : Prop :=
  ∀ (pins : List (Addr × Obj)) (s : Shared) (σ : St) (H : Hp) (o i v : V) (ov iv u : Value) (Q : Hp -> Prop), Inv X pins σ H s -> RelV o ov -> RelV i iv -> RelV v u -> t o i v H Q ->
    wpAny (model X.prog X.w) X.A (setItem ov iv u) (fun _ s' => ∃ H', Inv X pins σ H' s' /\ Q H') X.xe s
section
variable {X : Cx} {pos : Pos}
def Ds (i : Nat) : TG := fun v σ H Q => Q (σ.set i (some v)) H
theorem nl {i : Nat} {x : Str} (hN : X.N.Nodup) (hi : X.N[i]? = some x) (hx : Loc X.env.scope x) (hf : X.fn x = true \/ X.env.scope.names.lookup x = some .local := by first | exact .inl rfl | exact .inr rfl | assumption) : PG X (.Name x pos) (Ds i) := by
  intro pins s σ H v u Q I r h
  exact wpAny_assign_Name (jm I hN hi hx r (fun s' I' => ⟨_, H, I', h⟩) hf)
def Fs : TGs := fun vs σ H Q => vs = [] /\ Q σ H
def C1 (t : TG) (u : TGs) : TGs := fun vs σ H Q => ∃ v r, vs = v :: r /\ t v σ H fun σ' H' => u r σ' H' Q
theorem zl : PGs X [] Fs := by
  intro pins s σ H vs us Q I r h
  obtain ⟨e, h⟩ := h
  subst e
  cases r
  exact assignInOrder_nil ⟨σ, H, I, h⟩
theorem wj {e : Expr} {es : List Expr} {t : TG} {u : TGs} (h1 : PG X e t) (h2 : PGs X es u)
    (hs : (assignEach (e :: es) X.env).map (·.2) = assign e X.env :: (assignEach es X.env).map (·.2) := by rfl) : PGs X (e :: es) (C1 t u) := by
  intro pins s σ H vs us Q I r h
  obtain ⟨v, vr, e1, h⟩ := h
  subst e1
  cases r with
  | cons r rr =>
    rw [hs]
    refine assignInOrder_cons (thn (h1 pins s σ H _ _ _ I r h) fun _ s1 ⟨σ1, H1, I1, q1⟩ => ?_)
    exact h2 pins s1 σ1 H1 _ _ Q I1 rr q1
def Fh (K : PySem.W.Frag) (n : Nat) (t : TGs) : TG := fun v σ H Q => ∃ a xs, v = .ref a /\ SqT K H a xs /\ xs.length = n /\ t xs σ H Q
theorem Bu {es : List Expr} {k : Nat} {t : TGs} {n : Nat} (hc : X.calm = true) (h : PGs X es t)
    (hn : (assignEach es X.env).length = n := by rfl) (hst : (assignEach es X.env).findIdx? (·.1) = none := by rfl) : PG X (.Tuple es k pos) (Fh X.K n t) := by
  intro pins s σ H v u Q I r hw
  obtain ⟨a, xs, e1, hq, hl, hw⟩ := hw
  subst e1
  cases r
  obtain ⟨its, rv, ht, hz⟩ := I.tuple hq
  refine assign_Tuple_tuple (I.ok.hd hc) ht (by simp [hn, <- hl, rv.length]) hst fun h' hx => ?_
  have I1 : Inv X pins σ H { s with heap := h' } := I.kept (t' := s.toks) fun b o e => hx b o (Nat.ne_of_lt (Heap.lt_size e)) e
  exact h pins _ σ H xs _ Q I1 (by simpa using rv) hw
def Ey (to ti : TE) (t : Dc) : TG := fun v σ H Q => to σ H fun o H1 => ti σ H1 fun i H2 => t o i v H2 fun H3 => Q σ H3
theorem CB {o i : Expr} {to ti : TE} {t : Dc} (ho : PE X o to) (hi : PE X i ti) (hs : Ee X t)
    (ha : ∀ v, assign (.Subscript o i pos) X.env v = (do
      let ov <- holding [v] (eval o X.env)
      let iv <- holding [v, ov] (eval i X.env)
      standAt pos
      holding [v, ov, iv] (setItem ov iv v)
      release [v, ov, iv] []) := by intro _; rfl) : PG X (.Subscript o i pos) (Ey to ti t) := by
  intro pins s σ H v u Q I r h
  rw [ha]
  refine wpAny_bind (wpAny_holding (thn (ho pins s σ H _ I h) fun ov s1 ⟨x, H1, I1, r1, q1⟩ => ?_))
  refine wpAny_bind (wpAny_holding (thn (hi pins s1 σ H1 _ I1 q1) fun iv s2 ⟨y, H2, I2, r2, q2⟩ => ?_))
  refine wpAny_bind (wpAny_standAt (wpAny_bind (wpAny_holding (thn (hs pins s2 σ H2 x y v ov iv u _ I2 r1 r2 r q2) fun _ s3 ⟨H3, I3, q3⟩ => ?_))))
  exact wpAny_release ⟨σ, H3, I3, q3⟩
def Ez (te : TE) (g : TG) : TS := fun D σ H => te σ H fun x H1 => g x σ H1 D.nx
theorem qJ {tg e : Expr} {te : TE} {g : TG} (he : PE X e te) (hg : PG X tg g) (hs : swapsWithSole [tg] e pos.line X.env = pure false := by rfl) (hw : swappedStores [tg] e X.env = pure none := by rfl)
    (h1 : (assignEach [tg] X.env).map (·.2) = [assign tg X.env] := by rfl) : PS X (.Assign [tg] e pos) (Ez te g) := by
  intro pins s σ H D I h
  refine wpAny_Assign_stores (thn (he pins s σ H _ I h) fun v s1 ⟨x, H1, I1, r1, q1⟩ => ?_) hs hw
  rw [h1]
  exact thn (hg pins s1 σ H1 x v _ I1 r1 q1) fun _ s2 q => q
def EJ (i j : Nat) (ta : TA) : TS := fun D σ H => ta σ H fun vs H1 => ∃ v w, vs = [v, w] /\ D.nx ((σ.set i (some v)).set j (some w)) H1
theorem AX {i j : Nat} {x y : Str} {a b : Expr} {ta : TA} {px py pt : Pos} {kt k2 pt2} (hc : X.calm = true) (hN : X.N.Nodup) (hi : X.N[i]? = some x) (hj : X.N[j]? = some y) (hij : i ≠ j)
    (hx : X.env.scope.names.lookup x = some .local) (hy : X.env.scope.names.lookup y = some .local) (ha : PA X [a, b] ta)
    (hw : swappedStores [.Tuple [.Name x px, .Name y py] kt pt] (.Tuple [a, b] k2 pt2) X.env = pure (some [x, y]))
    (hs : swapsWithSole [.Tuple [.Name x px, .Name y py] kt pt] (.Tuple [a, b] k2 pt2) pos.line X.env = pure false := by rfl) :
    PS X (.Assign [.Tuple [.Name x px, .Name y py] kt pt] (.Tuple [a, b] k2 pt2) pos) (EJ i j ta) := by
  intro pins s σ H D I h
  rw [exec_Assign_arm]
  refine wpAny_bind (wpAny_standAt ?_)
  rw [hs]
  refine wpAny_bind (wpAny_pure ?_)
  rw [if_neg (by decide)]
  refine wpAny_bind (Tuple_ (thn (ha _ pins s σ H _ I h) fun us s1 ⟨vs, H1, I1, r1, q1⟩ => ?_))
  obtain ⟨v, w, e1, q1⟩ := q1
  subst e1
  obtain ⟨u1, u2, rfl, rv, rw'⟩ : ∃ u1 u2, us = [u1, u2] /\ RelV v u1 /\ RelV w u2 := by
    cases r1 with
    | cons p q =>
      cases q with
      | cons p' q' =>
        cases q'
        exact ⟨_, _, rfl, p, p'⟩
  refine wpAny_newObj_type ?_ (by show 2 <= sizeLine; decide)
  have I2 : Inv X pins σ H1 { s1 with heap := s1.heap.push { cls := .type "tuple", data := .seq [u1, u2].toArray } } := I1.kept (t' := s1.toks) fun b o e => Heap.get?_push_of_some _ e
  rw [hw]
  refine wpAny_bind (wpAny_pure ?_)
  show wpAny (model X.prog X.w) X.A (do rule "assign.swapped-stores"; let items <- unpackItems (.ref s1.heap.objs.size) 2 none; assignInOrder [fun v => bindName X.env y v, fun v => bindName X.env x v] items.reverse; pure Flow.next) _ _ _
  refine wpAny_bind (wpAny_rule (wpAny_bind (unpackItems_tuple (items := #[u1, u2]) (I.ok.hd hc) (IsTup.new s1.heap _) fun h' hx' => ?_)))
  have I3 := I2.kept (h' := h') (t' := s1.toks) fun b o e => hx' b o (Nat.ne_of_lt (Heap.lt_size e)) e
  show wpAny _ _ (assignInOrder [fun v => bindName X.env y v, fun v => bindName X.env x v] [u2, u1] >>= fun _ => pure Flow.next) _ _ _
  refine wpAny_bind (assignInOrder_cons (wpAny_bindName (jm I3 hN hj (.inl hy) rw' (fun s2 I4 => ?_) (.inr hy))))
  refine assignInOrder_cons (wpAny_bindName (jm I4 hN hi (.inl hx) rv (fun s3 I5 => assignInOrder_nil (wpAny_pure ?_)) (.inr hx)))
  rw [List.set_comm _ _ (Ne.symm hij)] at I5
  exact ⟨_, H1, I5, q1⟩
end

section
variable {X : Cx} {pos : Pos}
end

structure It where
  go : Nat -> Hp -> Prop
  yld : Nat -> Hp -> V -> Hp -> Prop
  stop : Nat -> Hp -> Prop
def uX (X : Cx) (pins : List (Addr × Obj)) (H : Hp) (b : Addr) : Prop :=
  H b = none /\ b ≠ X.env.locals /\ b ∉ X.fs /\ (b ∈ X.ex \/ X.s₀.heap.objs.size <= b) /\ (∀ x c, X.env.cells.lookup x = some c -> c ≠ b) /\ ∀ p ∈ X.pn ++ pins, p.1 ≠ b
theorem Inv.fpOk {X : Cx} {pins : List (Addr × Obj)} {σ : St} {H H' : Hp} {s : Shared} {b : Addr} (I : Inv X pins σ H s) (hb : s.heap.objs.size <= b) (hn : H' b = none) : uX X pins H' b := by
  refine ⟨hn, Nat.ne_of_gt (Nat.lt_of_lt_of_le I.lt hb), I.nofs hb, .inr (Nat.le_trans I.sz hb), fun x c e z => ?_, fun p hp z => ?_⟩
  . obtain ⟨v, q⟩ := I.cell x c e
    exact absurd (Nat.lt_of_lt_of_le q.lt (by rw [z]; exact hb)) (Nat.lt_irrefl _)
  . exact absurd (Nat.lt_of_lt_of_le (Heap.lt_size (I.pin p hp).1) (by rw [z]; exact hb)) (Nat.lt_irrefl _)
structure Turn (P : Program) (w : World) (K : PySem.W.Frag) (tg : Expr) (J : It) (fp : List Addr) (it : Addr) (tn : Nat -> Heap -> Prop) : Prop where
  mem : it ∈ fp
  obj : ∀ i h, tn i h -> ∀ b ∈ fp, ∃ o, h.get? b = some o /\ ∀ v, o.data ≠ .cell v
  keep : ∀ i h h', tn i h -> (∀ b ∈ fp, ∀ o, h.get? b = some o -> h'.get? b = some o) -> tn i h'
  item : ∀ (X : Cx), X.prog = P -> X.w = w -> X.K = K -> X.calm = true -> ∀ (i : Nat) (pins : List (Addr × Obj)) (s : Shared) (σ : St) (H : Hp) (E : Value -> Shared -> Prop), Inv X pins σ H s -> (∀ b ∈ fp, uX X pins H b) -> tn i s.heap -> J.go i H ->
    wpAny (model P w) X.A (pyNext (.ref it)) (fun r s1 => ∃ u, r = some u /\
      wpAny (model P w) X.A (letOwnedTupleGo tg (.ref it) u) (fun _ s2 => ∃ x H', Inv X pins σ H' s2 /\ RelV x u /\ J.yld i H x H' /\ tn (i + 1) s2.heap /\ ∀ b ∈ fp, H' b = none) E s1) E s
  done : ∀ (X : Cx), X.prog = P -> X.w = w -> X.K = K -> X.calm = true -> ∀ (i : Nat) (pins : List (Addr × Obj)) (s : Shared) (σ : St) (H : Hp) (E : Value -> Shared -> Prop), Inv X pins σ H s -> (∀ b ∈ fp, uX X pins H b) -> tn i s.heap -> J.stop i H ->
    wpAny (model P w) X.A (pyNext (.ref it)) (fun r s1 => r = none /\ Inv X pins σ H s1) E s
  self : ∀ (A : Around) (i : Nat) (s : Shared) (Q : Value -> Shared -> Prop) (E : Value -> Shared -> Prop), tn i s.heap -> Q (.ref it) s -> wpAny (model P w) A (pyIter (.ref it)) Q E s
abbrev TI := St -> Hp -> (It -> Hp -> Prop) -> Prop
def PIE (X : Cx) (pins : List (Addr × Obj)) (σ : St) (tg : Expr) (R : It -> Hp -> Prop) (itv : Value) (s2 : Shared) : Prop :=
  ∃ (it : Addr) (fp : List Addr) (tn : Nat -> Heap -> Prop) (J : It) (H' : Hp), itv = .ref it /\ Inv X pins σ H' s2 /\ Turn X.prog X.w X.K tg J fp it tn /\ tn 0 s2.heap /\ (∀ b ∈ fp, uX X pins H' b) /\ R J H'
def PI (X : Cx) (tg iter : Expr) (wi : TI) : Prop :=
  ∀ (pins : List (Addr × Obj)) (s : Shared) (σ : St) (H : Hp) (R : It -> Hp -> Prop), Inv X pins σ H s -> wi σ H R ->
    wpAny (model X.prog X.w) X.A (eval iter X.env) (fun v s1 => wpAny (model X.prog X.w) X.A (pyIter v) (PIE X pins σ tg R) X.xe s1) X.xe s

theorem vM {M : Model} {A : Around} {E : Value -> Shared -> Prop} {s : Shared} {tg : Expr} {it : Addr} {u : Value} {o : Obj} {n : String} {vs : Array Value} {Q : Unit -> Shared -> Prop} (ho : s.heap.get? it = some o) (hc : o.cls = .type n) (hd : o.data = .fields vs)
    (hn : ["enumerate", "zip", "dict_itemiterator", "dict_reverseitemiterator", "odict_iterator", "itertools.zip_longest", "itertools.pairwise"].contains n = false) (hQ : Q () s) : wpAny M A (letOwnedTupleGo tg (.ref it) u) Q E s := by
  unfold letOwnedTupleGo
  cases tg <;> first
    | exact wpAny_pure hQ
    | (cases u <;> first
        | exact wpAny_pure hQ
        | (refine wpAny_bind (wpAny_load ho ?_)
           rw [hc, hd]
           show wpAny M A (if (["enumerate", "zip", "dict_itemiterator", "dict_reverseitemiterator", "odict_iterator", "itertools.zip_longest", "itertools.pairwise"].contains n && vs[0]? == some (rawInt _)) = true then _ else _) Q E s
           rw [if_neg (by intro h; rw [hn, Bool.false_and] at h; cases h)]
           exact wpAny_pure hQ))

def Itl (K : PySem.W.Frag) (a : Addr) : It :=
  ⟨fun i H => ∃ xs x, SqL K H a xs /\ xs[i]? = some x, fun i H x H' => H' = H /\ ∀ xs, SqL K H a xs -> xs[i]? = some x, fun i H => ∃ xs, SqL K H a xs /\ xs.length <= i⟩
def Itt (K : PySem.W.Frag) (a : Addr) : It :=
  ⟨fun i H => ∃ xs x, SqT K H a xs /\ xs[i]? = some x, fun i H x H' => H' = H /\ ∀ xs, SqT K H a xs -> xs[i]? = some x, fun i H => ∃ xs, SqT K H a xs /\ xs.length <= i⟩
def Itr (lo : Int) (n : Nat) : It := ⟨fun i _ => i < n, fun i H x H' => H' = H /\ x = .int (lo + i), fun i _ => n <= i⟩
theorem uG {P : Program} {w : World} {K : PySem.W.Frag} {tg : Expr} (a it : Addr) : Turn P w K tg (Itl K a) [it] it (fun i h => h.IsListIter it a i) where
  mem := by simp
  obj := fun i h st b hb => by
    have e : b = it := by simpa using hb
    subst e
    obtain ⟨o, e, c, d⟩ := st
    exact ⟨o, e, fun v z => by rw [d] at z; cases z⟩
  keep := fun i h h' st k => st.at fun o e => k it (by simp) o e
  item := by
    intro X hP hw hK hc i pins s σ H E I hf st hg
    subst hP hw hK
    obtain ⟨xs, x, hq, hx⟩ := hg
    obtain ⟨its, rv, p, hz⟩ := I.list hq
    obtain ⟨u, hu, ru⟩ := rv.get hx
    obtain ⟨f0, f1, f2, f3, f4, f5⟩ := hf it (by simp)
    refine wpAny_pyNext_list_item st p.isList (x := u) (by simpa using hu) fun h' st' sb => ?_
    have I1 : Inv X pins σ H { s with heap := h' } := I.turned (t' := s.toks) (fun b o hb e => (sb.2 b hb).trans e) f0 f1 f3 f4 f5
    obtain ⟨o, e, c, d⟩ := id st'
    exact ⟨u, rfl, vM (s := { s with heap := h' }) e c d (by decide) ⟨x, H, I1, ru, ⟨rfl, fun ys hy => by rw [I.list_inj hy hq]; exact hx⟩, st', fun b hb => (hf b hb).1⟩⟩
  done := by
    intro X hP hw hK hc i pins s σ H E I hf st hg
    subst hP hw hK
    obtain ⟨xs, hq, hx⟩ := hg
    obtain ⟨its, rv, p, hz⟩ := I.list hq
    obtain ⟨f0, f1, f2, f3, f4, f5⟩ := hf it (by simp)
    have hl := rv.length
    exact wpAny_pyNext_list_end (I.ok.hd hc) st p.isList (by simp; omega) fun h' eb => ⟨rfl, I.turned (t' := s.toks) (fun b o hb e => eb b o hb e) f0 f1 f3 f4 f5⟩
  self := fun _ _ _ _ _ st h => wpAny_pyIter_listiter st h
theorem sM {P : Program} {w : World} {K : PySem.W.Frag} {tg : Expr} (a it : Addr) : Turn P w K tg (Itt K a) [it] it (fun i h => h.IsTupleIter it a i) where
  mem := by simp
  obj := fun i h st b hb => by
    have e : b = it := by simpa using hb
    subst e
    obtain ⟨o, e, c, d⟩ := st
    exact ⟨o, e, fun v z => by rw [d] at z; cases z⟩
  keep := fun i h h' st k => st.at fun o e => k it (by simp) o e
  item := by
    intro X hP hw hK hc i pins s σ H E I hf st hg
    subst hP hw hK
    obtain ⟨xs, x, hq, hx⟩ := hg
    obtain ⟨its, rv, p, hz⟩ := I.tuple hq
    obtain ⟨u, hu, ru⟩ := rv.get hx
    obtain ⟨f0, f1, f2, f3, f4, f5⟩ := hf it (by simp)
    refine wpAny_pyNext_tuple_item st (show s.heap.IsTuple a its.toArray from p) (x := u) (by simpa using hu) fun h' st' sb => ?_
    have I1 : Inv X pins σ H { s with heap := h' } := I.turned (t' := s.toks) (fun b o hb e => (sb.2 b hb).trans e) f0 f1 f3 f4 f5
    obtain ⟨o, e, c, d⟩ := id st'
    exact ⟨u, rfl, vM (s := { s with heap := h' }) e c d (by decide) ⟨x, H, I1, ru, ⟨rfl, fun ys hy => by rw [I.tuple_inj hy hq]; exact hx⟩, st', fun b hb => (hf b hb).1⟩⟩
  done := by
    intro X hP hw hK hc i pins s σ H E I hf st hg
    subst hP hw hK
    obtain ⟨xs, hq, hx⟩ := hg
    obtain ⟨its, rv, p, hz⟩ := I.tuple hq
    obtain ⟨f0, f1, f2, f3, f4, f5⟩ := hf it (by simp)
    have hl := rv.length
    exact wpAny_pyNext_tuple_end (I.ok.hd hc) st (show s.heap.IsTuple a its.toArray from p) (by simp; omega) fun h' eb => ⟨rfl, I.turned (t' := s.toks) (fun b o hb e => eb b o hb e) f0 f1 f3 f4 f5⟩
  self := fun _ _ _ _ _ st h => wpAny_pyIter_tupleiter st h
theorem sh {P : Program} {w : World} {K : PySem.W.Frag} {tg : Expr} (it : Addr) (lo : Int) (n : Nat) : Turn P w K tg (Itr lo n) [it] it (fun i h => IsRangeIter h it (lo + (i : Nat) * 1) ((n : Int) - (i : Nat)) 1) where
  mem := by simp
  obj := fun i h st b hb => by
    have e : b = it := by simpa using hb
    subst e
    exact ⟨_, st, fun v z => by
      have z' : Data.fields _ = Data.cell v := z
      cases z'⟩
  keep := fun i h h' st k => k it (by simp) _ st
  item := by
    intro X hP hw hK hc i pins s σ H E I hf st hg
    subst hP hw hK
    obtain ⟨f0, f1, f2, f3, f4, f5⟩ := hf it (by simp)
    have W := Walks.range (prog := X.prog) (w := X.w) (I.ok.hd hc) it lo 1 n
    refine W.item i s _ _ hg st fun v h' tk hv st' kk => ?_
    obtain ⟨t, rfl⟩ := hv
    have I1 : Inv X pins σ H { s with heap := h', toks := tk } := I.turned (fun b o hb e => kk b o (by simpa using hb) e) f0 f1 f3 f4 f5
    refine ⟨_, rfl, vM (s := { s with heap := h', toks := tk }) (n := "range_iterator") st' rfl rfl (by decide) ⟨.int (lo + i), H, I1, ⟨t, ?_⟩, ⟨rfl, rfl⟩, st', fun b hb => (hf b hb).1⟩⟩
    rw [Int.mul_one]
  done := by
    intro X hP hw hK hc i pins s σ H E I hf st hg
    subst hP hw hK
    obtain ⟨f0, f1, f2, f3, f4, f5⟩ := hf it (by simp)
    exact wpAny_pyNext_range_end (I.ok.hd hc) st (by have : n <= i := hg; omega) fun h' eb => ⟨rfl, I.turned (t' := s.toks) (fun b o hb e => eb b o hb e) f0 f1 f3 f4 f5⟩
  self := fun _ _ _ _ _ st h => wpAny_pyIter_rangeiter st h
end L2

namespace L2
open PySem PySem.Spec PyProof.Rows
section
variable {X : Cx} {tg : Expr}
theorem wD {pins : List (Addr × Obj)} {σ : St} {H : Hp} {s : Shared} {R : It -> Hp -> Prop} {E : Value -> Shared -> Prop} {lo hi : Int} {t u v : Tok} {tk : Nat} (I : Inv X pins σ H s) (h1 : -(2 ^ 62) <= lo) (h2 : lo < 2 ^ 62) (h3 : -(2 ^ 62) <= hi) (h4 : hi < 2 ^ 62)
    (q : R (Itr lo (hi - lo).toNat) H) : wpAny (model X.prog X.w) X.A (pyIter (.ref s.heap.objs.size)) (PIE X pins σ tg R) E { s with heap := s.heap.push { cls := .type "range", data := .fields #[.int lo t, .int hi u, .int 1 v] }, toks := tk } := by
  refine wpAny_pyIter_range (IsRange.new ..) (small_one h1 h2 h3 h4) ?_
  have I1 : Inv X pins σ H { s with heap := s.heap.push { cls := .type "range", data := .fields #[.int lo t, .int hi u, .int 1 v] }, toks := tk } := I.kept fun b o e => Heap.get?_push_of_some _ e
  refine ⟨(s.heap.push { cls := .type "range", data := .fields #[.int lo t, .int hi u, .int 1 v] }).objs.size, [(s.heap.push { cls := .type "range", data := .fields #[.int lo t, .int hi u, .int 1 v] }).objs.size], _, _, H, rfl,
    I1.kept (t' := tk) fun b o e => Heap.get?_push_of_some _ e, sh _ lo (hi - lo).toNat, ?_, fun b hb => ?_, q⟩
  . have e1 : lo + ((0 : Nat) : Int) * 1 = lo := by simp
    have e2 : (((hi - lo).toNat : Nat) : Int) - ((0 : Nat) : Int) = Builtin.Range.rangeSize lo hi 1 := by rw [rangeSize_one]; split <;> omega
    show IsRangeIter _ _ (lo + ((0 : Nat) : Int) * 1) ((((hi - lo).toNat : Nat) : Int) - ((0 : Nat) : Int)) 1
    rw [e1, e2]
    exact Heap.get?_push_size _ rfl
  . have e : b = (s.heap.push { cls := .type "range", data := .fields #[.int lo t, .int hi u, .int 1 v] }).objs.size := by simpa using hb
    subst e
    exact I1.fpOk (Nat.le_refl _) (I1.hok.fresh (Nat.le_refl _))
def Dm (ta : TA) : TI := fun σ H R => ta σ H fun vs H1 => ∃ j : Int, vs = [.int j] /\ -(2 ^ 62) <= j /\ j < 2 ^ 62 /\ R (Itr 0 j.toNat) H1
theorem tf {a : Expr} {ta : TA} {p pos : Pos} (hg : Gl X "range") (hm : X.mg "range" = none) (ha : PA X [a] ta) (hs : starEach [a] X.env = [(false, eval a X.env)] := by rfl) : PI X tg (.Call (.Name "range" p) [a] [] pos) (Dm ta) := by
  intro pins s σ H R I h
  refine Call_ (qD I hg hm boot_range (PyProof.Rows.callWith_type1 (thn (ha pos pins s σ H _ I h) fun us s1 ⟨vs, H1, I1, r1, q1⟩ => ?_) hs rfl))
  obtain ⟨j, e, q1, q2, q⟩ := q1
  subst e
  cases r1 with
  | cons r rr =>
    cases rr
    obtain ⟨t, rfl⟩ := r
    exact call_range_1 (wD I1 (by omega) (by omega) q1 q2 (by simpa using q))
def E4 (wi : TI) (g : TG) (tb : TS) : TS := fun D σ H => wi σ H fun J H1 => ∃ W : Nat -> Nat -> St -> Hp -> Prop, (∃ m, W 0 m σ H1) /\ ∀ i m σ H, W i m σ H ->
  (J.stop i H /\ D.nx σ H) \/ (J.go i H /\ ∃ N : St -> Hp -> Prop, (∀ σ' H', N σ' H' -> ∃ m', m' < m /\ W (i + 1) m' σ' H') /\ ∀ x H', J.yld i H x H' -> g x σ H' fun σ2 H2 => tb { D with nx := N, ct := N, bk := D.nx } σ2 H2)
def nO (fp : List Addr) (h : Heap) : List (Addr × Obj) := fp.filterMap fun b => (h.get? b).map fun o => (b, o)
theorem ir {fp : List Addr} {h : Heap} {b : Addr} {o : Obj} (hb : b ∈ fp) (e : h.get? b = some o) : (b, o) ∈ nO fp h := List.mem_filterMap.mpr ⟨b, hb, by rw [e]; rfl⟩
theorem tB {fp : List Addr} {h : Heap} {p : Addr × Obj} (hp : p ∈ nO fp h) : p.1 ∈ fp /\ h.get? p.1 = some p.2 := by
  obtain ⟨b, hb, e⟩ := List.mem_filterMap.mp hp
  cases q : h.get? b with
  | none => rw [q] at e; cases e
  | some o =>
    rw [q] at e
    have e' : (b, o) = p := Option.some.inj e
    subst e'
    exact ⟨hb, q⟩
theorem Inv.pinned {pins : List (Addr × Obj)} {σ : St} {H : Hp} {s : Shared} {fp : List Addr} (I : Inv X pins σ H s) (hf : ∀ b ∈ fp, uX X pins H b) (ho : ∀ b ∈ fp, ∃ o, s.heap.get? b = some o /\ ∀ v, o.data ≠ .cell v) : Inv X (pins ++ nO fp s.heap) σ H s :=
  I.pins_of fun p hp => (List.mem_append.mp hp).elim (fun z => I.pin p (List.mem_append_right _ z)) fun z => by
    obtain ⟨hb, e⟩ := tB z
    obtain ⟨f0, f1, f2, _⟩ := hf p.1 hb
    obtain ⟨o, e', d⟩ := ho p.1 hb
    rw [e] at e'; cases e'
    exact ⟨e, f0, f1, f2, d⟩
theorem Inv.unpinned {pins pl : List (Addr × Obj)} {σ : St} {H : Hp} {s : Shared} (I : Inv X (pins ++ pl) σ H s) : Inv X pins σ H s := I.pins_of fun p hp => I.pin p (List.mem_append_right _ (List.mem_append_left _ hp))
theorem xZ {iter : Expr} {body : List Stmt} {wi : TI} {g : TG} {tb : TS} {pos : Pos} (hp : PassesOwn (model X.prog X.w) X.A X.env X.xe) (hc : X.calm = true) (hi : PI X tg iter wi) (hg : PG X tg g) (hb : PSs X body tb)
    (hs : ∀ x, foldedSetIterable iter X.env x = pure x := by intro _; rfl) : PS X (.For tg iter body [] pos) (E4 wi g tb) := by
  intro pins s σ H D I h
  refine wpAny_For (thn (hi pins s σ H _ I h) fun v s1 h1 => thn h1 fun itv s2 h2 => ?_) hs
  obtain ⟨it, fp, tn, J, H2, e, I2, T, st2, f2, W, ⟨m0, w0⟩, turn⟩ := h2
  subst e
  -- what stays true of the iterator's objects through the loop
  have stat : ∀ {H' : Hp}, (∀ b ∈ fp, H' b = none) -> ∀ b ∈ fp, uX X pins H' b := fun hn b hb => ⟨hn b hb, (f2 b hb).2⟩
  refine codeAny_forLoop_any (fun n s' => ∃ i σ' H', Inv X pins σ' H' s' /\ tn i s'.heap /\ (∀ b ∈ fp, H' b = none) /\ W i n σ' H') ?_ m0 ⟨0, σ, H2, I2, st2, fun b hb => (f2 b hb).1, w0⟩
  rintro n s3 ⟨i, σ3, H3, I3, st3, fr3, w3⟩
  rcases turn i n σ3 H3 w3 with ⟨stop, qn⟩ | ⟨go, N, hN, step⟩
  . refine wpAny_passesOwn hp (thn (T.done X rfl rfl rfl hc i pins s3 σ3 H3 X.xe I3 (stat fr3) st3 stop) fun r s4 ⟨hr, I4⟩ => ?_)
    subst hr
    exact wpAny_execs_nil ⟨σ3, H3, I4, qn⟩
  . refine wpAny_passesOwn hp (thn (T.item X rfl rfl rfl hc i pins s3 σ3 H3 X.xe I3 (stat fr3) st3 go) fun r s4 ⟨u, hr, h4⟩ => ?_)
    subst hr
    refine wpAny_passesOwn hp (thn h4 fun _ s5 ⟨x, H5, I5, r5, y5, st5, fr5⟩ => ?_)
    have I5' := I5.pinned (stat fr5) (T.obj _ _ st5)
    refine wpAny_passesOwn hp (thn (hg _ s5 σ3 H5 x u _ I5' r5 (step x H5 y5)) fun _ s6 ⟨σ6, H6, I6, q6⟩ => ?_)
    refine wpAny_passesOwn hp (thn (hb _ s6 σ6 H6 _ I6 q6) fun f s7 q7 => ?_)
    have again : ∀ {σ7 : St} {H7 : Hp}, Inv X (pins ++ nO fp s5.heap) σ7 H7 s7 -> N σ7 H7 -> ∃ m, m < n /\ ∃ i σ' H', Inv X pins σ' H' s7 /\ tn i s7.heap /\ (∀ b ∈ fp, H' b = none) /\ W i m σ' H' := fun {σ7 H7} I7 n7 => by
      obtain ⟨m', hm, w7⟩ := hN σ7 H7 n7
      refine ⟨m', hm, i + 1, σ7, H7, I7.unpinned, T.keep _ _ _ st5 fun b hb o e => (I7.pin (b, o) (List.mem_append_right _ (List.mem_append_right _ (ir hb e)))).1, fun b hb => ?_, w7⟩
      obtain ⟨o, e, d⟩ := T.obj _ _ st5 b hb
      exact (I7.pin (b, o) (List.mem_append_right _ (List.mem_append_right _ (ir hb e)))).2.1
    cases f with
    | next => obtain ⟨σ7, H7, I7, n7⟩ := q7; exact again I7 n7
    | cont => obtain ⟨σ7, H7, I7, n7⟩ := q7; exact again I7 n7
    | brk => obtain ⟨σ7, H7, I7, q7⟩ := q7; exact ⟨σ7, H7, I7.unpinned, q7⟩
    | ret v => obtain ⟨x7, σ7, H7, I7, r7, q7⟩ := q7; exact ⟨x7, σ7, H7, I7.unpinned, r7, q7⟩
end

end L2

namespace L2
open PySem PySem.Spec PyProof.Rows

abbrev R2 := V -> V -> Hp -> VK -> Prop
def OpR (X : Cx) (f : Value -> Value -> Sem Value) (r : R2) : Prop :=
  ∀ (pins : List (Addr × Obj)) (s : Shared) (σ : St) (H : Hp) (x y : V) (v u : Value) (Q : VK), Inv X pins σ H s -> RelV x v -> RelV y u -> r x y H Q ->
    wpAny (model X.prog X.w) X.A (f v u) (EP X pins σ Q) X.xe s
def UnR (X : Cx) (f : Value -> Sem Value) (r : V -> Hp -> VK -> Prop) : Prop :=
  ∀ (pins : List (Addr × Obj)) (s : Shared) (σ : St) (H : Hp) (x : V) (v : Value) (Q : VK), Inv X pins σ H s -> RelV x v -> r x H Q ->
    wpAny (model X.prog X.w) X.A (f v) (EP X pins σ Q) X.xe s
def ic (X : Cx) (f : Value) (r : List V -> Hp -> VK -> Prop) : Prop :=
  ∀ (pins : List (Addr × Obj)) (s : Shared) (σ : St) (H : Hp) (xs : List V) (us : List Value) (Q : VK), Inv X pins σ H s -> Vals xs us -> r xs H Q ->
    wpAny (model X.prog X.w) X.A (call f us) (EP X pins σ Q) X.xe s
def EH (X : Cx) (r : V -> Hp -> (Bool -> Hp -> Prop) -> Prop) : Prop :=
  ∀ (pins : List (Addr × Obj)) (s : Shared) (σ : St) (H : Hp) (x : V) (v : Value) (Q : Bool -> Hp -> Prop), Inv X pins σ H s -> RelV x v -> r x H Q ->
    wpAny (model X.prog X.w) X.A (truthy v) (TP X pins σ Q) X.xe s

def tOp (r : R2) (ta tb : TE) : TE := fun σ H Q => ta σ H fun x H1 => tb σ H1 fun y H2 => r x y H2 Q
def tUn (r : V -> Hp -> VK -> Prop) (ta : TE) : TE := fun σ H Q => ta σ H fun x H1 => r x H1 Q
def rI (C : Int -> Int -> Prop) (g : Int -> Int -> V) : R2 := fun x y H Q => ∃ i j, x = .int i /\ y = .int j /\ C i j /\ Q (g i j) H
def rI0 (g : Int -> Int -> V) : R2 := fun x y H Q => ∃ i j, x = .int i /\ y = .int j /\ Q (g i j) H
def rU (g : Int -> V) : V -> Hp -> VK -> Prop := fun x H Q => ∃ i, x = .int i /\ Q (g i) H

section
variable {X : Cx} {a b c : Expr} {ta tb tc : TE} {pos : Pos}

theorem DU (ha : PE X a ta) (hb : PE X b tb) {pins : List (Addr × Obj)} {s : Shared} {σ : St} {H : Hp} {R : V -> V -> Hp -> Prop} (I : Inv X pins σ H s)
    (h : ta σ H fun x H1 => tb σ H1 fun y H2 => R x y H2) {Q : Value -> Shared -> Prop} {f : Value -> Value -> Sem Value}
    (hf : ∀ v u s2 x y H2, Inv X pins σ H2 s2 -> RelV x v -> RelV y u -> R x y H2 -> wpAny (model X.prog X.w) X.A (f v u) Q X.xe s2) :
    wpAny (model X.prog X.w) X.A (eval a X.env) (fun v s₁ => wpAny (model X.prog X.w) X.A (eval b X.env) (fun u s₂ => wpAny (model X.prog X.w) X.A (f v u) Q X.xe s₂) X.xe s₁) X.xe s := by
  refine thn (ha pins s σ H _ I h) fun v s1 ⟨x, H1, I1, r1, q1⟩ => ?_
  refine thn (hb pins s1 σ H1 _ I1 q1) fun u s2 ⟨y, H2, I2, r2, q2⟩ => ?_
  exact hf v u s2 x y H2 I2 r1 r2 q2

theorem D0 {op : Operator} {r : R2} (ho : OpR X (binaryOp op) r) (ha : PE X a ta) (hb : PE X b tb) : PE X (.BinOp a op b pos) (tOp r ta tb) := by
  intro pins s σ H Q I h
  exact wpAny_BinOp (DU ha hb I h fun v u s2 x y H2 I2 rx ry q => ho pins s2 σ H2 x y v u Q I2 rx ry q)
theorem DV {op : UnaryOp} {r : V -> Hp -> VK -> Prop} (ho : UnR X (unaryOp op) r) (ha : PE X a ta) : PE X (.UnaryOp op a pos) (tUn r ta) := by
  intro pins s σ H Q I h
  exact UnaryOp_ (thn (ha pins s σ H _ I h) fun v s1 ⟨x, H1, I1, r1, q1⟩ => ho pins s1 σ H1 x v Q I1 r1 q1)
theorem opI {f : Value -> Value -> Sem Value} {C : Int -> Int -> Prop} {g : Int -> Int -> Int}
    (rule : ∀ (i j : Int) (t u : Tok) (s : Shared) (Q : Value -> Shared -> Prop) (E : Value -> Shared -> Prop), C i j -> Q (.int (g i j) s.toks) { s with toks := s.toks + 1 } -> wpAny (model X.prog X.w) X.A (f (.int i t) (.int j u)) Q E s) :
    OpR X f (rI C fun i j => .int (g i j)) := by
  intro pins s σ H x y v u Q I rx ry h
  obtain ⟨i, j, rfl, rfl, hc, q⟩ := h
  obtain ⟨t, rfl⟩ := rx
  obtain ⟨t', rfl⟩ := ry
  exact rule i j t t' s _ _ hc ⟨.int (g i j), H, I.tok _, ⟨_, rfl⟩, q⟩
theorem Ej {f : Value -> Value -> Sem Value} {g : Int -> Int -> Int}
    (rule : ∀ (i j : Int) (t u : Tok) (s : Shared) (Q : Value -> Shared -> Prop) (E : Value -> Shared -> Prop), Q (.int (g i j) s.toks) { s with toks := s.toks + 1 } -> wpAny (model X.prog X.w) X.A (f (.int i t) (.int j u)) Q E s) :
    OpR X f (rI0 fun i j => .int (g i j)) := by
  intro pins s σ H x y v u Q I rx ry h
  obtain ⟨i, j, rfl, rfl, q⟩ := h
  obtain ⟨t, rfl⟩ := rx
  obtain ⟨t', rfl⟩ := ry
  exact rule i j t t' s _ _ ⟨.int (g i j), H, I.tok _, ⟨_, rfl⟩, q⟩
theorem CK {f : Value -> Value -> Sem Value} {g : Int -> Int -> Bool}
    (rule : ∀ (i j : Int) (t u : Tok) (s : Shared) (Q : Value -> Shared -> Prop) (E : Value -> Shared -> Prop), Q (.bool (g i j)) s -> wpAny (model X.prog X.w) X.A (f (.int i t) (.int j u)) Q E s) :
    OpR X f (rI0 fun i j => .bl (g i j)) := by
  intro pins s σ H x y v u Q I rx ry h
  obtain ⟨i, j, rfl, rfl, q⟩ := h
  obtain ⟨t, rfl⟩ := rx
  obtain ⟨t', rfl⟩ := ry
  exact rule i j t t' s _ _ ⟨.bl (g i j), H, I, rfl, q⟩

def EW (i j : Int) : Prop := 0 < j /\ j < 1073741824
def CMul (i j : Int) : Prop := (-(2 ^ 64) < i /\ i < 2 ^ 64) \/ (-(2 ^ 64) < j /\ j < 2 ^ 64)
theorem CMul.ok {i j : Int} (h : CMul i j) : IntMulOk i j := by
  rcases h with ⟨h1, h2⟩ | ⟨h1, h2⟩
  . exact .of_left (intBits_le_64 h1 h2)
  . exact .of_right (intBits_le_64 h1 h2)
theorem op_add : OpR X (binaryOp .Add) (rI0 fun i j => .int (i + j)) := Ej fun _ _ _ _ _ _ _ q => add_int q
theorem A8 : OpR X (binaryOp .Sub) (rI0 fun i j => .int (i - j)) := Ej fun _ _ _ _ _ _ _ q => sub_int q
theorem op_mul : OpR X (binaryOp .Mult) (rI CMul fun i j => .int (i * j)) := opI fun _ _ _ _ _ _ _ hc q => mul_int q hc.ok
theorem zb : OpR X (binaryOp .FloorDiv) (rI EW fun i j => .int (i / j)) := opI fun i j _ _ _ _ _ hc q => by
  have h1 : (0 : Int) < j := hc.1
  have h2 : j < 1073741824 := hc.2
  exact floordiv_int (by omega) (by rw [Int.fdiv_eq_ediv_of_nonneg i (by omega)]; exact q) (.inl (PyProof.noPylong_small (by omega)))
theorem Bz : OpR X (binaryOp .Mod) (rI (fun _ j => 0 < j) fun i j => .int (i % j)) := opI fun i j _ _ _ _ _ hc q => by
  have h1 : (0 : Int) < j := hc
  exact mod_int' (by omega) (by rw [Int.fmod_eq_emod_of_nonneg i (by omega)]; exact q)
theorem unI {f : Value -> Sem Value} {g : Int -> Int}
    (rule : ∀ (i : Int) (t : Tok) (s : Shared) (Q : Value -> Shared -> Prop) (E : Value -> Shared -> Prop), Q (.int (g i) s.toks) { s with toks := s.toks + 1 } -> wpAny (model X.prog X.w) X.A (f (.int i t)) Q E s) :
    UnR X f (rU fun i => .int (g i)) := by
  intro pins s σ H x v Q I rx h
  obtain ⟨i, rfl, q⟩ := h
  obtain ⟨t, rfl⟩ := rx
  exact rule i t s _ _ ⟨.int (g i), H, I.tok _, ⟨_, rfl⟩, q⟩
theorem B1 : UnR X (unaryOp .USub) (rU fun i => .int (-i)) := unI fun _ _ _ _ _ q => neg_int q
end

section
variable {X : Cx} {a b c : Expr} {ta tb tc : TE} {pos : Pos}
theorem vE {pins : List (Addr × Obj)} {σ : St} {H : Hp} {s : Shared} {Q : VK} {k k' : Bool} (I : Inv X pins σ H s) (q : Q (.bl k) H) (e : k = k') : EP X pins σ Q (.bool k') s := by
  subst e
  exact ⟨.bl k, H, I, rfl, q⟩
theorem op_lt : OpR X (compareOp .Lt) (rI0 fun i j => .bl (decide (i < j))) := CK fun _ _ _ _ _ _ _ q => lt_int q
theorem op_le : OpR X (compareOp .LtE) (rI0 fun i j => .bl (decide (i <= j))) := CK fun _ _ _ _ _ _ _ q => le_int q
theorem CO : OpR X (compareOp .Gt) (rI0 fun i j => .bl (decide (j < i))) := CK fun _ _ _ _ _ _ _ q => gt_int q
theorem Dw : OpR X (compareOp .GtE) (rI0 fun i j => .bl (decide (j <= i))) := CK fun _ _ _ _ _ _ _ q => ge_int q
theorem uq : OpR X (compareOp .Lt) (fun x y H Q => ∃ i j, x = .str i /\ y = .str j /\ Q (.bl (decide (i.cps.toList < j.cps.toList))) H) := by
  intro pins s σ H x y v u Q I rx ry h
  obtain ⟨i, j, rfl, rfl, q⟩ := h
  obtain ⟨t, rfl⟩ := rx
  obtain ⟨t', rfl⟩ := ry
  exact lt_str (vE I q rfl)
theorem op_isN : OpR X (compareOp .Is) (fun x y H Q => y = .non /\ Q (.bl (decide (x = .non))) H) := by
  intro pins s σ H x y v u Q I rx ry h
  obtain ⟨rfl, q⟩ := h
  cases ry
  refine is_none_gen (vE I q ?_)
  cases x <;> first
    | (cases rx; rfl)
    | (obtain ⟨t, rfl⟩ := rx; rfl)
theorem OpR.or {f : Value -> Value -> Sem Value} {r r' : R2} (h : OpR X f r) (h' : OpR X f r') : OpR X f (fun x y H Q => r x y H Q \/ r' x y H Q) := by
  intro pins s σ H x y v u Q I rx ry q
  rcases q with q | q
  . exact h pins s σ H x y v u Q I rx ry q
  . exact h' pins s σ H x y v u Q I rx ry q

theorem gr (b : Expr) {op : CmpOp} (h : op ≠ .In := by decide) (h2 : op ≠ .NotIn := by decide) : behindInMarks op b = false := by
  have e1 : (op == CmpOp.In) = false := by cases op <;> first | rfl | exact absurd rfl h
  have e2 : (op == CmpOp.NotIn) = false := by cases op <;> first | rfl | exact absurd rfl h2
  cases b <;> simp [behindInMarks, e1, e2]
theorem Ar {op : CmpOp} {r : R2} (ho : OpR X (compareOp op) r) (ha : PE X a ta) (hb : PE X b tb) (hm : behindInMarks op b = false) : PE X (.Compare a [op] [b] pos) (tOp r ta tb) := by
  intro pins s σ H Q I h
  exact wpAny_Compare1 (DU ha hb I h fun v u s2 x y H2 I2 rx ry q => ho pins s2 σ H2 x y v u Q I2 rx ry q) hm
def Cy (t : TE) : TT := fun σ H Q => t σ H fun x H' => ∃ k, x = .bl k /\ Q k H'
theorem za {op : CmpOp} {r : R2} (ho : OpR X (compareOp op) r) (ha : PE X a ta) (hb : PE X b tb) (hm : behindInMarks op b = false) : PT X (.Compare a [op] [b] pos) (Cy (tOp r ta tb)) := by
  intro pins s σ H Q I h
  refine wpAny_isTrue_Compare1 (thn (ha pins s σ H _ I h) fun v s1 ⟨x, H1, I1, r1, q1⟩ => thn (hb pins s1 σ H1 _ I1 q1) fun u s2 ⟨y, H2, I2, r2, q2⟩ =>
    thn (ho pins s2 σ H2 x y v u _ I2 r1 r2 q2) fun c s3 ⟨z, H3, I3, r3, k, e, q3⟩ => ?_) hm
  subst e
  cases r3
  exact wpAny_truthy_bool ⟨H3, I3, q3⟩
def xX (r r' : R2) (ta tb tc : TE) : TE := fun σ H Q => ta σ H fun x H1 => tb σ H1 fun y H2 => r x y H2 fun z H3 => ∃ k, z = .bl k /\
  (if k = true then tc σ H3 fun w' H4 => r' y w' H4 Q else Q (.bl false) H3)
theorem wE {op op' : CmpOp} {r r' : R2} (ho : OpR X (compareOp op) r) (ho' : OpR X (compareOp op') r') (ha : PE X a ta) (hb : PE X b tb) (hc : PE X c tc)
    (hm : lastMarks [op, op'] [b, c] = false := by with_unfolding_all rfl) : PE X (.Compare a [op, op'] [b, c] pos) (xX r r' ta tb tc) := by
  intro pins s σ H Q I h
  refine Compare_chain (thn (ha pins s σ H _ I h) fun v s1 ⟨x, H1, I1, r1, q1⟩ => chain_link (thn (hb pins s1 σ H1 _ I1 q1) fun u s2 ⟨y, H2, I2, r2, q2⟩ =>
    thn (ho pins s2 σ H2 x y v u _ I2 r1 r2 q2) fun d s3 ⟨z, H3, I3, r3, k, e, q3⟩ => ?_)) hm
  subst e
  cases r3
  refine wpAny_truthy_bool ?_
  cases k with
  | false => exact ite_ff ⟨.bl false, H3, I3, rfl, q3⟩
  | true => exact ite_tt (chain_last (thn (hc pins s3 σ H3 _ I3 q3) fun w' s4 ⟨z', H4, I4, r4, q4⟩ => ho' pins s4 σ H4 y z' u w' Q I4 r2 r4 q4))
theorem wQ {op op' : CmpOp} {r r' : R2} (ho : OpR X (compareOp op) r) (ho' : OpR X (compareOp op') r') (ha : PE X a ta) (hb : PE X b tb) (hc : PE X c tc)
    (hm : lastMarks [op, op'] [b, c] = false := by with_unfolding_all rfl) : PT X (.Compare a [op, op'] [b, c] pos) (Cy (xX r r' ta tb tc)) := by
  intro pins s σ H Q I h
  refine isTrue_chain (thn (ha pins s σ H _ I h) fun v s1 ⟨x, H1, I1, r1, q1⟩ => test_link (thn (hb pins s1 σ H1 _ I1 q1) fun u s2 ⟨y, H2, I2, r2, q2⟩ =>
    thn (ho pins s2 σ H2 x y v u _ I2 r1 r2 q2) fun d s3 ⟨z, H3, I3, r3, k, e, q3⟩ => ?_)) hm
  subst e
  cases r3
  refine wpAny_truthy_bool ?_
  cases k with
  | false =>
    obtain ⟨k', e', q'⟩ := q3
    cases e'
    exact ite_ff ⟨H3, I3, q'⟩
  | true =>
    refine ite_tt (test_last (thn (hc pins s3 σ H3 _ I3 q3) fun w' s4 ⟨z', H4, I4, r4, q4⟩ => thn (ho' pins s4 σ H4 y z' u w' _ I4 r2 r4 q4) fun d' s5 ⟨z2, H5, I5, r5, k2, e2, q5⟩ => ?_))
    subst e2
    cases r5
    exact wpAny_truthy_bool ⟨H5, I5, q5⟩

def Ec (K : PySem.W.Frag) (x : V) (H : Hp) (k : Bool) : Prop :=
  match x with
  | .non => k = false
  | .bl b => k = b
  | .int i => k = (i != 0)
  | .str y => y.length <= sizeLine /\ k = ((y.length : Int) != 0)
  | .byt y => y.size <= sizeLine /\ k = ((y.size : Int) != 0)
  | .ref p => (∃ xs, SqL K H p xs /\ k = !xs.isEmpty) \/ (∃ xs, SqT K H p xs /\ k = !xs.isEmpty) \/ ∃ kvs, H p = some (.dK kvs) /\ k = !kvs.isEmpty
  | _ => False
theorem sI {κ : Type} {kvs : List (κ × V)} {vs : List (κ × Value)} (r : KV kvs vs) : (!vs.isEmpty) = !kvs.isEmpty := by
  cases r <;> rfl
theorem lq {xs : List V} {its : List Value} (r : Vals xs its) : (!its.toArray.isEmpty) = !xs.isEmpty := by
  cases r <;> simp
theorem ku : (sizeLine : Nat) < 2 ^ 63 := by rw [sizeLine_eq]; decide
theorem A7 : EH X (fun x H Q => ∃ k, Ec X.K x H k /\ Q k H) := by
  intro pins s σ H x v Q I rx h
  obtain ⟨k, e, q⟩ := h
  have hl := ku
  have hs : sizeLine = 16777216 := sizeLine_eq
  cases x with
  | non =>
    cases rx
    have e' : k = false := e
    subst e'
    exact truthy_none ⟨H, I, q⟩
  | bl b =>
    cases rx
    have e' : k = b := e
    subst e'
    exact wpAny_truthy_bool ⟨H, I, q⟩
  | int i =>
    obtain ⟨t, rfl⟩ := rx
    have e' : k = (i != 0) := e
    subst e'
    exact PySem.P.truthy_int ⟨H, I, q⟩
  | str y =>
    obtain ⟨t, rfl⟩ := rx
    obtain ⟨hy, e'⟩ : y.length <= sizeLine /\ k = ((y.length : Int) != 0) := e
    subst e'
    exact PySem.P.truthy_str (by omega) ⟨H, I.tok _, q⟩
  | byt y =>
    obtain ⟨t, rfl⟩ := rx
    obtain ⟨hy, e'⟩ : y.size <= sizeLine /\ k = ((y.size : Int) != 0) := e
    subst e'
    exact PySem.W.truthy_bytes (by omega) ⟨H, I.tok _, q⟩
  | ref p =>
    cases rx
    have e' : (∃ xs, SqL X.K H p xs /\ k = !xs.isEmpty) \/ (∃ xs, SqT X.K H p xs /\ k = !xs.isEmpty) \/ ∃ kvs, H p = some (.dK kvs) /\ k = !kvs.isEmpty := e
    rcases e' with ⟨xs, hx, e'⟩ | ⟨xs, hx, e'⟩ | ⟨kvs, hx, e'⟩
    . subst e'
      obtain ⟨its, r, pl, hz⟩ := I.list hx
      have hlen := r.length
      exact wpAny_truthy_list pl.isList (by simp only [List.size_toArray]; omega) ⟨H, I.tok _, by rw [lq r]; exact q⟩
    . subst e'
      obtain ⟨its, r, pl, hz⟩ := I.tuple hx
      have hlen := r.length
      exact truthy_tuple pl (by simp only [List.size_toArray]; omega) ⟨H, I.tok _, by rw [lq r]; exact q⟩
    . subst e'
      obtain ⟨hz, hS, vs, r, m⟩ : kvs.length <= sizeLine /\ (p == sysModules) = false /\ ∃ vs, KV kvs vs /\ s.heap.DictOf (pM X.prog X.w) p vs := I.hok p _ hx
      have hlen : kvs.length = vs.length := Paired.length r
      exact wpAny_truthy_dict hS m (by omega) ⟨H, I.tok _, by rw [sI r]; exact q⟩
  | _ => exact (show False from e).elim
theorem vR (ha : PE X a ta) (he : ∀ whole, isTrue a X.env whole = (do let v <- whole; standAt a.pos; holding [v] (truthy v))) :
    PT X a (fun σ H Q => ta σ H fun x H' => ∃ k, Ec X.K x H' k /\ Q k H') := by
  intro pins s σ H Q I h
  exact isTrue_plain (thn (ha pins s σ H _ I h) fun v s1 ⟨x, H1, I1, r1, q1⟩ => A7 pins s1 σ H1 x v Q I1 r1 q1) (he _)

theorem op_add_str : OpR X (binaryOp .Add) (fun x y H Q => ∃ i j, x = .str i /\ y = .str j /\ i.length + j.length <= sizeLine /\ Q (.str (i ++ j)) H) := by
  intro pins s σ H x y v u Q I rx ry h
  obtain ⟨i, j, rfl, rfl, hz, q⟩ := h
  obtain ⟨t, rfl⟩ := rx
  obtain ⟨t', rfl⟩ := ry
  exact add_str (fun t' tk => ⟨.str (i ++ j), H, I.tok _, ⟨_, rfl⟩, q⟩) hz
theorem yZ {x : V} {us : List Value} (r : Vals [x] us) : ∃ u, us = [u] /\ RelV x u := by
  cases r with
  | cons r1 r2 => cases r2; exact ⟨_, rfl, r1⟩
theorem xB : ic X (.builtin "ord") (fun xs H Q => ∃ x, xs = [.str x] /\ x.length = 1 /\ Q (.int (x.cps.getD 0 0 : Nat)) H) := by
  intro pins s σ H xs us Q I r h
  obtain ⟨x, rfl, hz, q⟩ := h
  obtain ⟨u, rfl, t, rfl⟩ := yZ r
  exact ord_of_one hz ⟨.int _, H, I.tok _, ⟨_, rfl⟩, q⟩
def EM (K : PySem.W.Frag) (x : V) (H : Hp) (n : Nat) : Prop :=
  match x with
  | .str y => y.length <= sizeLine /\ n = y.length
  | .byt y => y.size <= sizeLine /\ n = y.size
  | .ref p => (∃ xs, SqL K H p xs /\ n = xs.length) \/ ∃ xs, SqT K H p xs /\ n = xs.length
  | _ => False
theorem wO : ic X (.builtin "len") (fun xs H Q => ∃ x n, xs = [x] /\ EM X.K x H n /\ Q (.int n) H) := by
  intro pins s σ H xs us Q I r h
  obtain ⟨x, n, rfl, e, q⟩ := h
  obtain ⟨u, rfl, rx⟩ := yZ r
  have hl := ku
  have hs : sizeLine = 16777216 := sizeLine_eq
  cases x with
  | str y =>
    obtain ⟨t, rfl⟩ := rx
    obtain ⟨hy, e'⟩ : y.length <= sizeLine /\ n = y.length := e
    subst e'
    exact len_str (by omega) ⟨.int _, H, I.tok _, ⟨_, rfl⟩, q⟩
  | byt y =>
    obtain ⟨t, rfl⟩ := rx
    obtain ⟨hy, e'⟩ : y.size <= sizeLine /\ n = y.size := e
    subst e'
    exact PySem.W.len_bytes (by omega) ⟨.int _, H, I.tok _, ⟨_, rfl⟩, q⟩
  | ref p =>
    cases rx
    have e' : (∃ xs, SqL X.K H p xs /\ n = xs.length) \/ ∃ xs, SqT X.K H p xs /\ n = xs.length := e
    rcases e' with ⟨xs, hx, e'⟩ | ⟨xs, hx, e'⟩
    . subst e'
      obtain ⟨its, r', pl, hz⟩ := I.list hx
      have hlen := r'.length
      exact Calls.call_len_list pl.isList (by simp only [List.size_toArray]; omega) ⟨.int xs.length, H, I.tok _, ⟨_, by simp only [List.size_toArray]; rw [hlen]⟩, q⟩
    . subst e'
      obtain ⟨its, r', pl, hz⟩ := I.tuple hx
      have hlen := r'.length
      exact len_tuple pl (by simp only [List.size_toArray]; omega) ⟨.int xs.length, H, I.tok _, ⟨_, by simp only [List.size_toArray]; rw [hlen]⟩, q⟩
  | _ => exact (show False from e).elim
end
end L2

namespace L2
open PySem PySem.Spec PyProof.Rows

structure ObjM (h : Heap) (x dx C : Addr) (mA : Str -> Option Value) : Prop where
  obj : h.get? x = some (PySem.W.instObj C dx)
  ns : h.Ns1 dx mA
  ne : dx ≠ x

section
variable {prog : Program} {w : World} {A : Around} {E : Value -> Shared -> Prop} {s : Shared} {K : PySem.W.Frag} {x dx C f : Addr} {mA : Str -> Option Value} {name : Str} {v : Value}

end

def jM (f : Str) (v : V) : List (Str × V) -> List (Str × V)
  | [] => [(f, v)]
  | (g, x) :: r => if g = f then (g, v) :: r else (g, x) :: jM f v r
section
variable {P : Program} {w : World} {H H' : Hp} {h h' : Heap} {a C dx : Addr} {fs fs' : List (Str × V)}
end

structure Cls (K : PySem.W.Frag) (C : Addr) : Prop where
  pg : PySem.W.plainGet K C Str.empty = true
  hd : PySem.W.hasDictIn K C = true
  po : PySem.W.plainOver K C = true
  sa : PySem.W.findIn K (.ref C) "__setattr__" = some (some (.builtin "object.__setattr__"))
structure Con (K : PySem.W.Frag) (C : Addr) (f : Str) (v : V) (u : Value) : Prop where
  at_ : PySem.W.findIn K (.ref C) f = some (some u)
  rel : RelV v u
  get : PySem.W.specialIn K u "__get__" = some none
  cp : PySem.W.copiedNames.contains f = false
structure Meth (K : PySem.W.Frag) (C : Addr) (m : Str) (f : Addr) : Prop where
  at_ : PySem.W.findIn K (.ref C) m = some (some (.ref f))
  fn : PySem.W.isFn K (.ref f) = true
  kp : PySem.W.keepIn K (.ref f) = true

section
variable {X : Cx} {pins : List (Addr × Obj)} {σ : St} {H : Hp} {s : Shared} {a C dx : Addr} {fs : List (Str × V)} {f : Str} {v : V} {A : Around} {E : Value -> Shared -> Prop}

end

section
variable {X : Cx} {o e value : Expr} {f : Str} {pos pos' tpos : Pos} {ta tv : TE}
end

section
variable {X : Cx} {pins : List (Addr × Obj)} {σ : St} {H : Hp} {s : Shared} {A : Around} {E : Value -> Shared -> Prop} {Q : Value -> Shared -> Prop} {c : Value} {b : Bool}
inductive TyOf (K : PySem.W.Frag) (H : Hp) : V -> Value -> Prop where
  | non : TyOf K H .non (.type "NoneType")
  | bl (x : Bool) : TyOf K H (.bl x) (.type "bool")
  | int (i : Int) : TyOf K H (.int i) (.type "int")
  | str (x : Str) : TyOf K H (.str x) (.type "str")
  | flt (x : UInt64) : TyOf K H (.flt x) (.type "float")
  | lst {a : Addr} {xs : List V} (e : H a = some (.lst xs)) : TyOf K H (.ref a) (.type "list")
  | frz {a : Addr} {o : Obj} {xs : List V} (e : H a = some (.frz o (.lst xs))) : TyOf K H (.ref a) (.type "list")
  | tup {a : Addr} {xs : List V} (e : H a = some (.tup xs)) : TyOf K H (.ref a) (.type "tuple")
  | dK {a : Addr} {kvs : List (Key × V)} (e : H a = some (.dK kvs)) : TyOf K H (.ref a) (.type "dict")
  | dT {a : Addr} {kvs : List (List Key × V)} (e : H a = some (.dT kvs)) : TyOf K H (.ref a) (.type "dict")
  | ins {a C dx : Addr} {fs : List (Str × V)} (e : H a = some (.ins C dx fs)) (cl : Cls K C) (ha : PySem.W.findIn K (.ref C) "__class__" = some (some (.builtin "object.__class__")))
      (hn : PySem.W.specialIn K (.builtin "object.__class__") "__get__" = some (some (.builtin "getset_descriptor.__get__"))) (htk : PySem.W.takesIn K (.builtin "object.__class__") = some true)
      (hm : PySem.W.mroIn K C (.type "object") = some true) : TyOf K H (.ref a) (.ref C)
end
end L2

namespace L2
open PySem PySem.Spec PyProof.Rows

structure Room (k : Nat) (A : Around) : Prop where
  hd : A.handled = none
  dp : A.depth + 3 * k + 5 < recursionLimit
  un : A.units + 16 * k + 200 < cLine
theorem Room.mono {j k : Nat} {A : Around} (r : Room k A) (h : j <= k) : Room j A := ⟨r.hd, by have := r.dp; omega, by have := r.un; omega⟩
theorem Room.deeper {k : Nat} {A : Around} (r : Room (k + 1) A) (env : Env) : Room k (A.deeper env) :=
  ⟨r.hd, by have := r.dp; show A.depth + 1 + 3 * k + 5 < _; omega, by have := r.un; show A.units + 3 + 16 * k + 200 < _; omega⟩
theorem Room.depth {k : Nat} {A : Around} (r : Room k A) : A.depth < recursionLimit := by have := r.dp; omega
theorem Room.units {k : Nat} {A : Around} (r : Room k A) : A.units + 64 < cLine := by have := r.un; omega
def Ex : TA := fun _ H Q => Q [] H
def zJ (ta : TE) (tr : TA) : TA := fun σ H Q => ta σ H fun x H1 => tr σ H1 fun xs H2 => Q (x :: xs) H2
section
variable {X : Cx} {e : Expr} {es : List Expr} {te : TE} {t : TA} {pos : Pos}
theorem kq : PA X [] Ex := fun _ _ _ _ H Q I h => Calls.spliced_nil ⟨[], H, I, .nil, h⟩
theorem eA (ha : PE X e te) (hr : PA X es t) (hs : starEach (e :: es) X.env = (false, eval e X.env) :: starEach es X.env := by rfl) : PA X (e :: es) (zJ te t) := by
  intro pos pins s σ H Q I h
  rw [hs]
  show wpAny _ _ (spliced ((false, eval e X.env) :: backTo pos (starEach es X.env))) _ _ s
  refine Calls.spliced_cons (thn (ha pins s σ H _ I h) fun u s1 ⟨x, H1, I1, r1, q1⟩ => ?_)
  exact thn (hr pos pins s1 σ H1 _ I1 q1) fun us s2 ⟨xs, H2, I2, r2, q2⟩ => ⟨x :: xs, H2, I2, .cons r1 r2, q2⟩

def Fb (t : TA) : TE := fun σ H Q => t σ H fun xs H1 => xs.length <= sizeLine /\ ∀ p, H1 p = none -> Q (.ref p) (upd H1 p (.tup xs))
def Et (t : TA) : TE := fun σ H Q => t σ H fun xs H1 => xs.length <= sizeLine /\ ∀ p, H1 p = none -> Q (.ref p) (upd H1 p (.lst xs))
theorem CG {x1} (h : PA X es t) : PE X (.Tuple es x1 pos) (Fb t) := by
  intro pins s σ H Q I hq
  refine wpAny_Tuple_spliced (thn (h pos pins s σ H _ I hq) fun us s1 ⟨xs, H1, I1, r, z, q⟩ => ⟨by rw [<- r.length]; exact z, ?_⟩)
  have hf : H1 s1.heap.objs.size = none := I1.hok.fresh (Nat.le_refl _)
  refine ⟨.ref s1.heap.objs.size, upd H1 s1.heap.objs.size (.tup xs), I1.laid (t' := s1.toks) (fun b u e => Heap.get?_push_of_some _ e) (Nat.le_refl _) ?_, rfl, q _ hf⟩
  exact ⟨z, us, r, ⟨_, Heap.get?_push_size _ rfl, rfl, _, rfl⟩⟩
theorem yb (h : PA X es t) : PE X (.List es pos) (Et t) := by
  intro pins s σ H Q I hq
  refine wpAny_List_spliced (thn (h pos pins s σ H _ I hq) fun us s1 ⟨xs, H1, I1, r, z, q⟩ => ⟨by rw [<- r.length]; exact z, ?_⟩)
  have hf : H1 s1.heap.objs.size = none := I1.hok.fresh (Nat.le_refl _)
  refine ⟨.ref s1.heap.objs.size, upd H1 s1.heap.objs.size (.lst xs), I1.laid (t' := s1.toks) (fun b u e => Heap.get?_push_of_some _ e) (Nat.le_refl _) ?_, rfl, q _ hf⟩
  exact ⟨z, us, 0, r, Heap.get?_push_size _ rfl⟩
end

abbrev Sp := List V -> Hp -> VK -> XK -> Prop
abbrev CXT := List Env -> Hp -> Shared -> XK -> Value -> Shared -> Prop

structure Env0 (P : Program) (w : World) (K : PySem.W.Frag) (mg : Str -> Option Value) (base : Heap) (A : Around) (outer : List Env) (s : Shared) (H : Hp) : Prop where
  frames : A.frames = some outer
  mod : Mod K mg base
  bs : ∀ b o, base.get? b = some o -> s.heap.get? b = some o /\ H b = none
  bsz : base.objs.size <= s.heap.objs.size
  funs : s.heap.FunFrames base outer
  frf : ∀ b ∈ frs outer, H b = none
  hok : HOk P w H s.heap
  bare : AllBare s.gens
def CE (outer : List Env) (P : Program) (w : World) (H : Hp) (s : Shared) (Q : VK) (u : Value) (s' : Shared) : Prop :=
  ∃ v H', s'.os = s.os /\ AllBare s'.gens /\ Un (frs outer) [] H H' s.heap s'.heap /\ HOk P w H' s'.heap /\ RelV v u /\ Q v H'
def CR (CX : CXT) (outer : List Env) (P : Program) (w : World) (H : Hp) (s : Shared) (Q : VK) (E : XK) (r : Result) (s' : Shared) : Prop :=
  match r with
  | .ok (.ret u) => CE outer P w H s Q u s'
  | .ok _ => False
  | .error e => CX outer H s E e s'
structure FnOk (P : Program) (w : World) (K : PySem.W.Frag) (mg : Str -> Option Value) (base : Heap) (CX : CXT) (k : Nat) (f : Addr) (fd : FuncData) (ps : List Str) (sp : Sp) : Prop where
  len : ∀ vs H Q E, sp vs H Q E -> vs.length = ps.length
  run : ∀ (A : Around) (outer : List Env) (s : Shared) (H : Hp) (args : Args) (us : List Value) (vs : List V) (Q : VK) (E : XK), Room k A -> Env0 P w K mg base A outer s H -> BindsTo s fd args (ps.zip us) -> Vals vs us -> sp vs H Q E ->
    codeAny (model P w) A (.call (.ref f) args) (CR CX outer P w H s Q E) s
theorem FnOk.imp {P : Program} {w : World} {K : PySem.W.Frag} {mg : Str -> Option Value} {base : Heap} {CX : CXT} {k : Nat} {f : Addr} {fd : FuncData} {ps : List Str} {sp sp' : Sp} (F : FnOk P w K mg base CX k f fd ps sp)
    (h : ∀ vs H Q E, sp' vs H Q E -> sp vs H Q E) : FnOk P w K mg base CX k f fd ps sp' :=
  ⟨fun vs H Q E q => F.len vs H Q E (h _ _ _ _ q), fun A outer s H args us vs Q E hr he hb hv hs => F.run A outer s H args us vs Q E hr he hb hv (h _ _ _ _ hs)⟩

section
variable {X : Cx} {pins : List (Addr × Obj)} {σ : St} {H : Hp} {s s' : Shared}
theorem Inv.env0 (I : Inv X pins σ H s) : Env0 X.prog X.w X.K X.mg X.base X.A X.stack s H :=
  ⟨I.ok.frames, I.ok.mod, I.bs, Nat.le_trans I.ok.bsz I.sz, I.stack, I.stkFree, I.hok, I.bare⟩
theorem Inv.after {Q : VK} {u : Value} (I : Inv X pins σ H s) (h : CE X.stack X.prog X.w H s Q u s') : EP X pins σ Q u s' := by
  obtain ⟨v, H', os, bare, un, hok, r, q⟩ := h
  obtain ⟨hh, g, d, t, os'⟩ := s'
  obtain rfl : os' = s.os := os
  exact ⟨v, H', I.call (h' := hh) (g' := g) (d' := d) (t' := t) (ch := []) un hok bare (fun b z => absurd z (by simp)), r, q⟩
end

def Binds (K : PySem.W.Frag) (fd : FuncData) (ps : List Str) (ds : List Value) : Prop :=
  ∀ (s : Shared) (us : List Value), K.In s.heap -> (us ++ ds).length = ps.length -> BindsTo s fd ⟨us, []⟩ (ps.zip (us ++ ds))
theorem Binds.all {K : PySem.W.Frag} {fd : FuncData} {ps : List Str} (h : ∀ us : List Value, us.length = ps.length -> bindArgs fd ⟨us, []⟩ = pure (ps.zip us)) : Binds K fd ps [] := fun s us _ hl => by
  rw [List.append_nil] at hl ⊢
  exact .of_eq (h us hl)

section
variable {X : Cx} {CX : CXT} {k : Nat} {f C : Addr} {fd : FuncData} {ps : List Str} {sp : Sp} {dvs : List V} {ds : List Value} {E : XK} {x m : Str} {p pos apos : Pos} {e o : Expr} {es : List Expr} {ta : TE} {t : TA}

structure Mk (K : PySem.W.Frag) (C f : Addr) : Prop where
  makes : PySem.W.makesIn K C = true
  init : PySem.W.findIn K (.ref C) "__init__" = some (some (.ref f))
  fn : PySem.W.isFn K (.ref f) = true
  kp : PySem.W.keepIn K (.ref C) = true

end

section
variable {X : Cx} {CX : CXT} {k : Nat} {f C : Addr} {fd : FuncData} {ps ks : List Str} {sp : Sp} {E : XK} {x m : Str} {p pos apos kpos : Pos} {e o : Expr} {es : List Expr} {kws : List Keyword} {te ta : TE} {t tk : TA} {nm : Option Str}
structure KBinds (K : PySem.W.Frag) (fd : FuncData) (ps ks : List Str) (g : List Value -> List Value -> List Value) (gV : List V -> List V -> List V) : Prop where
  to : ∀ (s : Shared) (us ws : List Value), K.In s.heap -> (g us ws).length = ps.length -> BindsTo s fd ⟨us, ks.zip ws⟩ (ps.zip (g us ws))
  rel : ∀ {vs : List V} {us : List Value} {zs : List V} {ws : List Value}, Vals vs us -> Vals zs ws -> Vals (gV vs zs) (g us ws)
variable {g : List Value -> List Value -> List Value} {gV : List V -> List V -> List V}
end

structure FnScope (N P : List Str) (sc : Scope) : Prop where
  kind : sc.kind = .function
  co : sc.isCoroutine = false
  gen : sc.isGenerator = false
  nd : N.Nodup
  pre : N.take P.length = P
  par : ∀ x ∈ P, sc.names.lookup x = some .local \/ sc.names.lookup x = some .cell
  nofree : ∀ y ∈ sc.names, y.2 ≠ .free

theorem nz {kindOf : Str -> Option NameKind} {x : Str} : ∀ {binds : List (Str × Value)} {m : Str -> Option Value}, (∀ v, (x, v) ∉ binds) -> bindL kindOf binds m x = m x
  | [], _, _ => rfl
  | (n, v) :: r, m, h => by
    unfold bindL
    rw [nz fun w hw => h w (List.mem_cons_of_mem _ hw)]
    split
    . have : x ≠ n := by rintro rfl; exact h v List.mem_cons_self
      simp [this]
    . rfl
theorem oz {kindOf : Str -> Option NameKind} {x : Str} : ∀ {binds : List (Str × Value)} {m : Str -> Option Value}, (∀ v, (x, v) ∉ binds) -> bindC kindOf binds m x = m x
  | [], _, _ => rfl
  | (n, v) :: r, m, h => by
    unfold bindC
    rw [oz fun w hw => h w (List.mem_cons_of_mem _ hw)]
    split
    . rfl
    . have : x ≠ n := by rintro rfl; exact h v List.mem_cons_self
      simp [this]
theorem oB {kindOf : Str -> Option NameKind} {x : Str} {v : Value} : ∀ {P : List Str} {vs : List Value} {i : Nat} {m : Str -> Option Value}, P.Nodup -> P[i]? = some x -> vs[i]? = some v -> kindOf x = some .local ->
    bindL kindOf (P.zip vs) m x = some v
  | [], _, _, _, _, h, _, _ => by simp at h
  | _ :: _, [], _, _, _, _, h, _ => by simp at h
  | p :: P, w :: vs, 0, m, nd, h1, h2, hk => by
    simp at h1 h2; subst h1; subst h2
    show bindL kindOf ((p, w) :: P.zip vs) m p = _
    unfold bindL
    rw [nz fun v hv => (List.nodup_cons.mp nd).1 (List.of_mem_zip hv).1, if_pos hk]
    simp
  | p :: P, w :: vs, i + 1, m, nd, h1, h2, hk => by
    show bindL kindOf ((p, w) :: P.zip vs) m x = _
    unfold bindL
    exact oB (i := i) (List.nodup_cons.mp nd).2 (by simpa using h1) (by simpa using h2) hk
theorem nN {kindOf : Str -> Option NameKind} {x : Str} {v : Value} : ∀ {P : List Str} {vs : List Value} {i : Nat} {m : Str -> Option Value}, P.Nodup -> P[i]? = some x -> vs[i]? = some v -> kindOf x ≠ some .local ->
    bindC kindOf (P.zip vs) m x = some v
  | [], _, _, _, _, h, _, _ => by simp at h
  | _ :: _, [], _, _, _, _, h, _ => by simp at h
  | p :: P, w :: vs, 0, m, nd, h1, h2, hk => by
    simp at h1 h2; subst h1; subst h2
    show bindC kindOf ((p, w) :: P.zip vs) m p = _
    unfold bindC
    rw [oz fun v hv => (List.nodup_cons.mp nd).1 (List.of_mem_zip hv).1, if_neg hk]
    simp
  | p :: P, w :: vs, i + 1, m, nd, h1, h2, hk => by
    show bindC kindOf ((p, w) :: P.zip vs) m x = _
    unfold bindC
    exact nN (i := i) (List.nodup_cons.mp nd).2 (by simpa using h1) (by simpa using h2) hk

def kY (N : List Str) (vs : List V) : St := vs.map some ++ List.replicate (N.length - vs.length) none

def ck (CX : CXT) (P : Program) (w : World) (K : PySem.W.Frag) (mg : Str -> Option Value) (base : Heap) (N : List Str) (qual : Str) (scope : Scope) (f : Addr) (cd : Value) (A : Around) (outer : List Env) (s : Shared) (H : Hp) (E : XK) : Cx where
  prog := P
  w := w
  K := K
  mg := mg
  base := base
  A := A.deeper (envOfC qual scope s.heap.objs.size f cd)
  N := N
  s₀ := s
  H₀ := H
  env := envOfC qual scope s.heap.objs.size f cd
  outer := outer
  stack := envOfC qual scope s.heap.objs.size f cd :: outer
  ex := []
  calm := true
  fn := fun _ => true
  pn := []
  xe := fun e s' => wpAny (model P w) (A.deeper (envOfC qual scope s.heap.objs.size f cd)) (leaving (envOfC qual scope s.heap.objs.size f cd) e) (fun _ s'' => CX outer H s E e s'') (fun e' s'' => CX outer H s E e' s'') s'

theorem qu {sc : Scope} {n : Nat} {x : Str} (h : sc.names.lookup x = some .cell) : ∃ c, (cellsFrom n sc.names []).lookup x = some c := by
  have q := PySem.W.cellsFrom_some sc.names n [] (.inl h)
  exact Option.isSome_iff_exists.mp q

theorem um {CX : CXT} {P : Program} {w : World} {K : PySem.W.Frag} {mg : Str -> Option Value} {base : Heap} {N ps : List Str} {qual : Str} {scope : Scope} {f : Addr} {cd : Value} {A : Around} {outer : List Env} {s s1 : Shared} {H : Hp} {E : XK} {us : List Value} {vs : List V}
    (S : FnScope N ps scope) (hd : A.handled = none) (e0 : Env0 P w K mg base A outer s H) (hl : vs.length = ps.length) (r : Vals vs us)
    (x : InCallC s s.heap.objs.size (bindL (envOfC qual scope s.heap.objs.size f cd).kindOf (ps.zip us) fun _ => none) (cellsFrom (s.heap.objs.size + 1) scope.names []) (bindC (envOfC qual scope s.heap.objs.size f cd).kindOf (ps.zip us) fun _ => none) s1) :
    Inv (ck CX P w K mg base N qual scope f cd A outer s H E) [] (kY N vs) H s1 := by
  have hpl : ps.length <= N.length := by have := congrArg List.length S.pre; rw [List.length_take] at this; omega
  obtain ⟨h1, tk, rfl, hk⟩ := x.done
  have noA : ∀ b : Addr, b ∉ (ck CX P w K mg base N qual scope f cd A outer s H E).ex := fun b z => absurd (show b ∈ ([] : List Addr) from z) (by simp)
  refine ⟨⟨e0.mod, S.kind, rfl, rfl, Nat.le_refl _, fun y z c h1 h2 => ?_, fun y hy => ?_, fun y c _ h => ?_, fun _ => hd, Around.frames_deeper e0.frames, .inr ⟨rfl, rfl⟩, fun b z => absurd z (noA b), e0.bs, e0.bsz, fun b _ _ => noA b, fun b z => absurd z (noA b), e0.funs, e0.frf⟩,
    rfl, e0.bare, Un.kept hk, ⟨_, x.toInCall.ns, fun i y v h1 h2 h3 => ?_⟩, fun y c h => ⟨_, x.cell y c h⟩, e0.hok.fresh (Nat.le_refl _), fun y c h => ?_, fun p hp => absurd (show p ∈ ([] : List (Addr × Obj)) from hp) (by simp), e0.hok.kept hk, ?_⟩
  . exact name_of_addr x.apart (PySem.mem_of_lookup h1) (PySem.mem_of_lookup h2)
  . have hy : scope.names.lookup y = some .cell \/ scope.names.lookup y = some .free := hy
    rcases hy with hy | hy
    . exact qu hy
    . exact absurd rfl (S.nofree _ (PySem.mem_of_lookup hy))
  . exact Nat.le_of_lt (x.above y c (PySem.mem_of_lookup h))
  . have hi : i < vs.length := by
      unfold kY at h2
      by_cases hi : i < vs.length
      . exact hi
      . rw [List.getElem?_append_right (by simpa using hi)] at h2
        rw [List.getElem?_replicate] at h2
        split at h2 <;> cases h2
    have ha : vs[i]? = some v := by
      unfold kY at h2
      rw [List.getElem?_append_left (by simpa using hi), List.getElem?_map] at h2
      cases e : vs[i]? with
      | none => rw [e] at h2; cases h2
      | some a => rw [e] at h2; cases h2; rfl
    obtain ⟨u, hu, rv⟩ := r.get ha
    have hp : ps[i]? = some y := by
      rw [<- S.pre, List.getElem?_take_of_lt (by omega)]; exact h1
    have ndP : ps.Nodup := by rw [<- S.pre]; exact S.nd.sublist (List.take_sublist _ _)
    refine ⟨u, rv, ?_⟩
    rcases S.par y (List.mem_of_getElem? hp) with k | k
    . exact .inl ⟨k, oB ndP hp hu k⟩
    . obtain ⟨c, e⟩ := qu (n := s.heap.objs.size + 1) k
      refine .inr ⟨.inl k, c, e, ?_⟩
      have q := x.cell y c e
      rw [nN ndP hp hu (by show scope.names.lookup y ≠ _; rw [k]; decide)] at q
      exact q
  . exact e0.hok.fresh (Nat.le_of_lt (x.above y c (PySem.mem_of_lookup h)))
  . unfold kY
    show _ = N.length
    rw [List.length_append, List.length_map, List.length_replicate]
    omega

theorem BH {CX : CXT} {P : Program} {w : World} {K : PySem.W.Frag} {mg : Str -> Option Value} {base : Heap} {k : Nat} {f : Addr} {name qual : Str} {params : Arguments} {body : List Stmt} {scope : Scope} {dV kV doc pm cdv ct oc : Value} {an od : Option Addr}
    {osl : Array (Option Value)} {N ps : List Str} {sp : Sp} (lk : K.lookup f = some ⟨oc, od, .func (PySem.W.fnOf name qual params body scope dV kV doc pm an cdv ct), osl⟩) (hcd : PySem.W.codeIn K cdv qual = true) (S : FnScope N ps scope)
    (len : ∀ vs H Q E, sp vs H Q E -> vs.length = ps.length)
    (hbody : ∀ (A : Around) (outer : List Env) (s : Shared) (H : Hp) (vs : List V) (Q : VK) (E : XK), Room k (A.deeper (envOfC qual scope s.heap.objs.size f cdv)) -> sp vs H Q E ->
      ∃ t, PSs (ck CX P w K mg base N qual scope f cdv A outer s H E) body t /\ t { nx := fun _ H' => Q .non H', rt := Q } (kY N vs) H) :
    FnOk P w K mg base CX (k + 1) f (PySem.W.fnOf name qual params body scope dV kV doc pm an cdv ct) ps sp := by
  refine ⟨len, fun A outer s H args us vs Q E hr e0 hb r hsp => ?_⟩
  have hl := len _ _ _ _ hsp
  have KX : K.In s.heap := e0.mod.kin.keeps fun b o e => (e0.bs b o e).1
  have lim : s.heap.NoLimit := e0.mod.nolimit.keeps fun b o e => (e0.bs b o e).1
  have hkind : ∀ y ∈ ps.zip us, scope.names.lookup y.1 = some .local \/ (scope.names.lookup y.1 = some .cell /\ ((cellsFrom (s.heap.objs.size + 1) scope.names []).lookup y.1).isSome = true) := fun ⟨n, v⟩ hy => by
    rcases S.par n (List.of_mem_zip hy).1 with q | q
    . exact .inl q
    . exact .inr ⟨q, PySem.W.cellsFrom_some _ _ _ (.inl q)⟩
  refine codeAny_call_function hr.depth (KX _ _ lk) rfl S.co S.gen rfl (PySem.W.codeRec_of KX hcd) (hb _ _ _ _ ?_)
  refine wpAny_newFunctionEnv_cells S.kind hkind fun env he s1 x => ?_
  subst he
  refine ⟨lim.keeps x.toInCall.keep, codeAny_func ?_⟩
  obtain ⟨t, ht, hq⟩ := hbody A outer s H vs Q E (hr.deeper _) hsp
  have I : Inv (ck CX P w K mg base N qual scope f cdv A outer s H E) [] (kY N vs) H s1 := um S hr.hd e0 hl r x
  refine wpAny_mono (ht [] s1 (kY N vs) H _ I hq) (fun fl s' hs => ?_) fun e s' hs => hs
  have fin : ∀ {σ' : St} {H' : Hp} {v : V} {u : Value}, Inv (ck CX P w K mg base N qual scope f cdv A outer s H E) [] σ' H' s' -> RelV v u -> Q v H' -> CE outer P w H s Q u s' :=
    fun {σ' H' v u} J rv q => ⟨v, H', J.os, J.bare, J.base, J.hok, rv, q⟩
  cases fl with
  | ret u =>
    obtain ⟨v, σ', H', J, rv, q⟩ := hs
    exact fin J rv q
  | next =>
    obtain ⟨σ', H', J, q⟩ := hs
    exact fin (v := V.non) (u := Value.none) J rfl q
  | brk =>
    obtain ⟨_, _, _, q⟩ := hs
    exact False.elim q
  | cont =>
    obtain ⟨_, _, _, q⟩ := hs
    exact False.elim q
end L2

namespace L2
open PySem PySem.Spec PyProof.Rows
section
variable {X : Cx} {x : Str} {p pos : Pos} {e : Expr} {es : List Expr} {t : TA} {id T : String} {r : List V -> Hp -> VK -> Prop}

def tCB (r : List V -> Hp -> VK -> Prop) (t : TA) : TE := fun σ H Q => t σ H fun vs H1 => r vs H1 Q
theorem mJ (hc : ic X (.builtin id) r) (hg : Gl X x) (hm : X.mg x = none) (hv : bootBuiltins x = some (.builtin id)) (ha : PA X (e :: es) t) (hn : x ≠ "__name__" := by decide) (hdb : (x == ("__debug__" : Str)) = false := by decide)
    (he : starEach (e :: es) X.env = (false, eval e X.env) :: starEach es X.env := by rfl) (hpl : (backTo pos (starEach es X.env)).any (·.1) = false := by rfl) : PE X (.Call (.Name x p) (e :: es) [] pos) (tCB r t) := by
  intro pins s σ H Q I h
  refine wpAny_Call_Name_kw (qD I hg hm hv ?_ hn hdb)
  exact PyProof.Rows.callWith_builtin1 (thn (ha pos pins s σ H _ I h) fun us s1 ⟨vs, H1, I1, r1, q1⟩ => hc pins s1 σ H1 vs us Q I1 r1 q1) he hpl
theorem sU (hc : ic X (.type T) r) (hg : Gl X x) (hm : X.mg x = none) (hv : bootBuiltins x = some (.type T)) (ha : PA X (e :: es) t) (hn : x ≠ "__name__" := by decide) (hdb : (x == ("__debug__" : Str)) = false := by decide)
    (he : starEach (e :: es) X.env = (false, eval e X.env) :: starEach es X.env := by rfl) (hpl : (backTo pos (starEach es X.env)).any (·.1) = false := by rfl) : PE X (.Call (.Name x p) (e :: es) [] pos) (tCB r t) := by
  intro pins s σ H Q I h
  refine wpAny_Call_Name_kw (qD I hg hm hv ?_ hn hdb)
  exact PyProof.Rows.callWith_type1 (thn (ha pos pins s σ H _ I h) fun us s1 ⟨vs, H1, I1, r1, q1⟩ => hc pins s1 σ H1 vs us Q I1 r1 q1) he hpl
end
end L2

namespace HT
open PySem PyProof.Rows

section
open PySem.SeqAt
open PySem.AutoSeq1 (wpAny_loadPart')
open PySem.MeetsSeq PySem.MeetsSeq2 PySem.MeetsSeq3

end

section
variable {prog : Program} {w : World} {A : Around} {E : Value -> Shared -> Prop} {s : Shared}

theorem cat_tup {t b : Addr} {vs ws : List Value} {Q : Value -> Shared -> Prop} (ht : IsTup s.heap t vs.toArray) (hb : IsTup s.heap b ws.toArray) (hv : vs ≠ [])
    (h1 : ws = [] -> Q (.ref t) s) (h2 : ws ≠ [] -> Q (.ref s.heap.objs.size) { s with heap := s.heap.push { cls := .type "tuple", data := .seq (vs ++ ws).toArray } })
    (hsz : vs.length + ws.length <= sizeLine) : wpAny (model prog w) A (binaryOp .Add (.ref t) (.ref b)) Q E s := by
  obtain ⟨⟨cls, dd, data, sl⟩, ho, hc, n, hd⟩ := id ht
  obtain ⟨⟨cls2, dd2, data2, sl2⟩, ho2, hc2, n2, hd2⟩ := id hb
  simp only at hc hd hc2 hd2
  subst hc hd hc2 hd2
  have e : vs.toArray ++ ws.toArray = (vs ++ ws).toArray := by simp
  by_cases hw : ws = []
  . exact concat_meets ⟨_, ho, rfl⟩ ⟨_, ho2, rfl⟩ noFill_tuple_add seq_tuple_add PySem.F.slot_tuple_add PySem.F.entry_tuple_add (PySem.F.args_tuple_add_2 _ _)
      (tuple_addW1 t b vs.toArray ws.toArray n n2 dd dd2 sl sl2 (by simpa using hv) (by simp [hw])) ⟨ho, ho2, h1 hw⟩
  . refine concat_meets ⟨_, ho, rfl⟩ ⟨_, ho2, rfl⟩ noFill_tuple_add seq_tuple_add PySem.F.slot_tuple_add PySem.F.entry_tuple_add (PySem.F.args_tuple_add_2 _ _)
      (tuple_addW2 t b vs.toArray ws.toArray n n2 dd dd2 sl sl2 (by simpa using hv) (by simpa using hw) (by rw [List.size_toArray, List.size_toArray]; exact hsz)) ⟨ho, ho2, ?_⟩
    rw [e]
    exact h2 hw

def sIx (n d : Nat) : Option Int -> Nat
  | none => d
  | some v => if v < 0 then (v + (n : Int)).toNat else min v.toNat n
theorem sIx_none (n d : Nat) : sIx n d none = d := rfl
theorem sIx_nat (n d k : Nat) : sIx n d (some (k : Int)) = min k n := by
  show (if (k : Int) < 0 then ((k : Int) + (n : Int)).toNat else min (k : Int).toNat n) = min k n
  rw [if_neg (by omega), Int.toNat_natCast]
theorem sIx_le (n d : Nat) (hd : d <= n) (o : Option Int) : sIx n d o <= n := by
  cases o with
  | none => exact hd
  | some v =>
    show (if v < 0 then (v + (n : Int)).toNat else min v.toNat n) <= n
    by_cases hv : v < 0
    . rw [if_pos hv]; omega
    . rw [if_neg hv]; exact Nat.min_le_right _ _
theorem tq (v : Int) (n d : Nat) : (if v < 0 then max (v + (n : Int)) 0 else min v (n : Int)) = ((sIx n d (some v) : Nat) : Int) := by
  show (if v < 0 then max (v + (n : Int)) 0 else min v (n : Int)) = (((if v < 0 then (v + (n : Int)).toNat else min v.toNat n) : Nat) : Int)
  by_cases hv : v < 0
  . simp only [if_pos hv]; omega
  . simp only [if_neg hv]; omega
theorem se (lo hi : Option Int) (n : Nat) : Builtin.Slice.sliceAdjust lo hi 1 (n : Int) = (((sIx n 0 lo : Nat) : Int), ((sIx n n hi : Nat) : Int)) := by
  have h1 : ¬ ((1 : Int) < 0) := by omega
  unfold Builtin.Slice.sliceAdjust
  simp only [h1, if_false]
  refine Prod.ext ?_ ?_
  . cases lo with
    | none => rfl
    | some v => exact tq v n 0
  . cases hi with
    | none => rfl
    | some v => exact tq v n n
theorem rC (i j : Nat) : Builtin.Slice.slicePlaces (i : Int) (j : Int) 1 = j - i := by
  unfold Builtin.Slice.slicePlaces
  have h1 : (1 : Int) > 0 := by omega
  simp only [h1, if_true, Int.ediv_one]
  split <;> omega
theorem lv {v : Value} {o : Option Int} {Q : Option Int -> Shared -> Prop} (p : IsPart v o) (h : Q o s) : wpAny (model prog w) A (Builtin.Slice.slicePartIndex v) Q E s := by
  cases p with
  | none => exact slicePart_none h
  | int i t => exact slicePart_int h
theorem sliceApplied_gen {sl : Addr} {vl vu : Value} {lo hi : Option Int} {n : Nat} {Q : Int × Int × Nat -> Shared -> Prop} (hs : s.heap.IsSliceOf sl vl vu .none) (pl : IsPart vl lo) (pu : IsPart vu hi)
    (h : Q (((sIx n 0 lo : Nat) : Int), 1, sIx n n hi - sIx n 0 lo) s) : wpAny (model prog w) A (Builtin.Slice.sliceApplied (.ref sl) (pure (n : Int))) Q E s := by
  obtain ⟨os, hos, hcs, hds⟩ := id hs
  unfold Builtin.Slice.sliceApplied Builtin.Slice.sliceFields
  refine wpAny_bind (wpAny_bind (wpAny_field hos hds (x := vl) rfl (wpAny_bind (wpAny_field hos hds (x := vu) rfl (wpAny_bind (wpAny_field hos hds (x := .none) rfl (wpAny_pure ?_)))))))
  refine wpAny_bind (slicePart_none ?_)
  show wpAny _ _ (if ((1 : Int) == 0) = true then _ else _) _ _ s
  rw [if_neg (by decide)]
  refine wpAny_bind (lv pl (wpAny_bind (lv pu (wpAny_bind (wpAny_pure ?_)))))
  show wpAny _ _ (match Builtin.Slice.sliceAdjust lo hi 1 (n : Int) with | (lo, hi) => pure (lo, (1 : Int), Builtin.Slice.slicePlaces lo hi 1)) _ _ s
  rw [se lo hi n]
  show wpAny _ _ (pure (((sIx n 0 lo : Nat) : Int), (1 : Int), Builtin.Slice.slicePlaces ((sIx n 0 lo : Nat) : Int) ((sIx n n hi : Nat) : Int) 1)) _ _ s
  rw [rC]
  exact wpAny_pure h
theorem wg (xs : Array Value) (i k : Nat) : ((List.range k).filterMap fun (m : Nat) => xs[((i : Int) + (m : Int) * 1).toNat]?).toArray = ((xs.toList.drop i).take k).toArray := by
  have e : (fun (m : Nat) => xs[((i : Int) + (m : Int) * 1).toNat]?) = fun m => xs[i + m]? := by
    funext m
    have : ((i : Int) + (m : Int) * 1).toNat = i + m := by omega
    rw [this]
  rw [e]
  have := pick_run xs i k
  rw [List.filterMap_map] at this
  have e2 : ((fun x => xs[x]?) ∘ fun x => i + x) = fun m => xs[i + m]? := rfl
  rw [e2] at this
  rw [this]

theorem getItem_tuple_cut {t sl : Addr} {items : Array Value} {vl vu : Value} {lo hi : Option Int} {Q : Value -> Shared -> Prop} (ht : IsTup s.heap t items) (hs : s.heap.IsSliceOf sl vl vu .none) (pl : IsPart vl lo) (pu : IsPart vu hi)
    (hw : ¬ (sIx items.size 0 lo = 0 /\ sIx items.size items.size hi = items.size))
    (h : Q (.ref s.heap.objs.size) { s with heap := s.heap.push { cls := .type "tuple", data := .seq ((items.toList.drop (sIx items.size 0 lo)).take (sIx items.size items.size hi - sIx items.size 0 lo)).toArray } })
    (hsz : items.size <= sizeLine) : wpAny (model prog w) A (getItem (.ref t) (.ref sl)) Q E s := by
  have htake : sizeOk (.seq ((items.toList.drop (sIx items.size 0 lo)).take (sIx items.size items.size hi - sIx items.size 0 lo)).toArray) := by
    show ((items.toList.drop (sIx items.size 0 lo)).take (sIx items.size items.size hi - sIx items.size 0 lo)).toArray.size <= sizeLine
    rw [List.size_toArray, List.length_take, List.length_drop, Array.length_toList]
    omega
  have hj : sIx items.size items.size hi <= items.size := sIx_le _ _ (Nat.le_refl _) hi
  obtain ⟨os, hos, hcs, hds⟩ := id hs
  have hTs : s.TypeIs (.ref sl) "slice" := ⟨os, hos, hcs⟩
  unfold getItem
  try with_reducible refine wpAny_holding ?_
  first | refine wpAny_bind (wpAny_pure ?_) | skip
  refine wpAny_bind (wpAny_sequenceKey ht.typeIs (by decide) ?_)
  refine wpAny_bind (wpAny_callSpecial?_slot (name := Str.ofString "__getitem__") ht.typeIs PyProof.Rows.slot_tuple_getitem
    (wpAny_call_entry PyProof.Rows.slot_tuple_getitem ht.typeIs entry_tuple_getitem ?_ (args_tuple_getitem _ _)))
  show wpAny _ _ (Builtin.Tuple.tupleItemsOf (.ref t) >>= _) _ _ s
  refine wpAny_bind (tupleItemsOf_ ht ?_)
  refine wpAny_bind (wpAny_typeOf hTs ?_)
  rw [if_pos (by decide)]
  refine wpAny_bind (sliceApplied_gen hs pl pu ?_)
  have hno : ¬ ((((sIx items.size 0 lo : Nat) : Int) == 0 && (1 : Int) == 1 && (sIx items.size items.size hi - sIx items.size 0 lo) == items.size) = true) := by
    intro q
    rw [Bool.and_eq_true, Bool.and_eq_true] at q
    have q1 : ((sIx items.size 0 lo : Nat) : Int) = 0 := eq_of_beq q.1.1
    have q2 : sIx items.size items.size hi - sIx items.size 0 lo = items.size := eq_of_beq q.2
    exact hw ⟨by omega, by omega⟩
  show wpAny _ _ (if (((sIx items.size 0 lo : Nat) : Int) == 0 && (1 : Int) == 1 && (sIx items.size items.size hi - sIx items.size 0 lo) == items.size) = true then _ else _) _ _ s
  rw [if_neg hno, wg]
  first
    | exact wpAny_bind (m := Builtin.Tuple.tupleExact _) (wpAny_newObj_type (wpAny_pure ⟨_, rfl, wpAny_pure h⟩) htake)
    | exact wpAny_bind (m := Builtin.Tuple.tupleExact _) (wpAny_newObj_type (wpAny_bind (wpAny_pure (wpAny_pure ⟨_, rfl, wpAny_pure h⟩))) htake)
    | exact wpAny_bind (wpAny_bind (m := Builtin.Tuple.tupleExact _) (wpAny_newObj_type (wpAny_pure (wpAny_pure ⟨_, rfl, wpAny_pure h⟩)) htake))
    | exact wpAny_bind (wpAny_bind (m := Builtin.Tuple.tupleExact _) (wpAny_newObj_type (wpAny_pure ⟨_, rfl, wpAny_pure h⟩) htake))
end
end HT

namespace L2
open PySem PySem.Spec PyProof.Rows

abbrev TO := St -> Hp -> (Option Int -> Hp -> Prop) -> Prop
def PO (X : Cx) (e : Option Expr) (t : TO) : Prop :=
  ∀ (pins : List (Addr × Obj)) (s : Shared) (σ : St) (H : Hp) (Q : Option Int -> Hp -> Prop), Inv X pins σ H s -> t σ H Q ->
    wpAny (model X.prog X.w) X.A (evalPart e X.env) (fun u s' => ∃ o H', Inv X pins σ H' s' /\ IsPart u o /\ Q o H') X.xe s
def yV : TO := fun _ H Q => Q none H
def Dq (t : TE) : TO := fun σ H Q => t σ H fun x H1 => ∃ i, x = .int i /\ Q (some i) H1

section
variable {X : Cx} {e : Expr} {te : TE} {lo hi : Option Expr} {tl th : TO} {pos p2 : Pos}

theorem Ah : PO X none yV := by
  intro pins s σ H Q I h
  rw [evalPart_none]
  exact wpAny_pure ⟨none, H, I, .none, h⟩
theorem zI (h : PE X e te) : PO X (some e) (Dq te) := by
  intro pins s σ H Q I hw
  rw [evalPart_some]
  refine thn (h pins s σ H _ I hw) fun u s1 ⟨x, H1, I1, r1, q1⟩ => ?_
  obtain ⟨i, rfl, q⟩ := q1
  obtain ⟨t, rfl⟩ := r1
  exact ⟨some i, H1, I1, .int i t, q⟩

def SlR (X : Cx) (r : V -> Option Int -> Option Int -> Hp -> VK -> Prop) : Prop :=
  ∀ (pins : List (Addr × Obj)) (s : Shared) (σ : St) (H : Hp) (x : V) (v vl vu : Value) (lo hi : Option Int) (sl : Addr) (Q : VK), Inv X pins σ H s -> RelV x v -> s.heap.IsSliceOf sl vl vu .none -> IsPart vl lo -> IsPart vu hi -> r x lo hi H Q ->
    ∃ T id, typeLookup (.type T) "__getitem__" = pure (some (.builtin id)) /\ s.TypeIs v T /\ wpAny (model X.prog X.w) X.A (getItem v (.ref sl)) (EP X pins σ Q) X.xe s
theorem SlR.or {r r' : V -> Option Int -> Option Int -> Hp -> VK -> Prop} (h : SlR X r) (h' : SlR X r') : SlR X (fun x lo hi H Q => r x lo hi H Q \/ r' x lo hi H Q) := by
  intro pins s σ H x v vl vu lo hi sl Q I rx hs pl pu q
  rcases q with q | q
  . exact h pins s σ H x v vl vu lo hi sl Q I rx hs pl pu q
  . exact h' pins s σ H x v vl vu lo hi sl Q I rx hs pl pu q
def tSl (r : V -> Option Int -> Option Int -> Hp -> VK -> Prop) (te : TE) (tl th : TO) : TE := fun σ H Q => te σ H fun x H1 => tl σ H1 fun l H2 => th σ H2 fun u H3 => r x l u H3 Q
theorem xk {r : V -> Option Int -> Option Int -> Hp -> VK -> Prop} (hr : SlR X r) (he : PE X e te) (hl : PO X lo tl) (hu : PO X hi th) : PE X (.Subscript e (.Slice lo hi none p2) pos) (tSl r te tl th) := by
  intro pins s σ H Q I h
  refine Subscript_ (thn (he pins s σ H _ I h) fun v s1 ⟨x, H1, I1, r1, q1⟩ => ?_)
  refine wpAny_Slice (thn (hl pins s1 σ H1 _ I1 q1) fun vl s2 ⟨l, H2, I2, pl, q2⟩ => thn (hu pins s2 σ H2 _ I2 q2) fun vu s3 ⟨u, H3, I3, pu, q3⟩ => ?_)
  rw [evalPart_none]
  refine wpAny_pure ?_
  have I4 : Inv X pins σ H3 { s3 with heap := s3.heap.push { cls := .type "slice", data := .fields #[vl, vu, .none] } } := I3.kept (t' := s3.toks) fun b ob q => Heap.get?_push_of_some _ q
  obtain ⟨T, id, hT, ht, hg⟩ := hr pins { s3 with heap := s3.heap.push { cls := .type "slice", data := .fields #[vl, vu, .none] } } σ H3 x v vl vu l u s3.heap.objs.size Q I4 r1 (Heap.IsSliceOf.new ..) pl pu q3
  show wpAny (model X.prog X.w) X.A (subscriptTail e (.Slice lo hi none p2) v (.ref s3.heap.objs.size)) (EP X pins σ Q) X.xe { s3 with heap := s3.heap.push { cls := .type "slice", data := .fields #[vl, vu, .none] } }
  exact tail_any (ops := [.ref s3.heap.objs.size, v]) ht hT hg (by with_unfolding_all rfl)

def yc (xs : List V) (lo hi : Option Int) : List V := (xs.drop (HT.sIx xs.length 0 lo)).take (HT.sIx xs.length xs.length hi - HT.sIx xs.length 0 lo)
theorem kr (xs : List V) (lo hi : Option Int) : (yc xs lo hi).length <= xs.length := by
  unfold yc
  rw [List.length_take, List.length_drop]
  omega
def Eh (K : PySem.W.Frag) : V -> Option Int -> Option Int -> Hp -> VK -> Prop := fun x lo hi H Q => ∃ a xs, x = .ref a /\ SqT K H a xs /\
  ¬ (HT.sIx xs.length 0 lo = 0 /\ HT.sIx xs.length xs.length hi = xs.length) /\ ∀ p, H p = none -> Q (.ref p) (upd H p (.tup (yc xs lo hi)))
theorem sl_tup : SlR X (Eh X.K) := by
  intro pins s σ H x v vl vu lo hi sl Q I rx hs pl pu h
  obtain ⟨a, xs, rfl, hx, hw, q⟩ := h
  cases rx
  obtain ⟨its, r, ht, hz⟩ := I.tuple hx
  have hlen : its.toArray.size = xs.length := by rw [List.size_toArray]; exact r.length.symm
  refine ⟨"tuple", _, PyProof.Rows.slot_tuple_getitem.lookup, ht.typeIs, ?_⟩
  refine HT.getItem_tuple_cut ht hs pl pu (by rw [hlen]; exact hw) ?_ (by rw [hlen]; exact hz)
  rw [hlen]
  refine ⟨.ref s.heap.objs.size, _, I.laid (t' := s.toks) (o := .tup (yc xs lo hi)) (fun b ob q => Heap.get?_push_of_some _ q) (Nat.le_refl _) ?_, rfl, q _ (I.hok.fresh (Nat.le_refl _))⟩
  exact ⟨Nat.le_trans (kr xs lo hi) hz, _, (r.drop (HT.sIx xs.length 0 lo)).take (HT.sIx xs.length xs.length hi - HT.sIx xs.length 0 lo), IsTup.new _ _⟩

def DL (K : PySem.W.Frag) : R2 := fun x y H Q => ∃ a b xs ys, x = .ref a /\ y = .ref b /\ SqT K H a xs /\ SqT K H b ys /\ xs ≠ [] /\ xs.length + ys.length <= sizeLine /\
  (ys = [] -> Q (.ref a) H) /\ (ys ≠ [] -> ∀ p, H p = none -> Q (.ref p) (upd H p (.tup (xs ++ ys))))
theorem Vals.nil_iff {xs : List V} {us : List Value} (r : Vals xs us) : us = [] ↔ xs = [] := by
  cases r with
  | nil => simp
  | cons _ _ => simp
theorem zL : OpR X (binaryOp .Add) (DL X.K) := by
  intro pins s σ H x y v u Q I rx ry h
  obtain ⟨a, b, xs, ys, rfl, rfl, ha, hb, hx, hz, q1, q2⟩ := h
  cases rx
  cases ry
  obtain ⟨its, r1, p1, _⟩ := I.tuple ha
  obtain ⟨its2, r2, p2, _⟩ := I.tuple hb
  refine HT.cat_tup p1 p2 (fun z => hx (r1.nil_iff.mp z)) (fun z => ⟨.ref a, H, I, rfl, q1 (r2.nil_iff.mp z)⟩) (fun z => ?_) (by rw [<- r1.length, <- r2.length]; exact hz)
  refine ⟨.ref s.heap.objs.size, _, I.laid (t' := s.toks) (o := .tup (xs ++ ys)) (fun b ob q => Heap.get?_push_of_some _ q) (Nat.le_refl _) ?_, rfl, q2 (fun w => z (r2.nil_iff.mpr w)) _ (I.hok.fresh (Nat.le_refl _))⟩
  exact ⟨by rw [List.length_append]; exact hz, _, r1.append r2, IsTup.new _ _⟩
end
end L2

namespace L2
open PySem PySem.Spec PyProof.Rows

def ixN (n : Nat) (i : Int) : Option Nat := if 0 <= i then (if i < n then some i.toNat else none) else if -(n : Int) <= i then some (i + n).toNat else none
def atI {α : Type} (xs : List α) (i : Int) : Option α := (ixN xs.length i).bind fun j => xs[j]?
theorem uU {n : Nat} {i : Int} {j : Nat} (h : ixN n i = some j) : seqIndex? i n = some j /\ j < n /\ -(n : Int) <= i /\ i < n := by
  unfold ixN at h
  by_cases h0 : 0 <= i
  . rw [if_pos h0] at h
    by_cases h1 : i < n
    . rw [if_pos h1] at h
      have e : i.toNat = j := Option.some.inj h
      exact ⟨by rw [seqIndex_of h0 h1, e], by omega, by omega, h1⟩
    . rw [if_neg h1] at h; cases h
  . rw [if_neg h0] at h
    by_cases h1 : -(n : Int) <= i
    . rw [if_pos h1] at h
      have e : (i + n).toNat = j := Option.some.inj h
      exact ⟨by rw [seqIndex_neg (by omega) h1, e], by omega, h1, by omega⟩
    . rw [if_neg h1] at h; cases h
theorem qj {α : Type} {xs : List α} {i : Int} {v : α} (h : atI xs i = some v) : ∃ j, seqIndex? i xs.length = some j /\ xs[j]? = some v /\ j < xs.length /\ -(xs.length : Int) <= i /\ i < xs.length := by
  unfold atI at h
  cases e : ixN xs.length i with
  | none => rw [e] at h; cases h
  | some j =>
    rw [e] at h
    obtain ⟨h1, h2, h3, h4⟩ := uU e
    exact ⟨j, h1, h, h2, h3, h4⟩
theorem uJ {α : Type} {xs : List α} {j : Nat} {v : α} (h : xs[j]? = some v) : atI xs (j : Int) = some v := by
  have hj : j < xs.length := (List.getElem?_eq_some_iff.mp h).1
  have e : ixN xs.length (j : Int) = some j := by
    unfold ixN
    rw [if_pos (by omega), if_pos (by omega)]; simp
  unfold atI; rw [e]; exact h
def ju (b : Expr) : Prop := ∀ o i, subscripted b false o i = operate [o, i] (getItem o i)
def IxR (X : Cx) (r : R2) : Prop :=
  ∀ (value slice : Expr) (pins : List (Addr × Obj)) (s : Shared) (σ : St) (H : Hp) (x y : V) (v u : Value) (Q : VK), Inv X pins σ H s -> RelV x v -> RelV y u -> r x y H Q ->
    subscripted slice false v u = operate [v, u] (getItem v u) -> wpAny (model X.prog X.w) X.A (subscriptTail value slice v u) (EP X pins σ Q) X.xe s
def MtR (X : Cx) (id : String) (r : V -> List V -> Hp -> VK -> Prop) : Prop :=
  ∀ (pins : List (Addr × Obj)) (s : Shared) (σ : St) (H : Hp) (x : V) (xs : List V) (v : Value) (us : List Value) (Q : VK), Inv X pins σ H s -> RelV x v -> Vals xs us -> r x xs H Q ->
    wpAny (model X.prog X.w) X.A (call (.builtin id) (v :: us)) (EP X pins σ Q) X.xe s
section
variable {X : Cx} {a b : Expr} {ta tb : TE} {pos : Pos}
theorem IxR.or {r r' : R2} (h : IxR X r) (h' : IxR X r') : IxR X (fun x y H Q => r x y H Q \/ r' x y H Q) := by
  intro value slice pins s σ H x y v u Q I rx ry q hs
  rcases q with q | q
  . exact h value slice pins s σ H x y v u Q I rx ry q hs
  . exact h' value slice pins s σ H x y v u Q I rx ry q hs
theorem B8 {r : R2} (hr : IxR X r) (ha : PE X a ta) (hb : PE X b tb) (hs : ju b) : PE X (.Subscript a b pos) (tOp r ta tb) := by
  intro pins s σ H Q I h
  exact Subscript_ (DU ha hb I h fun v u s2 x y H2 I2 rx ry q => hr a b pins s2 σ H2 x y v u Q I2 rx ry q (hs _ _))

def CU (K : PySem.W.Frag) : R2 := fun x y H Q => ∃ p xs i v, x = .ref p /\ y = .int i /\ SqL K H p xs /\ atI xs i = some v /\ Q v H
def El (K : PySem.W.Frag) : R2 := fun x y H Q => ∃ p xs i v, x = .ref p /\ y = .int i /\ SqT K H p xs /\ atI xs i = some v /\ Q v H
def Ei : R2 := fun x y H Q => ∃ z i c, x = .str z /\ y = .int i /\ z.length <= sizeLine /\ atI z.cps.toList i = some c /\ Q (.str ⟨#[c]⟩) H
theorem ix_list : IxR X (CU X.K) := by
  intro value slice pins s σ H x y v u Q I rx ry h hs
  obtain ⟨p, xs, i, z, rfl, rfl, hq, he, q⟩ := h
  cases rx
  obtain ⟨t, rfl⟩ := ry
  obtain ⟨its, r, pl, hz⟩ := I.list hq
  obtain ⟨j, h1, h2, h3, h4, h5⟩ := qj he
  obtain ⟨w, ew, rw'⟩ := r.get h2
  have hl := r.length
  have hn := ku
  have fin : EP X pins σ Q w s := ⟨z, H, I, rw', q⟩
  by_cases h0 : 0 <= i
  . have hj : i.toNat = j := by
      rw [seqIndex_of h0 h5] at h1
      exact Option.some.inj h1
    exact item_listR pl.isList h0 (by omega) (by rw [hj]; simpa using ew) fin hs
  . have hj : (i + (its.toArray.size : Int)).toNat = j := by
      rw [seqIndex_neg (by omega) h4] at h1
      rw [List.size_toArray, <- hl]
      exact Option.some.inj h1
    exact subscriptTail_builtinR (x := w) pl.isList.typeIs slot_list_getitem.lookup
      (wpAny_getItem_list_neg (Q := fun r s' => r = w /\ EP X pins σ Q r s') pl.isList (by omega) (by rw [List.size_toArray] <;> omega) (by omega) (by rw [hj]; simpa using ew) ⟨rfl, fin⟩) hs
theorem ix_tup : IxR X (El X.K) := by
  intro value slice pins s σ H x y v u Q I rx ry h hs
  obtain ⟨p, xs, i, z, rfl, rfl, hq, he, q⟩ := h
  cases rx
  obtain ⟨t, rfl⟩ := ry
  obtain ⟨its, r, pl, hz⟩ := I.tuple hq
  obtain ⟨j, h1, h2, h3, h4, h5⟩ := qj he
  obtain ⟨w, ew, rw'⟩ := r.get h2
  have hl := r.length
  have hn := ku
  have fin : EP X pins σ Q w s := ⟨z, H, I, rw', q⟩
  exact subscriptTail_builtinR (x := w) pl.typeIs slot_tuple_getitem.lookup
    (getItem_tuple (j := j) (Q := fun r s' => r = w /\ EP X pins σ Q r s') pl (by omega) (by omega) (by rw [List.size_toArray, <- hl]; exact h1) (by simpa using ew) ⟨rfl, fin⟩) hs
theorem Bk : IxR X Ei := by
  intro value slice pins s σ H x y v u Q I rx ry h hs
  obtain ⟨z, i, c, rfl, rfl, hz, he, q⟩ := h
  obtain ⟨t, rfl⟩ := rx
  obtain ⟨t', rfl⟩ := ry
  obtain ⟨j, h1, h2, h3, h4, h5⟩ := qj he
  have hl : z.cps.toList.length = z.length := by simp [Str.length]
  rw [hl] at h1 h4 h5
  have hn := ku
  exact tail_any (typeIs_str s z t) slot_str_getitem.lookup (getItem_str (c := c) (by
    have e1 : decide (i < -(2 ^ 63 : Int)) = false := decide_eq_false (by omega)
    have e2 : decide (i ≥ 2 ^ 63) = false := decide_eq_false (by omega)
    rw [e1, e2, Bool.or_false]) (by rw [h1]; simpa using h2) ⟨.str ⟨#[c]⟩, H, I.tok _, ⟨_, rfl⟩, q⟩) hs
def rIx (K : PySem.W.Frag) : R2 := fun x y H Q => CU K x y H Q \/ El K x y H Q \/ Ei x y H Q
theorem B9 : IxR X (rIx X.K) := ix_list.or (ix_tup.or Bk)

theorem rL (its : List Value) (n j : Nat) (u : Value) : Obj.mapSeq (·.setIfInBounds j u) { cls := .type "list", data := .seq its.toArray n } = { cls := .type "list", data := .seq (its.set j u).toArray n } := by
  simp [Obj.mapSeq]
theorem Inv.lst {pins : List (Addr × Obj)} {σ : St} {H : Hp} {s : Shared} {p : Addr} {xs : List V} (I : Inv X pins σ H s) (h : H p = some (.lst xs)) :
    ∃ (its : List Value) (n : Nat), Vals xs its /\ s.heap.get? p = some { cls := .type "list", data := .seq its.toArray n } /\ xs.length <= sizeLine := by
  obtain ⟨z, its, n, r, e⟩ := I.hok p _ h
  exact ⟨its, n, r, e, z⟩
theorem Inv.lstUpd {pins : List (Addr × Obj)} {σ : St} {H : Hp} {s : Shared} {p : Addr} {xs ys : List V} {its its' : List Value} {n n' : Nat} {f : Obj -> Obj} (I : Inv X pins σ H s) (h : H p = some (.lst xs))
    (ho : s.heap.get? p = some { cls := .type "list", data := .seq its.toArray n }) (hf : f { cls := .type "list", data := .seq its.toArray n } = { cls := .type "list", data := .seq its'.toArray n' }) (r : Vals ys its') (hz : ys.length <= sizeLine) (t : Nat) :
    Inv X pins σ (upd H p (.lst ys)) { s with heap := s.heap.update p f, toks := t } := by
  have e : (s.heap.update p f).get? p = some { cls := .type "list", data := .seq its'.toArray n' } := by
    rw [Heap.get?_update_self f ho (by rw [hf] <;> rfl), hf]
  refine I.write (x := p) (e := p) (by rw [h]; trivial) (.inl rfl) (fun b u hb q => (Heap.get?_update_other _ _ (Ne.symm hb)).trans q) ⟨_, e⟩ ?_
  exact ⟨hz, its', n', r, e⟩
def Dp : V -> V -> V -> Hp -> (Hp -> Prop) -> Prop := fun o i v H Q => ∃ p xs k j, o = .ref p /\ i = .int k /\ H p = some (.lst xs) /\ ixN xs.length k = some j /\ Q (upd H p (.lst (xs.set j v)))
theorem xj : Ee X Dp := by
  intro pins s σ H o i v ov iv u Q I ro ri rv h
  obtain ⟨p, xs, k, j, rfl, rfl, hp, hj, q⟩ := h
  cases ro
  obtain ⟨t, rfl⟩ := ri
  obtain ⟨its, n, r, ho, hz⟩ := I.lst hp
  obtain ⟨h1, h2, h3, h4⟩ := uU hj
  have hl := r.length
  have hn := ku
  have I' : Inv X pins σ (upd H p (.lst (xs.set j v))) { s with heap := s.heap.update p (Obj.mapSeq (·.setIfInBounds j u)) } :=
    I.lstUpd hp ho (rL its n j u) (r.set rv j) (by rw [List.length_set]; exact hz) s.toks
  by_cases h0 : 0 <= k
  . have hk : k.toNat = j := by
      rw [seqIndex_of h0 h4] at h1
      exact Option.some.inj h1
    exact PySem.W.ki_setAt ho h0 (by omega) (by rw [List.size_toArray, <- hl]; exact h4) (by rw [hk]; exact ⟨_, I', q⟩)
  . have hk : (k + (its.toArray.size : Int)).toNat = j := by
      rw [seqIndex_neg (by omega) h3] at h1
      rw [List.size_toArray, <- hl]
      exact Option.some.inj h1
    exact PySem.W.ki_setBack ho (by omega) (by rw [List.size_toArray, <- hl]; exact h3) (by omega) (by rw [hk]; exact ⟨_, I', q⟩)

theorem oi (lo hi : Option Int) (n : Nat) : (sliceBounds lo hi none n).1 = ((HT.sIx n 0 lo : Nat) : Int) /\ (sliceBounds lo hi none n).2.1 = ((HT.sIx n n hi : Nat) : Int) /\ (sliceBounds lo hi none n).2.2 = 1 := by
  refine ⟨?_, ?_, rfl⟩
  . cases lo with
    | none => simp [sliceBounds, HT.sIx]
    | some i =>
      simp only [sliceBounds, HT.sIx, Option.getD_none, show (1 : Int) > 0 by decide, if_true]
      by_cases h : i < 0
      . simp only [h, if_true] <;> omega
      . simp only [h, if_false] <;> omega
  . cases hi with
    | none => simp [sliceBounds, HT.sIx]
    | some i =>
      simp only [sliceBounds, HT.sIx, Option.getD_none, show (1 : Int) > 0 by decide, if_true]
      by_cases h : i < 0
      . simp only [h, if_true] <;> omega
      . simp only [h, if_false] <;> omega
theorem mW (its : List Value) (lo hi : Option Int) : slicePick its.toArray lo hi none = ((its.drop (HT.sIx its.length 0 lo)).take (HT.sIx its.length its.length hi - HT.sIx its.length 0 lo)).toArray := by
  obtain ⟨h1, h2, h3⟩ := oi lo hi its.toArray.size
  unfold slicePick
  rw [h1, h2, h3]
  simp only [sliceRange_one, pick_run, List.size_toArray] <;> rfl
def Eu (K : PySem.W.Frag) : V -> Option Int -> Option Int -> Hp -> VK -> Prop := fun x lo hi H Q => ∃ a xs, x = .ref a /\ SqL K H a xs /\ ∀ p, H p = none -> Q (.ref p) (upd H p (.lst (yc xs lo hi)))
theorem zo : SlR X (Eu X.K) := by
  intro pins s σ H x v vl vu lo hi sl Q I rx hs pl pu h
  obtain ⟨a, xs, rfl, hx, q⟩ := h
  cases rx
  obtain ⟨its, r, ht, hz⟩ := I.list hx
  have hlen := r.length
  refine ⟨"list", _, slot_list_getitem.lookup, ht.isList.typeIs, ?_⟩
  refine wpAny_getItem_list_slice ht.isList hs pl pu .none (by simp) ?_ (by rw [List.size_toArray] <;> omega)
  rw [mW, <- hlen]
  refine ⟨.ref s.heap.objs.size, _, I.laid (t' := s.toks) (o := .lst (yc xs lo hi)) (fun b ob q => Heap.get?_push_of_some _ q) (Nat.le_refl _) ?_, rfl, q _ (I.hok.fresh (Nat.le_refl _))⟩
  exact ⟨Nat.le_trans (kr xs lo hi) hz, _, 0, (r.drop (HT.sIx xs.length 0 lo)).take (HT.sIx xs.length xs.length hi - HT.sIx xs.length 0 lo), Heap.get?_push_size _ rfl⟩

theorem zQz9 : ic X (.type "tuple") (fun xs H Q => ∃ p ys, xs = [.ref p] /\ ((SqL X.K H p ys /\ ∀ l, H l = none -> Q (.ref l) (upd H l (.tup ys))) \/ (SqT X.K H p ys /\ Q (.ref p) H))) := by
  intro pins s σ H xs us Q I r h
  obtain ⟨p, ys, rfl, h⟩ := h
  obtain ⟨u, rfl, rx⟩ := yZ r
  cases rx
  rcases h with ⟨hq, q⟩ | ⟨hq, q⟩
  . obtain ⟨its, r', pl, hz⟩ := I.list hq
    have hlen := r'.length
    refine call_tuple_list pl.isList (fun h' kp => ?_) (by simp only [List.size_toArray] <;> omega)
    have I1 : Inv X pins σ H { s with heap := h' } := I.kept (t' := s.toks) kp
    have I2 : Inv X pins σ (upd H h'.objs.size (.tup ys)) { s with heap := h'.push { cls := .type "tuple", data := .seq its.toArray } } :=
      I1.laid (t' := s.toks) (fun b o e => Heap.get?_push_of_some _ e) (Nat.le_refl _) (show ObjOk X.prog X.w _ _ _ (.tup ys) from ⟨hz, its, r', IsTup.new _ _⟩)
    exact ⟨.ref h'.objs.size, _, I2, rfl, q _ (I1.hok.fresh (Nat.le_refl _))⟩
  . obtain ⟨its, r', pl, hz⟩ := I.tuple hq
    exact call_tuple_same pl ⟨.ref p, H, I, rfl, q⟩

def tyV (K : PySem.W.Frag) (T : String) (x : V) (H : Hp) : Prop := match x with
  | .str _ => T = "str"
  | .int _ => T = "int"
  | .ref p => (T = "list" /\ ∃ xs, SqL K H p xs) \/ (T = "tuple" /\ ∃ o, K.lookup p = some o /\ o.cls = .type "tuple" /\ o.dict = none) \/
      (T = "dict" /\ ((∃ kvs, H p = some (.dK kvs)) \/ ∃ kvs, H p = some (.dT kvs))) \/ (T = "set" /\ ∃ S n, H p = some (.set S n))
  | _ => False
theorem BQ {pins : List (Addr × Obj)} {σ : St} {H : Hp} {s : Shared} {T : String} {x : V} {v : Value} (I : Inv X pins σ H s) (r : RelV x v) (ty : tyV X.K T x H) :
    s.TypeIs v T /\ ∀ a, v = .ref a -> ∃ ob, s.heap.get? a = some ob /\ ob.dict = none := by
  cases x with
  | str z =>
    obtain ⟨t, rfl⟩ := r
    cases (show T = "str" from ty)
    exact ⟨typeIs_str s z t, fun _ e => nomatch e⟩
  | int i =>
    obtain ⟨t, rfl⟩ := r
    cases (show T = "int" from ty)
    exact ⟨typeIs_int s i t, fun _ e => nomatch e⟩
  | ref p =>
    cases r
    rcases ty with ⟨rfl, xs, hq⟩ | ⟨rfl, o, hk, hc, hd⟩ | ⟨rfl, hk⟩ | ⟨rfl, S, n, hk⟩
    . obtain ⟨its, _, pl, _⟩ := I.list hq
      refine ⟨pl.isList.typeIs, fun a e => ?_⟩
      cases e
      obtain ⟨o, n, e, c, hd, _⟩ := pl
      exact ⟨o, e, hd⟩
    . refine ⟨⟨o, I.kIn p o hk, hc⟩, fun a e => ?_⟩
      cases e
      exact ⟨o, I.kIn _ o hk, hd⟩
    . have z : ∃ o, s.heap.get? p = some o /\ o.ExactDict := by
        rcases hk with ⟨kvs, hk⟩ | ⟨kvs, hk⟩
        . obtain ⟨_, _, _, _, o, _, _, e, ex, _⟩ := I.hok p _ hk
          exact ⟨o, e, ex⟩
        . obtain ⟨_, _, _, _, o, _, _, e, ex, _⟩ := I.hok p _ hk
          exact ⟨o, e, ex⟩
      obtain ⟨o, e, ex⟩ := z
      refine ⟨⟨o, e, ex.1⟩, fun a e2 => ?_⟩
      cases e2
      exact ⟨o, e, ex.2.1⟩
    . obtain ⟨o, _, _, _, e, ex, _⟩ := I.hok p _ hk
      refine ⟨⟨o, e, ex.1⟩, fun a e2 => ?_⟩
      cases e2
      exact ⟨o, e, ex.2.1⟩
  | _ => exact False.elim ty
def tBM (K : PySem.W.Frag) (T : String) (r : V -> List V -> Hp -> VK -> Prop) (to : TE) (t : TA) : TE := fun σ H Q => to σ H fun x H1 => tyV K T x H1 /\ t σ H1 fun xs H2 => r x xs H2 Q
variable {o e : Expr} {es : List Expr} {to : TE} {t : TA} {name : Str} {apos cpos : Pos} {T id : String} {r : V -> List V -> Hp -> VK -> Prop}
theorem wo (pa : PlainAttrs T) (slot : Slot T name id) (hty : typeOf (.builtin id) = pure (.type "method_descriptor")) (hm : MtR X id r) (ho : PE X o to) (ha : PA X (e :: es) t)
    (hbase : attributeBase o name X.env (eval o X.env) = eval o X.env := by rfl)
    (hfew : ((backTo cpos (starEach (e :: es) X.env)).all (fun x => !x.1) && (backToKw cpos (keywordEach [] X.env)).all (fun x => x.1.isSome)
      && decide ((e :: es).length + ([] : List Keyword).length + (if ([] : List Keyword).isEmpty then 0 else 1) < 30)) = true := by rfl)
    (hline : (apos.endLine == cpos.line) = true := by rfl) (hs : starEach (e :: es) X.env = (false, eval e X.env) :: starEach es X.env := by rfl) (hplain : (backTo cpos (starEach es X.env)).any (·.1) = false := by rfl) :
    PE X (.Call (.Attribute o name apos) (e :: es) [] cpos) (tBM X.K T r to t) := by
  intro pins s σ H Q I h
  refine wpAny_Call_method_late hbase hfew hline rfl (thn (ho pins s σ H _ I h) fun v s1 ⟨x, H1, I1, r1, ty, q1⟩ => ?_)
  obtain ⟨h1, h2⟩ := BQ I1 r1 ty
  refine ⟨T, id, pa, slot, hty, h1, h2, ?_⟩
  have hA := ha cpos pins s1 σ H1 _ I1 q1
  rw [hs] at hA ⊢
  refine Calls.callWith_builtin (by show (false || (backTo cpos (starEach es X.env)).any (·.1)) = false; rw [hplain] <;> rfl) (Calls.evalArgs_plain ?_)
  exact thn hA fun us s2 ⟨vs, H2, I2, r2, q2⟩ => hm pins s2 σ H2 x vs v us Q I2 r1 r2 q2
/- xs.append(e), list.index on a module's tuple .. are MtR facts of 06m -/
end
end L2

namespace L2
open PySem PySem.Spec PyProof.Rows

def MtM (X : Cx) (id : String) (r : V -> List V -> Hp -> VK -> Prop) : Prop :=
  ∀ (pins : List (Addr × Obj)) (s : Shared) (σ : St) (H : Hp) (x : V) (xs : List V) (v : Value) (us : List Value) (Q : VK), Inv X pins σ H s -> RelV x v -> Vals xs us -> r x xs H Q ->
    wpAny (model X.prog X.w) X.A (call (.builtin id) (v :: us)) (EP X pins σ Q) X.xe s

theorem Vals.one : ∀ {x : V} {us : List Value}, Vals [x] us -> ∃ u, us = [u] /\ RelV x u
  | _, _, .cons r .nil => ⟨_, rfl, r⟩
theorem Vals.two : ∀ {x y : V} {us : List Value}, Vals [x, y] us -> ∃ u v, us = [u, v] /\ RelV x u /\ RelV y v
  | _, _, _, .cons r (.cons q .nil) => ⟨_, _, rfl, r, q⟩
theorem Vals.rep {xs : List V} {us : List Value} (h : Vals xs us) : ∀ k : Nat, Vals (List.replicate k xs).flatten (List.replicate k us).flatten
  | 0 => .nil
  | k + 1 => by
    rw [List.replicate_succ, List.replicate_succ, List.flatten_cons, List.flatten_cons]
    exact Vals.append h (Vals.rep h k)
theorem ie (its : List Value) : ∀ (k : Nat) (acc : List Value),
    List.foldl (fun x1 x2 => x1 ++ x2) acc.toArray (List.replicate k its.toArray) = (acc ++ (List.replicate k its).flatten).toArray
  | 0, acc => by simp
  | k + 1, acc => by
    have e : acc.toArray ++ its.toArray = (acc ++ its).toArray := by simp
    have e2 : (acc ++ its) ++ (List.replicate k its).flatten = acc ++ (List.replicate (k + 1) its).flatten := by
      rw [List.replicate_succ, List.flatten_cons, List.append_assoc]
    rw [<- e2, <- ie its k (acc ++ its), <- e, List.replicate_succ, List.foldl_cons]

section
variable {X : Cx} {pins : List (Addr × Obj)} {σ : St} {H : Hp} {s : Shared} {l b : Addr} {xs ys zs : List V}

theorem Inv.lset {its its' : List Value} {n : Nat} {f : Array Value -> Array Value} {t' : Nat} (I : Inv X pins σ H s) (hH : H l = some (.lst xs))
    (e : s.heap.get? l = some { cls := .type "list", data := .seq its.toArray n }) (hf : f its.toArray = its'.toArray) (hv : Vals ys its') (hz : ys.length <= sizeLine) :
    Inv X pins σ (upd H l (.lst ys)) { s with heap := s.heap.update l (Obj.mapSeq f), toks := t' } := by
  have q := PySem.IsL.update e f
  rw [hf] at q
  refine I.write (x := l) (e := l) (by rw [hH]; exact trivial) (.inl rfl) (fun b' u hb hu => (Heap.get?_update_other s.heap (Obj.mapSeq f) (Ne.symm hb)).trans hu) ⟨_, q⟩ ?_
  exact ⟨hz, its', _, hv, q⟩
theorem Inv.lnew {its : List Value} {t' : Nat} (I : Inv X pins σ H s) (hv : Vals ys its) (hz : ys.length <= sizeLine) :
    Inv X pins σ (upd H s.heap.objs.size (.lst ys)) { s with heap := s.heap.push { cls := .type "list", data := .seq its.toArray }, toks := t' } :=
  I.laid (fun _ _ q => Heap.get?_push_of_some _ q) (Nat.le_refl _) ⟨hz, its, 0, hv, Heap.get?_push_size _ rfl⟩
theorem Inv.fresh (I : Inv X pins σ H s) : H s.heap.objs.size = none := I.hok.fresh (Nat.le_refl _)
theorem Inv.lstM (I : Inv X pins σ H s) (hH : H l = some (.lst xs)) : xs.length <= sizeLine /\ ∃ (its : List Value) (n : Nat), Vals xs its /\ xs.length = its.length /\ s.heap.get? l = some { cls := .type "list", data := .seq its.toArray n } := by
  obtain ⟨z, its, n, r, e⟩ := I.hok l _ hH
  exact ⟨z, its, n, r, r.length, e⟩

theorem qY {n : Nat} (h : n <= sizeLine) : Builtin.List.listTooLong n = false := by
  unfold Builtin.List.listTooLong
  exact decide_eq_false (by omega)
end

section
variable {X : Cx}

def zP : V -> List V -> Hp -> VK -> Prop := fun x vs H Q => ∃ l xs y, x = .ref l /\ vs = [y] /\ H l = some (.lst xs) /\ xs.length < sizeLine /\ Q .non (upd H l (.lst (xs ++ [y])))
theorem kO : MtM X "list.append" zP := by
  intro pins s σ H x vs v us Q I rx rv h
  obtain ⟨l, xs, y, rfl, rfl, hH, hz, q⟩ := h
  cases rx
  obtain ⟨u, rfl, ru⟩ := rv.one
  obtain ⟨z, its, n, r, hl, e⟩ := I.lstM hH
  refine call_meets F.slot_list_append ⟨_, e, rfl⟩ F.entry_list_append (F.args_list_append_2 _ _) (PySem.list_append l its.toArray n u (by rw [List.size_toArray]; omega)) ⟨e, ?_⟩
  refine ⟨.non, _, I.lset (its' := its ++ [u]) hH e (by simp) (r.append (.cons ru .nil)) ?_, rfl, q⟩
  rw [List.length_append, List.length_singleton]
  omega

def yN : V -> List V -> Hp -> VK -> Prop := fun x vs H Q => ∃ l b xs zs, x = .ref l /\ vs = [.ref b] /\ H l = some (.lst xs) /\ H b = some (.lst zs) /\ xs.length + zs.length <= sizeLine /\ Q .non (upd H l (.lst (xs ++ zs)))
theorem uo : MtM X "list.extend" yN := by
  intro pins s σ H x vs v us Q I rx rv h
  obtain ⟨l, b, xs, zs, rfl, rfl, hH, hB, hz, q⟩ := h
  cases rx
  obtain ⟨u, rfl, ru⟩ := rv.one
  cases ru
  obtain ⟨z, its, n, r, hl, e⟩ := I.lstM hH
  obtain ⟨z2, its2, n2, r2, hl2, e2⟩ := I.lstM hB
  have hsz : its.toArray.size + its2.toArray.size <= sizeLine := by rw [List.size_toArray, List.size_toArray]; omega
  have hlong : ¬ (!its.toArray.isEmpty && Builtin.List.listTooLong (its.toArray.size + its2.toArray.size)) = true := by
    rw [qY hsz, Bool.and_false]
    exact Bool.false_ne_true
  refine call_meets F.slot_list_extend ⟨_, e, rfl⟩ F.entry_list_extend (F.args_list_extend_2 _ _)
    (AutoSeq1.list_extend_list_list_0 l its.toArray n b its2.toArray n2 hlong (by rw [List.size_toArray]; omega) (by omega)) ⟨e, e2, ?_⟩
  refine ⟨.non, _, I.lset (its' := its ++ its2) hH e (by simp) (r.append r2) ?_, rfl, q⟩
  rw [List.length_append]
  omega

def Ew : R2 := fun x y H Q => ∃ l b xs zs, x = .ref l /\ y = .ref b /\ H l = some (.lst xs) /\ H b = some (.lst zs) /\ xs.length + zs.length <= sizeLine /\ ∀ p, H p = none -> Q (.ref p) (upd H p (.lst (xs ++ zs)))
theorem op_cat : OpR X (binaryOp .Add) Ew := by
  intro pins s σ H x y v u Q I rx ry h
  obtain ⟨l, b, xs, zs, rfl, rfl, hH, hB, hz, q⟩ := h
  cases rx
  cases ry
  obtain ⟨z, its, n, r, hl, e⟩ := I.lstM hH
  obtain ⟨z2, its2, n2, r2, hl2, e2⟩ := I.lstM hB
  refine PySem.P.add_list e e2 ?_ (by rw [List.size_toArray, List.size_toArray]; omega)
  have ea : its.toArray ++ its2.toArray = (its ++ its2).toArray := by simp
  rw [ea]
  exact ⟨.ref _, _, I.lnew (t' := s.toks) (r.append r2) (by rw [List.length_append]; omega), rfl, q _ I.fresh⟩
def Eb : R2 := fun x y H Q => ∃ l k xs, x = .ref l /\ y = .int k /\ H l = some (.lst xs) /\ -(2 ^ 63) <= k /\ k < 2 ^ 63 /\ xs.length * k.toNat <= sizeLine /\
  ∀ p, H p = none -> Q (.ref p) (upd H p (.lst (List.replicate k.toNat xs).flatten))
theorem nh {α : Type} (xs : List α) (k : Nat) : (List.replicate k xs).flatten.length = k * xs.length := by
  induction k with
  | zero => simp
  | succ k ih => rw [List.replicate_succ, List.flatten_cons, List.length_append, ih, Nat.succ_mul, Nat.add_comm]
theorem Cq : OpR X (binaryOp .Mult) Eb := by
  intro pins s σ H x y v u Q I rx ry h
  obtain ⟨l, k, xs, rfl, rfl, hH, h1, h2, hz, q⟩ := h
  cases rx
  obtain ⟨t, rfl⟩ := ry
  obtain ⟨z, its, n, r, hl, e⟩ := I.lstM hH
  have hlen : its.toArray.size * k.toNat <= sizeLine := by rw [List.size_toArray, <- hl]; exact hz
  have hcap : ¬ its.toArray.size * k.toNat > (2 ^ 63 - 1) / 8 := by
    have : (sizeLine : Nat) <= (2 ^ 63 - 1) / 8 := by decide
    omega
  have hfit : ¬ (!Builtin.List.listFitsIndex k) = true := by
    rw [fitsIndex_both h1 h2]
    exact Bool.false_ne_true
  have hlong : ¬ Builtin.List.listTooLong (its.toArray.size * k.toNat) = true := by
    rw [qY hlen]
    exact Bool.false_ne_true
  have hnew : List.foldl (fun x1 x2 => x1 ++ x2) #[] (List.replicate (if its.toArray.isEmpty = true then 0 else k.toNat) its.toArray) = (List.replicate k.toNat its).flatten.toArray := by
    have f0 : ∀ m : Nat, List.foldl (fun x1 x2 => x1 ++ x2) #[] (List.replicate m its.toArray) = (List.replicate m its).flatten.toArray := fun m => by
      have := ie its m []
      rw [List.nil_append] at this
      exact this
    rw [f0]
    cases its with
    | nil => simp
    | cons a r' => rw [if_neg (by simp)]
  refine wpAny_binaryOp_repeat_ref (T := "list") (U := "int") (by decide) ⟨_, e, rfl⟩ (fun s' => typeIs_int s' k t) noFill_list_mul F.fills_int_mul F.slot_int_rmul repeat_list F.slot_int_index.lookup
    (call_meets F.slot_int_rmul (typeIs_int s k t) F.entry_int_rmul (F.args_int_rmul_2 _ _) (int___rmul___int_list k t l its.toArray n)
      ⟨e, rfl, ⟨_, e, rfl⟩, call_meets F.slot_list_mul ⟨_, e, rfl⟩ F.entry_list_mul (F.args_list_mul_2 _ _) (AutoListH.list___mul___list_int_3 l its.toArray n k t hfit hcap hlong) ⟨e, ?_⟩⟩)
  rw [hnew]
  exact ⟨.ref _, _, I.lnew (t' := s.toks) (r.rep k.toNat) (by rw [nh, Nat.mul_comm]; exact hz), rfl, q _ I.fresh⟩

end

section
variable {prog : Program} {w : World} {A : Around} {E : Value -> Shared -> Prop} {s : Shared}
end

section
variable {X : Cx}
end
end L2

namespace Att
open PySem PySem.W PySem.Calls PyProof.Rows

theorem jB {P : Params} {h : Heap} : ∀ (ns : List Int) (vs : List Value), WellAll P h vs (ns.map WData.int) -> IntsAre vs ns := by
  intro ns
  induction ns with
  | nil =>
    intro vs w
    rw [List.map_nil] at w
    cases w
    exact .nil
  | cons n ns ih =>
    intro vs w
    rw [List.map_cons] at w
    cases w with
    | cons a b =>
      cases a
      exact .cons _ _ (ih _ b)

theorem ub {l : OpenLaw} {n : Nat} (hn : l.most = some n) {P : Params} {h : Heap} {args : List WData} {vals : List Value}
    (hpre : l.row.toRowW.claim.pre args = true) (hwl : WellAll P h vals args) :
    ∃ a vs ns, vals = [Value.ref a] /\ args = [WData.list (ns.map WData.int)] /\ h.get? a = some { cls := .type "list", data := .seq vs.toArray } /\ IntsAre vs ns /\ ns.length <= n := by
  have hsh : WShape.hasAll [] args [.list .int] = true := (pre_splitW hpre).1
  have hc : l.pre.holds [] { args := args } = true := (pre_splitW hpre).2
  obtain ⟨d, r, rfl, h1, h2⟩ := hasAllW_cons hsh
  obtain rfl := hasAllW_nil h2
  obtain ⟨xs, rfl, h3⟩ := hasW_list h1
  obtain ⟨ns, rfl⟩ := items_int h3
  have hlen : ns.length <= n := by
    unfold OpenLaw.pre at hc
    have h4 : (WTm.not (.lt (.lit (.int (n : Int))) (.len (.arg 0)))).holds [] { args := [.list (ns.map .int)] } = true := by
      have h4 := (holds_andW hc).1
      rw [hn] at h4
      exact h4
    have h5 := condW_of h4 (w_not (w_lt w_lit (w_len_list (w_arg rfl))))
    rw [List.length_map] at h5
    refine Nat.le_of_not_lt fun q => ?_
    have q' : (n : Int) < ((ns.length : Nat) : Int) := by omega
    first
      | (rw [decide_eq_true q'] at h5; exact absurd h5 (by decide))
      | (simp at h5; omega)
  cases hwl with
  | cons w1 w2 =>
    cases w2
    cases w1 with
    | list ho hall => exact ⟨_, _, ns, rfl, rfl, ho, jB ns _ hall, hlen⟩

theorem uP (l : OpenLaw) (args : List WData) : l.row.toRowW.claim.post args (.bool true) args = true :=
  postW_of (r := l.row.toRowW) (X := (true == true))
    (show WShape.has [] (.bool true) .bool = true by first | rfl | decide | simp [WShape.has, WShape.arms, WShape.armsAll])
    (show (WTm.eq .res (.lit (.bool true))).value [] { args := args, res := some (.bool true), after := args } = some (.bool (true == true)) from w_eq_bool (w_res rfl) w_lit) rfl

theorem attach_call {l : OpenLaw} {n : Nat} {q : Program} {loose : List Str} {XP : (Str -> Option Value) -> Heap -> Prop} {YP : World -> Heap -> Prop} {d : DefRec}
    (hn : l.most = some n) (hdf : d.params.defaults = [])
    (call : ∀ (w : World) (s₀ s₁ : Shared) (mg mb : Str -> Option Value) (fa : Addr) (o : Obj) (pm cd doc : Value) (a : Addr) (vs : List Value) (ns : List Int),
      Ground q loose [] XP w s₀ mg mb s₁.heap -> YP w s₁.heap ->
      s₁.heap.get? fa = some o -> o.data = .func (docDef d.name d.params d.body d.scope pm cd doc) -> s₁.heap.CodeRec cd d.name -> mg d.name = some (.ref fa) ->
      s₁.heap.get? a = some { cls := .type "list", data := .seq vs.toArray } -> IntsAre vs ns -> ns.length <= n -> s₁.gens = #[] ->
      codeAny (model l.prog w) callerA (.call (.ref fa) ⟨[.ref a], []⟩) (fun r s' => r = .ok (.ret (.bool true)) /\ OldK s₁.heap s'.heap /\ s'.os = s₁.os /\ AllBare s'.gens) s₁) :
    WalkO q loose XP YP l.row.toRowW d [] (fun f vs => PySem.call f vs) := by
  intro w s₀ s₁ mg mb G Y fa o pm cd doc dV kV ho hd hcd hD hmg hg args vals as hpre hlay hrd hwl hlo
  obtain rfl : dV = .none := Dflts.none hD hdf
  obtain rfl : kV = .none := Dflts.noKw hD
  obtain ⟨a, vs, ns, rfl, rfl, hobj, hints, hlen⟩ := ub hn hpre hwl
  refine enter_call (codeAny_mono (call w s₀ s₁ mg mb fa o pm cd doc a vs ns G Y ho (fd_plain hd) hcd hmg hobj hints hlen hg) fun r s' hq => ?_)
  obtain ⟨rfl, h2, h3, h4⟩ := hq
  exact ⟨.inl ⟨.bool true, .bool true, [], rfl, fun _ => rfl, .bool true, uP l _, fun _ => ⟨List.Pairwise.nil, fun _ hm => (nomatch hm)⟩⟩, h2, h3, h4⟩

section
variable {prog : Program} {w : World} {A : Around} {E : Value -> Shared -> Prop} {s : Shared} {K : Frag}

def Ep (h : Heap) (L d : Addr) : List (Addr × Obj) := (List.range h.objs.size).filterMap fun a => if a = L \/ a = d then none else (h.get? a).map fun o => (a, o)
end
end Att

namespace L2
open PySem PySem.Spec PyProof.Rows

theorem nD : ∀ {vs : List Value} {ns : List Int}, IntsAre vs ns -> Vals (ns.map V.int) vs
  | _, _, .nil => .nil
  | _, _, .cons n t h => .cons ⟨t, rfl⟩ (nD h)

def DH (H : Hp) : Prop := ∀ b, H b = none \/ ∃ o xs, H b = some (.frz o (.lst xs))

theorem wf {P : Program} {w : World} {K : PySem.W.Frag} {mg mb : Str -> Option Value} {CX : CXT} {k : Nat} {fa a : Addr} {fd : FuncData} {x : Str} {sp : Sp} {s₁ : Shared} {vs : List Value} {ns : List Int}
    (KX : K.In s₁.heap) (hns : s₁.heap.Ns mainGlobals mg) (hb : s₁.heap.Ns builtinsNs mb) (hbb : ∀ x : Str, x ≠ "__name__" -> mb x = bootBuiltins x) (hlim : s₁.heap.NoLimit) (hg : s₁.gens = #[])
    (ha : s₁.heap.get? a = some { cls := .type "list", data := .seq vs.toArray }) (hi : IntsAre vs ns) (hl : ns.length <= sizeLine) (hr : Room k callerA)
    (F : ∀ base : Heap, K.In base -> base.Ns mainGlobals mg -> FnOk P w K mg base CX k fa fd [x] sp) (hbind : ∀ (s : Shared) (u : Value), BindsTo s fd ⟨[u], []⟩ [(x, u)])
    (hsp : ∀ H : Hp, DH H -> SqL K H a (ns.map V.int) -> sp [.ref a] H (fun v _ => v = .bl true) fun _ _ _ => False)
    (hCX : ∀ H e s', CX [] H s₁ (fun _ _ _ => False) e s' -> False) :
    codeAny (model P w) callerA (.call (.ref fa) ⟨[.ref a], []⟩) (fun r s' => r = .ok (.ret (.bool true)) /\ OldK s₁.heap s'.heap /\ s'.os = s₁.os /\ AllBare s'.gens) s₁ := by
  have rv := nD hi
  have lenV := hi.length
  -- from an abstract heap in which nothing but the script may be tracked
  have core : ∀ H : Hp, DH H -> SqL K H a (ns.map V.int) -> HOk P w H s₁.heap -> (∀ b, H b ≠ none -> b = a) -> (H a ≠ none -> K.lookup a = none) ->
      codeAny (model P w) callerA (.call (.ref fa) ⟨[.ref a], []⟩) (fun r s' => r = .ok (.ret (.bool true)) /\ OldK s₁.heap s'.heap /\ s'.os = s₁.os /\ AllBare s'.gens) s₁ := by
    intro H hO hS hok hA hK
    have base_of : ∀ {b : Addr} {o : Obj}, s₁.heap.get? b = some o -> H b = none -> (xq s₁.heap H).get? b = some o := fun e n => xC e n
    have noA : ∀ {b : Addr} {o : Obj} {es : Array DictEntry} {ep : Nat}, s₁.heap.get? b = some o -> o.data = .dict es ep -> H b = none := fun {b o es ep} e d => by
      cases q : H b with
      | none => rfl
      | some u =>
        have e' : b = a := hA b (by rw [q]; simp)
        subst e'
        rw [ha] at e; cases e
        have d' : Data.seq vs.toArray _ = Data.dict es ep := d
        cases d'
    have nsK : ∀ {b : Addr} {m : Str -> Option Value}, s₁.heap.Ns b m -> (xq s₁.heap H).Ns b m := fun {b m} ⟨o, es, ep, e, d, r⟩ => ⟨o, es, ep, base_of e (noA e d), d, r⟩
    have hKb : K.In (xq s₁.heap H) := fun b o e => base_of (KX b o e) (by
      cases q : H b with
      | none => rfl
      | some u =>
        have e' : b = a := hA b (by rw [q]; simp)
        subst e'
        rw [hK (by rw [q]; simp)] at e; cases e)
    have hM : Mod K mg (xq s₁.heap H) := ⟨hKb, nsK hns, ⟨mb, nsK hb, hbb⟩, let ⟨mc, h1, h2⟩ := hlim; ⟨mc, nsK h1, h2⟩⟩
    have e0 : Env0 P w K mg (xq s₁.heap H) callerA [] s₁ H := ⟨rfl, hM, fun b o e => Al e, Nat.le_of_eq (tz _ _), trivial, fun b hb => absurd (show b ∈ ([] : List Addr) from hb) (by simp), hok, .of_eq hg⟩
    refine codeAny_mono ((F _ hKb (nsK hns)).run callerA [] s₁ H ⟨[.ref a], []⟩ [.ref a] [.ref a] _ _ hr e0 (hbind s₁ (.ref a)) (.cons rfl .nil) (hsp H hO hS)) fun r s' h => ?_
    cases r with
    | error e => exact (hCX H e s' h).elim
    | ok fl =>
      cases fl with
      | next => exact False.elim h
      | brk => exact False.elim h
      | cont => exact False.elim h
      | ret u =>
        obtain ⟨v, H', os, bare, un, hok', r', q⟩ := h
        have q' : v = .bl true := q
        subst q'
        obtain rfl : u = Value.bool true := r'
        refine ⟨rfl, OldK.of_keep fun b o e => ?_, os, bare⟩
        cases q : H b with
        | none => exact un.keep b o e q (by intro z; exact absurd (show b ∈ ([] : List Addr) from z) (by simp)) (by simp)
        | some u =>
          rcases hO b with z | ⟨ob, xs, z⟩
          . rw [q] at z; cases z
          . have z2 := un.frzs b ob _ z
            obtain ⟨e1, _⟩ := hok b _ z
            obtain ⟨e2, _⟩ := hok' b _ z2
            rw [e] at e1; cases e1
            exact e2
  cases hk : K.lookup a with
  | some o =>
    -- the script is one of the module's own objects
    have e := KX a o hk
    rw [ha] at e
    cases e
    refine core (fun _ => none) (fun _ => .inl rfl) (.inr ⟨_, vs.toArray, _, hk, rfl, rfl, rfl, by rw [List.size_toArray, lenV]; exact hl, by simpa using rv⟩) (fun b u z => by have z' : (none : Option HO) = some u := z; cases z') (fun b z => absurd rfl z) fun z => absurd rfl z
  | none =>
    refine core (fun b => if b = a then some (.frz { cls := .type "list", data := .seq vs.toArray } (.lst (ns.map V.int))) else none) (fun b => ?_) (.inl (.inr ⟨{ cls := .type "list", data := .seq vs.toArray }, if_pos rfl⟩)) (fun b u z => ?_) (fun b z => ?_) fun _ => hk
    . by_cases hb : b = a
      . exact .inr ⟨_, _, if_pos hb⟩
      . exact .inl (if_neg hb)
    . by_cases hb : b = a
      . have z' := (if_pos hb).symm.trans z
        cases z'
        subst hb
        exact ⟨ha, by rw [List.length_map]; exact hl, vs, _, rv, ha⟩
      . have z' := (if_neg hb).symm.trans z
        cases z'
    . by_cases hb : b = a
      . exact hb
      . exact absurd (if_neg hb) z
end L2

namespace L2
open PySem PySem.Spec PyProof.Rows

abbrev KOf {K : PySem.W.Frag} {h : Heap} (_ : K.In h) : PySem.W.Frag := K

theorem uV {l : PySem.W.OpenLaw} {n k : Nat} {q : Program} {loose : List Str} {XP : (Str -> Option Value) -> Heap -> Prop} {YP : World -> Heap -> Prop} {d : DefRec} {K : Params -> PySem.W.Frag} {CX : World -> CXT} {sp : World -> Sp} {x : Str}
    (hn : l.most = some n) (hn2 : n <= sizeLine) (hdf : d.params.defaults = []) (hr : Room k callerA)
    (hY : ∀ (w : World) (h : Heap), YP w h -> (K w.params).In h)
    (F : ∀ (w : World) (mg : Str -> Option Value) (fa : Addr) (h : Heap), (K w.params).In h -> h.Ns mainGlobals mg -> mg d.name = some (.ref fa) ->
      ∃ fd : FuncData, (∀ (s : Shared) (u : Value), BindsTo s fd ⟨[u], []⟩ [(x, u)]) /\
        ∀ base : Heap, (K w.params).In base -> base.Ns mainGlobals mg -> FnOk l.prog w (K w.params) mg base (CX w) k fa fd [x] (sp w))
    (hsp : ∀ (w : World) (H : Hp) (a : Addr) (ns : List Int), ns.length <= n -> DH H -> SqL (K w.params) H a (ns.map V.int) -> sp w [.ref a] H (fun v _ => v = .bl true) fun _ _ _ => False)
    (hCX : ∀ (w : World) (H : Hp) (s : Shared) (e : Value) (s' : Shared), CX w [] H s (fun _ _ _ => False) e s' -> False) :
    PySem.W.WalkO q loose XP YP l.row.toRowW d [] (fun f vs => PySem.call f vs) := by
  refine Att.attach_call hn hdf fun w s₀ s₁ mg mb fa o pm cd doc a vs ns G Y ho hd hcd hmg hobj hints hlen hg => ?_
  have KX := hY w _ Y
  obtain ⟨fd, hb, hF⟩ := F w mg fa _ KX G.T.g hmg
  exact wf KX G.T.g G.T.b G.T.builtins G.T.nolimit hg hobj hints (Nat.le_trans hlen hn2) hr hF hb (fun H hO hS => hsp w H a ns hlen hO hS) fun H e s' => hCX w H s₁ e s'
end L2

/- THE LAST THEOREM (shape; LID, My.* are yours):
   My.Adr: a structure of the addresses that your layer names (classes, functions); My.Txt K t: a structure (Prop) of the equations over K;
   My.txt_mk : {K} {implicit addresses ..} (e1 : nsIn K mainGlobals "law" = some (some (.ref f))) (e2 : K.lookup f = some ⟨oc, od, .func (fnOf "law" "law" params body scope dV kV doc pm an cdv ct), sl⟩) (e3 : codeIn K cdv "law" = true) .. : ∃ t, My.Txt K t

set_option maxRecDepth 100000 in
set_option maxHeartbeats 0 in
theorem PySem.Challenge.cw_LID_holds : PySem.Challenge.rw_LID.Holds := by
  w_on; o_law; k_head; (case hw => w_witness2)
  k_fill
  refine L2.uV (l := PySem.Challenge.rw_LID) (n := 63) (k := 40) (x := "script") (CX := fun w => ..) (sp := fun _ => My.sp_law) rfl (by decide) rfl ⟨rfl, by decide, by decide⟩ (fun w h Y => PySem.W.kIn_of Y) ?F ?S ?C
  case F =>
    intro w mg fa h KX G hmg
    have T : ∃ t, My.Txt (L2.KOf KX) t := by
      dsimp only [L2.KOf]                          -- K must stand as «<heap const> w.params» for k_is
      refine' My.txt_mk ?e1 ?e2 ?e3 ..
      (case e1 => PySem.W.k_is)                    -- in the order: a name -> its address -> its object -> its parts
      (case e2 => PySem.W.k_is)
      ..
    obtain ⟨t, T⟩ := T
    have e0 := hmg.symm.trans (PySem.W.mg_of KX G T.law)
    cases e0                                       -- fa is the law's own address
    exact ⟨_, fun s u => .of_eq rfl, fun base kb nb => My.law_fn T kb nb⟩     -- if «.of_eq rfl» comes too early: refine' ⟨_, ?b, fun base kb nb => My.law_fn T kb nb⟩; exact fun s u => .of_eq rfl
  case S => exact fun w H a ns hl hO hS => ..
  case C => exact ..
(the tactic k_is has no namespace: write k_is) -/

namespace L2
open PySem PySem.Spec PyProof.Rows

def iE (s : Stmt) : Arguments := match s with
  | .FunctionDef _ a _ _ _ _ _ _ _ _ => a
  | _ => { posonlyargs := [], args := [], vararg := none, kwonlyargs := [], kw_defaults := [], kwarg := none, defaults := [] }
def fD (s : Stmt) : List Stmt := match s with
  | .FunctionDef _ _ b _ _ _ _ _ _ _ => b
  | _ => []
def aL (s : Stmt) : Scope := match s with
  | .FunctionDef _ _ _ _ _ _ sc _ _ _ => sc
  | _ => { kind := .function, names := [], isGenerator := false, isCoroutine := false }

structure Fun (K : PySem.W.Frag) (x qual : Str) (st : Stmt) (f : Addr) (fd : FuncData) : Prop where
  ex : ∃ (oc : Value) (od : Option Addr) (kV doc pm : Value) (an : Option Addr) (cdv ct : Value) (osl : Array (Option Value)),
    fd = PySem.W.fnOf x qual (iE st) (fD st) (aL st) .none kV doc pm an cdv ct /\ K.lookup f = some ⟨oc, od, .func fd, osl⟩ /\ PySem.W.codeIn K cdv qual = true
  kp : PySem.W.keepIn K (.ref f) = true
section
variable {P : Program} {w : World} {K : PySem.W.Frag} {mg : Str -> Option Value} {base : Heap}
theorem Fun.binds {x qual : Str} {st : Stmt} {f : Addr} {fd : FuncData} {ps : List Str} (F : Fun K x qual st f fd)
    (h : ∀ (kV doc pm : Value) (an : Option Addr) (cdv ct : Value) (us : List Value), us.length = ps.length -> bindArgs (PySem.W.fnOf x qual (iE st) (fD st) (aL st) .none kV doc pm an cdv ct) ⟨us, []⟩ = pure (ps.zip us)) : Binds K fd ps [] := by
  obtain ⟨oc, od, kV, doc, pm, an, cdv, ct, osl, rfl, lk, hcd⟩ := F.ex
  exact .all (h kV doc pm an cdv ct)
theorem Ba {x qual : Str} {st : Stmt} {f : Addr} {oc : Value} {od an : Option Addr} {osl : Array (Option Value)} {kV doc pm cdv ct : Value} (l : K.lookup f = some ⟨oc, od, .func (PySem.W.fnOf x qual (iE st) (fD st) (aL st) .none kV doc pm an cdv ct), osl⟩)
    (c : PySem.W.codeIn K cdv qual = true) (k : PySem.W.keepIn K (.ref f) = true) : Fun K x qual st f (PySem.W.fnOf x qual (iE st) (fD st) (aL st) .none kV doc pm an cdv ct) := ⟨⟨oc, od, kV, doc, pm, an, cdv, ct, osl, rfl, l, c⟩, k⟩
end
section
variable {X : Cx}
end

def Same (H H' : Hp) : Prop := ∀ b o, H b = some o -> H' b = some o
theorem Same.refl (H : Hp) : Same H H := fun _ _ h => h
theorem Same.trans {H H1 H2 : Hp} (a : Same H H1) (b : Same H1 H2) : Same H H2 := fun c o h => b c o (a c o h)
theorem Same.free {H H' : Hp} (e : Same H H') {l : Addr} (h : H' l = Option.none) : H l = Option.none := by
  cases q : H l with
  | none => rfl
  | some o =>
    rw [e l o q] at h
    cases h
theorem Same.seq {K : PySem.W.Frag} {H H' : Hp} {a : Addr} {xs : List V} (e : Same H H') (h : SqL K H a xs) : SqL K H' a xs := by
  rcases h with (h | ⟨o, h⟩) | h
  . exact .inl (.inl (e _ _ h))
  . exact .inl (.inr ⟨o, e _ _ h⟩)
  . exact .inr h

end L2
set_option maxRecDepth 100000
set_option maxHeartbeats 4000000
namespace L2
open PySem PySem.Spec PyProof.Rows

inductive D where
  | non | bl (b : Bool) | int (i : Int) | str (x : List Nat) | tup (xs : List D) | lst (fz : Bool) (xs : List D) | exc (C : Addr)

def gm (a C : Addr) : Heap -> Prop := fun h => ∃ ob, h.get? a = some ob /\ ob.cls = .ref C

mutual
inductive Rep (K : PySem.W.Frag) (G : Hp) : V -> D -> Prop
  | non : Rep K G .non .non
  | bl (b : Bool) : Rep K G (.bl b) (.bl b)
  | int (i : Int) : Rep K G (.int i) (.int i)
  | str (x : Str) (h : x.length <= sizeLine) : Rep K G (.str x) (.str x.cps.toList)
  | tup {a : Addr} {vs : List V} {ds : List D} (h : SqT K G a vs) (r : Reps K G vs ds) : Rep K G (.ref a) (.tup ds)
  | lst {a : Addr} {vs : List V} {ds : List D} (h : G a = some (.lst vs)) (r : Reps K G vs ds) : Rep K G (.ref a) (.lst false ds)
  | fls {a : Addr} {vs : List V} {ds : List D} (h : SqL K G a vs) (r : Reps K G vs ds) : Rep K G (.ref a) (.lst true ds)
  | exc {a C : Addr} (h : G a = some (.ext (gm a C))) : Rep K G (.ref a) (.exc C)
inductive Reps (K : PySem.W.Frag) (G : Hp) : List V -> List D -> Prop
  | nil : Reps K G [] []
  | cons {v : V} {d : D} {vs : List V} {ds : List D} (r : Rep K G v d) (t : Reps K G vs ds) : Reps K G (v :: vs) (d :: ds)
end

section
variable {K : PySem.W.Frag} {G G' H H' G1 H1 G2 H2 : Hp}
theorem SqT.mono {a : Addr} {xs : List V} (e : Same G G') (h : SqT K G a xs) : SqT K G' a xs := by
  rcases h with (h | ⟨o, h⟩) | h
  . exact .inl (.inl (e _ _ h))
  . exact .inl (.inr ⟨o, e _ _ h⟩)
  . exact .inr h
theorem SqL.mono {a : Addr} {xs : List V} (e : Same G G') (h : SqL K G a xs) : SqL K G' a xs := e.seq h
mutual
theorem Rep.mono (e : Same G G') : ∀ {v : V} {d : D}, Rep K G v d -> Rep K G' v d
  | _, _, .non => .non
  | _, _, .bl b => .bl b
  | _, _, .int i => .int i
  | _, _, .str x h => .str x h
  | _, _, .tup h r => .tup (h.mono e) (Reps.mono e r)
  | _, _, .lst h r => .lst (e _ _ h) (Reps.mono e r)
  | _, _, .fls h r => .fls (h.mono e) (Reps.mono e r)
  | _, _, .exc h => .exc (e _ _ h)
theorem Reps.mono (e : Same G G') : ∀ {vs : List V} {ds : List D}, Reps K G vs ds -> Reps K G' vs ds
  | _, _, .nil => .nil
  | _, _, .cons r t => .cons (Rep.mono e r) (Reps.mono e t)
end
section inv
variable {v : V}
theorem Rep.int_inv {i : Int} (r : Rep K G v (.int i)) : v = .int i := by cases r; rfl
theorem Rep.bl_inv {b : Bool} (r : Rep K G v (.bl b)) : v = .bl b := by cases r; rfl
theorem Rep.non_inv (r : Rep K G v .non) : v = .non := by cases r; rfl
theorem Rep.str_inv {x : List Nat} (r : Rep K G v (.str x)) : ∃ y : Str, v = .str y /\ y.cps.toList = x /\ y.length <= sizeLine := by
  generalize e : D.str x = d at r
  cases r with
  | str y h => cases e; exact ⟨y, rfl, rfl, h⟩
  | _ => cases e
theorem Rep.tup_inv {ds : List D} (r : Rep K G v (.tup ds)) : ∃ a vs, v = .ref a /\ SqT K G a vs /\ Reps K G vs ds := by
  cases r with
  | tup h t => exact ⟨_, _, rfl, h, t⟩
theorem Rep.lst_inv {ds : List D} (r : Rep K G v (.lst false ds)) : ∃ a vs, v = .ref a /\ G a = some (.lst vs) /\ Reps K G vs ds := by
  cases r with
  | lst h t => exact ⟨_, _, rfl, h, t⟩
theorem Rep.seq_inv {f : Bool} {ds : List D} (r : Rep K G v (.lst f ds)) : ∃ a vs, v = .ref a /\ SqL K G a vs /\ Reps K G vs ds := by
  cases r with
  | lst h t => exact ⟨_, _, rfl, .of h, t⟩
  | fls h t => exact ⟨_, _, rfl, h, t⟩
theorem Rep.exc_inv {C : Addr} (r : Rep K G v (.exc C)) : ∃ a, v = .ref a /\ G a = some (.ext (gm a C)) := by
  cases r with
  | exc h => exact ⟨_, rfl, h⟩
theorem Rep.strL {x : List Nat} {y : Str} (e : y.cps.toList = x) (h : x.length <= sizeLine) : Rep K G (.str y) (.str x) := by
  subst e; exact .str y (by simpa [Str.length] using h)
end inv
theorem Reps.length : ∀ {vs : List V} {ds : List D}, Reps K G vs ds -> vs.length = ds.length
  | _, _, .nil => rfl
  | _, _, .cons _ t => by simp [Reps.length t]
theorem Reps.get : ∀ {vs : List V} {ds : List D} {i : Nat} {d : D}, Reps K G vs ds -> ds[i]? = some d -> ∃ v, vs[i]? = some v /\ Rep K G v d
  | _, _, _, _, .nil, e => by simp at e
  | _, _, 0, _, .cons r _, e => by simp at e; subst e; exact ⟨_, rfl, r⟩
  | _, _, i + 1, d, .cons _ t, e => by
    obtain ⟨v, h1, h2⟩ := Reps.get (i := i) (d := d) t (by simpa using e)
    exact ⟨v, by simpa using h1, h2⟩
theorem Reps.append : ∀ {vs ws : List V} {ds es : List D}, Reps K G vs ds -> Reps K G ws es -> Reps K G (vs ++ ws) (ds ++ es)
  | _, _, _, _, .nil, s => s
  | _, _, _, _, .cons r t, s => .cons r (Reps.append t s)
theorem Reps.take : ∀ {vs : List V} {ds : List D} (n : Nat), Reps K G vs ds -> Reps K G (vs.take n) (ds.take n)
  | _, _, 0, _ => by simpa using Reps.nil
  | _, _, _ + 1, .nil => .nil
  | _, _, n + 1, .cons r t => .cons r (Reps.take n t)
theorem Reps.drop : ∀ {vs : List V} {ds : List D} (n : Nat), Reps K G vs ds -> Reps K G (vs.drop n) (ds.drop n)
  | _, _, 0, r => r
  | _, _, _ + 1, .nil => .nil
  | _, _, n + 1, .cons _ t => Reps.drop n t
theorem Reps.set {v : V} {d : D} (r : Rep K G v d) : ∀ {vs : List V} {ds : List D} (i : Nat), Reps K G vs ds -> Reps K G (vs.set i v) (ds.set i d)
  | _, _, _, .nil => .nil
  | _, _, 0, .cons _ t => .cons r t
  | _, _, i + 1, .cons q t => .cons q (Reps.set r i t)
theorem Reps.rep {vs : List V} {ds : List D} (r : Reps K G vs ds) : ∀ n : Nat, Reps K G (List.replicate n vs).flatten (List.replicate n ds).flatten
  | 0 => .nil
  | n + 1 => by
    simp only [List.replicate_succ, List.flatten_cons]
    exact Reps.append r (Reps.rep r n)

structure Up (G H G' H' : Hp) : Prop where
  sub : Same G' H'
  gg : Same G G'
  hh : Same H H'
  fr : ∀ a o, G' a = some o -> G a = some o \/ H a = none
theorem Up.refl (s : Same G H) : Up G H G H := ⟨s, .refl _, .refl _, fun _ _ h => .inl h⟩
theorem Up.trans (a : Up G H G1 H1) (b : Up G1 H1 G2 H2) : Up G H G2 H2 := ⟨b.sub, a.gg.trans b.gg, a.hh.trans b.hh, fun c o h => by
  rcases b.fr c o h with h | h
  . exact a.fr c o h
  . exact .inr (a.hh.free h)⟩
theorem Same.both {p : Addr} {o : HO} (s : Same G H) : Same (upd G p o) (upd H p o) := fun a u h => by
  unfold L2.upd at h ⊢
  split
  . rename_i e; rw [if_pos e] at h; exact h
  . rename_i e; rw [if_neg e] at h; exact s a u h
theorem Same.into {p : Addr} {o : HO} (h : H p = none) : Same H (upd H p o) := fun a u e => by
  rw [bi (aZ e h)]; exact e
theorem Up.new {p : Addr} {o : HO} (s : Same G H) (hp : H p = none) : Up G H (upd G p o) (upd H p o) :=
  ⟨s.both, .into (s.free hp), .into hp, fun a u h => by
    by_cases e : a = p
    . subst e; exact .inr hp
    . rw [bi e] at h; exact .inl h⟩
end

inductive R (α : Type) where
  | ok (a : α) | ex (C : Addr) | no
def R.bind {α β : Type} : R α -> (α -> R β) -> R β
  | .ok a, f => f a
  | .ex C, _ => .ex C
  | .no, _ => .no
instance : Monad R where
  pure := .ok
  bind := R.bind
section
variable {α β : Type}
@[simp] theorem R.ok_bind (a : α) (f : α -> R β) : (R.ok a >>= f) = f a := rfl
@[simp] theorem R.ex_bind (C : Addr) (f : α -> R β) : ((R.ex C : R α) >>= f) = .ex C := rfl
def R.post (m : R α) (P : α -> Prop) (E : Addr -> Prop) : Prop := match m with
  | .ok a => P a
  | .ex C => E C
  | .no => False
theorem R.post.mono {m : R α} {P P' : α -> Prop} {E E' : Addr -> Prop} (h : m.post P E) (hp : ∀ a, P a -> P' a) (he : ∀ C, E C -> E' C) : m.post P' E' := by
  cases m with
  | ok a => exact hp a h
  | ex C => exact he C h
  | no => exact h
def ofO : Option α -> R α
  | some a => .ok a
  | none => .no
@[simp] theorem bv (a : α) : ofO (some a) = R.ok a := rfl
theorem ofO.ok {o : Option α} {P : α -> Prop} {E : Addr -> Prop} (h : (ofO o).post P E) : ∃ a, o = some a /\ P a := by
  cases o with
  | none => exact h.elim
  | some a => exact ⟨a, rfl, h⟩
end

inductive Sl where
  | val (d : D)
  /-- a list that no other name, and no datum, holds -/
  | own (ds : List D)
abbrev Ev := List (Option Sl)
def rdV (ρ : Ev) (i : Nat) : R D := match ρ[i]? with
  | some (some (.val d)) => .ok d
  | _ => .no
structure StE (K : PySem.W.Frag) (G H : Hp) (σ : St) (ρ : Ev) : Prop where
  sub : Same G H
  len : σ.length = ρ.length
  val : ∀ (i : Nat) d, ρ[i]? = some (some (.val d)) -> ∃ v, σ[i]? = some (some v) /\ Rep K G v d
theorem StE.up {K : PySem.W.Frag} {G H G' H' : Hp} {σ : St} {ρ : Ev} (s : StE K G H σ ρ) (u : Up G H G' H') : StE K G' H' σ ρ :=
  ⟨u.sub, s.len, fun i d e => let ⟨v, h1, h2⟩ := s.val i d e; ⟨v, h1, h2.mono u.gg⟩⟩

def A5 (P : Program) (w : World) (outer : List Env) (H : Hp) (s : Shared) (a C : Addr) (H' : Hp) (s' : Shared) : Prop :=
  s'.os = s.os /\ AllBare s'.gens /\ Un (frs outer) [] H H' s.heap s'.heap /\ HOk P w H' s'.heap /\ H' a = none /\
  ∃ (B : Heap) (a0 : Value), Heap.FlyingW B outer a (.ref C) a0 s'.heap /\ ∀ b o, b ∉ frs outer -> ((∃ o0, s.heap.get? b = some o0) \/ ∃ u, H' b = some u) -> s'.heap.get? b = some o -> B.get? b = some o
def CXo (P : Program) (w : World) : CXT := fun outer H s E e s' => ∃ a C H', e = .ref a /\ A5 P w outer H s a C H' s' /\ E (.ref C) none H'
def Eg (X : Cx) (σ : St) (G₁ H₁ : Hp) (C : Addr) (e : Value) (s' : Shared) : Prop :=
  ∃ pins s₁ a, e = .ref a /\ Inv X pins σ H₁ s₁ /\
    ((∃ h' vs, Heap.MadeExcOf s₁.heap h' a (.ref C) vs /\ s' = { s₁ with heap := h' }) \/ ∃ G' H', A5 X.prog X.w X.stack H₁ s₁ a C H' s' /\ Up G₁ H₁ G' H')
def Fly (X : Cx) (σ : St) (G H : Hp) (C : Addr) (e : Value) (s' : Shared) : Prop := ∃ G₁ H₁, Up G H G₁ H₁ /\ Eg X σ G₁ H₁ C e s'
theorem Fly.up {X : Cx} {σ : St} {G H G1 H1 : Hp} {C : Addr} {e : Value} {s' : Shared} (u : Up G H G1 H1) (f : Fly X σ G1 H1 C e s') : Fly X σ G H C e s' :=
  let ⟨G2, H2, v, q⟩ := f; ⟨G2, H2, u.trans v, q⟩

section
variable {α β : Type}
def Fin (G H : Hp) (rep : Hp -> β -> α -> Prop) (Q : β -> Hp -> Prop) : α -> Prop := fun d => ∀ v G' H', Up G H G' H' -> rep G' v d -> Q v H'
def Exx (X : Cx) (σ : St) (G H : Hp) : Addr -> Prop := fun C => ∀ e s', Fly X σ G H C e s' -> X.xe e s'
theorem Fin.up {G H G1 H1 : Hp} {rep : Hp -> β -> α -> Prop} {Q : β -> Hp -> Prop} {d : α} (u : Up G H G1 H1) (h : Fin G H rep Q d) : Fin G1 H1 rep Q d := fun v G' H' u' r => h v G' H' (u.trans u') r
theorem Exx.up {X : Cx} {σ : St} {G H G1 H1 : Hp} {C : Addr} (u : Up G H G1 H1) (h : Exx X σ G H C) : Exx X σ G1 H1 C := fun e s' f => h e s' (f.up u)
theorem jU {X : Cx} {σ : St} {G H G1 H1 : Hp} {rep : Hp -> β -> α -> Prop} {Q : β -> Hp -> Prop} {m : R α} (u : Up G H G1 H1) (h : m.post (Fin G H rep Q) (Exx X σ G H)) : m.post (Fin G1 H1 rep Q) (Exx X σ G1 H1) :=
  h.mono (fun _ => Fin.up u) fun _ => Exx.up u
def tG (X : Cx) (rep : Hp -> β -> α -> Prop) (g : Ev -> R α) : St -> Hp -> (β -> Hp -> Prop) -> Prop := fun σ H Q => ∃ G ρ, StE X.K G H σ ρ /\ (g ρ).post (Fin G H rep Q) (Exx X σ G H)
theorem tG.intro {γ δ : Type} {X : Cx} {σ : St} {G H : Hp} {ρ : Ev} {rep : Hp -> β -> α -> Prop} {rep' : Hp -> δ -> γ -> Prop} {g : Ev -> R α} {k : α -> R γ} {Q : β -> Hp -> Prop} {Q' : δ -> Hp -> Prop} (st : StE X.K G H σ ρ)
    (h : (g ρ >>= k).post (Fin G H rep' Q') (Exx X σ G H)) (hk : ∀ a, ∀ v G1 H1, Up G H G1 H1 -> StE X.K G1 H1 σ ρ -> rep G1 v a -> (k a).post (Fin G1 H1 rep' Q') (Exx X σ G1 H1) -> Q v H1) : tG X rep g σ H Q := by
  refine ⟨G, ρ, st, ?_⟩
  cases e : g ρ with
  | ok a => rw [e] at h; exact fun v G' H' u r => hk a v G' H' u (st.up u) r (jU u h)
  | ex C => rw [e] at h; exact h
  | no => rw [e] at h; exact h
theorem tG.last {X : Cx} {σ : St} {G H : Hp} {ρ : Ev} {rep : Hp -> β -> α -> Prop} {g : Ev -> R α} {Q : β -> Hp -> Prop} (st : StE X.K G H σ ρ) (h : (g ρ).post (Fin G H rep Q) (Exx X σ G H)) : tG X rep g σ H Q := ⟨G, ρ, st, h⟩
end
abbrev tF (X : Cx) (g : Ev -> R D) : TE := tG X (Rep X.K) g
abbrev tTF (X : Cx) (g : Ev -> R Bool) : TT := tG X (fun _ b c => b = c) g
abbrev tAF (X : Cx) (g : Ev -> R (List D)) : TA := tG X (Reps X.K) g
def QF (X : Cx) (e : Expr) (g : Ev -> R D) : Prop := PE X e (tF X g)
def QB (X : Cx) (e : Expr) (g : Ev -> R Bool) : Prop := PT X e (tTF X g)
def QBW (X : Cx) (e : Expr) (g : Ev -> R Bool) : Prop := PW X e (tTF X g)
def QFA (X : Cx) (es : List Expr) (g : Ev -> R (List D)) : Prop := PA X es (tAF X g)
end L2
namespace L2
open PySem PySem.Spec PyProof.Rows

theorem rdV.ok {ρ : Ev} {i : Nat} {P : D -> Prop} {E : Addr -> Prop} (h : (rdV ρ i).post P E) : ∃ d, ρ[i]? = some (some (.val d)) /\ P d := by
  unfold rdV at h
  split at h
  . rename_i d e; exact ⟨d, e, h⟩
  . exact h.elim

section
variable {X : Cx} {e a b c : Expr} {ga gb gc : Ev -> R D} {pos : Pos}
theorem jp (i : Nat) {x : Str} (hN : X.N[i]? = some x := by rfl) (hv : Vis X.env.scope x := by first | exact Or.inl rfl | exact Or.inr (Or.inl rfl) | exact Or.inr (Or.inr rfl)) (hd : (x == ("__debug__" : Str)) = false := by decide)
    (hcd : (x == ("__classdict__" : Str)) = false := by decide) : QF X (.Name x pos) (fun ρ => rdV ρ i) := by
  intro pins s σ H Q I h
  obtain ⟨G, ρ, st, h⟩ := h
  refine nP hN hv hd hcd pins s σ H Q I ?_
  obtain ⟨d, e, q⟩ := rdV.ok h
  obtain ⟨v, e', r⟩ := st.val i d e
  exact ⟨v, e', q v G H (.refl st.sub) r⟩
theorem eO {v : V} {d : D} (h : PE X e (tC v)) (hr : ∀ K G, Rep K G v d) : QF X e (fun _ => .ok d) := by
  intro pins s σ H Q I q
  obtain ⟨G, ρ, st, q⟩ := q
  exact h pins s σ H Q I (q v G H (.refl st.sub) (hr _ _))
theorem wz {i : Int} {j : Nat} : QF X (.Constant (.int i) j pos) (fun _ => .ok (.int i)) := eO CC fun _ _ => .int i
theorem zf {k : Bool} {j : Nat} : QF X (.Constant (.bool k) j pos) (fun _ => .ok (.bl k)) := eO DF fun _ _ => .bl k
theorem xI {j : Nat} : QF X (.Constant .none j pos) (fun _ => .ok .non) := eO BU fun _ _ => .non
theorem wN {x : Str} {j : Nat} {l : List Nat} (hl : x.cps.toList = l := by rfl) (hz : l.length <= 1000 := by decide) : QF X (.Constant (.str x) j pos) (fun _ => .ok (.str l)) :=
  eO BO fun _ _ => .strL hl (Nat.le_trans hz (by decide))
theorem rX {x : Str} {i : Int} {t : Tok} (hg : Gl X x) (hm : X.mg x = some (.int i t)) (hd : (x == ("__debug__" : Str)) = false := by decide) : QF X (.Name x pos) (fun _ => .ok (.int i)) :=
  eO (mC (v := .int i) hg hm ⟨t, rfl⟩ hd) fun _ _ => .int i

def ROk (K : PySem.W.Frag) (r : R2) (f : D -> D -> Option D) : Prop := ∀ (G H : Hp) (x y : V) (dx dy d : D) (Q : VK), Same G H -> Rep K G x dx -> Rep K G y dy -> f dx dy = some d -> Fin G H (Rep K) Q d -> r x y H Q
def g2 (f : D -> D -> Option D) (ga gb : Ev -> R D) : Ev -> R D := fun ρ => ga ρ >>= fun x => gb ρ >>= fun y => ofO (f x y)
theorem wU {r : R2} {f : D -> D -> Option D} (hf : ROk X.K r f) {σ : St} {H : Hp} {Q : VK} (h : tF X (g2 f ga gb) σ H Q) : tOp r (tF X ga) (tF X gb) σ H Q := by
  obtain ⟨G, ρ, st, h⟩ := h
  refine tG.intro st h fun x v G1 H1 u1 st1 r1 h1 => ?_
  refine tG.intro st1 h1 fun y w G2 H2 u2 st2 r2 h2 => ?_
  obtain ⟨d, e, q⟩ := ofO.ok h2
  exact hf G2 H2 v w x y d Q st2.sub (r1.mono u2.gg) r2 e q
theorem gN {op : Operator} {r : R2} {f : D -> D -> Option D} (ho : OpR X (binaryOp op) r) (hf : ROk X.K r f) (ha : QF X a ga) (hb : QF X b gb) : QF X (.BinOp a op b pos) (g2 f ga gb) :=
  fun pins s σ H Q I h => D0 ho ha hb pins s σ H Q I (wU hf h)
theorem ma {op : CmpOp} {r : R2} {f : D -> D -> Option D} (ho : OpR X (compareOp op) r) (hf : ROk X.K r f) (ha : QF X a ga) (hb : QF X b gb) (hm : behindInMarks op b = false) : QF X (.Compare a [op] [b] pos) (g2 f ga gb) :=
  fun pins s σ H Q I h => Ar ho ha hb hm pins s σ H Q I (wU hf h)
def g3 (f f' : D -> D -> Option D) (ga gb gc : Ev -> R D) : Ev -> R D := fun ρ => ga ρ >>= fun x => gb ρ >>= fun y => ofO (f x y) >>= fun z => match z with
  | .bl true => gc ρ >>= fun w => ofO (f' y w)
  | .bl false => .ok (.bl false)
  | _ => .no
theorem rB {op op' : CmpOp} {r r' : R2} {f f' : D -> D -> Option D} (ho : OpR X (compareOp op) r) (ho' : OpR X (compareOp op') r') (hf : ROk X.K r f) (hf' : ROk X.K r' f') (ha : QF X a ga) (hb : QF X b gb) (hc : QF X c gc)
    (hm : lastMarks [op, op'] [b, c] = false := by with_unfolding_all rfl) : QF X (.Compare a [op, op'] [b, c] pos) (g3 f f' ga gb gc) := by
  intro pins s σ H Q I h
  refine wE ho ho' ha hb hc hm pins s σ H Q I ?_
  obtain ⟨G, ρ, st, h⟩ := h
  refine tG.intro st h fun x v G1 H1 u1 st1 r1 h1 => ?_
  refine tG.intro st1 h1 fun y w G2 H2 u2 st2 r2 h2 => ?_
  cases e : f x y with
  | none => rw [e] at h2; exact h2.elim
  | some d =>
    rw [e] at h2
    refine hf G2 H2 v w x y d _ st2.sub (r1.mono u2.gg) r2 e fun z G3 H3 u3 r3 => ?_
    have h3 := jU u3 h2
    have st3 := st2.up u3
    cases r3 with
    | bl k =>
      refine ⟨k, rfl, ?_⟩
      cases k with
      | false => rw [if_neg Bool.false_ne_true]; exact h3 _ G3 H3 (.refl st3.sub) (.bl false)
      | true =>
        rw [if_pos rfl]
        refine tG.intro st3 (show (gc ρ >>= fun w => ofO (f' y w)).post _ _ from h3) fun q vq G4 H4 u4 st4 r4 h4 => ?_
        obtain ⟨d, e', q'⟩ := ofO.ok h4
        exact hf' G4 H4 w vq y q d Q st4.sub ((r2.mono u3.gg).mono u4.gg) r4 e' q'
    | _ => exact h3.elim
end

section
variable {X : Cx}
def bw : D -> D -> Option D
  | .int i, .int j => some (.int (i + j))
  | .str x, .str y => if x.length + y.length <= sizeLine then some (.str (x ++ y)) else none
  | .lst false xs, .lst false ys => if xs.length + ys.length <= sizeLine then some (.lst false (xs ++ ys)) else none
  | .tup xs, .tup ys => if xs.length + ys.length <= sizeLine then some (.tup (xs ++ ys)) else none
  | _, _ => none
def yi (K : PySem.W.Frag) : R2 := fun x y H Q => ∃ a b xs ys, x = .ref a /\ y = .ref b /\ SqT K H a xs /\ SqT K H b ys /\ xs.length + ys.length <= sizeLine /\
  (xs = [] -> Q (.ref b) H) /\ (xs ≠ [] -> ys = [] -> Q (.ref a) H) /\ (xs ≠ [] -> ys ≠ [] -> ∀ p, H p = none -> Q (.ref p) (upd H p (.tup (xs ++ ys))))
theorem xm : OpR X (binaryOp .Add) (yi X.K) := by
  intro pins s σ H x y v u Q I rx ry h
  obtain ⟨a, b, xs, ys, rfl, rfl, ha, hb, hz, q0, q1, q2⟩ := h
  by_cases hx : xs = []
  . cases rx
    cases ry
    obtain ⟨its, r1, p1, _⟩ := I.tuple ha
    obtain ⟨its2, r2, p2, _⟩ := I.tuple hb
    have hi : its = [] := r1.nil_iff.mpr hx
    obtain ⟨⟨cls, dd, data, sl⟩, ho, hc, n, hd⟩ := id p1
    obtain ⟨⟨cls2, dd2, data2, sl2⟩, ho2, hc2, n2, hd2⟩ := id p2
    simp only at hc hd hc2 hd2
    subst hc hd hc2 hd2
    exact concat_meets ⟨_, ho, rfl⟩ ⟨_, ho2, rfl⟩ noFill_tuple_add seq_tuple_add PySem.F.slot_tuple_add PySem.F.entry_tuple_add (PySem.F.args_tuple_add_2 _ _)
      (tuple_addW0 a b its.toArray its2.toArray n n2 dd dd2 sl sl2 (by simp [hi])) ⟨ho, ho2, .ref b, H, I, rfl, q0 hx⟩
  . exact zL pins s σ H _ _ v u Q I rx ry ⟨a, b, xs, ys, rfl, rfl, ha, hb, hx, hz, q1 hx, q2 hx⟩
def Bm (K : PySem.W.Frag) : R2 := fun x y H Q => (rI0 fun i j => .int (i + j)) x y H Q \/ (∃ i j, x = .str i /\ y = .str j /\ i.length + j.length <= sizeLine /\ Q (.str (i ++ j)) H) \/ Ew x y H Q \/ yi K x y H Q
theorem Av : OpR X (binaryOp .Add) (Bm X.K) := op_add.or (op_add_str.or (op_cat.or xm))
theorem Str.app_list (x y : Str) : (x ++ y).cps.toList = x.cps.toList ++ y.cps.toList := by
  show (x.cps ++ y.cps).toList = _
  simp
theorem Str.len_list (x : Str) : x.cps.toList.length = x.length := by simp [Str.length]
theorem BC (K : PySem.W.Frag) : ROk K (Bm K) bw := by
  intro G H x y dx dy d Q s rx ry e q
  unfold bw at e
  split at e
  . cases e
    exact .inl ⟨_, _, rx.int_inv, ry.int_inv, q _ G H (.refl s) (.int _)⟩
  . split at e
    . rename_i hz
      cases e
      obtain ⟨i, rfl, ei, hi⟩ := rx.str_inv
      obtain ⟨j, rfl, ej, hj⟩ := ry.str_inv
      subst ei ej
      rw [Str.len_list, Str.len_list] at hz
      exact .inr (.inl ⟨i, j, rfl, rfl, hz, q _ G H (.refl s) (.strL (Str.app_list i j) (by rw [List.length_append, Str.len_list, Str.len_list]; exact hz))⟩)
    . cases e
  . split at e
    . rename_i hz
      cases e
      obtain ⟨a, vs, rfl, ha, ra⟩ := rx.lst_inv
      obtain ⟨b, ws, rfl, hb, rb⟩ := ry.lst_inv
      refine .inr (.inr (.inl ⟨a, b, vs, ws, rfl, rfl, s _ _ ha, s _ _ hb, by rw [ra.length, rb.length]; exact hz, fun p hp => q _ _ _ (.new s hp) (.lst bq ?_)⟩))
      exact (ra.append rb).mono (.into (s.free hp))
    . cases e
  . split at e
    . rename_i hz
      cases e
      obtain ⟨a, vs, rfl, ha, ra⟩ := rx.tup_inv
      obtain ⟨b, ws, rfl, hb, rb⟩ := ry.tup_inv
      refine .inr (.inr (.inr ⟨a, b, vs, ws, rfl, rfl, ha.mono s, hb.mono s, by rw [ra.length, rb.length]; exact hz, fun z => ?_, fun _ z => ?_, fun _ _ p hp => ?_⟩))
      . subst z
        cases ra
        exact q _ G H (.refl s) (.tup hb rb)
      . subst z
        cases rb
        rw [List.append_nil] at q
        exact q _ G H (.refl s) (.tup ha ra)
      . exact q _ _ _ (.new s hp) (.tup (.of bq) ((ra.append rb).mono (.into (s.free hp))))
    . cases e
  . cases e
theorem xi {a b : Expr} {ga gb : Ev -> R D} {pos : Pos} (ha : QF X a ga) (hb : QF X b gb) : QF X (.BinOp a .Add b pos) (g2 bw ga gb) := gN Av (BC _) ha hb
def oO : D -> D -> Option D
  | .int i, .int j => some (.int (i - j))
  | _, _ => none
theorem xJ {a b : Expr} {ga gb : Ev -> R D} {pos : Pos} (ha : QF X a ga) (hb : QF X b gb) : QF X (.BinOp a .Sub b pos) (g2 oO ga gb) := gN A8 (by
  intro G H x y dx dy d Q s rx ry e q
  unfold oO at e
  split at e
  . cases e
    exact ⟨_, _, rx.int_inv, ry.int_inv, q _ G H (.refl s) (.int _)⟩
  . cases e) ha hb
def tN : D -> D -> Option D
  | .int i, .int j => if 0 < j /\ j < 1073741824 then some (.int (i / j)) else none
  | _, _ => none
theorem uC {a b : Expr} {ga gb : Ev -> R D} {pos : Pos} (ha : QF X a ga) (hb : QF X b gb) : QF X (.BinOp a .FloorDiv b pos) (g2 tN ga gb) := gN zb (by
  intro G H x y dx dy d Q s rx ry e q
  unfold tN at e
  split at e
  . split at e
    . rename_i hc
      cases e
      exact ⟨_, _, rx.int_inv, ry.int_inv, hc, q _ G H (.refl s) (.int _)⟩
    . cases e
  . cases e) ha hb
def sR : D -> D -> Option D
  | .int i, .int j => if 0 < j then some (.int (i % j)) else none
  | _, _ => none
theorem xv {a b : Expr} {ga gb : Ev -> R D} {pos : Pos} (ha : QF X a ga) (hb : QF X b gb) : QF X (.BinOp a .Mod b pos) (g2 sR ga gb) := gN Bz (by
  intro G H x y dx dy d Q s rx ry e q
  unfold sR at e
  split at e
  . split at e
    . rename_i hc
      cases e
      exact ⟨_, _, rx.int_inv, ry.int_inv, hc, q _ G H (.refl s) (.int _)⟩
    . cases e
  . cases e) ha hb
end
end L2
namespace L2
open PySem PySem.Spec PyProof.Rows

section
variable {X : Cx} {a b c e : Expr} {ga gb gc : Ev -> R D} {pos : Pos}
def leD : D -> D -> Option D
  | .int i, .int j => some (.bl (decide (i <= j)))
  | .str x, .str y => some (.bl (!decide (y < x)))
  | _, _ => none
def ltD : D -> D -> Option D
  | .int i, .int j => some (.bl (decide (i < j)))
  | .str x, .str y => some (.bl (decide (x < y)))
  | _, _ => none
def gtD : D -> D -> Option D
  | .int i, .int j => some (.bl (decide (j < i)))
  | _, _ => none
def geD : D -> D -> Option D
  | .int i, .int j => some (.bl (decide (j <= i)))
  | _, _ => none
theorem sV : OpR X (compareOp .LtE) (fun x y H Q => ∃ i j : Str, x = .str i /\ y = .str j /\ Q (.bl (!decide (j.cps.toList < i.cps.toList))) H) := by
  intro pins s σ H x y v u Q I rx ry h
  obtain ⟨i, j, rfl, rfl, q⟩ := h
  obtain ⟨t, rfl⟩ := rx
  obtain ⟨t', rfl⟩ := ry
  exact PySem.P.le_str (vE I q rfl)
theorem sK (K : PySem.W.Frag) : ROk K (fun x y H Q => (rI0 fun i j => .bl (decide (i <= j))) x y H Q \/ ∃ i j : Str, x = .str i /\ y = .str j /\ Q (.bl (!decide (j.cps.toList < i.cps.toList))) H) leD := by
  intro G H x y dx dy d Q s rx ry e q
  unfold leD at e
  split at e
  . cases e
    exact .inl ⟨_, _, rx.int_inv, ry.int_inv, q _ G H (.refl s) (.bl _)⟩
  . cases e
    obtain ⟨i, rfl, ei, hi⟩ := rx.str_inv
    obtain ⟨j, rfl, ej, hj⟩ := ry.str_inv
    subst ei ej
    exact .inr ⟨i, j, rfl, rfl, q _ G H (.refl s) (.bl _)⟩
  . cases e
theorem BG (K : PySem.W.Frag) : ROk K (fun x y H Q => (rI0 fun i j => .bl (decide (i < j))) x y H Q \/ ∃ i j : Str, x = .str i /\ y = .str j /\ Q (.bl (decide (i.cps.toList < j.cps.toList))) H) ltD := by
  intro G H x y dx dy d Q s rx ry e q
  unfold ltD at e
  split at e
  . cases e
    exact .inl ⟨_, _, rx.int_inv, ry.int_inv, q _ G H (.refl s) (.bl _)⟩
  . cases e
    obtain ⟨i, rfl, ei, hi⟩ := rx.str_inv
    obtain ⟨j, rfl, ej, hj⟩ := ry.str_inv
    subst ei ej
    exact .inr ⟨i, j, rfl, rfl, q _ G H (.refl s) (.bl _)⟩
  . cases e
theorem DB (K : PySem.W.Frag) : ROk K (rI0 fun i j => .bl (decide (j < i))) gtD := by
  intro G H x y dx dy d Q s rx ry e q
  unfold gtD at e
  split at e
  . cases e
    exact ⟨_, _, rx.int_inv, ry.int_inv, q _ G H (.refl s) (.bl _)⟩
  . cases e
theorem D9 (K : PySem.W.Frag) : ROk K (rI0 fun i j => .bl (decide (j <= i))) geD := by
  intro G H x y dx dy d Q s rx ry e q
  unfold geD at e
  split at e
  . cases e
    exact ⟨_, _, rx.int_inv, ry.int_inv, q _ G H (.refl s) (.bl _)⟩
  . cases e
theorem lK : OpR X (compareOp .LtE) (fun x y H Q => (rI0 fun i j => .bl (decide (i <= j))) x y H Q \/ ∃ i j : Str, x = .str i /\ y = .str j /\ Q (.bl (!decide (j.cps.toList < i.cps.toList))) H) := op_le.or sV
theorem ya : OpR X (compareOp .Lt) (fun x y H Q => (rI0 fun i j => .bl (decide (i < j))) x y H Q \/ ∃ i j : Str, x = .str i /\ y = .str j /\ Q (.bl (decide (i.cps.toList < j.cps.toList))) H) := op_lt.or uq
theorem yC (ha : QF X a ga) (hb : QF X b gb) : QF X (.Compare a [.LtE] [b] pos) (g2 leD ga gb) := ma lK (sK _) ha hb (gr _)
theorem Az (ha : QF X a ga) (hb : QF X b gb) : QF X (.Compare a [.Lt] [b] pos) (g2 ltD ga gb) := ma ya (BG _) ha hb (gr _)
theorem ud (ha : QF X a ga) (hb : QF X b gb) (hc : QF X c gc) (hm : lastMarks [.LtE, .LtE] [b, c] = false := by with_unfolding_all rfl) : QF X (.Compare a [.LtE, .LtE] [b, c] pos) (g3 leD leD ga gb gc) := rB lK lK (sK _) (sK _) ha hb hc hm
end

def eqZ (f : D -> D -> Option Bool) : List D -> List D -> Option (List Bool)
  | x :: xs, y :: ys => (f x y).bind fun b => (eqZ f xs ys).map (b :: ·)
  | _, _ => some []
def eqD : Nat -> D -> D -> Option Bool
  | 0, _, _ => none
  | n + 1, a, b => match a, b with
    | .non, .non => some true
    | .bl x, .bl y => some (x == y)
    | .int i, .int j => some (i == j)
    | .str x, .str y => some (x == y)
    | .bl x, .int j => some ((if x then 1 else 0) == j)
    | .int i, .bl y => some (i == (if y then 1 else 0))
    | .lst _ xs, .lst _ ys => if xs.length = ys.length then (eqZ (eqD n) xs ys).map fun bs => bs.all id else some false
    | .tup xs, .tup ys => (eqZ (eqD n) xs ys).map fun bs => bs.all id && xs.length == ys.length
    | .exc _, _ => none
    | _, .exc _ => none
    | _, _ => some false
theorem eqZ.get {f : D -> D -> Option Bool} : ∀ {xs ys : List D} {bs : List Bool}, eqZ f xs ys = some bs -> bs.length = min xs.length ys.length /\ ∀ (j : Nat) (x y : D), xs[j]? = some x -> ys[j]? = some y -> ∃ b, bs[j]? = some b /\ f x y = some b
  | [], _, _, e => by simp [eqZ] at e; subst e; exact ⟨by simp, fun j x y h => by simp at h⟩
  | _ :: _, [], _, e => by simp [eqZ] at e; subst e; exact ⟨by simp, fun j x y _ h => by simp at h⟩
  | x :: xs, y :: ys, bs, e => by
    unfold eqZ at e
    cases e1 : f x y with
    | none => rw [e1] at e; cases e
    | some b =>
      rw [e1] at e
      cases e2 : eqZ f xs ys with
      | none => rw [e2] at e; cases e
      | some cs =>
        rw [e2] at e
        cases e
        obtain ⟨h1, h2⟩ := eqZ.get e2
        refine ⟨by simp [h1], fun j => ?_⟩
        cases j with
        | zero => intro x' y' hx hy; simp at hx hy; subst hx hy; exact ⟨b, rfl, e1⟩
        | succ j => intro x' y' hx hy; exact h2 j x' y' (by simpa using hx) (by simpa using hy)
theorem jW {bs : List Bool} {n : Nat} (h : bs.length = n) : (List.range n).all (fun j => bs.getD j true) = bs.all id := by
  subst h
  rw [Bool.eq_iff_iff, List.all_eq_true, List.all_eq_true]
  constructor
  . intro h b hb
    obtain ⟨i, hi, rfl⟩ := List.mem_iff_getElem.mp hb
    have := h i (by simpa using hi)
    simpa [List.getD_eq_getElem?_getD, hi] using this
  . intro h j hj
    have hj' : j < bs.length := by simpa using hj
    have := h bs[j] (List.getElem_mem hj')
    simpa [List.getD_eq_getElem?_getD, hj'] using this
theorem dj : (Value.type "list" : Value) ≠ .type "tuple" := by
  intro h
  injection h with h
  exact absurd h (by decide)
section
variable {X : Cx} {pins : List (Addr × Obj)} {σ : St} {G H : Hp} {s : Shared}
open SeqAt
theorem eZ (I : Inv X pins σ H s) (sub : Same G H) : ∀ (n : Nat) (a b : D) (k : Bool) (x : V), eqD n a b = some k -> Rep X.K G x a -> Rep X.K G x b -> k = true := by
  intro n
  induction n with
  | zero => intro a b k x e; cases e
  | succ n ih =>
    have sq : ∀ (vs : List V) (xs ys : List D), Reps X.K G vs xs -> Reps X.K G vs ys -> ∀ bs, eqZ (eqD n) xs ys = some bs -> bs.all id = true := by
      intro vs
      induction vs with
      | nil => intro xs ys h1 h2 bs e; cases h1; cases h2; simp [eqZ] at e; subst e; rfl
      | cons v vs ihv =>
        intro xs ys h1 h2 bs e
        cases h1 with
        | cons r1 t1 =>
          cases h2 with
          | cons r2 t2 =>
            unfold eqZ at e
            rename_i d1 ds1 d2 ds2
            cases e1 : eqD n d1 d2 with
            | none => rw [e1] at e; cases e
            | some b =>
              rw [e1] at e
              cases e2 : eqZ (eqD n) ds1 ds2 with
              | none => rw [e2] at e; cases e
              | some cs =>
                rw [e2] at e
                cases e
                rw [List.all_cons, ih _ _ _ _ e1 r1 r2, ihv _ _ t1 t2 _ e2]
                rfl
    intro a b k x e ra rb
    cases ra with
    | non => cases rb; simp [eqD] at e; exact e
    | bl y => cases rb; simp [eqD] at e; exact e
    | int i => cases rb; simp [eqD] at e; exact e
    | str y h =>
      cases rb with
      | str z h' => simp [eqD] at e; exact e
    | tup h r =>
      cases rb with
      | tup h' r' =>
        have q := I.tuple_inj (h.mono sub) (h'.mono sub)
        subst q
        simp only [eqD] at e
        rename_i ds es
        cases e2 : eqZ (eqD n) ds es with
        | none => rw [e2] at e; cases e
        | some cs =>
          rw [e2] at e
          have this : (cs.all id && ds.length == es.length) = k := Option.some.inj e
          rw [sq _ _ _ r r' _ e2, Bool.true_and] at this
          rw [<- this, <- r.length, <- r'.length]
          simp
      | lst h' r' =>
        obtain ⟨its, _, ⟨o, e1, c1, _⟩, _⟩ := I.tuple (h.mono sub)
        obtain ⟨_, its', n', _, e2⟩ := I.hok _ _ (sub _ _ h')
        rw [e1] at e2; cases e2; exact absurd c1 dj
      | fls h' r' =>
        obtain ⟨its, _, ⟨o, e1, c1, _⟩, _⟩ := I.tuple (h.mono sub)
        obtain ⟨its', _, ⟨o', n', e2, c2, _⟩, _⟩ := I.list (h'.mono sub)
        rw [e1] at e2; cases e2; rw [c1] at c2; exact absurd c2.symm dj
      | exc h' => simp [eqD] at e
    | lst h r =>
      have hl : SqL X.K G _ _ := SqL.of h
      cases rb with
      | tup h' r' =>
        obtain ⟨its, _, ⟨o, e1, c1, _⟩, _⟩ := I.tuple (h'.mono sub)
        obtain ⟨_, its', n', _, e2⟩ := I.hok _ _ (sub _ _ h)
        rw [e1] at e2; cases e2; exact absurd c1 dj
      | lst h' r' =>
        rw [h] at h'; cases h'
        simp only [eqD] at e
        rw [if_pos (by rw [<- r.length, <- r'.length])] at e
        rename_i ds es
        cases e2 : eqZ (eqD n) ds es with
        | none => rw [e2] at e; cases e
        | some cs => rw [e2] at e; have := Option.some.inj e; rw [<- this]; exact sq _ _ _ r r' _ e2
      | fls h' r' =>
        have q := I.list_inj (hl.mono sub) (h'.mono sub)
        subst q
        simp only [eqD] at e
        rw [if_pos (by rw [<- r.length, <- r'.length])] at e
        rename_i ds es
        cases e2 : eqZ (eqD n) ds es with
        | none => rw [e2] at e; cases e
        | some cs => rw [e2] at e; have := Option.some.inj e; rw [<- this]; exact sq _ _ _ r r' _ e2
      | exc h' => simp [eqD] at e
    | fls h r =>
      cases rb with
      | tup h' r' =>
        obtain ⟨its, _, ⟨o, e1, c1, _⟩, _⟩ := I.tuple (h'.mono sub)
        obtain ⟨its', _, ⟨o', n', e2, c2, _⟩, _⟩ := I.list (h.mono sub)
        rw [e1] at e2; cases e2; rw [c1] at c2; exact absurd c2.symm dj
      | lst h' r' =>
        have q := I.list_inj (h.mono sub) ((SqL.of h' : SqL X.K G _ _).mono sub)
        subst q
        simp only [eqD] at e
        rw [if_pos (by rw [<- r.length, <- r'.length])] at e
        rename_i ds es
        cases e2 : eqZ (eqD n) ds es with
        | none => rw [e2] at e; cases e
        | some cs => rw [e2] at e; have := Option.some.inj e; rw [<- this]; exact sq _ _ _ r r' _ e2
      | fls h' r' =>
        have q := I.list_inj (h.mono sub) (h'.mono sub)
        subst q
        simp only [eqD] at e
        rw [if_pos (by rw [<- r.length, <- r'.length])] at e
        rename_i ds es
        cases e2 : eqZ (eqD n) ds es with
        | none => rw [e2] at e; cases e
        | some cs => rw [e2] at e; have := Option.some.inj e; rw [<- this]; exact sq _ _ _ r r' _ e2
      | exc h' => simp [eqD] at e
    | exc h => simp [eqD] at e

structure Eqs (A : Around) (s : Shared) (v u : Value) (k : Bool) : Prop where
  eq : EqAt A s v u k
  rc : RcAt A s v u k
  ne : RcNeAt A s v u (!k)
theorem fQ {f : Bool} {x : V} {u : Value} {ds : List D} (I : Inv X pins σ H s) (sub : Same G H) (r : Rep X.K G x (.lst f ds)) (ru : RelV x u) : ∃ a its vs, u = .ref a /\ s.heap.IsList a (List.toArray its) /\ Vals vs its /\ Reps X.K G vs ds := by
  obtain ⟨a, vs, rfl, h, t⟩ := r.seq_inv
  cases ru
  obtain ⟨its, rv, ⟨o, n, e1, c1, _, d1⟩, _⟩ := I.list (h.mono sub)
  exact ⟨a, its, vs, rfl, ⟨o, e1, c1, n, d1⟩, rv, t⟩
theorem jC {x : V} {u : Value} {ds : List D} (I : Inv X pins σ H s) (sub : Same G H) (r : Rep X.K G x (.tup ds)) (ru : RelV x u) : ∃ a its vs, u = .ref a /\ s.heap.IsTuple a (List.toArray its) /\ Vals vs its /\ Reps X.K G vs ds := by
  obtain ⟨a, vs, rfl, h, t⟩ := r.tup_inv
  cases ru
  obtain ⟨its, rv, p, _⟩ := I.tuple (h.mono sub)
  exact ⟨a, its, vs, rfl, p, rv, t⟩
theorem pO (I : Inv X pins σ H s) (sub : Same G H) : ∀ (n : Nat) (A : Around) (a b : D) (k : Bool) (x y : V) (v u : Value), A.units + n < cLine -> eqD n a b = some k -> Rep X.K G x a -> Rep X.K G y b -> RelV x v -> RelV y u -> Eqs A s v u k := by
  intro n
  induction n with
  | zero => intro A a b k x y v u _ e; cases e
  | succ n ih =>
    have sq : ∀ (A : Around) (vs ws : List V) (xs ys : List D) (is js : List Value) (bs : List Bool), A.units + (n + 1) < cLine -> Reps X.K G vs xs -> Reps X.K G ws ys -> Vals vs is -> Vals ws js -> eqZ (eqD n) xs ys = some bs ->
        bs.length = min is.length js.length /\ ∀ j (h1 : j < is.toArray.size) (h2 : j < js.toArray.size), EqAt A.in1 s is.toArray[j] js.toArray[j] (bs.getD j true) := by
      intro A vs ws xs ys is js bs hA r1 r2 v1 v2 e
      obtain ⟨h1, h2⟩ := eqZ.get e
      refine ⟨by rw [h1, <- r1.length, <- r2.length, v1.length, v2.length], fun j q1 q2 => ?_⟩
      rw [List.size_toArray] at q1 q2
      have p1 : j < xs.length := by rw [<- r1.length, v1.length]; exact q1
      have p2 : j < ys.length := by rw [<- r2.length, v2.length]; exact q2
      obtain ⟨b, e1, e2⟩ := h2 j xs[j] ys[j] (by simp [p1]) (by simp [p2])
      obtain ⟨x', ex, rx⟩ := r1.get (i := j) (d := xs[j]) (by simp [p1])
      obtain ⟨y', ey, ry⟩ := r2.get (i := j) (d := ys[j]) (by simp [p2])
      obtain ⟨u1, eu1, ru1⟩ := v1.get ex
      obtain ⟨u2, eu2, ru2⟩ := v2.get ey
      have g1 : is.toArray[j] = u1 := by simpa [q1] using eu1
      have g2 : js.toArray[j] = u2 := by simpa [q2] using eu2
      rw [List.getD_eq_getElem?_getD, e1]
      simp only [List.getElem_toArray] at g1 g2 ⊢
      rw [g1, g2]
      exact (ih A.in1 _ _ b x' y' u1 u2 (by show A.units + 1 + n < cLine; omega) e2 rx ry ru1 ru2).eq
    intro A a b k x y v u hA e ra rb rv ru
    have hu : A.units < cLine := by omega
    have same : ∀ c d : Addr, v = .ref c -> u = .ref d -> c = d -> k = true := fun c d h1 h2 h3 => by
      subst h1 h2 h3
      cases ra with
      | tup h r => cases rv; cases rb with
        | tup h' r' => cases ru; exact eZ I sub (n + 1) _ _ k _ e (.tup h r) (.tup h' r')
        | lst h' r' => cases ru; exact eZ I sub (n + 1) _ _ k _ e (.tup h r) (.lst h' r')
        | fls h' r' => cases ru; exact eZ I sub (n + 1) _ _ k _ e (.tup h r) (.fls h' r')
        | exc h' => simp [eqD] at e
        | str _ _ => obtain ⟨t, z⟩ := ru; cases z
        | int _ => obtain ⟨t, z⟩ := ru; cases z
        | non => cases ru
        | bl _ => cases ru
      | lst h r => cases rv; cases rb with
        | tup h' r' => cases ru; exact eZ I sub (n + 1) _ _ k _ e (.lst h r) (.tup h' r')
        | lst h' r' => cases ru; exact eZ I sub (n + 1) _ _ k _ e (.lst h r) (.lst h' r')
        | fls h' r' => cases ru; exact eZ I sub (n + 1) _ _ k _ e (.lst h r) (.fls h' r')
        | exc h' => simp [eqD] at e
        | str _ _ => obtain ⟨t, z⟩ := ru; cases z
        | int _ => obtain ⟨t, z⟩ := ru; cases z
        | non => cases ru
        | bl _ => cases ru
      | fls h r => cases rv; cases rb with
        | tup h' r' => cases ru; exact eZ I sub (n + 1) _ _ k _ e (.fls h r) (.tup h' r')
        | lst h' r' => cases ru; exact eZ I sub (n + 1) _ _ k _ e (.fls h r) (.lst h' r')
        | fls h' r' => cases ru; exact eZ I sub (n + 1) _ _ k _ e (.fls h r) (.fls h' r')
        | exc h' => simp [eqD] at e
        | str _ _ => obtain ⟨t, z⟩ := ru; cases z
        | int _ => obtain ⟨t, z⟩ := ru; cases z
        | non => cases ru
        | bl _ => cases ru
      | exc h => simp [eqD] at e
      | str _ _ => obtain ⟨t, z⟩ := rv; cases z
      | int _ => obtain ⟨t, z⟩ := rv; cases z
      | non => cases rv
      | bl _ => cases rv
    have refs : ∀ c d : Addr, v = .ref c -> u = .ref d -> RcAt A s v u k -> EqAt A s v u k := fun c d h1 h2 h => by
      subst h1 h2
      by_cases h3 : c = d
      . have := same c d rfl rfl h3
        subst h3 this
        exact EqAt.same _
      . exact EqAt.of_refs h3 h
    cases a with
    | exc C => simp [eqD] at e
    | non =>
      obtain rfl := ra.non_inv
      cases rv
      cases b with
      | exc C => simp [eqD] at e
      | non => obtain rfl := rb.non_inv; cases ru; simp [eqD] at e; subst e; exact ⟨EqAt.same _, RcAt.none_none, RcNeAt.none_none⟩
      | bl z => obtain rfl := rb.bl_inv; cases ru; simp [eqD] at e; subst e; exact ⟨EqAt.none_bool _, RcAt.none_bool _, RcNeAt.none_bool _⟩
      | int z => obtain rfl := rb.int_inv; obtain ⟨t, rfl⟩ := ru; simp [eqD] at e; subst e; exact ⟨EqAt.none_int _ _, RcAt.none_int _ _, RcNeAt.none_int _ _⟩
      | str z => obtain ⟨z, rfl, -, -⟩ := rb.str_inv; obtain ⟨t, rfl⟩ := ru; simp [eqD] at e; subst e; exact ⟨EqAt.none_str _ _, RcAt.none_str _ _, RcNeAt.none_str _ _⟩
      | tup ds => obtain ⟨c, its, vs, rfl, p, _, _⟩ := jC I sub rb ru; simp [eqD] at e; subst e; exact ⟨EqAt.none_tuple p hu, RcAt.none_tuple p hu, RcNeAt.none_tuple p hu⟩
      | lst f ds => obtain ⟨c, its, vs, rfl, p, _, _⟩ := fQ I sub rb ru; simp [eqD] at e; subst e; exact ⟨EqAt.none_list p hu, RcAt.none_list p hu, RcNeAt.none_list p hu⟩
    | bl w =>
      obtain rfl := ra.bl_inv
      cases rv
      cases b with
      | exc C => simp [eqD] at e
      | non => obtain rfl := rb.non_inv; cases ru; simp [eqD] at e; subst e; exact ⟨EqAt.bool_none _, RcAt.bool_none _, RcNeAt.bool_none _⟩
      | bl z => obtain rfl := rb.bl_inv; cases ru; simp only [eqD] at e; cases e; exact ⟨EqAt.bool_bool _ _, RcAt.bool_bool _ _, RcNeAt.bool_bool _ _⟩
      | int z => obtain rfl := rb.int_inv; obtain ⟨t, rfl⟩ := ru; simp only [eqD] at e; cases e; exact ⟨EqAt.bool_int _ _ _, RcAt.bool_int _ _ _, RcNeAt.bool_int _ _ _⟩
      | str z => obtain ⟨z, rfl, -, -⟩ := rb.str_inv; obtain ⟨t, rfl⟩ := ru; simp [eqD] at e; subst e; exact ⟨EqAt.bool_str _ _ _, RcAt.bool_str _ _ _, RcNeAt.bool_str _ _ _⟩
      | tup ds => obtain ⟨c, its, vs, rfl, p, _, _⟩ := jC I sub rb ru; simp [eqD] at e; subst e; exact ⟨EqAt.bool_tuple _ p hu, RcAt.bool_tuple _ p hu, RcNeAt.bool_tuple _ p hu⟩
      | lst f ds => obtain ⟨c, its, vs, rfl, p, _, _⟩ := fQ I sub rb ru; simp [eqD] at e; subst e; exact ⟨EqAt.bool_list _ p hu, RcAt.bool_list _ p hu, RcNeAt.bool_list _ p hu⟩
    | int w =>
      obtain rfl := ra.int_inv
      obtain ⟨t0, rfl⟩ := rv
      cases b with
      | exc C => simp [eqD] at e
      | non => obtain rfl := rb.non_inv; cases ru; simp [eqD] at e; subst e; exact ⟨EqAt.int_none _ _, RcAt.int_none _ _, RcNeAt.int_none _ _⟩
      | bl z => obtain rfl := rb.bl_inv; cases ru; simp only [eqD] at e; cases e; exact ⟨EqAt.int_bool _ _ _, RcAt.int_bool _ _ _, RcNeAt.int_bool _ _ _⟩
      | int z => obtain rfl := rb.int_inv; obtain ⟨t, rfl⟩ := ru; simp only [eqD] at e; cases e; exact ⟨EqAt.int_int _ _ _ _, RcAt.int_int _ _ _ _, RcNeAt.int_int _ _ _ _⟩
      | str z => obtain ⟨z, rfl, -, -⟩ := rb.str_inv; obtain ⟨t, rfl⟩ := ru; simp [eqD] at e; subst e; exact ⟨EqAt.int_str _ _ _ _, RcAt.int_str _ _ _ _, RcNeAt.int_str _ _ _ _⟩
      | tup ds => obtain ⟨c, its, vs, rfl, p, _, _⟩ := jC I sub rb ru; simp [eqD] at e; subst e; exact ⟨EqAt.int_tuple _ _ p hu, RcAt.int_tuple _ _ p hu, RcNeAt.int_tuple _ _ p hu⟩
      | lst f ds => obtain ⟨c, its, vs, rfl, p, _, _⟩ := fQ I sub rb ru; simp [eqD] at e; subst e; exact ⟨EqAt.int_list _ _ p hu, RcAt.int_list _ _ p hu, RcNeAt.int_list _ _ p hu⟩
    | str w =>
      obtain ⟨w, rfl, ew, -⟩ := ra.str_inv
      obtain ⟨t0, rfl⟩ := rv
      cases b with
      | exc C => simp [eqD] at e
      | non => obtain rfl := rb.non_inv; cases ru; simp [eqD] at e; subst e; exact ⟨EqAt.str_none _ _, RcAt.str_none _ _, RcNeAt.str_none _ _⟩
      | bl z => obtain rfl := rb.bl_inv; cases ru; simp [eqD] at e; subst e; exact ⟨EqAt.str_bool _ _ _, RcAt.str_bool _ _ _, RcNeAt.str_bool _ _ _⟩
      | int z => obtain rfl := rb.int_inv; obtain ⟨t, rfl⟩ := ru; simp [eqD] at e; subst e; exact ⟨EqAt.str_int _ _ _ _, RcAt.str_int _ _ _ _, RcNeAt.str_int _ _ _ _⟩
      | str z =>
        obtain ⟨z, rfl, ez, -⟩ := rb.str_inv; obtain ⟨t, rfl⟩ := ru
        simp only [eqD] at e
        subst ew ez
        rw [str_beq] at e
        cases e
        exact ⟨EqAt.str_str _ _ _ _, RcAt.str_str _ _ _ _, RcNeAt.str_str _ _ _ _⟩
      | tup ds => obtain ⟨c, its, vs, rfl, p, _, _⟩ := jC I sub rb ru; simp [eqD] at e; subst e; exact ⟨EqAt.str_tuple _ _ p hu, RcAt.str_tuple _ _ p hu, RcNeAt.str_tuple _ _ p hu⟩
      | lst f ds => obtain ⟨c, its, vs, rfl, p, _, _⟩ := fQ I sub rb ru; simp [eqD] at e; subst e; exact ⟨EqAt.str_list _ _ p hu, RcAt.str_list _ _ p hu, RcNeAt.str_list _ _ p hu⟩
    | tup ds1 =>
      obtain ⟨c1, its1, vs1, rfl, p1, w1, q1⟩ := jC I sub ra rv
      cases b with
      | exc C => simp [eqD] at e
      | non => obtain rfl := rb.non_inv; cases ru; simp [eqD] at e; subst e; exact ⟨EqAt.tuple_none p1 hu, RcAt.tuple_none p1 hu, RcNeAt.tuple_none p1 hu⟩
      | bl z => obtain rfl := rb.bl_inv; cases ru; simp [eqD] at e; subst e; exact ⟨EqAt.tuple_bool _ p1 hu, RcAt.tuple_bool _ p1 hu, RcNeAt.tuple_bool _ p1 hu⟩
      | int z => obtain rfl := rb.int_inv; obtain ⟨t, rfl⟩ := ru; simp [eqD] at e; subst e; exact ⟨EqAt.tuple_int _ _ p1 hu, RcAt.tuple_int _ _ p1 hu, RcNeAt.tuple_int _ _ p1 hu⟩
      | str z => obtain ⟨z, rfl, -, -⟩ := rb.str_inv; obtain ⟨t, rfl⟩ := ru; simp [eqD] at e; subst e; exact ⟨EqAt.tuple_str _ _ p1 hu, RcAt.tuple_str _ _ p1 hu, RcNeAt.tuple_str _ _ p1 hu⟩
      | lst f ds => obtain ⟨c, its, vs, rfl, p, _, _⟩ := fQ I sub rb ru; simp [eqD] at e; subst e; exact ⟨EqAt.tuple_list p1 p hu, RcAt.tuple_list p1 p hu, RcNeAt.tuple_list p1 p hu⟩
      | tup ds2 =>
        obtain ⟨c2, its2, vs2, rfl, p2, w2, q2⟩ := jC I sub rb ru
        simp only [eqD] at e
        cases e2 : eqZ (eqD n) ds1 ds2 with
        | none => rw [e2] at e; cases e
        | some bs =>
          rw [e2] at e
          have ek := Option.some.inj e
          obtain ⟨hl, he⟩ := sq A _ _ _ _ _ _ bs hA q1 q2 w1 w2 e2
          have e3 : ((List.range (min its1.toArray.size its2.toArray.size)).all (fun j => bs.getD j true) && its1.toArray.size == its2.toArray.size) = k := by
            rw [<- ek, List.size_toArray, List.size_toArray, jW hl, <- w1.length, <- w2.length, q1.length, q2.length]
          have hrc : RcAt A s (.ref c1) (.ref c2) k := by rw [<- e3]; exact RcAt.tuples p1 p2 hu he
          have hne : RcNeAt A s (.ref c1) (.ref c2) (!k) := by rw [<- e3]; exact RcNeAt.tuples p1 p2 hu he
          exact ⟨refs _ _ rfl rfl hrc, hrc, hne⟩
    | lst f1 ds1 =>
      obtain ⟨c1, its1, vs1, rfl, p1, w1, q1⟩ := fQ I sub ra rv
      cases b with
      | exc C => simp [eqD] at e
      | non => obtain rfl := rb.non_inv; cases ru; simp [eqD] at e; subst e; exact ⟨EqAt.list_none p1 hu, RcAt.list_none p1 hu, RcNeAt.list_none p1 hu⟩
      | bl z => obtain rfl := rb.bl_inv; cases ru; simp [eqD] at e; subst e; exact ⟨EqAt.list_bool _ p1 hu, RcAt.list_bool _ p1 hu, RcNeAt.list_bool _ p1 hu⟩
      | int z => obtain rfl := rb.int_inv; obtain ⟨t, rfl⟩ := ru; simp [eqD] at e; subst e; exact ⟨EqAt.list_int _ _ p1 hu, RcAt.list_int _ _ p1 hu, RcNeAt.list_int _ _ p1 hu⟩
      | str z => obtain ⟨z, rfl, -, -⟩ := rb.str_inv; obtain ⟨t, rfl⟩ := ru; simp [eqD] at e; subst e; exact ⟨EqAt.list_str _ _ p1 hu, RcAt.list_str _ _ p1 hu, RcNeAt.list_str _ _ p1 hu⟩
      | tup ds => obtain ⟨c, its, vs, rfl, p, _, _⟩ := jC I sub rb ru; simp [eqD] at e; subst e; exact ⟨EqAt.list_tuple p1 p hu, RcAt.list_tuple p1 p hu, RcNeAt.list_tuple p1 p hu⟩
      | lst f2 ds2 =>
        obtain ⟨c2, its2, vs2, rfl, p2, w2, q2⟩ := fQ I sub rb ru
        simp only [eqD] at e
        by_cases hlen : ds1.length = ds2.length
        . rw [if_pos hlen] at e
          cases e2 : eqZ (eqD n) ds1 ds2 with
          | none => rw [e2] at e; cases e
          | some bs =>
            rw [e2] at e
            have ek := Option.some.inj e
            obtain ⟨hl, he⟩ := sq A _ _ _ _ _ _ bs hA q1 q2 w1 w2 e2
            have hz : its1.toArray.size = its2.toArray.size := by rw [List.size_toArray, List.size_toArray, <- w1.length, <- w2.length, q1.length, q2.length]; exact hlen
            have e3 : (List.range its1.toArray.size).all (fun j => bs.getD j true) = k := by
              rw [<- ek, jW]
              rw [hl, List.size_toArray]
              simp only [List.size_toArray] at hz
              omega
            have hrc : RcAt A s (.ref c1) (.ref c2) k := by rw [<- e3]; exact RcAt.lists p1 p2 hz hu he
            have hne : RcNeAt A s (.ref c1) (.ref c2) (!k) := by rw [<- e3]; exact RcNeAt.lists p1 p2 hz hu he
            exact ⟨refs _ _ rfl rfl hrc, hrc, hne⟩
        . rw [if_neg hlen] at e
          cases e
          have hz : (its1.toArray.size != its2.toArray.size) = true := by
            rw [List.size_toArray, List.size_toArray, <- w1.length, <- w2.length, q1.length, q2.length]
            simpa using hlen
          have hrc : RcAt A s (.ref c1) (.ref c2) false := RcAt.lists_lengths p1 p2 hz hu
          exact ⟨refs _ _ rfl rfl hrc, hrc, RcNeAt.lists_lengths p1 p2 hz hu⟩
end
section
variable {X : Cx} {a b : Expr} {ga gb : Ev -> R D} {pos : Pos}
def eqF (x y : D) : Option D := (eqD 40 x y).map .bl
def neF (x y : D) : Option D := (eqD 40 x y).map fun k => .bl (!k)
def D2 (K : PySem.W.Frag) (neg : Bool) : R2 := fun x y H Q => ∃ G dx dy k, Same G H /\ Rep K G x dx /\ Rep K G y dy /\ eqD 40 dx dy = some k /\ Q (.bl (if neg then !k else k)) H
theorem yj (hu : X.A.units + 64 < cLine) : OpR X (compareOp .Eq) (D2 X.K false) := by
  intro pins s σ H x y v u Q I rx ry h
  obtain ⟨G, dx, dy, k, sub, r1, r2, e, q⟩ := h
  exact (pO I sub 40 X.A dx dy k x y v u (by omega) e r1 r2 rx ry).rc _ _ _ _ ⟨.bl k, H, I, rfl, q⟩
theorem BV (hu : X.A.units + 64 < cLine) : OpR X (compareOp .NotEq) (D2 X.K true) := by
  intro pins s σ H x y v u Q I rx ry h
  obtain ⟨G, dx, dy, k, sub, r1, r2, e, q⟩ := h
  exact (pO I sub 40 X.A dx dy k x y v u (by omega) e r1 r2 rx ry).ne _ _ _ _ ⟨.bl (!k), H, I, rfl, q⟩
theorem yL (hu : X.A.units + 64 < cLine) (ha : QF X a ga) (hb : QF X b gb) : QF X (.Compare a [.Eq] [b] pos) (g2 eqF ga gb) := ma (yj hu) (by
  intro G H x y dx dy d Q s rx ry e q
  unfold eqF at e
  cases e1 : eqD 40 dx dy with
  | none => rw [e1] at e; cases e
  | some k => rw [e1] at e; cases e; exact ⟨G, dx, dy, k, s, rx, ry, e1, q _ G H (.refl s) (.bl k)⟩) ha hb (gr _)
end
end L2
namespace L2
open PySem PySem.Spec PyProof.Rows
section
variable {X : Cx} {a b c e : Expr} {es dI : List Expr} {ga gb gc : Ev -> R D} {gt gu : Ev -> R Bool} {gl : Ev -> R (List D)} {pos : Pos}

def isD : D -> D -> Option Bool
  | .non, .non => some true
  | _, .non => some false
  | .bl x, .bl y => some (x == y)
  | _, _ => none
def isF (x y : D) : Option D := (isD x y).map .bl
def rIs (neg : Bool) : R2 := fun x y H Q => (y = .non /\ Q (.bl (if neg then !decide (x = .non) else decide (x = .non))) H) \/ ∃ i j, x = .bl i /\ y = .bl j /\ Q (.bl (if neg then !(i == j) else (i == j))) H
theorem BK : OpR X (compareOp .Is) (rIs false) := op_isN.or (r' := fun x y H Q => ∃ i j, x = .bl i /\ y = .bl j /\ Q (.bl (i == j)) H) (by
  intro pins s σ H x y v u Q I rx ry h
  obtain ⟨i, j, rfl, rfl, q⟩ := h
  cases rx
  cases ry
  exact is_bool ⟨.bl _, H, I, rfl, q⟩)
theorem CQ (K : PySem.W.Frag) (neg : Bool) : ROk K (rIs neg) (fun x y => (isD x y).map fun k => .bl (if neg then !k else k)) := by
  intro G H x y dx dy d Q s rx ry e q
  dsimp only at e
  cases e1 : isD dx dy with
  | none => rw [e1] at e; cases e
  | some k =>
    rw [e1] at e
    have ed : D.bl (if neg = true then !k else k) = d := Option.some.inj e
    subst ed
    unfold isD at e1
    split at e1
    . cases e1
      exact .inl ⟨ry.non_inv, by rw [rx.non_inv]; exact q _ G H (.refl s) (.bl _)⟩
    . rename_i hx
      cases e1
      have hn : x ≠ .non := fun z => by subst z; cases rx; exact hx rfl
      refine .inl ⟨ry.non_inv, ?_⟩
      rw [decide_eq_false hn]
      exact q _ G H (.refl s) (.bl _)
    . cases e1
      exact .inr ⟨_, _, rx.bl_inv, ry.bl_inv, q _ G H (.refl s) (.bl _)⟩
    . cases e1
def asB : D -> R Bool
  | .bl k => .ok k
  | _ => .no
def iK (ga gb : Ev -> R D) : Ev -> R D := fun ρ => ga ρ >>= fun x => asB x >>= fun k => if k = true then gb ρ else .ok (.bl false)
def gOr (ga gb : Ev -> R D) : Ev -> R D := fun ρ => ga ρ >>= fun x => asB x >>= fun k => if k = true then .ok (.bl true) else gb ρ
def AR (ga : Ev -> R D) : Ev -> R D := fun ρ => ga ρ >>= fun x => asB x >>= fun k => .ok (.bl (!k))
theorem asB.ok {β : Type} {K : PySem.W.Frag} {G : Hp} {v : V} {d : D} {k : Bool -> R β} {P : β -> Prop} {E : Addr -> Prop} (r : Rep K G v d) (h : (asB d >>= k).post P E) : ∃ c, v = .bl c /\ d = .bl c /\ (k c).post P E := by
  cases r with
  | bl c => exact ⟨c, rfl, rfl, h⟩
  | _ => exact h.elim
theorem xg {op : BoolOp} (h : QF X a ga) : QF X (.BoolOp op [a] pos) ga := BX h
theorem wL (ha : QF X a ga) (hb : QF X (.BoolOp .And (b :: dI) pos) gb) : QF X (.BoolOp .And (a :: b :: dI) pos) (iK ga gb) := by
  intro pins s σ H Q I h
  refine A6 ha hb pins s σ H Q I ?_
  obtain ⟨G, ρ, st, h⟩ := h
  refine tG.intro st h fun x v G1 H1 u1 st1 r1 h1 => ?_
  obtain ⟨c, ec, ed, h2⟩ := asB.ok r1 h1
  subst ec ed
  refine ⟨c, rfl, ?_⟩
  cases c with
  | true => rw [if_pos rfl] at h2 ⊢; exact tG.last st1 h2
  | false => rw [if_neg Bool.false_ne_true] at h2 ⊢; exact h2 _ G1 H1 (.refl st1.sub) (.bl false)
theorem yG (ha : QF X a ga) (hb : QF X (.BoolOp .Or (b :: dI) pos) gb) : QF X (.BoolOp .Or (a :: b :: dI) pos) (gOr ga gb) := by
  intro pins s σ H Q I h
  refine DT ha hb pins s σ H Q I ?_
  obtain ⟨G, ρ, st, h⟩ := h
  refine tG.intro st h fun x v G1 H1 u1 st1 r1 h1 => ?_
  obtain ⟨c, ec, ed, h2⟩ := asB.ok r1 h1
  subst ec ed
  refine ⟨c, rfl, ?_⟩
  cases c with
  | true => rw [if_pos rfl] at h2 ⊢; exact h2 _ G1 H1 (.refl st1.sub) (.bl true)
  | false => rw [if_neg Bool.false_ne_true] at h2 ⊢; exact tG.last st1 h2
theorem wn (ha : QF X a ga) : QF X (.UnaryOp .Not a pos) (AR ga) := by
  intro pins s σ H Q I h
  refine Bc ha pins s σ H Q I ?_
  obtain ⟨G, ρ, st, h⟩ := h
  refine tG.intro st h fun x v G1 H1 u1 st1 r1 h1 => ?_
  obtain ⟨c, ec, ed, h2⟩ := asB.ok r1 h1
  subst ec ed
  exact ⟨c, rfl, h2 _ G1 H1 (.refl st1.sub) (.bl _)⟩
def yw : D -> R D
  | .int i => .ok (.int (-i))
  | _ => .no
theorem wu (ha : QF X a ga) : QF X (.UnaryOp .USub a pos) (fun ρ => ga ρ >>= yw) := by
  intro pins s σ H Q I h
  refine DV B1 ha pins s σ H Q I ?_
  obtain ⟨G, ρ, st, h⟩ := h
  refine tG.intro st h fun x v G1 H1 u1 st1 r1 h1 => ?_
  cases r1 with
  | int i => exact ⟨i, rfl, h1 _ G1 H1 (.refl st1.sub) (.int _)⟩
  | _ => exact h1.elim

def fw : D -> R Bool
  | .non => .ok false
  | .bl k => .ok k
  | .int i => .ok (i != 0)
  | .str x => .ok (!x.isEmpty)
  | .tup xs => .ok (!xs.isEmpty)
  | .lst _ xs => .ok (!xs.isEmpty)
  | .exc _ => .no
theorem Reps.isEmpty {K : PySem.W.Frag} {G : Hp} {vs : List V} {ds : List D} (r : Reps K G vs ds) : vs.isEmpty = ds.isEmpty := by cases r <;> rfl
theorem re (h : QF X e ga) (he : ∀ whole, isTrue e X.env whole = (do let v <- whole; standAt e.pos; holding [v] (truthy v)) := by intro _; rfl) : QB X e (fun ρ => ga ρ >>= fw) := by
  intro pins s σ H Q I hq
  refine vR h he pins s σ H Q I ?_
  obtain ⟨G, ρ, st, hq⟩ := hq
  refine tG.intro st hq fun x v G1 H1 u1 st1 r1 h1 => ?_
  have fin : ∀ k, fw x = .ok k -> Q k H1 := fun k ek => by rw [ek] at h1; exact h1 k G1 H1 (.refl st1.sub) rfl
  cases r1 with
  | non => exact ⟨_, rfl, fin _ rfl⟩
  | bl k => exact ⟨_, rfl, fin _ rfl⟩
  | int i => exact ⟨_, rfl, fin _ rfl⟩
  | str y hy =>
    refine ⟨_, ⟨hy, rfl⟩, fin _ ?_⟩
    show R.ok _ = R.ok _
    congr 1
    have : y.cps.toList.length = y.length := Str.len_list y
    cases h : y.cps.toList with
    | nil => rw [h] at this; rw [<- this]; rfl
    | cons c cs => rw [h] at this; rw [<- this]; simp; omega
  | tup h r => exact ⟨_, .inr (.inl ⟨_, h.mono st1.sub, rfl⟩), fin _ (by show R.ok _ = R.ok _; rw [r.isEmpty])⟩
  | lst h r => exact ⟨_, .inl ⟨_, .of (st1.sub _ _ h), rfl⟩, fin _ (by show R.ok _ = R.ok _; rw [r.isEmpty])⟩
  | fls h r => exact ⟨_, .inl ⟨_, h.mono st1.sub, rfl⟩, fin _ (by show R.ok _ = R.ok _; rw [r.isEmpty])⟩
  | exc h => exact h1.elim
theorem dY {op : CmpOp} {r : R2} {f : D -> D -> Option D} (ho : OpR X (compareOp op) r) (hf : ROk X.K r f) (ha : QF X a ga) (hb : QF X b gb) (hm : behindInMarks op b = false) : QB X (.Compare a [op] [b] pos) (fun ρ => g2 f ga gb ρ >>= asB) := by
  intro pins s σ H Q I h
  refine za ho ha hb hm pins s σ H Q I ?_
  obtain ⟨G, ρ, st, h⟩ := h
  refine wU hf ?_
  refine tG.intro st h fun x v G1 H1 u1 st1 r1 h1 => ?_
  cases r1 with
  | bl k => exact ⟨k, rfl, h1 k G1 H1 (.refl st1.sub) rfl⟩
  | _ => exact h1.elim
theorem zY (ha : QF X a ga) (hb : QF X b gb) : QB X (.Compare a [.Lt] [b] pos) (fun ρ => g2 ltD ga gb ρ >>= asB) := dY ya (BG _) ha hb (gr _)
theorem yQ (ha : QF X a ga) (hb : QF X b gb) : QB X (.Compare a [.LtE] [b] pos) (fun ρ => g2 leD ga gb ρ >>= asB) := dY lK (sK _) ha hb (gr _)
theorem zG (ha : QF X a ga) (hb : QF X b gb) : QB X (.Compare a [.Gt] [b] pos) (fun ρ => g2 gtD ga gb ρ >>= asB) := dY CO (DB _) ha hb (gr _)
theorem zy (ha : QF X a ga) (hb : QF X b gb) : QB X (.Compare a [.GtE] [b] pos) (fun ρ => g2 geD ga gb ρ >>= asB) := dY Dw (D9 _) ha hb (gr _)
theorem ym (K : PySem.W.Frag) (neg : Bool) : ROk K (D2 K neg) (fun x y => (eqD 40 x y).map fun k => .bl (if neg then !k else k)) := by
  intro G H x y dx dy d Q s rx ry e q
  dsimp only at e
  cases e1 : eqD 40 dx dy with
  | none => rw [e1] at e; cases e
  | some k => rw [e1] at e; cases e; exact ⟨G, dx, dy, k, s, rx, ry, e1, q _ G H (.refl s) (.bl _)⟩
theorem Ay (hu : X.A.units + 64 < cLine) (ha : QF X a ga) (hb : QF X b gb) : QB X (.Compare a [.Eq] [b] pos) (fun ρ => g2 eqF ga gb ρ >>= asB) := dY (yj hu) (ym _ false) ha hb (gr _)
theorem zt (hu : X.A.units + 64 < cLine) (ha : QF X a ga) (hb : QF X b gb) : QB X (.Compare a [.NotEq] [b] pos) (fun ρ => g2 neF ga gb ρ >>= asB) := dY (BV hu) (ym _ true) ha hb (gr _)
theorem zd (ha : QF X a ga) (hb : QF X b gb) : QB X (.Compare a [.Is] [b] pos) (fun ρ => g2 isF ga gb ρ >>= asB) := dY BK (CQ _ false) ha hb (gr _)
theorem sO {op op' : CmpOp} {r r' : R2} {f f' : D -> D -> Option D} (ho : OpR X (compareOp op) r) (ho' : OpR X (compareOp op') r') (hf : ROk X.K r f) (hf' : ROk X.K r' f') (ha : QF X a ga) (hb : QF X b gb) (hc : QF X c gc)
    (hm : lastMarks [op, op'] [b, c] = false := by with_unfolding_all rfl) : QB X (.Compare a [op, op'] [b, c] pos) (fun ρ => g3 f f' ga gb gc ρ >>= asB) := by
  intro pins s σ H Q I h
  refine wQ ho ho' ha hb hc hm pins s σ H Q I ?_
  obtain ⟨G, ρ, st, h⟩ := h
  have h' : (ga ρ >>= fun x => gb ρ >>= fun y => ofO (f x y) >>= fun z => (match z with | .bl true => gc ρ >>= fun w => ofO (f' y w) | .bl false => .ok (.bl false) | _ => .no) >>= asB).post (Fin G H (fun _ b c => b = c) Q) (Exx X σ G H) := by
    have e : (g3 f f' ga gb gc ρ >>= asB) = (ga ρ >>= fun x => gb ρ >>= fun y => ofO (f x y) >>= fun z => (match z with | .bl true => gc ρ >>= fun w => ofO (f' y w) | .bl false => .ok (.bl false) | _ => .no) >>= asB) := by
      unfold g3
      cases ga ρ with
      | ok x => cases gb ρ with
        | ok y => simp only [R.ok_bind]; cases ofO (f x y) <;> rfl
        | _ => rfl
      | _ => rfl
    rw [<- e]; exact h
  refine tG.intro st h' fun x v G1 H1 u1 st1 r1 h1 => ?_
  refine tG.intro st1 h1 fun y w G2 H2 u2 st2 r2 h2 => ?_
  cases e : f x y with
  | none => rw [e] at h2; exact h2.elim
  | some d =>
    rw [e] at h2
    refine hf G2 H2 v w x y d _ st2.sub (r1.mono u2.gg) r2 e fun z G3 H3 u3 r3 => ?_
    have h3 := jU u3 h2
    have st3 := st2.up u3
    cases r3 with
    | bl k =>
      refine ⟨k, rfl, ?_⟩
      cases k with
      | false => rw [if_neg Bool.false_ne_true]; exact ⟨false, rfl, h3 _ G3 H3 (.refl st3.sub) rfl⟩
      | true =>
        rw [if_pos rfl]
        have h3' : (gc ρ >>= fun w => ofO (f' y w) >>= asB).post (Fin G3 H3 (fun _ b c => b = c) Q) (Exx X σ G3 H3) := by
          have e : ((gc ρ >>= fun w => ofO (f' y w)) >>= asB) = (gc ρ >>= fun w => ofO (f' y w) >>= asB) := by cases gc ρ <;> rfl
          rw [<- e]; exact h3
        refine tG.intro st3 h3' fun q vq G4 H4 u4 st4 r4 h4 => ?_
        cases e' : f' y q with
        | none => rw [e'] at h4; exact h4.elim
        | some d' =>
          rw [e'] at h4
          refine hf' G4 H4 w vq y q d' _ st4.sub ((r2.mono u3.gg).mono u4.gg) r4 e' fun z' G5 H5 u5 r5 => ?_
          have h5 := jU u5 h4
          cases r5 with
          | bl k' => exact ⟨k', rfl, h5 k' G5 H5 (.refl u5.sub) rfl⟩
          | _ => exact h5.elim
    | _ => exact h3.elim
theorem tm (ha : QF X a ga) (hb : QF X b gb) (hc : QF X c gc) (hm : lastMarks [.LtE, .LtE] [b, c] = false := by with_unfolding_all rfl) : QB X (.Compare a [.LtE, .LtE] [b, c] pos) (fun ρ => g3 leD leD ga gb gc ρ >>= asB) := sO lK lK (sK _) (sK _) ha hb hc hm
def pS (t u : Ev -> R Bool) : Ev -> R Bool := fun ρ => t ρ >>= fun k => if k = true then u ρ else .ok false
def ig (t u : Ev -> R Bool) : Ev -> R Bool := fun ρ => t ρ >>= fun k => if k = true then .ok true else u ρ
theorem sj (ha : QB X a gt) : QBW X (.BoolOp .And [a] pos) gt := yO ha
theorem ux (ha : QB X a gt) : QBW X (.BoolOp .Or [a] pos) gt := B4 ha
theorem vc (ha : QB X a gt) (hb : QBW X (.BoolOp .And (b :: dI) pos) gu) : QBW X (.BoolOp .And (a :: b :: dI) pos) (pS gt gu) := by
  intro whole pins s σ H Q I h
  refine Bv ha hb whole pins s σ H Q I ?_
  obtain ⟨G, ρ, st, h⟩ := h
  refine tG.intro st h fun x v G1 H1 u1 st1 r1 h1 => ?_
  subst r1
  cases v with
  | true => rw [if_pos rfl] at h1 ⊢; exact tG.last st1 h1
  | false => rw [if_neg Bool.false_ne_true] at h1 ⊢; exact h1 _ G1 H1 (.refl st1.sub) rfl
theorem xn (ha : QB X a gt) (hb : QBW X (.BoolOp .Or (b :: dI) pos) gu) : QBW X (.BoolOp .Or (a :: b :: dI) pos) (ig gt gu) := by
  intro whole pins s σ H Q I h
  refine CV ha hb whole pins s σ H Q I ?_
  obtain ⟨G, ρ, st, h⟩ := h
  refine tG.intro st h fun x v G1 H1 u1 st1 r1 h1 => ?_
  subst r1
  cases v with
  | true => rw [if_pos rfl] at h1 ⊢; exact h1 _ G1 H1 (.refl st1.sub) rfl
  | false => rw [if_neg Bool.false_ne_true] at h1 ⊢; exact tG.last st1 h1
theorem ww (ha : QB X a gt) : QB X (.UnaryOp .Not a pos) (fun ρ => gt ρ >>= fun k => .ok (!k)) := by
  intro pins s σ H Q I h
  refine Bg ha pins s σ H Q I ?_
  obtain ⟨G, ρ, st, h⟩ := h
  refine tG.intro st h fun x v G1 H1 u1 st1 r1 h1 => ?_
  subst r1
  exact h1 _ G1 H1 (.refl st1.sub) rfl
def gIf (gt : Ev -> R Bool) (ga gb : Ev -> R D) : Ev -> R D := fun ρ => gt ρ >>= fun k => if k = true then ga ρ else gb ρ
theorem zh (hc : QB X c gt) (ha : QF X a ga) (hb : QF X b gb) : QF X (.IfExp c a b pos) (gIf gt ga gb) := by
  intro pins s σ H Q I h
  refine xt hc ha hb pins s σ H Q I ?_
  obtain ⟨G, ρ, st, h⟩ := h
  refine tG.intro st h fun x v G1 H1 u1 st1 r1 h1 => ?_
  subst r1
  cases v with
  | true => rw [if_pos rfl] at h1 ⊢; exact tG.last st1 h1
  | false => rw [if_neg Bool.false_ne_true] at h1 ⊢; exact tG.last st1 h1

theorem nG : QFA X [] (fun _ => .ok []) := by
  intro pos pins s σ H Q I h
  obtain ⟨G, ρ, st, h⟩ := h
  exact kq pos pins s σ H Q I (h [] G H (.refl st.sub) .nil)
theorem sN (ha : QF X e ga) (hr : QFA X es gl) (hs : starEach (e :: es) X.env = (false, eval e X.env) :: starEach es X.env := by rfl) : QFA X (e :: es) (fun ρ => ga ρ >>= fun x => gl ρ >>= fun xs => .ok (x :: xs)) := by
  intro pos pins s σ H Q I h
  refine eA ha hr hs pos pins s σ H Q I ?_
  obtain ⟨G, ρ, st, h⟩ := h
  refine tG.intro st h fun x v G1 H1 u1 st1 r1 h1 => ?_
  refine tG.intro st1 h1 fun y w G2 H2 u2 st2 r2 h2 => ?_
  exact h2 _ G2 H2 (.refl st2.sub) (.cons (r1.mono u2.gg) r2)
def mkT (ds : List D) : R D := if ds.length <= sizeLine then .ok (.tup ds) else .no
theorem wx {k : Nat} (h : QFA X es gl) : QF X (.Tuple es k pos) (fun ρ => gl ρ >>= mkT) := by
  intro pins s σ H Q I hq
  refine CG h pins s σ H Q I ?_
  obtain ⟨G, ρ, st, hq⟩ := hq
  refine tG.intro st hq fun ds vs G1 H1 u1 st1 r1 h1 => ?_
  unfold mkT at h1
  split at h1
  . rename_i hz
    exact ⟨by rw [r1.length]; exact hz, fun p hp => h1 _ _ _ (.new st1.sub hp) (.tup (.of bq) (r1.mono (.into (st1.sub.free hp))))⟩
  . exact h1.elim
theorem yp {c : Nat} : [c].length <= sizeLine := by show 1 <= sizeLine; decide
def ixD : D -> D -> Option D
  | .lst _ xs, .int i => atI xs i
  | .tup xs, .int i => atI xs i
  | .str x, .int i => (atI x i).map fun c => .str [c]
  | _, _ => none
theorem Reps.atI {K : PySem.W.Frag} {G : Hp} {vs : List V} {ds : List D} {i : Int} {d : D} (r : Reps K G vs ds) (h : atI ds i = some d) : ∃ v, atI vs i = some v /\ Rep K G v d := by
  unfold L2.atI at h ⊢
  rw [r.length]
  cases e : ixN ds.length i with
  | none => rw [e] at h; cases h
  | some j => rw [e] at h; exact r.get h
theorem D5 (K : PySem.W.Frag) : ROk K (rIx K) ixD := by
  intro G H x y dx dy d Q s rx ry e q
  unfold ixD at e
  split at e
  . obtain ⟨a, vs, rfl, h, r⟩ := rx.seq_inv
    obtain ⟨v, e1, r1⟩ := r.atI e
    exact .inl ⟨a, vs, _, v, rfl, ry.int_inv, h.mono s, e1, q v G H (.refl s) r1⟩
  . obtain ⟨a, vs, rfl, h, r⟩ := rx.tup_inv
    obtain ⟨v, e1, r1⟩ := r.atI e
    exact .inr (.inl ⟨a, vs, _, v, rfl, ry.int_inv, h.mono s, e1, q v G H (.refl s) r1⟩)
  . rename_i z i
    obtain ⟨y', rfl, ey, hy⟩ := rx.str_inv
    subst ey
    cases e1 : L2.atI y'.cps.toList i with
    | none => rw [e1] at e; cases e
    | some c =>
      rw [e1] at e
      cases e
      exact .inr (.inr ⟨y', i, c, rfl, ry.int_inv, hy, e1, q _ G H (.refl s) (.strL (by simp) yp)⟩)
  . cases e
theorem Af (ha : QF X a ga) (hb : QF X b gb) (hs : ju b := by exact fun _ _ => rfl) : QF X (.Subscript a b pos) (g2 ixD ga gb) :=
  fun pins s σ H Q I h => B8 B9 ha hb hs pins s σ H Q I (wU (D5 _) h)
end
end L2
namespace L2
open PySem PySem.Spec PyProof.Rows
def ii {α : Type} (xs : List α) (lo hi : Option Int) : List α := (xs.drop (HT.sIx xs.length 0 lo)).take (HT.sIx xs.length xs.length hi - HT.sIx xs.length 0 lo)
theorem Ax {α : Type} (xs : List α) (lo hi : Option Int) : (ii xs lo hi).length <= xs.length := by
  unfold ii
  rw [List.length_take, List.length_drop]
  omega
theorem Reps.cut {K : PySem.W.Frag} {G : Hp} {vs : List V} {ds : List D} (r : Reps K G vs ds) (lo hi : Option Int) : Reps K G (yc vs lo hi) (ii ds lo hi) := by
  unfold yc ii
  rw [r.length]
  exact (r.drop _).take _
section
variable {X : Cx} {a b c e : Expr} {es dI : List Expr} {lo hi : Option Expr} {ga gb gc : Ev -> R D} {go gp : Ev -> R (Option Int)} {gl : Ev -> R (List D)} {pos p2 : Pos}
def Bt (K : PySem.W.Frag) : V -> Option Int -> Option Int -> Hp -> VK -> Prop := fun x lo hi H Q => ∃ a xs, x = .ref a /\ SqT K H a xs /\
  (HT.sIx xs.length 0 lo = 0 /\ HT.sIx xs.length xs.length hi = xs.length) /\ Q (.ref a) H
theorem sl_tup_whole : SlR X (Bt X.K) := by
  intro pins s σ H x v vl vu lo hi sl Q I rx hs pl pu h
  obtain ⟨a, xs, rfl, hx, ⟨hw1, hw2⟩, q⟩ := h
  cases rx
  obtain ⟨its, r, ht, hz⟩ := I.tuple hx
  have hlen : its.toArray.size = xs.length := by rw [List.size_toArray]; exact r.length.symm
  refine ⟨"tuple", _, PyProof.Rows.slot_tuple_getitem.lookup, ht.typeIs, ?_⟩
  obtain ⟨os, hos, hcs, hds⟩ := id hs
  have hTs : s.TypeIs (.ref sl) "slice" := ⟨os, hos, hcs⟩
  unfold getItem
  try with_reducible refine wpAny_holding ?_
  first | refine wpAny_bind (wpAny_pure ?_) | skip
  refine wpAny_bind (wpAny_sequenceKey ht.typeIs (by decide) ?_)
  refine wpAny_bind (wpAny_callSpecial?_slot (name := Str.ofString "__getitem__") ht.typeIs PyProof.Rows.slot_tuple_getitem
    (wpAny_call_entry PyProof.Rows.slot_tuple_getitem ht.typeIs entry_tuple_getitem ?_ (args_tuple_getitem _ _)))
  show wpAny _ _ (Builtin.Tuple.tupleItemsOf (.ref a) >>= _) _ _ s
  refine wpAny_bind (tupleItemsOf_ ht ?_)
  refine wpAny_bind (wpAny_typeOf hTs ?_)
  rw [if_pos (by decide)]
  refine wpAny_bind (HT.sliceApplied_gen hs pl pu ?_)
  rw [hlen, hw1, hw2]
  dsimp only
  rw [if_pos (by simp)]
  have fin : EP X pins σ Q (.ref a) s := ⟨.ref a, H, I, rfl, q⟩
  obtain ⟨o, ho, hc, n, hd⟩ := id ht
  unfold Builtin.Tuple.tupleIsExact
  refine wpAny_bind (wpAny_bind (wpAny_typeOf ht.typeIs (wpAny_pure ?_)))
  rw [if_pos (by decide)]
  exact wpAny_bind (wpAny_rule (wpAny_pure ⟨_, rfl, wpAny_pure fin⟩))
theorem B0 {α : Type} (xs : List α) (a : Nat) : ∀ k : Nat, ((List.range k).map (a + ·)).filterMap (fun i : Nat => xs[i]?) = (xs.drop a).take k
  | 0 => by simp
  | k + 1 => by
    rw [List.range_succ, List.map_append, List.filterMap_append, B0 xs a k, List.take_add_one, List.getElem?_drop]
    congr 1
    try (simp only [List.map_cons, List.map_nil, List.filterMap_cons, List.filterMap_nil]; cases xs[a + k]? <;> rfl)
theorem rh (n d : Nat) (v : Option Int) : (match v with | none => (d : Int) | some i => max 0 (min (if i < 0 then i + (n : Int) else i) (n : Int))) = ((HT.sIx n d v : Nat) : Int) := by
  cases v with
  | none => rfl
  | some i =>
    show max 0 (min (if i < 0 then i + (n : Int) else i) (n : Int)) = (((if i < 0 then (i + (n : Int)).toNat else min i.toNat n) : Nat) : Int)
    split <;> omega
theorem AA (lo hi : Option Int) (n : Nat) : Builtin.Str.strSliceIndices lo hi 1 n = (List.range (HT.sIx n n hi - HT.sIx n 0 lo)).map (HT.sIx n 0 lo + ·) := by
  have e : Builtin.Str.strSliceIndices lo hi 1 n = sliceRange ((HT.sIx n 0 lo : Nat) : Int) ((HT.sIx n n hi : Nat) : Int) 1 := by
    rw [<- rh n 0 lo, <- rh n n hi]
    rfl
  rw [e]
  generalize HT.sIx n 0 lo = a
  generalize HT.sIx n n hi = b
  unfold sliceRange
  have hc : (if (1 : Int) > 0 then (if (a : Int) < (b : Int) then ((b : Int) - (a : Int) + 1 - 1) / 1 else 0) else (if (a : Int) > (b : Int) then ((a : Int) - (b : Int) - 1 - 1) / (-1) else 0)).toNat = b - a := by
    rw [if_pos (by decide)]
    split
    . rw [Int.ediv_one]; omega
    . omega
  simp only [hc]
  apply List.map_congr_left
  intro k _
  omega
theorem vx (x : Str) (lo hi : Option Int) : (Txt.slice x lo hi).cps.toList = ii x.cps.toList lo hi := by
  have hn : x.cps.toList.length = x.length := Str.len_list x
  unfold Txt.slice ii
  rw [hn, AA]
  have hb : HT.sIx x.length x.length hi <= x.length := HT.sIx_le _ _ (Nat.le_refl _) hi
  by_cases hc : ((1 : Int) == 1 && ((List.range (HT.sIx x.length x.length hi - HT.sIx x.length 0 lo)).map (HT.sIx x.length 0 lo + ·)).length == x.length) = true
  . rw [if_pos hc]
    have h2 : HT.sIx x.length x.length hi - HT.sIx x.length 0 lo = x.length := by simpa using hc
    have h3 : HT.sIx x.length 0 lo = 0 \/ x.length = 0 := by omega
    rw [h2]
    rcases h3 with h3 | h3
    . rw [h3, List.drop_zero, <- hn, List.take_length]
    . have : x.cps.toList = [] := List.eq_nil_of_length_eq_zero (by rw [hn]; exact h3)
      rw [this]; simp
  . rw [if_neg hc]
    have e : (fun i : Nat => x.cps[i]?) = (fun i : Nat => x.cps.toList[i]?) := by funext i; simp
    show (List.filterMap (fun i : Nat => x.cps[i]?) _).toArray.toList = _
    rw [List.toList_toArray, e, B0]
def En : V -> Option Int -> Option Int -> Hp -> VK -> Prop := fun x lo hi H Q => ∃ y : Str, x = .str y /\ y.length <= sizeLine /\ Q (.str (Txt.slice y lo hi)) H
theorem sl_str : SlR X En := by
  intro pins s σ H x v vl vu lo hi sl Q I rx hs pl pu h
  obtain ⟨y, rfl, hz, q⟩ := h
  obtain ⟨t, rfl⟩ := rx
  refine ⟨"str", _, F.slot_str_getitem.lookup, typeIs_str _ _ _, ?_⟩
  cases pl with
  | none =>
    cases pu with
    | none => exact wpAny_getItem_str_slice (l := none) (u := none) (st := none) hs rfl (post_val_or_str ⟨Nat.le_trans (Txt.slice_le y _ _) hz, fun t' k => ⟨.str _, H, I.tok k, ⟨t', rfl⟩, q⟩⟩)
    | int j uj => exact wpAny_getItem_str_slice (l := none) (u := some (j, uj)) (st := none) hs rfl (post_val_or_str ⟨Nat.le_trans (Txt.slice_le y _ _) hz, fun t' k => ⟨.str _, H, I.tok k, ⟨t', rfl⟩, q⟩⟩)
  | int i ui =>
    cases pu with
    | none => exact wpAny_getItem_str_slice (l := some (i, ui)) (u := none) (st := none) hs rfl (post_val_or_str ⟨Nat.le_trans (Txt.slice_le y _ _) hz, fun t' k => ⟨.str _, H, I.tok k, ⟨t', rfl⟩, q⟩⟩)
    | int j uj => exact wpAny_getItem_str_slice (l := some (i, ui)) (u := some (j, uj)) (st := none) hs rfl (post_val_or_str ⟨Nat.le_trans (Txt.slice_le y _ _) hz, fun t' k => ⟨.str _, H, I.tok k, ⟨t', rfl⟩, q⟩⟩)
def AS (lo hi : Option Int) : D -> Option D
  | .str x => some (.str (ii x lo hi))
  | .tup xs => some (.tup (ii xs lo hi))
  | .lst _ xs => some (.lst false (ii xs lo hi))
  | _ => none
def rSl (K : PySem.W.Frag) : V -> Option Int -> Option Int -> Hp -> VK -> Prop := fun x lo hi H Q => En x lo hi H Q \/ Bt K x lo hi H Q \/ Eh K x lo hi H Q \/ Eu K x lo hi H Q
theorem BR : SlR X (rSl X.K) := sl_str.or (sl_tup_whole.or (sl_tup.or zo))
def QFO (X : Cx) (o : Option Expr) (g : Ev -> R (Option Int)) : Prop := PO X o (tG X (fun _ b c => b = c) g)
theorem ss : QFO X none (fun _ => .ok none) := by
  intro pins s σ H Q I h
  obtain ⟨G, ρ, st, h⟩ := h
  exact Ah pins s σ H Q I (h none G H (.refl st.sub) rfl)
def asI : D -> R Int
  | .int i => .ok i
  | _ => .no
theorem sk (h : QF X e ga) : QFO X (some e) (fun ρ => ga ρ >>= fun x => asI x >>= fun i => .ok (some i)) := by
  intro pins s σ H Q I hq
  refine zI h pins s σ H Q I ?_
  obtain ⟨G, ρ, st, hq⟩ := hq
  refine tG.intro st hq fun x v G1 H1 u1 st1 r1 h1 => ?_
  cases r1 with
  | int i => exact ⟨i, rfl, h1 (some i) G1 H1 (.refl st1.sub) rfl⟩
  | _ => exact h1.elim
def gSl (ga : Ev -> R D) (go gp : Ev -> R (Option Int)) : Ev -> R D := fun ρ => ga ρ >>= fun x => go ρ >>= fun l => gp ρ >>= fun u => ofO (AS l u x)
theorem rH (ha : QF X a ga) (hl : QFO X lo go) (hu : QFO X hi gp) : QF X (.Subscript a (.Slice lo hi none p2) pos) (gSl ga go gp) := by
  intro pins s σ H Q I h
  refine xk BR ha hl hu pins s σ H Q I ?_
  obtain ⟨G, ρ, st, h⟩ := h
  refine tG.intro st h fun x v G1 H1 u1 st1 r1 h1 => ?_
  refine tG.intro st1 h1 fun l l' G2 H2 u2 st2 r2 h2 => ?_
  subst r2
  refine tG.intro st2 h2 fun u u' G3 H3 u3 st3 r3 h3 => ?_
  subst r3
  obtain ⟨d, e, q⟩ := ofO.ok h3
  have r := (r1.mono u2.gg).mono u3.gg
  unfold AS at e
  split at e
  . cases e
    obtain ⟨y, rfl, ey, hy⟩ := r.str_inv
    subst ey
    exact .inl ⟨y, rfl, hy, q _ G3 H3 (.refl st3.sub) (.strL (vx y _ _) (Nat.le_trans (Ax _ _ _) (by rw [Str.len_list]; exact hy)))⟩
  . rename_i xs0
    cases e
    obtain ⟨a, vs, rfl, h, t⟩ := r.tup_inv
    by_cases hw : HT.sIx vs.length 0 l' = 0 /\ HT.sIx vs.length vs.length u' = vs.length
    . refine .inr (.inl ⟨a, vs, rfl, h.mono st3.sub, hw, q _ G3 H3 (.refl st3.sub) ?_⟩)
      have e1 : ii xs0 l' u' = xs0 := by
        unfold ii
        rw [<- t.length, hw.1, hw.2, List.drop_zero, Nat.sub_zero, t.length, List.take_length]
      rw [e1]
      exact .tup h t
    . exact .inr (.inr (.inl ⟨a, vs, rfl, h.mono st3.sub, hw, fun p hp => q _ _ _ (.new st3.sub hp) (.tup (.of bq) ((t.cut _ _).mono (.into (st3.sub.free hp))))⟩))
  . cases e
    obtain ⟨a, vs, rfl, h, t⟩ := r.seq_inv
    exact .inr (.inr (.inr ⟨a, vs, rfl, h.mono st3.sub, fun p hp => q _ _ _ (.new st3.sub hp) (.lst bq ((t.cut _ _).mono (.into (st3.sub.free hp))))⟩))
  . cases e

def yz (K : PySem.W.Frag) (r : List V -> Hp -> VK -> Prop) (f : List D -> Option D) : Prop := ∀ (G H : Hp) (xs : List V) (ds : List D) (d : D) (Q : VK), Same G H -> Reps K G xs ds -> f ds = some d -> Fin G H (Rep K) Q d -> r xs H Q
theorem fU {id : String} {x : Str} {p : Pos} {r : List V -> Hp -> VK -> Prop} {f : List D -> Option D} (hc : ic X (.builtin id) r) (hf : yz X.K r f) (hg : Gl X x) (hm : X.mg x = none) (hv : bootBuiltins x = some (.builtin id)) (ha : QFA X (e :: es) gl)
    (hn : x ≠ "__name__" := by decide) (hdb : (x == ("__debug__" : Str)) = false := by decide)
    (he : starEach (e :: es) X.env = (false, eval e X.env) :: starEach es X.env := by rfl) (hpl : (backTo pos (starEach es X.env)).any (·.1) = false := by rfl) : QF X (.Call (.Name x p) (e :: es) [] pos) (fun ρ => gl ρ >>= fun ds => ofO (f ds)) := by
  intro pins s σ H Q I h
  refine mJ hc hg hm hv ha hn hdb he hpl pins s σ H Q I ?_
  obtain ⟨G, ρ, st, h⟩ := h
  refine tG.intro st h fun ds vs G1 H1 u1 st1 r1 h1 => ?_
  obtain ⟨d, e, q⟩ := ofO.ok h1
  exact hf G1 H1 vs ds d Q st1.sub r1 e q
theorem jq {T : String} {x : Str} {p : Pos} {r : List V -> Hp -> VK -> Prop} {f : List D -> Option D} (hc : ic X (.type T) r) (hf : yz X.K r f) (hg : Gl X x) (hm : X.mg x = none) (hv : bootBuiltins x = some (.type T)) (ha : QFA X (e :: es) gl)
    (hn : x ≠ "__name__" := by decide) (hdb : (x == ("__debug__" : Str)) = false := by decide)
    (he : starEach (e :: es) X.env = (false, eval e X.env) :: starEach es X.env := by rfl) (hpl : (backTo pos (starEach es X.env)).any (·.1) = false := by rfl) : QF X (.Call (.Name x p) (e :: es) [] pos) (fun ρ => gl ρ >>= fun ds => ofO (f ds)) := by
  intro pins s σ H Q I h
  refine sU hc hg hm hv ha hn hdb he hpl pins s σ H Q I ?_
  obtain ⟨G, ρ, st, h⟩ := h
  refine tG.intro st h fun ds vs G1 H1 u1 st1 r1 h1 => ?_
  obtain ⟨d, e, q⟩ := ofO.ok h1
  exact hf G1 H1 vs ds d Q st1.sub r1 e q
theorem Reps.one {K : PySem.W.Frag} {G : Hp} {vs : List V} {d : D} (r : Reps K G vs [d]) : ∃ v, vs = [v] /\ Rep K G v d := by
  cases r with
  | cons r t => cases t; exact ⟨_, rfl, r⟩
def dw : List D -> Option D
  | [.str x] => some (.int x.length)
  | [.tup xs] => some (.int xs.length)
  | [.lst _ xs] => some (.int xs.length)
  | _ => none
theorem xE {p : Pos} (hg : Gl X "len") (hm : X.mg "len" = none) (ha : QFA X [e] gl) (he : starEach [e] X.env = [(false, eval e X.env)] := by rfl) : QF X (.Call (.Name "len" p) [e] [] pos) (fun ρ => gl ρ >>= fun ds => ofO (dw ds)) :=
  fU wO (by
    intro G H xs ds d Q s r e q
    unfold dw at e
    split at e
    . cases e
      obtain ⟨v, rfl, r1⟩ := r.one
      obtain ⟨y, rfl, ey, hy⟩ := r1.str_inv
      subst ey
      exact ⟨_, y.length, rfl, ⟨hy, rfl⟩, by rw [<- Str.len_list]; exact q _ G H (.refl s) (.int _)⟩
    . cases e
      obtain ⟨v, rfl, r1⟩ := r.one
      obtain ⟨a, vs, rfl, h, t⟩ := r1.tup_inv
      exact ⟨_, vs.length, rfl, .inr ⟨vs, h.mono s, rfl⟩, by rw [t.length]; exact q _ G H (.refl s) (.int _)⟩
    . cases e
      obtain ⟨v, rfl, r1⟩ := r.one
      obtain ⟨a, vs, rfl, h, t⟩ := r1.seq_inv
      exact ⟨_, vs.length, rfl, .inl ⟨vs, h.mono s, rfl⟩, by rw [t.length]; exact q _ G H (.refl s) (.int _)⟩
    . cases e) hg hm PySem.boot_len ha (he := by rw [he]; rfl)
def AN : List D -> Option D
  | [.str [c]] => some (.int (c : Nat))
  | _ => none
theorem BB (K : PySem.W.Frag) : yz K (fun xs H Q => ∃ x : Str, xs = [.str x] /\ x.length = 1 /\ Q (.int (x.cps.getD 0 0 : Nat)) H) AN := by
  intro G H xs ds d Q s r e q
  unfold AN at e
  split at e
  . rename_i c
    cases e
    obtain ⟨v, rfl, r1⟩ := r.one
    obtain ⟨y, rfl, ey, hy⟩ := r1.str_inv
    refine ⟨y, rfl, by rw [<- Str.len_list, ey]; rfl, ?_⟩
    have h0 : y.cps = #[c] := by rw [<- Array.toArray_toList (xs := y.cps), ey]
    rw [h0]
    exact q _ G H (.refl s) (.int _)
  . cases e
def ot : List D -> Option D
  | [.lst _ xs] => some (.tup xs)
  | [.tup xs] => some (.tup xs)
  | _ => none
theorem wl (K : PySem.W.Frag) : yz K (fun xs H Q => ∃ p ys, xs = [.ref p] /\ ((SqL K H p ys /\ ∀ l, H l = none -> Q (.ref l) (upd H l (.tup ys))) \/ (SqT K H p ys /\ Q (.ref p) H))) ot := by
  intro G H xs ds d Q s r e q
  unfold ot at e
  split at e
  . cases e
    obtain ⟨v, rfl, r1⟩ := r.one
    obtain ⟨a, vs, rfl, h, t⟩ := r1.seq_inv
    exact ⟨a, vs, rfl, .inl ⟨h.mono s, fun l hl => q _ _ _ (.new s hl) (.tup (.of bq) (t.mono (.into (s.free hl))))⟩⟩
  . cases e
    obtain ⟨v, rfl, r1⟩ := r.one
    obtain ⟨a, vs, rfl, h, t⟩ := r1.tup_inv
    exact ⟨a, vs, rfl, .inr ⟨h.mono s, q _ G H (.refl s) (.tup h t)⟩⟩
  . cases e
end
end L2
namespace L2
open PySem PySem.Spec PyProof.Rows
def ItOk (K : PySem.W.Frag) (G₁ : Hp) (J : It) (items : List D) : Prop := ∀ (i : Nat) (G H : Hp), Same G₁ G -> Same G H ->
  (∀ d, items[i]? = some d -> J.go i H /\ ∀ x H', J.yld i H x H' -> ∃ G', Up G H G' H' /\ Rep K G' x d) /\ (items.length <= i -> J.stop i H)
def QIF (X : Cx) (tg iter : Expr) (g : Ev -> R (List D)) : Prop := PI X tg iter (tG X (fun G J items => ItOk X.K G J items) g)
def Its (x : Str) : It := ⟨fun i _ => i < x.cps.size, fun i H v H' => H' = H /\ ∃ c, x.cps[i]? = some c /\ v = .str ⟨#[c]⟩, fun i _ => x.cps.size <= i⟩
section
variable {X : Cx} {tg a e : Expr} {ga : Ev -> R D} {gl : Ev -> R (List D)} {pos : Pos}
theorem tQ {pins : List (Addr × Obj)} {σ : St} {H : Hp} {s : Shared} {l : Addr} {xs : List V} {Rr : It -> Hp -> Prop} (I : Inv X pins σ H s) (h : SqL X.K H l xs) (q : Rr (Itl X.K l) H) :
    wpAny (model X.prog X.w) X.A (pyIter (.ref l)) (PIE X pins σ tg Rr) X.xe s := by
  obtain ⟨its, rv, p, hz⟩ := I.list h
  refine wpAny_pyIter_list p.isList ?_
  refine ⟨s.heap.objs.size, [s.heap.objs.size], _, _, H, rfl, I.kept (t' := s.toks) fun b o e => Heap.get?_push_of_some _ e, uG l _, ⟨_, Heap.get?_push_size _ rfl, rfl, rfl⟩, fun b hb => ?_, q⟩
  have e : b = s.heap.objs.size := by simpa using hb
  subst e
  exact I.fpOk (Nat.le_refl _) (I.hok.fresh (Nat.le_refl _))
theorem B6 {pins : List (Addr × Obj)} {σ : St} {H : Hp} {s : Shared} {l : Addr} {xs : List V} {Rr : It -> Hp -> Prop} (I : Inv X pins σ H s) (h : SqT X.K H l xs) (q : Rr (Itt X.K l) H) :
    wpAny (model X.prog X.w) X.A (pyIter (.ref l)) (PIE X pins σ tg Rr) X.xe s := by
  obtain ⟨its, rv, p, hz⟩ := I.tuple h
  refine wpAny_pyIter_tuple (show s.heap.IsTuple l its.toArray from p) ?_
  refine ⟨s.heap.objs.size, [s.heap.objs.size], _, _, H, rfl, I.kept (t' := s.toks) fun b o e => Heap.get?_push_of_some _ e, sM l _, ⟨_, Heap.get?_push_size _ rfl, rfl, rfl⟩, fun b hb => ?_, q⟩
  have e : b = s.heap.objs.size := by simpa using hb
  subst e
  exact I.fpOk (Nat.le_refl _) (I.hok.fresh (Nat.le_refl _))
theorem rA {P : Program} {w : World} {K : PySem.W.Frag} {tg : Expr} (it : Addr) (x : Str) (t : Tok) : Turn P w K tg (Its x) [it] it (fun i h => h.IsStrIter it "str_ascii_iterator" x t i) where
  mem := by simp
  obj := fun i h st b hb => by
    have e : b = it := by simpa using hb
    subst e
    obtain ⟨o, e, c, d⟩ := st
    exact ⟨o, e, fun v z => by rw [d] at z; cases z⟩
  keep := fun i h h' st k => let ⟨o, ho, r⟩ := st; ⟨o, k it (by simp) o ho, r⟩
  item := by
    intro X hP hw hK hc i pins s σ H E I hf st hg
    subst hP hw hK
    have hg' : i < x.cps.size := hg
    obtain ⟨f0, f1, f2, f3, f4, f5⟩ := hf it (by simp)
    refine wpAny_pyNext_ascii_item st (c := x.cps[i]) (by simp [hg']) fun h' st' sb => ?_
    have I1 : Inv X pins σ H { s with heap := h', toks := s.toks + 1 } := I.turned (t' := s.toks + 1) (fun b o hb e => (sb.2 b hb).trans e) f0 f1 f3 f4 f5
    obtain ⟨o, e, c, d⟩ := id st'
    exact ⟨_, rfl, vM (s := { s with heap := h', toks := s.toks + 1 }) e c d (by decide) ⟨.str ⟨#[x.cps[i]]⟩, H, I1, ⟨_, rfl⟩, ⟨rfl, _, by simp [hg'], rfl⟩, st', fun b hb => (hf b hb).1⟩⟩
  done := by
    intro X hP hw hK hc i pins s σ H E I hf st hg
    subst hP hw hK
    obtain ⟨f0, f1, f2, f3, f4, f5⟩ := hf it (by simp)
    have hg' : x.cps.size <= i := hg
    exact wpAny_pyNext_ascii_end (I.ok.hd hc) st (by simp; omega) fun h' eb => ⟨rfl, I.turned (t' := s.toks) (fun b o hb e => eb b o hb e) f0 f1 f3 f4 f5⟩
  self := fun _ _ _ _ _ st h => wpAny_pyIter_striter_ascii st h
theorem tD {P : Program} {w : World} {K : PySem.W.Frag} {tg : Expr} (it : Addr) (x : Str) (t : Tok) : Turn P w K tg (Its x) [it] it (fun i h => h.IsStrIter it "str_iterator" x t i) where
  mem := by simp
  obj := fun i h st b hb => by
    have e : b = it := by simpa using hb
    subst e
    obtain ⟨o, e, c, d⟩ := st
    exact ⟨o, e, fun v z => by rw [d] at z; cases z⟩
  keep := fun i h h' st k => let ⟨o, ho, r⟩ := st; ⟨o, k it (by simp) o ho, r⟩
  item := by
    intro X hP hw hK hc i pins s σ H E I hf st hg
    subst hP hw hK
    have hg' : i < x.cps.size := hg
    obtain ⟨f0, f1, f2, f3, f4, f5⟩ := hf it (by simp)
    refine wpAny_pyNext_wide_item st (c := x.cps[i]) (by simp [hg']) fun h' st' sb => ?_
    have I1 : Inv X pins σ H { s with heap := h', toks := s.toks + 1 } := I.turned (t' := s.toks + 1) (fun b o hb e => (sb.2 b hb).trans e) f0 f1 f3 f4 f5
    obtain ⟨o, e, c, d⟩ := id st'
    exact ⟨_, rfl, vM (s := { s with heap := h', toks := s.toks + 1 }) e c d (by decide) ⟨.str ⟨#[x.cps[i]]⟩, H, I1, ⟨_, rfl⟩, ⟨rfl, _, by simp [hg'], rfl⟩, st', fun b hb => (hf b hb).1⟩⟩
  done := by
    intro X hP hw hK hc i pins s σ H E I hf st hg
    subst hP hw hK
    obtain ⟨f0, f1, f2, f3, f4, f5⟩ := hf it (by simp)
    have hg' : x.cps.size <= i := hg
    exact wpAny_pyNext_wide_end (I.ok.hd hc) st (by simp; omega) fun h' eb => ⟨rfl, I.turned (t' := s.toks) (fun b o hb e => eb b o hb e) f0 f1 f3 f4 f5⟩
  self := fun _ _ _ _ _ st h => wpAny_pyIter_striter_wide st h
theorem AZ {pins : List (Addr × Obj)} {σ : St} {H : Hp} {s : Shared} {x : Str} {t : Tok} {Rr : It -> Hp -> Prop} (I : Inv X pins σ H s) (q : Rr (Its x) H) :
    wpAny (model X.prog X.w) X.A (pyIter (.str x t)) (PIE X pins σ tg Rr) X.xe s := by
  have fp : ∀ (o : Obj), ∀ b ∈ [s.heap.objs.size], uX X pins H b := fun o b hb => by
    have e : b = s.heap.objs.size := by simpa using hb
    subst e
    exact I.fpOk (Nat.le_refl _) (I.hok.fresh (Nat.le_refl _))
  cases ha : x.cps.all (· < 128)
  . refine wpAny_pyIter_wide ha ⟨s.heap.objs.size, [s.heap.objs.size], _, _, H, rfl, I.kept (t' := s.toks) fun b o e => Heap.get?_push_of_some _ e, tD _ x t, ⟨_, Heap.get?_push_size _ rfl, rfl, rfl⟩, fp default, q⟩
  . refine wpAny_pyIter_ascii ha ⟨s.heap.objs.size, [s.heap.objs.size], _, _, H, rfl, I.kept (t' := s.toks) fun b o e => Heap.get?_push_of_some _ e, rA _ x t, ⟨_, Heap.get?_push_size _ rfl, rfl, rfl⟩, fp default, q⟩
def bH : D -> R (List D)
  | .lst _ xs => .ok xs
  | .tup xs => .ok xs
  | .str x => .ok (x.map fun c => .str [c])
  | _ => .no
theorem ItOk.list {K : PySem.W.Frag} {G : Hp} {l : Addr} {vs : List V} {ds : List D} (h : SqL K G l vs) (r : Reps K G vs ds) : ItOk K G (Itl K l) ds := by
  intro i G1 H1 s1 s2
  refine ⟨fun d e => ?_, fun hl => ⟨vs, (h.mono s1).mono s2, by rw [r.length]; exact hl⟩⟩
  obtain ⟨v, ev, rv⟩ := r.get e
  refine ⟨⟨vs, v, (h.mono s1).mono s2, ev⟩, fun x H' y => ?_⟩
  obtain ⟨rfl, y⟩ := y
  have := y vs ((h.mono s1).mono s2)
  rw [ev] at this
  cases this
  exact ⟨G1, .refl s2, rv.mono s1⟩
theorem ItOk.tup {K : PySem.W.Frag} {G : Hp} {l : Addr} {vs : List V} {ds : List D} (h : SqT K G l vs) (r : Reps K G vs ds) : ItOk K G (Itt K l) ds := by
  intro i G1 H1 s1 s2
  refine ⟨fun d e => ?_, fun hl => ⟨vs, (h.mono s1).mono s2, by rw [r.length]; exact hl⟩⟩
  obtain ⟨v, ev, rv⟩ := r.get e
  refine ⟨⟨vs, v, (h.mono s1).mono s2, ev⟩, fun x H' y => ?_⟩
  obtain ⟨rfl, y⟩ := y
  have := y vs ((h.mono s1).mono s2)
  rw [ev] at this
  cases this
  exact ⟨G1, .refl s2, rv.mono s1⟩
theorem ItOk.str {K : PySem.W.Frag} {G : Hp} (x : Str) : ItOk K G (Its x) (x.cps.toList.map fun c => .str [c]) := by
  intro i G1 H1 s1 s2
  refine ⟨fun d e => ?_, fun hl => show x.cps.size <= i by simpa using hl⟩
  rw [List.getElem?_map] at e
  cases ec : x.cps.toList[i]? with
  | none => rw [ec] at e; cases e
  | some c =>
    rw [ec] at e
    cases e
    have hi : i < x.cps.size := by
      have := (List.getElem?_eq_some_iff.mp ec).1
      simpa using this
    refine ⟨hi, fun v H' y => ?_⟩
    obtain ⟨rfl, c', e', rfl⟩ := y
    have : c' = c := by
      have h2 : x.cps.toList[i]? = x.cps[i]? := by simp
      rw [h2, e'] at ec
      exact Option.some.inj ec
    subst this
    exact ⟨G1, .refl s2, .strL rfl yp⟩
theorem ItOk.range {K : PySem.W.Frag} {G : Hp} (lo : Int) (n : Nat) : ItOk K G (Itr lo n) ((List.range n).map fun i => .int (lo + (i : Nat))) := by
  intro i G1 H1 s1 s2
  refine ⟨fun d e => ?_, fun hl => show n <= i by simpa using hl⟩
  rw [List.getElem?_map] at e
  by_cases hi : i < n
  . rw [List.getElem?_range hi] at e
    cases e
    refine ⟨hi, fun v H' y => ?_⟩
    obtain ⟨rfl, rfl⟩ := y
    exact ⟨G1, .refl s2, .int _⟩
  . rw [List.getElem?_eq_none (by simpa using hi)] at e
    cases e
theorem vA (ha : QF X a ga) : QIF X tg a (fun ρ => ga ρ >>= bH) := by
  intro pins s σ H Rr I h
  obtain ⟨G, ρ, st, h⟩ := h
  have t : tF X ga σ H (fun x H1 => ∃ G1 d, Same G1 H1 /\ Rep X.K G1 x d /\ (bH d).post (Fin G1 H1 (fun G J items => ItOk X.K G J items) Rr) (Exx X σ G1 H1)) :=
    tG.intro st h fun x v G1 H1 u1 st1 r1 h1 => ⟨G1, x, st1.sub, r1, h1⟩
  refine thn (ha pins s σ H _ I t) fun v s1 ⟨x, H1, I1, r1, G1, d, sub, rd, h1⟩ => ?_
  cases rd with
  | lst hh r => cases r1; exact tQ I1 (.of (sub _ _ hh)) (h1 _ G1 H1 (.refl sub) (.list (.of hh) r))
  | fls hh r => cases r1; exact tQ I1 (hh.mono sub) (h1 _ G1 H1 (.refl sub) (.list hh r))
  | tup hh r => cases r1; exact B6 I1 (hh.mono sub) (h1 _ G1 H1 (.refl sub) (.tup hh r))
  | str y hy => obtain ⟨t, rfl⟩ := r1; exact AZ I1 (h1 _ G1 H1 (.refl sub) (.str y))
  | _ => exact h1.elim
def bE : List D -> R (List D)
  | [.int j] => if -(2 ^ 62) <= j /\ j < 2 ^ 62 then .ok ((List.range j.toNat).map fun i => .int (0 + (i : Nat))) else .no
  | _ => .no
theorem oa {p : Pos} (hg : Gl X "range") (hm : X.mg "range" = none) (ha : QFA X [a] gl) (hs : starEach [a] X.env = [(false, eval a X.env)] := by rfl) : QIF X tg (.Call (.Name "range" p) [a] [] pos) (fun ρ => gl ρ >>= bE) := by
  intro pins s σ H Rr I h
  refine tf hg hm ha hs pins s σ H Rr I ?_
  obtain ⟨G, ρ, st, h⟩ := h
  refine tG.intro st h fun ds vs G1 H1 u1 st1 r1 h1 => ?_
  unfold bE at h1
  split at h1
  . split at h1
    . rename_i hj
      obtain ⟨v, rfl, r⟩ := r1.one
      obtain rfl := r.int_inv
      exact ⟨_, rfl, hj.1, hj.2, h1 _ G1 H1 (.refl st1.sub) (.range 0 _)⟩
    . exact h1.elim
  . exact h1.elim
end

structure StR (K : PySem.W.Frag) (G₀ H₀ G H : Hp) (σ : St) (ρ : Ev) : Prop where
  e : StE K G H σ ρ
  sub0 : Same G₀ H₀
  up : Up G₀ H₀ G H
  own : ∀ (i : Nat) ds, ρ[i]? = some (some (.own ds)) -> ∃ l vs, σ[i]? = some (some (.ref l)) /\ H l = some (.lst vs) /\ G l = none /\ H₀ l = none /\ Reps K G vs ds
  inj : ∀ (i j : Nat) ds es l, ρ[i]? = some (some (.own ds)) -> ρ[j]? = some (some (.own es)) -> σ[i]? = some (some (.ref l)) -> σ[j]? = some (some (.ref l)) -> i = j
section
variable {K : PySem.W.Frag} {G₀ H₀ G H G' H' : Hp} {σ : St} {ρ : Ev}
theorem StR.ups (s : StR K G₀ H₀ G H σ ρ) (u : Up G H G' H') : StR K G₀ H₀ G' H' σ ρ := ⟨s.e.up u, s.sub0, s.up.trans u, (fun i ds e => by
  obtain ⟨l, vs, h1, h2, h3, h4, h5⟩ := s.own i ds e
  refine ⟨l, vs, h1, u.hh _ _ h2, ?_, h4, h5.mono u.gg⟩
  cases q : G' l with
  | none => rfl
  | some o =>
    rcases u.fr l o q with z | z
    . rw [h3] at z; cases z
    . rw [h2] at z; cases z), s.inj⟩
theorem StR.set (s : StR K G₀ H₀ G H σ ρ) {v : V} {d : D} (r : Rep K G v d) (i : Nat) : StR K G₀ H₀ G H (σ.set i (some v)) (ρ.set i (some (.val d))) := by
  have get : ∀ (j : Nat) x, (ρ.set i (some (.val d)))[j]? = some (some x) -> (j = i /\ x = .val d /\ i < σ.length) \/ (j ≠ i /\ ρ[j]? = some (some x) /\ (σ.set i (some v))[j]? = σ[j]?) := fun j x h => by
    by_cases e : i = j
    . subst e
      have hl : i < ρ.length := by
        have := (List.getElem?_eq_some_iff.mp h).1
        simpa using this
      rw [List.getElem?_set_self hl] at h
      exact .inl ⟨rfl, by injection (Option.some.inj h) with q; exact q.symm, by rw [s.e.len]; exact hl⟩
    . rw [List.getElem?_set_ne e] at h
      exact .inr ⟨fun z => e z.symm, h, List.getElem?_set_ne e⟩
  refine ⟨⟨s.e.sub, by simp [s.e.len], fun j d' h => ?_⟩, s.sub0, s.up, fun j ds h => ?_, fun j k ds es l h1 h2 h3 h4 => ?_⟩
  . rcases get j _ h with ⟨rfl, e, hl⟩ | ⟨_, e, e'⟩
    . cases e
      exact ⟨v, List.getElem?_set_self hl, r⟩
    . rw [e']; exact s.e.val j d' e
  . rcases get j _ h with ⟨_, e, _⟩ | ⟨_, e, e'⟩
    . cases e
    . rw [e']; exact s.own j ds e
  . rcases get j _ h1 with ⟨_, e, _⟩ | ⟨_, e, e'⟩
    . cases e
    . rcases get k _ h2 with ⟨_, f, _⟩ | ⟨_, f, f'⟩
      . cases f
      . exact s.inj j k ds es l e f (e' ▸ h3) (f' ▸ h4)
end
def PGF (X : Cx) (tg : Expr) (asg : D -> Ev -> R Ev) : Prop := PG X tg (fun v σ H Q => ∃ G₀ H₀ G ρ d ρ', StR X.K G₀ H₀ G H σ ρ /\ Rep X.K G v d /\ asg d ρ = .ok ρ' /\ ∀ σ', StR X.K G₀ H₀ G H σ' ρ' -> Q σ' H)
section
variable {X : Cx} {pos : Pos}
def gH (i : Nat) : D -> Ev -> R Ev := fun d ρ => .ok (ρ.set i (some (.val d)))
theorem cq (i : Nat) {x : Str} (hN : X.N.Nodup) (hi : X.N[i]? = some x := by rfl) (hx : Loc X.env.scope x := by first | exact Or.inl rfl | exact Or.inr rfl)
    (hf : X.fn x = true \/ X.env.scope.names.lookup x = some .local := by first | exact .inl rfl | exact .inr rfl) : PGF X (.Name x pos) (gH i) := by
  intro pins s σ H v u Q I r h
  obtain ⟨G₀, H₀, G, ρ, d, ρ', st, rd, e, q⟩ := h
  cases e
  exact nl hN hi hx hf pins s σ H v u Q I r (q _ (st.set rd i))
end
end L2
namespace L2
open PySem PySem.Spec PyProof.Rows

def vC (K : PySem.W.Frag) (G H : Hp) (Q : VK) : List D -> Prop := fun ds => ∀ l vs G' H', Up G H G' H' -> H' l = none -> Reps K G' vs ds -> Q (.ref l) (upd H' l (.lst vs))
def tL (X : Cx) (g : Ev -> R (List D)) : TE := fun σ H Q => ∃ G ρ, StE X.K G H σ ρ /\ (g ρ).post (vC X.K G H Q) (Exx X σ G H)
def QFL (X : Cx) (e : Expr) (g : Ev -> R (List D)) : Prop := PE X e (tL X g)
theorem lL {X : Cx} {e : Expr} {g : Ev -> R (List D)} (h : QFL X e g) : QF X e (fun ρ => g ρ >>= fun ds => .ok (.lst false ds)) := by
  intro pins s σ H Q I hq
  refine h pins s σ H Q I ?_
  obtain ⟨G, ρ, st, hq⟩ := hq
  try dsimp only at hq
  refine ⟨G, ρ, st, ?_⟩
  cases e : g ρ with
  | ok ds =>
    rw [e] at hq
    intro l vs G' H' u hl r
    exact hq _ _ _ (u.trans (.new u.sub hl)) (.lst bq (r.mono (.into (u.sub.free hl))))
  | ex C => rw [e] at hq; exact hq
  | no => rw [e] at hq; exact hq
theorem vL {X : Cx} {es : List Expr} {gl : Ev -> R (List D)} {pos : Pos} (h : QFA X es gl) : QFL X (.List es pos) (fun ρ => gl ρ >>= fun ds => if ds.length <= sizeLine then .ok ds else .no) := by
  intro pins s σ H Q I hq
  refine yb h pins s σ H Q I ?_
  obtain ⟨G, ρ, st, hq⟩ := hq
  try dsimp only at hq
  refine ⟨G, ρ, st, ?_⟩
  cases e : gl ρ with
  | ok ds =>
    rw [e] at hq
    intro vs G' H' u r
    simp only [R.ok_bind] at hq
    split at hq
    . rename_i hz
      exact ⟨by rw [r.length]; exact hz, fun p hp => hq p vs G' H' u hp r⟩
    . exact hq.elim
  | ex C => rw [e] at hq; exact hq
  | no => rw [e] at hq; exact hq

def sQ (env : Env) : List (Str × NameKind) -> List (Str × Addr) -> List (Str × Addr)
  | [], cs => cs
  | (n, k) :: r, cs => sQ env r (if (k == .free) = true then (match env.cells.lookup n with | some c => (n, c) :: cs | none => cs) else cs)
theorem qC {env : Env} {F : Str × NameKind -> List (Str × Addr) -> Sem (ForInStep (List (Str × Addr)))}
    (hF : ∀ n k r, (k = NameKind.free -> ∃ c, env.cells.lookup n = some c) -> F (n, k) r = pure (ForInStep.yield (if (k == .free) = true then (match env.cells.lookup n with | some c => (n, c) :: r | none => r) else r))) :
    ∀ (l : List (Str × NameKind)) (cs : List (Str × Addr)), (∀ x ∈ l, x.2 = .free -> ∃ c, env.cells.lookup x.1 = some c) -> forIn l cs F = pure (sQ env l cs)
  | [], cs, _ => rfl
  | (n, k) :: l, cs, h => by
    rw [List.forIn_cons, hF n k cs (h (n, k) List.mem_cons_self), pure_bind]
    exact qC hF l _ fun y hy => h y (List.mem_cons_of_mem _ hy)
theorem gK {scope : Scope} {env : Env} (h : ∀ x ∈ scope.names, x.2 = .free -> ∃ c, env.cells.lookup x.1 = some c) : closureFor scope env = pure (sQ env scope.names []) := by
  simp only [closureFor]
  rw [qC (env := env) (fun n k r hk => ?_) scope.names [] h]
  . rfl
  . by_cases hf : (k == NameKind.free) = true
    . obtain ⟨c, hc⟩ := hk (by simpa using hf)
      simp only [hf, if_true, cellOf, hc, pure_bind]
    . simp only [hf, if_false]
      rfl
theorem qx {env : Env} : ∀ (l : List (Str × NameKind)) (cs : List (Str × Addr)), (∀ x c, cs.lookup x = some c -> env.cells.lookup x = some c) -> ∀ x c, (sQ env l cs).lookup x = some c -> env.cells.lookup x = some c
  | [], cs, h, x, c, e => h x c e
  | (n, k) :: l, cs, h, x, c, e => by
    unfold sQ at e
    refine qx l _ (fun y d ed => ?_) x c e
    split at ed
    . split at ed
      . rename_i c' hc'
        rw [List.lookup_cons] at ed
        split at ed
        . rename_i q; rw [eq_of_beq q]; rw [<- Option.some.inj ed]; exact hc'
        . exact h y d ed
      . exact h y d ed
    . exact h y d ed
theorem mr {env : Env} : ∀ (l : List (Str × NameKind)) (cs : List (Str × Addr)) (x : Str), ((∃ c, cs.lookup x = some c) \/ ((x, NameKind.free) ∈ l /\ ∃ c, env.cells.lookup x = some c)) -> ∃ c, (sQ env l cs).lookup x = some c
  | [], cs, x, h => by
    rcases h with h | ⟨h, _⟩
    . exact h
    . cases h
  | (n, k) :: l, cs, x, h => by
    unfold sQ
    refine mr l _ x ?_
    rcases h with ⟨c, h⟩ | ⟨h, c, hc⟩
    . left
      split
      . split
        . rename_i c' _
          rw [List.lookup_cons]
          split
          . exact ⟨_, rfl⟩
          . exact ⟨c, h⟩
        . exact ⟨c, h⟩
      . exact ⟨c, h⟩
    . rcases List.mem_cons.mp h with e | h
      . cases e
        left
        rw [if_pos (by rfl), hc]
        exact ⟨c, by simp [List.lookup_cons]⟩
      . exact .inr ⟨h, c, hc⟩

def bA (X : Cx) (N' : List Str) (scope : Scope) (C : Addr) (s₂ : Shared) (H₂ : Hp) (fp : List Addr) : Cx :=
  { X with N := N', s₀ := s₂, H₀ := H₂, env := compEnvC scope (sQ X.env scope.names []) C X.env, outer := X.stack, stack := X.stack, ex := fp, fn := fun _ => false, pn := [], xe := fun _ _ => False }
def im {α : Type} : R α -> R α
  | .ok a => .ok a
  | _ => .no
def ib (ix : List Nat) (ρ : Ev) : Ev := none :: ix.map fun (i : Nat) => match ρ[i]? with
  | some (some (.val d)) => some (.val d)
  | _ => none
def fq (n : Nat) (ix : List Nat) (ρ : Ev) : Ev := List.replicate n none ++ ix.map fun (i : Nat) => match ρ[i]? with
  | some (some (.val d)) => some (.val d)
  | _ => none
def fO (asg : D -> Ev -> R Ev) (gt : Ev -> R Bool) (ge : Ev -> R D) : List D -> Ev -> R (List D)
  | [], _ => .ok []
  | d :: ds, ρ => im (asg d ρ) >>= fun ρ1 => im (gt ρ1) >>= fun k => if k = true then im (ge ρ1) >>= fun x => fO asg gt ge ds ρ1 >>= fun xs => .ok (x :: xs) else fO asg gt ge ds ρ1
def fv (gt : Ev -> R Bool) (ge : Ev -> R D) : List D -> Ev -> R (List D) := fO (gH 0) gt ge
theorem iz {asg : D -> Ev -> R Ev} {gt : Ev -> R Bool} {ge : Ev -> R D} : ∀ (ds : List D) (ρ : Ev), (∃ xs, fO asg gt ge ds ρ = .ok xs) \/ fO asg gt ge ds ρ = .no
  | [], ρ => .inl ⟨[], rfl⟩
  | d :: ds, ρ => by
    unfold fO
    cases asg d ρ with
    | ok ρ1 =>
      simp only [im, R.ok_bind]
      cases gt ρ1 with
      | ok k =>
        simp only [im, R.ok_bind]
        cases k with
        | true =>
          simp only [if_true]
          cases ge ρ1 with
          | ok x =>
            simp only [im, R.ok_bind]
            rcases iz (asg := asg) ds ρ1 with ⟨xs, e⟩ | e
            . rw [e]; exact .inl ⟨_, rfl⟩
            . rw [e]; exact .inr rfl
          | ex C => exact .inr rfl
          | no => exact .inr rfl
        | false => simp only [Bool.false_eq_true, if_false]; exact iz ds _
      | ex C => exact .inr rfl
      | no => exact .inr rfl
    | ex C => exact .inr rfl
    | no => exact .inr rfl
def eM (gi : Ev -> R (List D)) (ix : List Nat) (gt : Ev -> R Bool) (ge : Ev -> R D) : Ev -> R (List D) := fun ρ => gi ρ >>= fun items => fv gt ge items (ib ix ρ) >>= fun ds => if ds.length <= sizeLine then .ok ds else .no
def lH (n : Nat) (asg : D -> Ev -> R Ev) (gi : Ev -> R (List D)) (ix : List Nat) (gt : Ev -> R Bool) (ge : Ev -> R D) : Ev -> R (List D) := fun ρ => gi ρ >>= fun items => fO asg gt ge items (fq n ix ρ) >>= fun ds => if ds.length <= sizeLine then .ok ds else .no
def PTs (X : Cx) (ifs : List Expr) (gt : Ev -> R Bool) : Prop := ∀ (pins : List (Addr × Obj)) (s : Shared) (σ : St) (H : Hp) (Q : Bool -> Hp -> Prop), Inv X pins σ H s -> tTF X gt σ H Q ->
  wpAny (model X.prog X.w) X.A (forIn ifs true fun c r => if r = true then do let ok <- isTrue c X.env (eval c X.env); pure (ForInStep.yield ok) else pure (ForInStep.yield r)) (TP X pins σ Q) X.xe s
theorem gE {X : Cx} : PTs X [] (fun _ => .ok true) := by
  intro pins s σ H Q I h
  obtain ⟨G, ρ, st, h⟩ := h
  exact wpAny_pure ⟨H, I, h true G H (.refl st.sub) rfl⟩
theorem uH {X : Cx} {c : Expr} {gt : Ev -> R Bool} (h : QB X c gt) : PTs X [c] gt := fun pins s σ H Q I q => wpAny_tests_one (h pins s σ H Q I q)
theorem Un.sameBut {fs ex : List Addr} {H H' : Hp} {h h1 h2 : Heap} {C : Addr} (u : Un fs ex H H' h h1) (k : ∀ b o, b ≠ C -> h1.get? b = some o -> h2.get? b = some o) (hC : h.objs.size <= C) : Un fs ex H H' h h2 := by
  have ne : ∀ b o, h.get? b = some o -> b ≠ C := fun b o e => Nat.ne_of_lt (Nat.lt_of_lt_of_le (Heap.lt_size e) hC)
  exact ⟨fun b o e n hb hx => k b o (ne b o e) (u.keep b o e n hb hx), fun b o e n hb hx => let ⟨sl, q⟩ := u.slot b o e n hb hx; ⟨sl, k b _ (ne b o e) q⟩, u.free, fun b o e hx => let ⟨o', q⟩ := u.there b o e hx; ⟨o', k b o' (ne b o e) q⟩, u.tups, u.frzs, u.tbls⟩
theorem HOk.sameBut {P : Program} {w : World} {H : Hp} {h h' : Heap} {C : Addr} (x : HOk P w H h) (k : ∀ b o, b ≠ C -> h.get? b = some o -> h'.get? b = some o) (hC : H C = none) : HOk P w H h' := fun a o e => by
  refine (x a o e).stay (fun b u hb q => k b u ?_ q) (fun _ z => z) (fun _ _ z => z)
  rcases hb with rfl | hb
  . exact aZ e hC
  . exact aZ hb hC
end L2
namespace L2
open PySem PySem.Spec PyProof.Rows
section
variable {X : Cx} {elt iter : Expr} {ifs : List Expr} {x : Str} {px pos : Pos} {scope : Scope} {N' : List Str} {ix : List Nat} {gi : Ev -> R (List D)} {gt : Ev -> R Bool} {ge : Ev -> R D}
structure CompOk (X : Cx) (scope : Scope) (x : Str) (N' : List Str) (ix : List Nat) : Prop where
  kind : scope.kind = .function
  cell : ∀ y ∈ scope.names, y.2 ≠ .cell
  names : ∀ y ∈ scope.names, y.2 = .local -> scope.names.lookup y.1 = some .local
  loc : scope.names.lookup x = some .local
  fr : ∀ y ∈ scope.names, y.2 = .free -> X.env.kindOf y.1 = some .cell
  nd : N'.Nodup
  hd : N'[0]? = some x
  tl : N'.tail = ix.map fun (i : Nat) => X.N.getD i Str.empty
  lt : ∀ i ∈ ix, i < X.N.length
  fre : ∀ y ∈ N'.tail, scope.names.lookup y = some .free /\ (y, NameKind.free) ∈ scope.names
structure CompOkT (X : Cx) (scope : Scope) (n : Nat) (N' : List Str) (ix : List Nat) : Prop where
  kind : scope.kind = .function
  cell : ∀ y ∈ scope.names, y.2 ≠ .cell
  names : ∀ y ∈ scope.names, y.2 = .local -> scope.names.lookup y.1 = some .local
  fr : ∀ y ∈ scope.names, y.2 = .free -> X.env.kindOf y.1 = some .cell
  le : n <= N'.length
  tl : N'.drop n = ix.map fun (i : Nat) => X.N.getD i Str.empty
  lt : ∀ i ∈ ix, i < X.N.length
  fre : ∀ y ∈ N'.drop n, scope.names.lookup y = some .free /\ (y, NameKind.free) ∈ scope.names
theorem CompOk.t (ok : CompOk X scope x N' ix) : CompOkT X scope 1 N' ix :=
  ⟨ok.kind, ok.cell, ok.names, ok.fr, (List.getElem?_eq_some_iff.mp ok.hd).1, List.drop_one ▸ ok.tl, ok.lt, List.drop_one ▸ ok.fre⟩
theorem iQ {env : Env} (hk : env.scope.kind = .function) : ∀ {names : List (Str × NameKind)} {x : Str}, names.lookup x = some .free -> env.kindOf x = some .cell ->
    (names.map fun (n, k) => if (k == NameKind.free && env.scope.kind == .function && env.kindOf n == some .cell) then (n, NameKind.cell) else (n, k)).lookup x = some .cell
  | [], _, h, _ => by simp at h
  | (n, k) :: r, x, h, hc => by
    have ih := @iQ env hk r x
    show List.lookup x ((if (k == NameKind.free && env.scope.kind == .function && env.kindOf n == some .cell) = true then (n, NameKind.cell) else (n, k)) :: _) = _
    cases hx : x == n with
    | true =>
      simp only [List.lookup_cons, hx] at h
      cases h
      have e := eq_of_beq hx
      subst e
      rw [if_pos (by rw [hk, hc]; rfl)]
      simp [List.lookup_cons]
    | false =>
      simp only [List.lookup_cons, hx] at h
      by_cases hc' : (k == NameKind.free && env.scope.kind == .function && env.kindOf n == some .cell) = true
      . rw [if_pos hc']; simp only [List.lookup_cons, hx]; exact ih h hc
      . rw [if_neg hc']; simp only [List.lookup_cons, hx]; exact ih h hc
theorem sY {n : Nat} {ix : List Nat} {ρ : Ev} {j : Nat} {d : D} (h : (fq n ix ρ)[j]? = some (some (.val d))) : ∃ k i, j = k + n /\ ix[k]? = some i /\ ρ[i]? = some (some (.val d)) := by
  unfold fq at h
  by_cases hj : j < n
  . rw [List.getElem?_append_left (by simpa using hj), List.getElem?_replicate, if_pos hj] at h; cases h
  . rw [List.getElem?_append_right (by simpa using Nat.not_lt.1 hj), List.length_replicate, List.getElem?_map] at h
    cases e : ix[j - n]? with
    | none => rw [e] at h; cases h
    | some i =>
      rw [e] at h
      refine ⟨j - n, i, by omega, e, ?_⟩
      simp only [Option.map_some, Option.some.injEq] at h
      split at h
      . rename_i d' e'; cases h; exact e'
      . cases h
def fA (n : Nat) (ix : List Nat) (σ : St) : St := List.replicate n none ++ ix.map fun (i : Nat) => (σ[i]?).join
theorem qH {K : PySem.W.Frag} {G H : Hp} {σ : St} {ρ : Ev} (st : StE K G H σ ρ) (n : Nat) (ix : List Nat) : StE K G H (fA n ix σ) (fq n ix ρ) := by
  refine ⟨st.sub, by simp [fq, fA], fun j d h => ?_⟩
  obtain ⟨k, i, rfl, e1, e2⟩ := sY h
  obtain ⟨v, h1, h2⟩ := st.val i d e2
  refine ⟨v, ?_, h2⟩
  unfold fA
  rw [List.getElem?_append_right (by simp), List.length_replicate, Nat.add_sub_cancel, List.getElem?_map, e1]
  simp [h1]
theorem vG {n : Nat} {ix : List Nat} {ρ : Ev} {j : Nat} {ds : List D} (h : (fq n ix ρ)[j]? = some (some (.own ds))) : False := by
  unfold fq at h
  by_cases hj : j < n
  . rw [List.getElem?_append_left (by simpa using hj), List.getElem?_replicate, if_pos hj] at h; cases h
  . rw [List.getElem?_append_right (by simpa using Nat.not_lt.1 hj), List.length_replicate, List.getElem?_map] at h
    cases e : ix[j - n]? with
    | none => rw [e] at h; cases h
    | some i =>
      rw [e] at h
      simp only [Option.map_some, Option.some.injEq] at h
      split at h <;> cases h
theorem wq {pins : List (Addr × Obj)} {σ : St} {H : Hp} {s : Shared} {fp : List Addr} {h₁ : Heap} {tk : Nat} {m : Str -> Option Value} {C : Addr} {H' : Hp} {n : Nat} (ok : CompOkT X scope n N' ix) (hcalm : X.calm = true) (I : Inv X pins σ H s) (hf : ∀ b ∈ fp, uX X pins H b) (hfl : ∀ b ∈ fp, b < s.heap.objs.size)
    (hC : s.heap.objs.size <= C) (hn : h₁.Ns C m) (old : ∀ b o, s.heap.get? b = some o -> h₁.get? b = some o) (un : Un (frs X.stack) fp H H' s.heap h₁) (hok : HOk X.prog X.w H' h₁) (hfC : H' C = none) (hfc : ∀ c : Addr, c < s.heap.objs.size -> H c = none -> H' c = none) :
    Inv (bA X N' scope C s H fp) [] (fA n ix σ) H' { s with heap := h₁, toks := tk } := by
  have cl : ∀ y c, (sQ X.env scope.names []).lookup y = some c -> X.env.cells.lookup y = some c := qx scope.names [] (fun y c h => by simp at h)
  have nlt : N'.length = n + ix.length := by
    have h1 := congrArg List.length ok.tl
    rw [List.length_drop, List.length_map] at h1
    have := ok.le
    omega
  refine ⟨⟨I.ok.mod, by show (relabel scope X.env).kind = _; exact ok.kind, I.ok.glob, I.ok.blt, hC, ?_, ?_, ?_, I.ok.hd, I.ok.frames, .inl rfl, ?_, I.bs, Nat.le_trans I.ok.bsz I.sz, ?_, ?_, I.stack, I.stkFree⟩, rfl, I.bare, un, ?_, ?_, hfC, ?_, ?_, hok, ?_⟩
  . intro y z c h1 h2
    exact I.ok.inj y z c (cl y c h1) (cl z c h2)
  . intro y hy
    have h1 : (y, NameKind.free) ∈ scope.names := by
      have hy' : (relabel scope X.env).names.lookup y = some .cell \/ (relabel scope X.env).names.lookup y = some .free := hy
      have mem : ∀ k, (relabel scope X.env).names.lookup y = some k -> (k = .cell \/ k = .free) -> (y, NameKind.free) ∈ scope.names := fun k e hk => by
        have hm := PySem.mem_of_lookup e
        obtain ⟨⟨n, k'⟩, hm1, hm2⟩ := List.mem_map.mp hm
        dsimp only at hm2
        split at hm2
        . rename_i hc
          cases hm2
          have : k' = .free := by
            have := (Bool.and_eq_true _ _ ▸ (Bool.and_eq_true _ _ ▸ hc).1).1
            simpa using this
          rw [<- this]; exact hm1
        . cases hm2
          rcases hk with rfl | rfl
          . exact absurd rfl (ok.cell _ hm1)
          . exact hm1
      rcases hy' with h | h
      . exact mem _ h (.inl rfl)
      . exact mem _ h (.inr rfl)
    have hc := I.ok.has y (.inl (ok.fr _ h1 rfl))
    exact mr scope.names [] y (.inr ⟨h1, hc⟩)
  . intro y c hfn; cases hfn
  . intro b hb
    obtain ⟨f0, f1, f2, f3, f4, f5⟩ := hf b hb
    exact ⟨fun z => absurd (hfl b hb) (by rw [z]; exact Nat.not_lt.mpr hC), fun y c h => f4 y c (cl y c h)⟩
  . intro b o e hb
    obtain ⟨f0, f1, f2, f3, f4, f5⟩ := hf b hb
    rcases f3 with f3 | f3
    . exact I.ok.noex b o e f3
    . exact absurd (Heap.lt_size (I.ok.bs b o e).1) (Nat.not_lt.mpr f3)
  . intro b hb hb'
    obtain ⟨f0, f1, f2, f3, f4, f5⟩ := hf b hb
    rcases List.mem_cons.mp (I.stkSub b hb') with e | e
    . exact f1 e
    . exact f2 e
  . refine ⟨m, hn, fun i y v h1 h2 h3 => ?_⟩
    have h1 : N'[i]? = some y := h1
    have h2 : (fA n ix σ)[i]? = some (some v) := h2
    by_cases hi : i < n
    . unfold fA at h2
      rw [List.getElem?_append_left (by simpa using hi), List.getElem?_replicate, if_pos hi] at h2; cases h2
    . unfold fA at h2
      rw [List.getElem?_append_right (by simpa using Nat.not_lt.1 hi), List.length_replicate, List.getElem?_map] at h2
      cases e : ix[i - n]? with
      | none => rw [e] at h2; cases h2
      | some i0 =>
        rw [e] at h2
        have h2' : σ[i0]? = some (some v) := by
          cases q : σ[i0]? with
          | none => rw [Option.map_some, q] at h2; cases h2
          | some z => rw [Option.map_some, q] at h2; have := Option.some.inj h2; rw [<- this]; rfl
        have ht : (N'.drop n)[i - n]? = some y := by rw [List.getElem?_drop, Nat.add_sub_cancel' (Nat.not_lt.1 hi)]; exact h1
        have hy : X.N[i0]? = some y := by
          have ht2 := ht
          rw [ok.tl, List.getElem?_map, e] at ht2
          have hl := ok.lt i0 (List.mem_of_getElem? e)
          have q := Option.some.inj ht2
          rw [List.getElem?_eq_getElem hl]
          rw [<- q]
          show some X.N[i0] = some (X.N.getD i0 Str.empty)
          rw [List.getD_eq_getElem?_getD, List.getElem?_eq_getElem hl]
          rfl
        obtain ⟨fr1, fr2⟩ := ok.fre y (List.mem_of_getElem? ht)
        have kc := ok.fr _ fr2 rfl
        obtain ⟨m0, hn0, hl⟩ := I.loc
        obtain ⟨u, ru, lk⟩ := hl i0 y v hy h2' (.inr (.inl kc))
        refine ⟨u, ru, .inr ⟨.inl (iQ I.ok.kind fr1 kc), ?_⟩⟩
        rcases lk with ⟨z, _⟩ | ⟨_, c, hc, hcell⟩
        . rw [kc] at z; cases z
        . obtain ⟨c', hc'⟩ := mr scope.names [] y (.inr ⟨fr2, c, hc⟩)
          have := cl y c' hc'
          rw [hc] at this
          cases this
          exact ⟨c, hc', hcell.keeps old⟩
  . intro y c h
    obtain ⟨v, q⟩ := I.cell y c (cl y c h)
    exact ⟨v, q.keeps old⟩
  . intro y c h
    obtain ⟨v, q⟩ := I.cell y c (cl y c h)
    exact hfc c q.lt (I.freeC y c (cl y c h))
  . intro p hp
    exact absurd (show p ∈ ([] : List (Addr × Obj)) from hp) (by simp)
  . show (fA n ix σ).length = N'.length
    rw [nlt]; simp [fA]

theorem rN {prog : Program} {w : World} {A : Around} {R' : Result -> Shared -> Prop} {s : Shared} {elt target iter : Expr} {ifs : List Expr} {scope : Scope} {pos : Pos} {it acc : Value} {env : Env} (I : Nat -> Shared -> Prop)
    (turn : ∀ n s, I n s -> wpAny (model prog w) A (pyNext it) (fun r s₁ => match r with
      | none => R' (.ok .next) s₁
      | some v => wpAny (model prog w) A (letOwnedTupleGo target it v) (fun _ s₁' => wpAny (model prog w) A (assign target env v) (fun _ s₂ =>
          wpAny (model prog w) A (forIn ifs true fun c r => if r = true then do let ok <- isTrue c env (eval c env); pure (ForInStep.yield ok) else pure (ForInStep.yield r)) (fun ok s₃ =>
            if ok = true then wpAny (model prog w) A (eval elt env) (fun x s₄ =>
              wpAny (model prog w) A (call (.builtin "list.append") [acc, x]) (fun _ s₅ => ∃ m, m < n /\ I m s₅) (fun _ _ => False) s₄) (fun _ _ => False) s₃
            else ∃ m, m < n /\ I m s₃) (fun _ _ => False) s₂) (fun _ _ => False) s₁') (fun _ _ => False) s₁) (fun _ _ => False) s)
    (n : Nat) (h : I n s) :
    codeAny (model prog w) A (.compLoop (.ListComp elt [⟨target, iter, ifs, 0⟩] scope pos) 0 it acc env) R' s := by
  refine codeAny_loop rfl I (fun n s hI => ?_) n h
  show wpAny _ A ((compTurn (.ListComp elt [⟨target, iter, ifs, 0⟩] scope pos) 0 it acc env).onRaise (fun x => do noteFrame x env; theTreesLotGoes x)) _ _ s
  refine wpAny_noted ?_
  rw [compTurn_list]
  refine wpAny_bind (wpAny_standAt (wpAny_bind (wpAny_mono (turn n s hI) (fun r s₁ h₁ => ?_) fun _ _ z => z.elim)))
  cases r with
  | none => exact wpAny_pure h₁
  | some v =>
    refine wpAny_bind (wpAny_mono h₁ (fun _ s₁' h₁' => ?_) fun _ _ z => z.elim)
    refine wpAny_bind (wpAny_mono h₁' (fun _ s₂ h₂ => wpAny_bind (wpAny_mono h₂ (fun ok s₃ h₃ => ?_) fun _ _ z => z.elim)) fun _ _ z => z.elim)
    cases ok with
    | false => exact wpAny_pure ⟨rfl, h₃⟩
    | true =>
      exact wpAny_bind (wpAny_bind (wpAny_mono h₃ (fun x s₄ h₄ => wpAny_bind (wpAny_mono h₄ (fun _ s₅ h₅ => wpAny_pure (wpAny_pure ⟨rfl, h₅⟩)) fun _ _ z => z.elim)) fun _ _ z => z.elim))

theorem qO {i : Nat} : ∀ d ρ ρ', gH i d ρ = .ok ρ' -> (∀ (j : Nat) ds, ρ[j]? ≠ some (some (.own ds))) -> ∀ (j : Nat) ds, ρ'[j]? ≠ some (some (.own ds)) := by
  intro d ρ ρ' e h j ds q
  have e' : ρ.set i (some (.val d)) = ρ' := R.ok.inj e
  rw [<- e', List.getElem?_set] at q
  split at q
  . split at q
    . cases q
    . cases q
  . exact h j ds q
theorem gY {tgt : Expr} {asg : D -> Ev -> R Ev} {n : Nat} {pins : List (Addr × Obj)} {σ : St} {H : Hp} {s : Shared} {it : Addr} {fp : List Addr} {tn : Nat -> Heap -> Prop} {J : It} {G : Hp} {ρ : Ev} {items : List D} {Q : VK} {RR : Value -> Addr -> Result -> Shared -> Prop} {E : Value -> Shared -> Prop} (ok : CompOkT X scope n N' ix) (hcalm : X.calm = true) (hg : ∀ C s₂ H₂ fp, PGF (bA X N' scope C s₂ H₂ fp) tgt asg) (hown : ∀ d ρ ρ', asg d ρ = .ok ρ' -> (∀ (j : Nat) ds, ρ[j]? ≠ some (some (.own ds))) -> ∀ (j : Nat) ds, ρ'[j]? ≠ some (some (.own ds)))
    (he : ∀ C s₂ H₂ fp, QF (bA X N' scope C s₂ H₂ fp) elt ge) (ht : ∀ C s₂ H₂ fp, PTs (bA X N' scope C s₂ H₂ fp) ifs gt)
    (I : Inv X pins σ H s) (T : Turn X.prog X.w X.K tgt J fp it tn) (st0 : tn 0 s.heap) (hf : ∀ b ∈ fp, uX X pins H b) (st : StE X.K G H σ ρ) (hi : ItOk X.K G J items)
    (h : (fO asg gt ge items (fq n ix ρ) >>= fun ds => if ds.length <= sizeLine then R.ok ds else .no).post (vC X.K G H Q) (Exx X σ G H))
    (hR : ∀ (Dd C : Addr) (s' : Shared) (m : Str -> Option Value) (vs : List V) (G' H' : Hp), Up G H G' H' -> H' Dd = none -> C ≠ Dd -> (∀ ds, Reps X.K G' vs ds -> True) -> Q (.ref Dd) (upd H' Dd (.lst vs)) -> s'.heap.Ns C m -> s'.os = s.os -> AllBare s'.gens -> H' C = none -> s.heap.objs.size <= C ->
      Un (frs X.stack) fp H (upd H' Dd (.lst vs)) s.heap s'.heap -> HOk X.prog X.w (upd H' Dd (.lst vs)) s'.heap -> RR (.ref Dd) C (.ok .next) s') :
    wpAny (model X.prog X.w) X.A (newList []) (fun acc s₃ => wpAny (model X.prog X.w) X.A (newFunctionEnv scope X.env.globals (sQ X.env scope.names []) [] X.env.qual none .none (some X.env)) (fun cenv s₄ =>
      codeAny (model X.prog X.w) X.A (.compStart (.ListComp elt [⟨tgt, iter, ifs, 0⟩] scope pos) 0 (.ref it) acc { cenv with scope := relabel scope X.env }) (RR acc cenv.locals) s₄) E s₃) E s := by
  have hfl : ∀ b ∈ fp, b < s.heap.objs.size := fun b hb => let ⟨o, e, _⟩ := T.obj 0 s.heap st0 b hb; Heap.lt_size e
  refine wpAny_newObj_type (wpAny_newFunctionEnv ok.cell (by intro y hy; simp at hy) (fun h₁ hns₁ hsb₁ => ?_) ok.kind)
  dsimp only at hns₁ hsb₁ ⊢
  generalize hH2 : s.heap.push { cls := .type "list", dict := none, data := .seq ([] : List Value).toArray } = Hq at hns₁ hsb₁ ⊢
  have hC : Hq.objs.size = s.heap.objs.size + 1 := by rw [<- hH2, Heap.size_push]
  have hDC : s.heap.objs.size ≠ Hq.objs.size := by rw [hC]; exact Nat.ne_of_lt (Nat.lt_succ_self _)
  have hCle : s.heap.objs.size <= Hq.objs.size := by rw [hC]; exact Nat.le_succ _
  have old : ∀ b o, s.heap.get? b = some o -> h₁.get? b = some o := fun b o e =>
    hsb₁.extBut b o (by rw [hC]; exact Nat.ne_of_lt (Nat.lt_succ_of_lt (Heap.lt_size e))) (Heap.get?_push_of_some _ (hH2 ▸ Heap.get?_push_of_some _ e))
  have hacc : h₁.get? s.heap.objs.size = some { cls := .type "list", data := .seq ([] : List Value).toArray } := hsb₁.extBut _ _ hDC (Heap.get?_push_of_some _ (hH2 ▸ Heap.get?_push_size _ rfl))
  have hD0 : H s.heap.objs.size = none := I.fresh
  have hC0 : H Hq.objs.size = none := I.hok.fresh hCle
  have st0' : tn 0 h₁ := T.keep 0 _ _ st0 fun b hb o e => old b o e
  -- the block's state at its beginning
  have I0 : ∀ tk, Inv (bA X N' scope Hq.objs.size s H fp) [] (fA n ix σ) (upd H s.heap.objs.size (.lst [])) { s with heap := h₁, toks := tk } := fun tk => by
    refine wq ok hcalm I hf hfl hCle hns₁ old (Un.laid old (Nat.le_refl _) hD0) (I.hok.laid old (Nat.le_refl _) ⟨Nat.zero_le _, [], 0, .nil, hacc⟩) (by rw [bi hDC.symm]; exact hC0) fun c hc e => ?_
    rw [bi (Nat.ne_of_lt hc)]; exact e
  have loop : ∀ tk, codeAny (model X.prog X.w) X.A (.compLoop (.ListComp elt [⟨tgt, iter, ifs, 0⟩] scope pos) 0 (.ref it) (.ref s.heap.objs.size) (compEnvC scope (sQ X.env scope.names []) Hq.objs.size X.env))
      (RR (.ref s.heap.objs.size) Hq.objs.size) { s with heap := h₁, toks := tk } := fun tk => by
    have fpk : ∀ {pins' : List (Addr × Obj)} {σ' : St} {H' : Hp} {s' : Shared}, Inv (bA X N' scope Hq.objs.size s H fp) pins' σ' H' s' -> pins' = [] -> (∀ b ∈ fp, H' b = none) -> ∀ b ∈ fp, uX (bA X N' scope Hq.objs.size s H fp) pins' H' b := fun I' e hn b hb =>
      ⟨hn b hb, (I'.ok.exf b hb).1, I'.ok.exfs b hb, .inl hb, (I'.ok.exf b hb).2, by subst e; intro p hp; exact absurd (show p ∈ ([] : List (Addr × Obj)) from hp) (by simp)⟩
    refine rN (fun nn s' => ∃ (i : Nat) (σ' : St) (G' H' : Hp) (ρ' : Ev) (vs : List V) (ys : List D), nn = items.length - i /\ i <= items.length /\ Inv (bA X N' scope Hq.objs.size s H fp) [] σ' H' s' /\ tn i s'.heap /\ (∀ b ∈ fp, H' b = none) /\
      H' s.heap.objs.size = some (.lst vs) /\ G' s.heap.objs.size = none /\ Up G H G' H' /\ StE X.K G' H' σ' ρ' /\ (∀ (j : Nat) ds, ρ'[j]? ≠ some (some (.own ds))) /\ Reps X.K G' vs ys /\
      (fO asg gt ge (items.drop i) ρ' >>= fun zs => if (ys ++ zs).length <= sizeLine then R.ok (ys ++ zs) else .no).post (vC X.K G H Q) (Exx X σ G H)) ?_ items.length
      ⟨0, fA n ix σ, G, upd H s.heap.objs.size (.lst []), fq n ix ρ, [], [], by simp, Nat.zero_le _, I0 tk, st0', fun b hb => by rw [bi (Nat.ne_of_lt (hfl b hb))]; exact (hf b hb).1, bq, st.sub.free hD0,
        ⟨fun a o e => by rw [bi (aZ e (st.sub.free hD0))]; exact st.sub a o e, .refl _, .into hD0, fun _ _ e => .inl e⟩,
        ⟨fun a o e => by rw [bi (aZ e (st.sub.free hD0))]; exact st.sub a o e, (qH st n ix).len, (qH st n ix).val⟩, fun j ds e => vG e, .nil, by simpa using h⟩
    rintro nn s' ⟨i, σ', G', H', ρ', vs, ys, rfl, hil, I', tn', fr', hD', gD', up', st', no', rp', h'⟩
    have hIt := hi i G' H' up'.gg st'.sub
    by_cases hlt : i < items.length
    . -- a turn
      have hd : items.drop i = items[i] :: items.drop (i + 1) := List.drop_eq_getElem_cons hlt
      rw [hd] at h'
      obtain ⟨go, yl⟩ := hIt.1 items[i] (by simp [hlt])
      refine wpAny_mono (T.item (bA X N' scope Hq.objs.size s H fp) rfl rfl rfl hcalm i [] s' σ' H' (fun _ _ => False) I' (fpk I' rfl fr') tn' go) (fun r s1 ⟨u, hr, h1⟩ => ?_) fun _ _ z => z
      subst hr
      refine wpAny_mono h1 (fun _ s2 ⟨x2, H2, I2, r2, y2, tn2, fr2⟩ => ?_) fun _ _ z => z
      obtain ⟨G2, up2, rep2⟩ := yl x2 H2 y2
      have I2p := I2.pinned (fpk I2 rfl fr2) (T.obj _ _ tn2)
      have st2 : StE X.K G2 H2 σ' ρ' := st'.up up2
      have sr2 : StR X.K G2 H2 G2 H2 σ' ρ' := ⟨st2, up2.sub, .refl up2.sub, fun j ds e => absurd e (no' j ds), fun j k ds es l e => absurd e (no' j ds)⟩
      have ea : ∃ ρ1, asg items[i] ρ' = .ok ρ1 := by
        unfold fO at h'
        cases q : asg items[i] ρ' with
        | ok k => exact ⟨k, rfl⟩
        | ex C => rw [q] at h'; exact h'.elim
        | no => rw [q] at h'; exact h'.elim
      obtain ⟨ρ1, ea⟩ := ea
      unfold fO at h'
      rw [ea] at h'
      simp only [im, R.ok_bind] at h'
      refine wpAny_mono (hg Hq.objs.size s H fp _ s2 σ' H2 x2 u (fun σ3 H3 => H3 = H2 /\ StR X.K G2 H2 G2 H2 σ3 ρ1) I2p r2
        ⟨G2, H2, G2, ρ', items[i], _, sr2, rep2, ea, fun σ3 q => ⟨rfl, q⟩⟩) (fun _ s3 ⟨σ3, H3, I3, e3, sr3⟩ => ?_) fun _ _ z => z
      subst e3
      have no3 := hown _ _ _ ea no'
      have hD2 : H3 s.heap.objs.size = some (.lst vs) := up2.hh _ _ hD'
      have gD2 : G2 s.heap.objs.size = none := by
        cases q : G2 s.heap.objs.size with
        | none => rfl
        | some o =>
          rcases up2.fr _ _ q with z | z
          . rw [gD'] at z; cases z
          . rw [hD'] at z; cases z
      -- the tests
      have ek : ∃ k, gt ρ1 = .ok k := by
        cases q : gt ρ1 with
        | ok k => exact ⟨k, rfl⟩
        | ex C => rw [q] at h'; exact h'.elim
        | no => rw [q] at h'; exact h'.elim
      obtain ⟨k, ek⟩ := ek
      rw [ek] at h'
      simp only [im, R.ok_bind] at h'
      refine wpAny_mono (ht Hq.objs.size s H fp _ s3 σ3 H3 (fun b H4 => b = k /\ ∃ G4, Up G2 H3 G4 H4) I3 ⟨G2, _, sr3.e, by rw [ek]; exact fun b G4 H4 u4 e4 => ⟨e4, G4, u4⟩⟩) (fun b s4 ⟨H4, I4, eb, G4, up4⟩ => ?_) fun _ _ z => z
      subst eb
      have next : ∀ {H7 : Hp} {s7 : Shared} {G7 : Hp} {vs7 : List V} {ys7 : List D}, Inv (bA X N' scope Hq.objs.size s H fp) ([] ++ nO fp s2.heap) σ3 H7 s7 -> H7 s.heap.objs.size = some (.lst vs7) -> G7 s.heap.objs.size = none -> Up G H G7 H7 -> StE X.K G7 H7 σ3 ρ1 -> Reps X.K G7 vs7 ys7 ->
          (fO asg gt ge (items.drop (i + 1)) ρ1 >>= fun zs => if (ys7 ++ zs).length <= sizeLine then R.ok (ys7 ++ zs) else .no).post (vC X.K G H Q) (Exx X σ G H) ->
          ∃ m, m < items.length - i /\ ∃ (i : Nat) (σ' : St) (G' H' : Hp) (ρ' : Ev) (vs : List V) (ys : List D), m = items.length - i /\ i <= items.length /\ Inv (bA X N' scope Hq.objs.size s H fp) [] σ' H' s7 /\ tn i s7.heap /\ (∀ b ∈ fp, H' b = none) /\
            H' s.heap.objs.size = some (.lst vs) /\ G' s.heap.objs.size = none /\ Up G H G' H' /\ StE X.K G' H' σ' ρ' /\ (∀ (j : Nat) ds, ρ'[j]? ≠ some (some (.own ds))) /\ Reps X.K G' vs ys /\
            (fO asg gt ge (items.drop i) ρ' >>= fun zs => if (ys ++ zs).length <= sizeLine then R.ok (ys ++ zs) else .no).post (vC X.K G H Q) (Exx X σ G H) := fun {H7 s7 G7 vs7 ys7} I7 hD7 gD7 up7 st7 rp7 h7 => by
        have pin : ∀ b ∈ fp, ∀ o, s2.heap.get? b = some o -> s7.heap.get? b = some o /\ H7 b = none := fun b hb o e => by
          have := I7.pin (b, o) (List.mem_append_right _ (List.mem_append_right _ (ir hb e)))
          exact ⟨this.1, this.2.1⟩
        refine ⟨items.length - (i + 1), by omega, i + 1, σ3, G7, H7, _, vs7, ys7, rfl, hlt, I7.unpinned, T.keep _ _ _ tn2 fun b hb o e => (pin b hb o e).1, fun b hb => ?_, hD7, gD7, up7, st7, no3, rp7, h7⟩
        obtain ⟨o, e, _⟩ := T.obj _ _ tn2 b hb
        exact (pin b hb o e).2
      have hD4 : H4 s.heap.objs.size = some (.lst vs) := up4.hh _ _ hD2
      have gD4 : G4 s.heap.objs.size = none := by
        cases q : G4 s.heap.objs.size with
        | none => rfl
        | some o =>
          rcases up4.fr _ _ q with z | z
          . rw [gD2] at z; cases z
          . rw [hD2] at z; cases z
      cases b with
      | false =>
        simp only [Bool.false_eq_true, if_false] at h' ⊢
        exact next I4 hD4 gD4 ((up'.trans up2).trans up4) (sr3.e.up up4) ((rp'.mono up2.gg).mono up4.gg) h'
      | true =>
        simp only [if_true] at h' ⊢
        have ex : ∃ y, ge ρ1 = .ok y := by
          cases q : ge ρ1 with
          | ok y => exact ⟨y, rfl⟩
          | ex C => rw [q] at h'; exact h'.elim
          | no => rw [q] at h'; exact h'.elim
        obtain ⟨y, ey⟩ := ex
        rw [ey] at h'
        simp only [im, R.ok_bind] at h'
        refine wpAny_mono (he Hq.objs.size s H fp _ s4 σ3 H4 (fun v H5 => ∃ G5, Up G4 H4 G5 H5 /\ Rep X.K G5 v y) I4 ⟨G4, _, sr3.e.up up4, by rw [ey]; exact fun v G5 H5 u5 r5 => ⟨G5, u5, r5⟩⟩) (fun u5 s5 ⟨v5, H5, I5, r5, G5, up5, rep5⟩ => ?_) fun _ _ z => z
        have hD5 : H5 s.heap.objs.size = some (.lst vs) := up5.hh _ _ hD4
        have gD5 : G5 s.heap.objs.size = none := by
          cases q : G5 s.heap.objs.size with
          | none => rfl
          | some o =>
            rcases up5.fr _ _ q with z | z
            . rw [gD4] at z; cases z
            . rw [hD4] at z; cases z
        have ups := ((up'.trans up2).trans up4).trans up5
        rcases iz (asg := asg) (gt := gt) (ge := ge) (items.drop (i + 1)) ρ1 with ⟨zs, ez⟩ | ez
        . rw [ez] at h'
          simp only [R.ok_bind] at h'
          have hz : (ys ++ y :: zs).length <= sizeLine := by
            by_cases hz : (ys ++ y :: zs).length <= sizeLine
            . exact hz
            . rw [if_neg hz] at h'; exact h'.elim
          have hvl : vs.length < sizeLine := by
            rw [rp'.length]
            rw [List.length_append, List.length_cons] at hz
            omega
          refine wpAny_mono (kO (X := bA X N' scope Hq.objs.size s H fp) _ s5 σ3 H5 (.ref s.heap.objs.size) [v5] (.ref s.heap.objs.size) [u5] (fun _ H6 => H6 = upd H5 s.heap.objs.size (.lst (vs ++ [v5]))) I5 rfl (.cons r5 .nil)
            ⟨_, vs, v5, rfl, rfl, hD5, hvl, rfl⟩) (fun _ s6 ⟨_, H6, I6, _, e6⟩ => ?_) fun _ _ z => z
          subst e6
          have sub6 : Same G5 (upd H5 s.heap.objs.size (.lst (vs ++ [v5]))) := fun a o e => by rw [bi (aZ e gD5)]; exact up5.sub a o e
          refine next I6 bq gD5 ⟨sub6, ups.gg, fun a o e => ?_, ups.fr⟩ ?_ (ys7 := ys ++ [y]) ((((rp'.mono up2.gg).mono up4.gg).mono up5.gg).append (.cons rep5 .nil)) ?_
          . rw [bi (aZ e hD0)]; exact ups.hh a o e
          . exact ⟨sub6, ((sr3.e.up up4).up up5).len, ((sr3.e.up up4).up up5).val⟩
          . rw [ez]
            simp only [R.ok_bind, List.append_assoc, List.singleton_append]
            exact h'
        . rw [ez] at h'; exact h'.elim
    . -- the end
      have hie : i = items.length := by omega
      subst hie
      rw [List.drop_length] at h'
      unfold fO at h'
      simp only [R.ok_bind, List.append_nil] at h'
      refine wpAny_mono (T.done (bA X N' scope Hq.objs.size s H fp) rfl rfl rfl hcalm items.length [] s' σ' H' (fun _ _ => False) I' (fpk I' rfl fr') tn' (hIt.2 (Nat.le_refl _))) (fun r s1 ⟨hr, I1⟩ => ?_) fun _ _ z => z
      subst hr
      have hz : ys.length <= sizeLine := by
        by_cases hz : ys.length <= sizeLine
        . exact hz
        . rw [if_neg hz] at h'; exact h'.elim
      rw [if_pos hz] at h'
      have eH : upd (fun a => if a = s.heap.objs.size then none else H' a) s.heap.objs.size (.lst vs) = H' := by
        funext a
        unfold upd
        by_cases e : a = s.heap.objs.size
        . subst e; rw [if_pos rfl]; exact hD'.symm
        . rw [if_neg e]
          show (if a = s.heap.objs.size then none else H' a) = _
          rw [if_neg e]
      have hn : (fun a => if a = s.heap.objs.size then none else H' a) s.heap.objs.size = none := by simp
      have upn : Up G H G' (fun a => if a = s.heap.objs.size then none else H' a) := by
        refine ⟨fun a o e => ?_, up'.gg, fun a o e => ?_, up'.fr⟩
        . have : a ≠ s.heap.objs.size := aZ e gD'
          simp only [this, if_false]; exact up'.sub a o e
        . have : a ≠ s.heap.objs.size := aZ e hD0
          simp only [this, if_false]; exact up'.hh a o e
      obtain ⟨m1, hm1, _⟩ := I1.loc
      refine hR s.heap.objs.size Hq.objs.size s1 m1 vs G' _ upn hn hDC.symm (fun _ _ => trivial) (h' _ vs G' _ upn hn rp') hm1 I1.os I1.bare ?_ hCle (by rw [eH]; exact I1.base) (by rw [eH]; exact I1.hok)
      have := I1.free
      show (if Hq.objs.size = s.heap.objs.size then none else H' Hq.objs.size) = none
      rw [if_neg hDC.symm]; exact this
  exact codeAny_compStart_list (loop _) (T.self X.A 0 _ _ _ st0' (loop _))

theorem nF {pins : List (Addr × Obj)} {σ : St} {H : Hp} {s : Shared} {it : Addr} {fp : List Addr} {tn : Nat -> Heap -> Prop} {J : It} {G : Hp} {ρ : Ev} {items : List D} {Q : VK} {RR : Value -> Addr -> Result -> Shared -> Prop} {E : Value -> Shared -> Prop} (ok : CompOk X scope x N' ix) (hcalm : X.calm = true)
    (he : ∀ C s₂ H₂ fp, QF (bA X N' scope C s₂ H₂ fp) elt ge) (ht : ∀ C s₂ H₂ fp, PTs (bA X N' scope C s₂ H₂ fp) ifs gt)
    (I : Inv X pins σ H s) (T : Turn X.prog X.w X.K (.Name x px) J fp it tn) (st0 : tn 0 s.heap) (hf : ∀ b ∈ fp, uX X pins H b) (st : StE X.K G H σ ρ) (hi : ItOk X.K G J items)
    (h : (fv gt ge items (ib ix ρ) >>= fun ds => if ds.length <= sizeLine then R.ok ds else .no).post (vC X.K G H Q) (Exx X σ G H))
    (hR : ∀ (Dd C : Addr) (s' : Shared) (m : Str -> Option Value) (vs : List V) (G' H' : Hp), Up G H G' H' -> H' Dd = none -> C ≠ Dd -> (∀ ds, Reps X.K G' vs ds -> True) -> Q (.ref Dd) (upd H' Dd (.lst vs)) -> s'.heap.Ns C m -> s'.os = s.os -> AllBare s'.gens -> H' C = none -> s.heap.objs.size <= C ->
      Un (frs X.stack) fp H (upd H' Dd (.lst vs)) s.heap s'.heap -> HOk X.prog X.w (upd H' Dd (.lst vs)) s'.heap -> RR (.ref Dd) C (.ok .next) s') :
    wpAny (model X.prog X.w) X.A (newList []) (fun acc s₃ => wpAny (model X.prog X.w) X.A (newFunctionEnv scope X.env.globals (sQ X.env scope.names []) [] X.env.qual none .none (some X.env)) (fun cenv s₄ =>
      codeAny (model X.prog X.w) X.A (.compStart (.ListComp elt [⟨.Name x px, iter, ifs, 0⟩] scope pos) 0 (.ref it) acc { cenv with scope := relabel scope X.env }) (RR acc cenv.locals) s₄) E s₃) E s :=
  gY (n := 1) (asg := gH 0) ok.t hcalm (fun C s₂ H₂ fp => cq (X := bA X N' scope C s₂ H₂ fp) (pos := px) 0 ok.nd ok.hd (.inl (lookup_relabel_local ok.loc)) (.inr (lookup_relabel_local ok.loc))) qO he ht I T st0 hf st hi h hR

theorem sE (ok : CompOk X scope x N' ix) (hcalm : X.calm = true) (hi : QIF X (.Name x px) iter gi) (he : ∀ C s₂ H₂ fp, QF (bA X N' scope C s₂ H₂ fp) elt ge) (ht : ∀ C s₂ H₂ fp, PTs (bA X N' scope C s₂ H₂ fp) ifs gt)
    (hs : ∀ x, foldedSetIterable iter X.env x = pure x := by intro _; rfl) : QFL X (.ListComp elt [⟨.Name x px, iter, ifs, 0⟩] scope pos) (eM gi ix gt ge) := by
  intro pins s σ H Q I h
  obtain ⟨G, ρ, st, h⟩ := h
  rw [eval_ListComp]
  refine wpAny_comprehension_free (use := none) rfl hs (gK fun y hy hy2 => I.ok.has y.1 (.inl (ok.fr y hy hy2))) ok.kind ok.names ?_
  have t : tG X (fun G J items => ItOk X.K G J items) gi σ H (fun J H1 => ∃ G1 items, Up G H G1 H1 /\ StE X.K G1 H1 σ ρ /\ ItOk X.K G1 J items /\ (fv gt ge items (ib ix ρ) >>= fun ds => if ds.length <= sizeLine then R.ok ds else .no).post (vC X.K G H Q) (Exx X σ G H)) := by
    refine ⟨G, ρ, st, ?_⟩
    unfold eM at h
    cases e : gi ρ with
    | ok items => rw [e] at h; exact fun J G1 H1 u r => ⟨G1, items, u, st.up u, r, h⟩
    | ex C => rw [e] at h; exact h
    | no => rw [e] at h; exact h
  refine thn (hi pins s σ H _ I t) fun v s1 h1 => thn h1 fun itv s2 h2 => ?_
  obtain ⟨it, fp, tn, J, H2, e, I2, T, st2, f2, G2, items, u2, sE2, iok, h2⟩ := h2
  subst e
  have h2' : (fv gt ge items (ib ix ρ) >>= fun ds => if ds.length <= sizeLine then R.ok ds else .no).post (vC X.K G2 H2 Q) (Exx X σ G2 H2) :=
    h2.mono (fun ds q l vs G' H' u hl r => q l vs G' H' (u2.trans u) hl r) fun C q => q.up u2
  refine nF (iter := iter) (pos := pos) (RR := fun acc C => compPost (model X.prog X.w) X.A X.xe none (EP X pins σ Q) acc C) ok hcalm he ht I2 T st2 f2 sE2 iok h2' ?_
  intro Dd C s' m vs G' H' up hd hCD _ q hm hos hb hC hCl un hok
  refine ⟨m, hm, fun h' hs' => ?_⟩
  have I3 := I2.call' (H' := upd H' Dd (.lst vs)) (s' := { s' with heap := h' }) (ch := fp) hos (un.sameBut (fun b o hbc e => hs'.extBut b o hbc e) hCl) (hok.sameBut (fun b o hbc e => hs'.extBut b o hbc e) (by rw [bi hCD]; exact hC)) hb fun b hb' => by
    obtain ⟨f0, f1, f2', f3, f4, f5⟩ := f2 b hb'
    exact ⟨f3, f1, f4, f5⟩
  exact ⟨.ref Dd, _, I3, rfl, q⟩
end
end L2
namespace L2
open PySem PySem.Spec PyProof.Rows
inductive O where
  | nx (ρ : Ev) | rt (d : D) | bk (ρ : Ev) | ct (ρ : Ev) | ex (C : Addr) (ρ : Ev) | no
def Ed (X : Cx) (G₀ H₀ : Hp) (ρ : Ev) (C : Addr) (e : Value) (s' : Shared) : Prop := ∃ σ G₁ H₁, StR X.K G₀ H₀ G₁ H₁ σ ρ /\ Eg X σ G₁ H₁ C e s'
def oj (X : Cx) (G₀ H₀ : Hp) (D : Ends) (o : O) : Prop := match o with
  | .nx ρ => ∀ σ G H, StR X.K G₀ H₀ G H σ ρ -> D.nx σ H
  | .rt d => ∀ v G H, Up G₀ H₀ G H -> Rep X.K G v d -> D.rt v H
  | .bk ρ => ∀ σ G H, StR X.K G₀ H₀ G H σ ρ -> D.bk σ H
  | .ct ρ => ∀ σ G H, StR X.K G₀ H₀ G H σ ρ -> D.ct σ H
  | .ex C ρ => ∀ e s', Ed X G₀ H₀ ρ C e s' -> X.xe e s'
  | .no => False
def tS (X : Cx) (G₀ H₀ : Hp) (g : Ev -> O) : TS := fun D σ H => ∃ G ρ, StR X.K G₀ H₀ G H σ ρ /\ oj X G₀ H₀ D (g ρ)
def QSF (X : Cx) (st : Stmt) (g : Ev -> O) : Prop := ∀ G₀ H₀, PS X st (tS X G₀ H₀ g)
def kW (X : Cx) (st : List Stmt) (g : Ev -> O) : Prop := ∀ G₀ H₀, PSs X st (tS X G₀ H₀ g)
def R.out {α : Type} (m : R α) (ρ : Ev) (k : α -> O) : O := match m with
  | .ok a => k a
  | .ex C => .ex C ρ
  | .no => .no
def O.seq (o : O) (k : Ev -> O) : O := match o with
  | .nx ρ => k ρ
  | o => o
section
variable {X : Cx} {st : Stmt} {dI body a b : List Stmt} {e c tg : Expr} {g g1 g2 : Ev -> O} {ga : Ev -> R D} {gt : Ev -> R Bool} {gl : Ev -> R (List D)} {pos : Pos}
theorem Exx.of {G₀ H₀ G H : Hp} {D : Ends} {σ : St} {ρ : Ev} {C : Addr} (sr : StR X.K G₀ H₀ G H σ ρ) (h : oj X G₀ H₀ D (.ex C ρ)) : Exx X σ G H C := fun e s' ⟨G1, H1, u, f⟩ => h e s' ⟨σ, G1, H1, sr.ups u, f⟩
theorem qm : kW X [] (fun ρ => .nx ρ) := fun G₀ H₀ pins s σ H D I h => by
  obtain ⟨G, ρ, sr, h⟩ := h
  try dsimp only at h
  exact zK pins s σ H D I (h σ G H sr)
theorem nM (h1 : QSF X st g1) (h2 : kW X dI g2) : kW X (st :: dI) (fun ρ => (g1 ρ).seq g2) := fun G₀ H₀ pins s σ H D I h => by
  refine xF (h1 G₀ H₀) (h2 G₀ H₀) pins s σ H D I ?_
  obtain ⟨G, ρ, sr, h⟩ := h
  try dsimp only at h
  refine ⟨G, ρ, sr, ?_⟩
  cases q : g1 ρ with
  | nx ρ' => rw [q] at h; exact fun σ' G' H' sr' => ⟨G', ρ', sr', h⟩
  | rt d => rw [q] at h; exact h
  | bk ρ' => rw [q] at h; exact h
  | ct ρ' => rw [q] at h; exact h
  | ex C ρ' => rw [q] at h; exact h
  | no => rw [q] at h; exact h
theorem sC (he : QF X e ga) : QSF X (.Return (some e) pos) (fun ρ => (ga ρ).out ρ .rt) := fun G₀ H₀ pins s σ H D I h => by
  refine Cd he pins s σ H D I ?_
  obtain ⟨G, ρ, sr, h⟩ := h
  try dsimp only at h
  refine ⟨G, ρ, sr.e, ?_⟩
  cases q : ga ρ with
  | ok d => rw [q] at h; exact fun v G' H' u r => h v G' H' (sr.up.trans u) r
  | ex C => rw [q] at h; exact Exx.of sr h
  | no => rw [q] at h; exact h
theorem pP (he : QF X e ga) (hs : swapsWith e none pos.line X.env = pure false := by rfl) : QSF X (.Expr e pos) (fun ρ => (ga ρ).out ρ fun _ => .nx ρ) := fun G₀ H₀ pins s σ H D I h => by
  refine mx he hs pins s σ H D I ?_
  obtain ⟨G, ρ, sr, h⟩ := h
  try dsimp only at h
  refine ⟨G, ρ, sr.e, ?_⟩
  cases q : ga ρ with
  | ok d => rw [q] at h; exact fun v G' H' u r => h σ G' H' (sr.ups u)
  | ex C => rw [q] at h; exact Exx.of sr h
  | no => rw [q] at h; exact h
theorem tX (hc : QB X c gt) (ha : kW X a g1) (hb : kW X b g2) : QSF X (.If c a b pos) (fun ρ => (gt ρ).out ρ fun k => if k = true then g1 ρ else g2 ρ) := fun G₀ H₀ pins s σ H D I h => by
  refine C3 hc (ha G₀ H₀) (hb G₀ H₀) pins s σ H D I ?_
  obtain ⟨G, ρ, sr, h⟩ := h
  try dsimp only at h
  refine ⟨G, ρ, sr.e, ?_⟩
  cases q : gt ρ with
  | ok k =>
    rw [q] at h
    intro b' G' H' u r
    subst r
    cases b' with
    | true => rw [if_pos rfl]; exact ⟨G', ρ, sr.ups u, by simpa [R.out] using h⟩
    | false => rw [if_neg Bool.false_ne_true]; exact ⟨G', ρ, sr.ups u, by simpa [R.out] using h⟩
  | ex C => rw [q] at h; exact Exx.of sr h
  | no => rw [q] at h; exact h
theorem lw {asg : D -> Ev -> R Ev} (he : QF X e ga) (hg : PGF X tg asg) (hs : swapsWithSole [tg] e pos.line X.env = pure false := by rfl) (hw : swappedStores [tg] e X.env = pure none := by rfl)
    (hn : ∀ d ρ C, asg d ρ ≠ .ex C := by intro _ _ _ z; cases z) (h1 : (assignEach [tg] X.env).map (·.2) = [assign tg X.env] := by rfl) : QSF X (.Assign [tg] e pos) (fun ρ => (ga ρ).out ρ fun d => (asg d ρ).out ρ .nx) := fun G₀ H₀ pins s σ H D I h => by
  refine qJ he hg hs hw h1 pins s σ H D I ?_
  obtain ⟨G, ρ, sr, h⟩ := h
  try dsimp only at h
  refine ⟨G, ρ, sr.e, ?_⟩
  cases q : ga ρ with
  | ok d =>
    rw [q] at h
    simp only [R.out] at h
    intro v G' H' u r
    cases q2 : asg d ρ with
    | ok ρ' => rw [q2] at h; exact ⟨G₀, H₀, G', ρ, d, ρ', sr.ups u, r, q2, fun σ' sr' => h σ' G' H' sr'⟩
    | ex C => exact absurd q2 (hn d ρ C)
    | no => rw [q2] at h; exact h.elim
  | ex C => rw [q] at h; exact Exx.of sr h
  | no => rw [q] at h; exact h
theorem sw (i : Nat) {x : Str} {p : Pos} (hN : X.N.Nodup) (he : QF X e ga) (hi : X.N[i]? = some x := by rfl) (hx : Loc X.env.scope x := by first | exact Or.inl rfl | exact Or.inr rfl)
    (hs : swapsWithSole [.Name x p] e pos.line X.env = pure false := by rfl) (hw : swappedStores [.Name x p] e X.env = pure none := by rfl) (hf : X.fn x = true \/ X.env.scope.names.lookup x = some .local := by first | exact .inl rfl | exact .inr rfl) :
    QSF X (.Assign [.Name x p] e pos) (fun ρ => (ga ρ).out ρ fun d => .nx (ρ.set i (some (.val d)))) := lw he (cq i hN hi hx hf) hs hw
theorem StR.setOwn {K : PySem.W.Frag} {G₀ H₀ G H : Hp} {σ : St} {ρ : Ev} (s : StR K G₀ H₀ G H σ ρ) {l : Addr} {vs : List V} {ds : List D} (hl : H l = none) (r : Reps K G vs ds) (i : Nat) :
    StR K G₀ H₀ G (upd H l (.lst vs)) (σ.set i (some (.ref l))) (ρ.set i (some (.own ds))) := by
  have gl : G l = none := s.e.sub.free hl
  have sub : Same G (upd H l (.lst vs)) := fun a o e => by rw [bi (aZ e gl)]; exact s.e.sub a o e
  have get : ∀ (j : Nat) x, (ρ.set i (some (.own ds)))[j]? = some (some x) -> (j = i /\ x = .own ds /\ i < σ.length) \/ (j ≠ i /\ ρ[j]? = some (some x) /\ (σ.set i (some (.ref l)))[j]? = σ[j]?) := fun j x h => by
    by_cases e : i = j
    . subst e
      have hl : i < ρ.length := by
        have := (List.getElem?_eq_some_iff.mp h).1
        simpa using this
      rw [List.getElem?_set_self hl] at h
      exact .inl ⟨rfl, by injection (Option.some.inj h) with q; exact q.symm, by rw [s.e.len]; exact hl⟩
    . rw [List.getElem?_set_ne e] at h
      exact .inr ⟨fun z => e z.symm, h, List.getElem?_set_ne e⟩
  refine ⟨⟨sub, by simp [s.e.len], fun j d' h => ?_⟩, s.sub0, ⟨sub, s.up.gg, fun a o e => ?_, s.up.fr⟩, fun j es h => ?_, fun j k es fs l' h1 h2 h3 h4 => ?_⟩
  . rcases get j _ h with ⟨_, e, _⟩ | ⟨_, e, e'⟩
    . cases e
    . rw [e']; exact s.e.val j d' e
  . rw [bi (aZ (s.up.hh a o e) hl)]; exact s.up.hh a o e
  . rcases get j _ h with ⟨rfl, e, hj⟩ | ⟨_, e, e'⟩
    . cases e
      exact ⟨l, vs, List.getElem?_set_self hj, bq, gl, s.up.hh.free hl, r⟩
    . obtain ⟨l', vs', h1, h2, h3, h4, h5⟩ := s.own j es e
      exact ⟨l', vs', by rw [e']; exact h1, by rw [bi (aZ h2 hl)]; exact h2, h3, h4, h5⟩
  . rcases get j _ h1 with ⟨rfl, e, hj⟩ | ⟨nj, e, e'⟩
    . rcases get k _ h2 with ⟨rfl, f, _⟩ | ⟨nk, f, f'⟩
      . rfl
      . obtain ⟨l2, vs2, q1, q2, _⟩ := s.own k fs f
        rw [List.getElem?_set_self hj] at h3
        rw [f', q1] at h4
        cases h3
        cases h4
        rw [hl] at q2; cases q2
    . rcases get k _ h2 with ⟨rfl, f, hk⟩ | ⟨nk, f, f'⟩
      . obtain ⟨l2, vs2, q1, q2, _⟩ := s.own j es e
        rw [List.getElem?_set_self hk] at h4
        rw [e', q1] at h3
        cases h3
        cases h4
        rw [hl] at q2; cases q2
      . exact s.inj j k es fs l' e f (e' ▸ h3) (f' ▸ h4)
theorem rQ (i : Nat) {x : Str} {p : Pos} (hN : X.N.Nodup) (he : QFL X e gl) (hi : X.N[i]? = some x := by rfl) (hx : Loc X.env.scope x := by first | exact Or.inl rfl | exact Or.inr rfl)
    (hs : swapsWithSole [.Name x p] e pos.line X.env = pure false := by rfl) (hw : swappedStores [.Name x p] e X.env = pure none := by rfl) (hf : X.fn x = true \/ X.env.scope.names.lookup x = some .local := by first | exact .inl rfl | exact .inr rfl) :
    QSF X (.Assign [.Name x p] e pos) (fun ρ => (gl ρ).out ρ fun ds => .nx (ρ.set i (some (.own ds)))) := fun G₀ H₀ pins s σ H D I h => by
  refine qJ he (nl (i := i) hN hi hx hf) hs hw rfl pins s σ H D I ?_
  obtain ⟨G, ρ, sr, h⟩ := h
  try dsimp only at h
  refine ⟨G, ρ, sr.e, ?_⟩
  cases q : gl ρ with
  | ok ds => rw [q] at h; exact fun l vs G' H' u hl r => h _ G' _ ((sr.ups u).setOwn hl r i)
  | ex C => rw [q] at h; exact Exx.of sr h
  | no => rw [q] at h; exact h
theorem StR.mut {K : PySem.W.Frag} {G₀ H₀ G H : Hp} {σ : St} {ρ : Ev} (s : StR K G₀ H₀ G H σ ρ) {i : Nat} {l : Addr} {ds es : List D} {vs : List V} (e : ρ[i]? = some (some (.own ds))) (hs : σ[i]? = some (some (.ref l))) (r : Reps K G vs es) :
    StR K G₀ H₀ G (upd H l (.lst vs)) σ (ρ.set i (some (.own es))) := by
  obtain ⟨l0, vs0, h1, h2, h3, h4, h5⟩ := s.own i ds e
  rw [hs] at h1
  cases h1
  have sub : Same G (upd H l (.lst vs)) := fun a o e => by rw [bi (aZ e h3)]; exact s.e.sub a o e
  have hl : i < ρ.length := (List.getElem?_eq_some_iff.mp e).1
  have get : ∀ (j : Nat) x, (ρ.set i (some (.own es)))[j]? = some (some x) -> (j = i /\ x = .own es) \/ (j ≠ i /\ ρ[j]? = some (some x)) := fun j x h => by
    by_cases e : i = j
    . subst e
      rw [List.getElem?_set_self hl] at h
      exact .inl ⟨rfl, by injection (Option.some.inj h) with q; exact q.symm⟩
    . rw [List.getElem?_set_ne e] at h
      exact .inr ⟨fun z => e z.symm, h⟩
  refine ⟨⟨sub, by simp [s.e.len], fun j d' h => ?_⟩, s.sub0, ⟨sub, s.up.gg, fun a o e => ?_, s.up.fr⟩, fun j fs h => ?_, fun j k fs gs l' q1 q2 q3 q4 => ?_⟩
  . rcases get j _ h with ⟨_, e⟩ | ⟨_, e⟩
    . cases e
    . exact s.e.val j d' e
  . rw [bi (aZ e h4)]; exact s.up.hh a o e
  . rcases get j _ h with ⟨rfl, e'⟩ | ⟨nj, e'⟩
    . cases e'
      exact ⟨l, vs, hs, bq, h3, h4, r⟩
    . obtain ⟨l', vs', p1, p2, p3, p4, p5⟩ := s.own j fs e'
      have : l' ≠ l := fun z => by subst z; exact nj (s.inj j i fs ds l' e' e p1 hs)
      exact ⟨l', vs', p1, by rw [bi this]; exact p2, p3, p4, p5⟩
  . rcases get j _ q1 with ⟨rfl, _⟩ | ⟨nj, f1⟩
    . rcases get k _ q2 with ⟨rfl, _⟩ | ⟨nk, f2⟩
      . rfl
      . exact s.inj j k ds gs l' e f2 q3 q4
    . rcases get k _ q2 with ⟨rfl, _⟩ | ⟨nk, f2⟩
      . exact s.inj j k fs ds l' f1 e q3 q4
      . exact s.inj j k fs gs l' f1 f2 q3 q4
def frz (i : Nat) (ρ : Ev) : Ev := match ρ[i]? with
  | some (some (.own ds)) => ρ.set i (some (.val (.lst false ds)))
  | _ => ρ
theorem StR.frzTo {K : PySem.W.Frag} {G₀ H₀ G H : Hp} {σ : St} {ρ : Ev} (s : StR K G₀ H₀ G H σ ρ) (i : Nat) : ∃ G', StR K G₀ H₀ G' H σ (L2.frz i ρ) /\ (G' = G \/ ∃ l vs, G l = none /\ G' = upd G l (.lst vs)) := by
  unfold L2.frz
  split
  . rename_i ds e
    obtain ⟨l, vs, h1, h2, h3, h4, h5⟩ := s.own i ds e
    have hl : i < ρ.length := (List.getElem?_eq_some_iff.mp e).1
    have g0 : G₀ l = none := s.sub0.free h4
    have into : Same G (upd G l (.lst vs)) := .into h3
    have sub : Same (upd G l (.lst vs)) H := fun a o q => by
      by_cases ea : a = l
      . subst ea; rw [bq] at q; rw [<- q]; exact h2
      . rw [bi ea] at q; exact s.e.sub a o q
    have get : ∀ (j : Nat) x, (ρ.set i (some (.val (.lst false ds))))[j]? = some (some x) -> (j = i /\ x = .val (.lst false ds)) \/ (j ≠ i /\ ρ[j]? = some (some x)) := fun j x h => by
      by_cases e : i = j
      . subst e
        rw [List.getElem?_set_self hl] at h
        exact .inl ⟨rfl, by injection (Option.some.inj h) with q; exact q.symm⟩
      . rw [List.getElem?_set_ne e] at h
        exact .inr ⟨fun z => e z.symm, h⟩
    refine ⟨upd G l (.lst vs), ⟨⟨sub, by simp [s.e.len], fun j d' h => ?_⟩, s.sub0, ⟨sub, s.up.gg.trans into, s.up.hh, fun a o q => ?_⟩, fun j fs h => ?_, fun j k fs gs l' q1 q2 q3 q4 => ?_⟩, .inr ⟨l, vs, h3, rfl⟩⟩
    . rcases get j _ h with ⟨rfl, e'⟩ | ⟨_, e'⟩
      . cases e'
        exact ⟨.ref l, h1, .lst bq (h5.mono into)⟩
      . obtain ⟨v, p1, p2⟩ := s.e.val j d' e'
        exact ⟨v, p1, p2.mono into⟩
    . by_cases ea : a = l
      . subst ea; exact .inr h4
      . rw [bi ea] at q; exact s.up.fr a o q
    . rcases get j _ h with ⟨_, e'⟩ | ⟨nj, e'⟩
      . cases e'
      . obtain ⟨l', vs', p1, p2, p3, p4, p5⟩ := s.own j fs e'
        have : l' ≠ l := fun z => by subst z; exact nj (s.inj j i fs ds l' e' e p1 h1)
        exact ⟨l', vs', p1, p2, by rw [bi this]; exact p3, p4, p5.mono into⟩
    . rcases get j _ q1 with ⟨_, e'⟩ | ⟨nj, f1⟩
      . cases e'
      . rcases get k _ q2 with ⟨_, e'⟩ | ⟨nk, f2⟩
        . cases e'
        . exact s.inj j k fs gs l' f1 f2 q3 q4
  . exact ⟨G, s, .inl rfl⟩
theorem StR.frz {K : PySem.W.Frag} {G₀ H₀ G H : Hp} {σ : St} {ρ : Ev} (s : StR K G₀ H₀ G H σ ρ) (i : Nat) : ∃ G', StR K G₀ H₀ G' H σ (L2.frz i ρ) :=
  let ⟨G', h, _⟩ := s.frzTo i; ⟨G', h⟩
theorem pE {sts : List Stmt} (i : Nat) (h : kW X sts g) : kW X sts (fun ρ => g (frz i ρ)) := fun G₀ H₀ pins s σ H D I q => by
  obtain ⟨G, ρ, sr, q⟩ := q
  obtain ⟨G', sr'⟩ := sr.frz i
  exact h G₀ H₀ pins s σ H D I ⟨G', _, sr', q⟩
def ownAt (ρ : Ev) (i : Nat) : R (List D) := match ρ[i]? with
  | some (some (.own ds)) => .ok ds
  | _ => .no
theorem ownAt.ok {ρ : Ev} {i : Nat} {k : List D -> O} {D : Ends} {G₀ H₀ : Hp} (h : oj X G₀ H₀ D ((ownAt ρ i).out ρ k)) : ∃ ds, ρ[i]? = some (some (.own ds)) /\ oj X G₀ H₀ D (k ds) := by
  unfold ownAt at h
  split at h
  . rename_i ds e; exact ⟨ds, e, h⟩
  . exact h.elim
theorem ml (i : Nat) {x : Str} {p ap cp : Pos} (he : QF X e ga) (hi : X.N[i]? = some x := by rfl) (hv : Vis X.env.scope x := by first | exact Or.inl rfl | exact Or.inr (Or.inl rfl))
    (hd : (x == ("__debug__" : Str)) = false := by decide) (hcd : (x == ("__classdict__" : Str)) = false := by decide) (hs1 : starEach [e] X.env = (false, eval e X.env) :: starEach [] X.env := by rfl)
    (hbase : attributeBase (.Name x p) "append" X.env (eval (.Name x p) X.env) = eval (.Name x p) X.env := by rfl)
    (hfew : ((backTo cp (starEach [e] X.env)).all (fun x => !x.1) && (backToKw cp (keywordEach [] X.env)).all (fun x => x.1.isSome)
      && decide ([e].length + ([] : List Keyword).length + (if ([] : List Keyword).isEmpty then 0 else 1) < 30)) = true := by rfl)
    (hline : (ap.endLine == cp.line) = true := by rfl)
    (hs : swapsWith (.Call (.Attribute (.Name x p) "append" ap) [e] [] cp) none pos.line X.env = pure false := by rfl) :
    QSF X (.Expr (.Call (.Attribute (.Name x p) "append" ap) [e] [] cp) pos) (fun ρ => (ownAt ρ i).out ρ fun ds => (ga ρ).out ρ fun d => if ds.length < sizeLine then .nx (ρ.set i (some (.own (ds ++ [d])))) else .no) := fun G₀ H₀ pins s σ H D I h => by
  refine mx (wo PySem.F.plainAttrs_list PySem.F.slot_list_append PySem.F.type_list_append kO (nP hi hv hd hcd) (eA he kq hs1) hbase hfew hline hs1 rfl) hs pins s σ H D I ?_
  obtain ⟨G, ρ, sr, h⟩ := h
  try dsimp only at h
  obtain ⟨ds, e1, h⟩ := ownAt.ok h
  obtain ⟨l, vs, h1, h2, h3, h4, h5⟩ := sr.own i ds e1
  refine ⟨.ref l, h1, .inl ⟨rfl, vs, .of h2⟩, G, ρ, sr.e, ?_⟩
  cases q : ga ρ with
  | ok d =>
    rw [q] at h
    simp only [R.out] at h
    intro v G' H' u r
    by_cases hz : ds.length < sizeLine
    . rw [if_pos hz] at h
      refine ⟨l, vs, v, rfl, rfl, u.hh _ _ h2, by rw [h5.length]; exact hz, h _ G' _ ?_⟩
      exact (sr.ups u).mut e1 h1 ((h5.mono u.gg).append (.cons r .nil))
    . rw [if_neg hz] at h; exact h.elim
  | ex C => rw [q] at h; exact Exx.of sr h
  | no => rw [q] at h; exact h
def asL : D -> R (List D)
  | .lst false xs => .ok xs
  | _ => .no
theorem mQ (i : Nat) {x : Str} {p ap cp : Pos} (he : QF X e ga) (hi : X.N[i]? = some x := by rfl) (hv : Vis X.env.scope x := by first | exact Or.inl rfl | exact Or.inr (Or.inl rfl))
    (hd : (x == ("__debug__" : Str)) = false := by decide) (hcd : (x == ("__classdict__" : Str)) = false := by decide) (hs1 : starEach [e] X.env = (false, eval e X.env) :: starEach [] X.env := by rfl)
    (hbase : attributeBase (.Name x p) "extend" X.env (eval (.Name x p) X.env) = eval (.Name x p) X.env := by rfl)
    (hfew : ((backTo cp (starEach [e] X.env)).all (fun x => !x.1) && (backToKw cp (keywordEach [] X.env)).all (fun x => x.1.isSome)
      && decide ([e].length + ([] : List Keyword).length + (if ([] : List Keyword).isEmpty then 0 else 1) < 30)) = true := by rfl)
    (hline : (ap.endLine == cp.line) = true := by rfl)
    (hs : swapsWith (.Call (.Attribute (.Name x p) "extend" ap) [e] [] cp) none pos.line X.env = pure false := by rfl) :
    QSF X (.Expr (.Call (.Attribute (.Name x p) "extend" ap) [e] [] cp) pos) (fun ρ => (ownAt ρ i).out ρ fun ds => (ga ρ).out ρ fun d => (asL d).out ρ fun es => if ds.length + es.length <= sizeLine then .nx (ρ.set i (some (.own (ds ++ es)))) else .no) := fun G₀ H₀ pins s σ H D I h => by
  refine mx (wo PySem.F.plainAttrs_list PySem.F.slot_list_extend PySem.F.type_list_extend uo (nP hi hv hd hcd) (eA he kq hs1) hbase hfew hline hs1 rfl) hs pins s σ H D I ?_
  obtain ⟨G, ρ, sr, h⟩ := h
  try dsimp only at h
  obtain ⟨ds, e1, h⟩ := ownAt.ok h
  obtain ⟨l, vs, h1, h2, h3, h4, h5⟩ := sr.own i ds e1
  refine ⟨.ref l, h1, .inl ⟨rfl, vs, .of h2⟩, G, ρ, sr.e, ?_⟩
  cases q : ga ρ with
  | ok d =>
    rw [q] at h
    simp only [R.out] at h
    intro v G' H' u r
    cases r with
    | lst hb t =>
      rename_i b ws es
      have h : oj X G₀ H₀ D (if ds.length + es.length <= sizeLine then .nx (ρ.set i (some (.own (ds ++ es)))) else .no) := h
      by_cases hz : ds.length + es.length <= sizeLine
      . rw [if_pos hz] at h
        refine ⟨l, b, vs, ws, rfl, rfl, u.hh _ _ h2, u.sub _ _ hb, by rw [h5.length, t.length]; exact hz, h _ G' _ ?_⟩
        exact (sr.ups u).mut e1 h1 ((h5.mono u.gg).append t)
      . rw [if_neg hz] at h; exact h.elim
    | _ => exact h.elim
  | ex C => rw [q] at h; exact Exx.of sr h
  | no => rw [q] at h; exact h
def ci (asg : D -> Ev -> R Ev) (g : Ev -> O) : List D -> Ev -> O
  | [], ρ => .nx ρ
  | d :: ds, ρ => (asg d ρ).out ρ fun ρ1 => match g ρ1 with
    | .nx ρ2 => ci asg g ds ρ2
    | .ct ρ2 => ci asg g ds ρ2
    | .bk ρ2 => .nx ρ2
    | .rt d => .rt d
    | .ex C ρ2 => .ex C ρ2
    | .no => .no
def mix (H₀ G₁ : Hp) : Hp := fun a => match G₁ a with
  | some o => some o
  | none => H₀ a
theorem qF {H₀ G₁ : Hp} {a : Addr} (h : mix H₀ G₁ a = none) : G₁ a = none /\ H₀ a = none := by
  unfold mix at h
  cases q : G₁ a with
  | none => rw [q] at h; exact ⟨rfl, h⟩
  | some o => rw [q] at h; cases h
section
variable {K : PySem.W.Frag} {G₀ H₀ G₁ H₁ G H : Hp} {σ : St} {ρ : Ev}
theorem StR.to (s : StR K G₀ H₀ G₁ H₁ σ ρ) : StR K G₁ (mix H₀ G₁) G₁ H₁ σ ρ := by
  refine ⟨s.e, fun a o e => ?_, ⟨s.e.sub, .refl _, fun a o e => ?_, fun _ _ e => .inl e⟩, fun i ds e => ?_, s.inj⟩
  . unfold mix; rw [e]
  . unfold mix at e
    cases q : G₁ a with
    | none => rw [q] at e; exact s.up.hh a o e
    | some o' => rw [q] at e; cases e; exact s.e.sub a o q
  . obtain ⟨l, vs, h1, h2, h3, h4, h5⟩ := s.own i ds e
    exact ⟨l, vs, h1, h2, h3, by unfold mix; rw [h3]; exact h4, h5⟩
theorem Up.back (u : Up G₀ H₀ G₁ H₁) (v : Up G₁ (mix H₀ G₁) G H) : Up G₀ H₀ G H := by
  refine ⟨v.sub, u.gg.trans v.gg, fun a o e => ?_, fun a o e => ?_⟩
  . cases q : G₁ a with
    | none => exact v.hh a o (by unfold mix; rw [q]; exact e)
    | some o' =>
      have h1 := u.sub a o' q
      have h2 := u.hh a o e
      rw [h1] at h2
      cases h2
      exact v.hh a o (by unfold mix; rw [q])
  . rcases v.fr a o e with h | h
    . exact u.fr a o h
    . exact .inr (qF h).2
theorem StR.back (s0 : Same G₀ H₀) (u : Up G₀ H₀ G₁ H₁) (s : StR K G₁ (mix H₀ G₁) G H σ ρ) : StR K G₀ H₀ G H σ ρ :=
  ⟨s.e, s0, u.back s.up, fun i ds e => let ⟨l, vs, h1, h2, h3, h4, h5⟩ := s.own i ds e; ⟨l, vs, h1, h2, h3, (qF h4).2, h5⟩, s.inj⟩
end
theorem rV {iter : Expr} {gi : Ev -> R (List D)} {asg : D -> Ev -> R Ev} (hp : PassesOwn (model X.prog X.w) X.A X.env X.xe) (hcalm : X.calm = true) (hi : QIF X tg iter gi) (hg : PGF X tg asg) (hb : kW X body g)
    (hs : ∀ x, foldedSetIterable iter X.env x = pure x := by intro _; rfl) (hn : ∀ d ρ C, asg d ρ ≠ .ex C := by intro _ _ _ z; cases z) : QSF X (.For tg iter body [] pos) (fun ρ => (gi ρ).out ρ fun items => ci asg g items ρ) := fun G₀ H₀ pins s σ H D I h => by
  obtain ⟨G, ρ, sr, h⟩ := h
  try dsimp only at h
  cases q : gi ρ with
  | ok items =>
    rw [q] at h
    simp only [R.out] at h
    -- the loop by its invariant, whatever the iterator's heap is
    have key : ∀ (J : It) (G1 H1 : Hp), Up G H G1 H1 -> ItOk X.K G1 J items -> ∃ W : Nat -> Nat -> St -> Hp -> Prop, (∃ m, W 0 m σ H1) /\ ∀ i m σ H, W i m σ H ->
        (J.stop i H /\ D.nx σ H) \/ (J.go i H /\ ∃ N : St -> Hp -> Prop, (∀ σ' H', N σ' H' -> ∃ m', m' < m /\ W (i + 1) m' σ' H') /\ ∀ x H', J.yld i H x H' -> (fun v σ H Q => ∃ G₀ H₀ G ρ d ρ', StR X.K G₀ H₀ G H σ ρ /\ Rep X.K G v d /\ asg d ρ = .ok ρ' /\ ∀ σ', StR X.K G₀ H₀ G H σ' ρ' -> Q σ' H) x σ H' fun σ2 H2 => (fun D σ H => ∃ G₀ H₀, tS X G₀ H₀ g D σ H) { D with nx := N, ct := N, bk := D.nx } σ2 H2) := by
      intro J G1 H1 u1 iok
      have sr1 := sr.ups u1
      refine ⟨fun i m σ' H' => m = items.length - i /\ i <= items.length /\ ∃ G' ρ', StR X.K G1 (mix H₀ G1) G' H' σ' ρ' /\ oj X G₀ H₀ D (ci asg g (items.drop i) ρ'), ⟨items.length, by simp, Nat.zero_le _, G1, ρ, sr1.to, by simpa using h⟩, ?_⟩
      rintro i m σ' H' ⟨rfl, hil, G', ρ', sr', h'⟩
      have hIt := iok i G' H' sr'.up.gg sr'.e.sub
      by_cases hlt : i < items.length
      . have hd : items.drop i = items[i] :: items.drop (i + 1) := List.drop_eq_getElem_cons hlt
        rw [hd] at h'
        obtain ⟨go, yl⟩ := hIt.1 items[i] (by simp [hlt])
        refine .inr ⟨go, fun σ2 H2 => i + 1 <= items.length /\ ∃ G2 ρ2, StR X.K G1 (mix H₀ G1) G2 H2 σ2 ρ2 /\ oj X G₀ H₀ D (ci asg g (items.drop (i + 1)) ρ2), fun σ2 H2 q2 => ⟨items.length - (i + 1), by omega, rfl, q2⟩, fun x H2 y => ?_⟩
        obtain ⟨G2, up2, rep2⟩ := yl x H2 y
        unfold ci at h'
        cases q2 : asg items[i] ρ' with
        | ok ρ1 =>
          rw [q2] at h'
          simp only [R.out] at h'
          refine ⟨G1, mix H₀ G1, G2, ρ', items[i], ρ1, sr'.ups up2, rep2, q2, fun σ3 sr3 => ⟨G1, mix H₀ G1, G2, ρ1, sr3, ?_⟩⟩
          cases q3 : g ρ1 with
          | nx ρ2 => rw [q3] at h'; exact fun σ4 G4 H4 sr4 => ⟨hlt, G4, ρ2, sr4, h'⟩
          | ct ρ2 => rw [q3] at h'; exact fun σ4 G4 H4 sr4 => ⟨hlt, G4, ρ2, sr4, h'⟩
          | bk ρ2 => rw [q3] at h'; exact fun σ4 G4 H4 sr4 => h' σ4 G4 H4 (sr4.back sr.sub0 sr1.up)
          | rt d => rw [q3] at h'; exact fun v G4 H4 u4 r4 => h' v G4 H4 (sr1.up.back u4) r4
          | ex C ρ2 => rw [q3] at h'; exact fun e s' ⟨σ4, G4, H4, sr4, f4⟩ => h' e s' ⟨σ4, G4, H4, sr4.back sr.sub0 sr1.up, f4⟩
          | no => rw [q3] at h'; exact h'
        | ex C => exact absurd q2 (hn _ _ C)
        | no => rw [q2] at h'; exact h'.elim
      . have hie : i = items.length := by omega
        subst hie
        rw [List.drop_length] at h'
        exact .inl ⟨hIt.2 (Nat.le_refl _), h' σ' G' H' (sr'.back sr.sub0 sr1.up)⟩
    have hb' : PSs X body (fun D σ H => ∃ G₀ H₀, tS X G₀ H₀ g D σ H) := fun pins s σ H D I ⟨G₀, H₀, q⟩ => hb G₀ H₀ pins s σ H D I q
    refine xZ hp hcalm hi hg hb' hs pins s σ H D I ⟨G, ρ, sr.e, ?_⟩
    rw [q]
    exact fun J G1 H1 u1 iok => key J G1 H1 u1 iok
  | ex C =>
    rw [q] at h
    have hb' : PSs X body (fun D σ H => ∃ G₀ H₀, tS X G₀ H₀ g D σ H) := fun pins s σ H D I ⟨G₀, H₀, q⟩ => hb G₀ H₀ pins s σ H D I q
    refine xZ hp hcalm hi hg hb' hs pins s σ H D I ⟨G, ρ, sr.e, ?_⟩
    rw [q]
    exact Exx.of sr h
  | no => rw [q] at h; exact h.elim
end
end L2
namespace L2
open PySem PySem.Spec PyProof.Rows
def spF (K : PySem.W.Frag) (f : List D -> R D) : Sp := fun vs H Q E => ∃ G ds, Same G H /\ Reps K G vs ds /\ (f ds).post (Fin G H (Rep K) Q) (fun C => ∀ G' H', Up G H G' H' -> E (.ref C) none H')
abbrev FnF (P : Program) (w : World) (K : PySem.W.Frag) (mg : Str -> Option Value) (base : Heap) (k : Nat) (f : Addr) (fd : FuncData) (ps : List Str) (g : List D -> R D) : Prop := FnOk P w K mg base (CXo P w) k f fd ps (fun vs H Q E => vs.length = ps.length /\ spF K g vs H Q E)
section
variable {X : Cx} {k : Nat} {f : Addr} {fd : FuncData} {ps : List Str} {x : Str} {p pos : Pos} {e : Expr} {es : List Expr} {gl : Ev -> R (List D)} {g : List D -> R D}
theorem uu (F : FnF X.prog X.w X.K X.mg X.base k f fd ps g) (hr : Room k X.A) (hg : Gl X x) (hm : X.mg x = some (.ref f)) (hk : PySem.W.keepIn X.K (.ref f) = true) (hb : Binds X.K fd ps []) (ha : QFA X (e :: es) gl)
    (hdb : (x == ("__debug__" : Str)) = false := by decide) (he : starEach (e :: es) X.env = (false, eval e X.env) :: starEach es X.env := by rfl) (hpl : (backTo pos (starEach es X.env)).any (·.1) = false := by rfl) :
    QF X (.Call (.Name x p) (e :: es) [] pos) (fun ρ => gl ρ >>= fun ds => if ds.length = ps.length then g ds else .no) := by
  intro pins s σ H Q I h
  obtain ⟨G, ρ, st, h⟩ := h
  have t : tAF X gl σ H (fun vs H1 => ∃ G1 ds, Up G H G1 H1 /\ Same G1 H1 /\ Reps X.K G1 vs ds /\ ds.length = ps.length /\ (g ds).post (Fin G1 H1 (Rep X.K) Q) (Exx X σ G1 H1)) := by
    refine tG.intro st h fun ds vs G1 H1 u1 st1 r1 h1 => ?_
    by_cases hl : ds.length = ps.length
    . rw [if_pos hl] at h1; exact ⟨G1, ds, u1, st1.sub, r1, hl, h1⟩
    . rw [if_neg hl] at h1; exact h1.elim
  refine wpAny_Call_Name_kw (nc I hg hm ?_ hdb)
  refine PySem.W.callWith_K (h₀ := X.base) I.ok.mod.kin hk (thn (ha pos pins s σ H _ I t) fun us s1 q => ⟨?_, ?_⟩) he hpl
  . obtain ⟨vs, H1, I1, r, _⟩ := q; exact I1.kIn
  obtain ⟨vs, H1, I1, r, G1, ds, u1, sub1, rp, hl, h1⟩ := q
  have hvl : vs.length = ps.length := by rw [rp.length]; exact hl
  have hul : (us ++ []).length = ps.length := by rw [List.append_nil, <- r.length]; exact hvl
  have hbb := hb s1 us I1.kIn hul
  rw [List.append_nil] at hbb
  refine wpAny_call (codeAny_mono (F.run X.A X.stack s1 H1 ⟨us, []⟩ us vs Q (fun c _ H' => ∃ C G', c = .ref C /\ Up G1 H1 G' H' /\ Exx X σ G1 H1 C) hr I1.env0 hbb r ⟨hvl, G1, ds, sub1, rp, h1.mono (fun _ q => q) fun C q G' H' u => ⟨C, G', rfl, u, q⟩⟩) fun r' s' hq => ?_)
  cases r' with
  | error e' =>
    obtain ⟨a, C, H', rfl, fl, C', G', ec, u, q⟩ := hq
    cases ec
    exact q _ _ ⟨G1, H1, .refl sub1, pins, s1, a, rfl, I1, .inr ⟨G', H', fl, u⟩⟩
  | ok fl =>
    cases fl with
    | ret u => exact I1.after hq
    | next => exact False.elim hq
    | brk => exact False.elim hq
    | cont => exact False.elim hq
end

theorem ObjOk.there {P : Program} {w : World} {H : Hp} {h : Heap} {a : Addr} {o : HO} (x : ObjOk P w H h a o) : ∃ ob, h.get? a = some ob := by
  cases o with
  | lst xs => obtain ⟨_, _, _, _, e⟩ := x; exact ⟨_, e⟩
  | tup xs => obtain ⟨_, _, _, o, e, _⟩ := x; exact ⟨_, e⟩
  | dK kvs => obtain ⟨_, _, _, _, o, _, _, e, _⟩ := x; exact ⟨_, e⟩
  | dT kvs => obtain ⟨_, _, _, _, o, _, _, e, _⟩ := x; exact ⟨_, e⟩
  | set S n => obtain ⟨o, _, _, _, e, _⟩ := x; exact ⟨_, e⟩
  | ins C dx fs => obtain ⟨_, _, _, e, _⟩ := x; exact ⟨_, e⟩
  | own y => obtain ⟨_, e⟩ := x; exact ⟨_, e⟩
  | xd fs => obtain ⟨_, ⟨_, _, _, e, _⟩, _⟩ := x; exact ⟨_, e⟩
  | rng lo hi => obtain ⟨_, _, _, e⟩ := x; exact ⟨_, e⟩
  | frz ob u => obtain ⟨e, _⟩ := x; exact ⟨_, e⟩
  | tbl ps => exact ⟨_, show h.get? a = some _ from x⟩
  | met f y => exact ⟨_, show h.get? a = some _ from x⟩
  | ext φ => obtain ⟨_, ⟨_, e⟩, _⟩ := x; exact ⟨_, e⟩
theorem rj {env : Env} {outer : List Env} {L : Addr} (h : env.frame = some L) : frs (env :: outer) = L :: frs outer := by
  unfold frs
  rw [List.filterMap_cons, h]
section
variable {P : Program} {w : World} {H H' : Hp} {h h1 h2 hm : Heap} {l l' : List Addr} {B : Heap}
theorem HOk.flight (x : HOk P w H' h1) (hb : B.StaysIn h2) (hk : ∀ b o, b ∉ l -> ((∃ o0, hm.get? b = some o0) \/ ∃ u, H' b = some u) -> h1.get? b = some o -> B.get? b = some o) (hl : ∀ b ∈ l, H' b = none) : HOk P w H' h2 := fun a o e => by
  refine (x a o e).stay (fun b u hbb q => hb b u (hk b u (fun z => ?_) (.inr ?_) q)) (fun _ z => z) (fun _ _ z => z)
  . rcases hbb with rfl | hbb
    . rw [hl _ z] at e; cases e
    . rw [hl _ z] at hbb; cases hbb
  . rcases hbb with rfl | hbb
    . exact ⟨_, e⟩
    . exact ⟨_, hbb⟩
theorem Un.flight (u : Un l' [] H H' h h1) (hb : B.StaysIn h2) (sm : h1.UpToSlots h2) (hk : ∀ b o, b ∉ l -> ((∃ o0, hm.get? b = some o0) \/ ∃ u, H' b = some u) -> h1.get? b = some o -> B.get? b = some o) (lt : ∀ b o, h.get? b = some o -> ∃ o0, hm.get? b = some o0)
    (hl : ∀ b ∈ l, b ∈ l' \/ h.objs.size <= b) (hd : ∀ b ∈ l, ∀ o, h1.get? b = some o -> ∀ vs, o.data ≠ .fields vs) : Un l' [] H H' h h2 := by
  refine ⟨fun b o e nn hb' hx => ?_, fun b o e nn hb' hx => ?_, u.free, fun b o e hx => ?_, u.tups, u.frzs, u.tbls⟩
  . have q := u.keep b o e nn hb' hx
    refine hb b o (hk b o (fun z => ?_) (.inl (lt b o e)) q)
    rcases hl b z with z | z
    . exact hb' z
    . exact absurd (Heap.lt_size e) (Nat.not_lt.mpr z)
  . obtain ⟨sl, q⟩ := u.slot b o e nn hb' hx
    by_cases z : b ∈ l
    . obtain ⟨sl', q'⟩ := sm b _ q (hd b z _ q)
      exact ⟨sl', q'⟩
    . exact ⟨sl, hb b _ (hk b _ z (.inl (lt b o e)) q)⟩
  . obtain ⟨o', q⟩ := u.there b o e hx
    by_cases z : b ∈ l
    . obtain ⟨sl', q'⟩ := sm b _ q (hd b z _ q)
      exact ⟨_, q'⟩
    . exact ⟨o', hb b _ (hk b _ z (.inl (lt b o e)) q)⟩
end
theorem FunFrames.data {h base : Heap} : ∀ {l : List Env}, h.FunFrames base l -> ∀ b ∈ frs l, ∃ o, h.get? b = some o /\ (∀ vs, o.data ≠ .fields vs) /\ base.get? b = none := fun {l} hf b hb => by
  obtain ⟨h1, o, h2, h3⟩ := hf.mem hb
  exact ⟨o, h2, h3, h1⟩

theorem xO {P : Program} {w : World} {K : PySem.W.Frag} {mg : Str -> Option Value} {base : Heap} {N : List Str} {qual : Str} {scope : Scope} {f : Addr} {cd : Value} {A : Around} {outer : List Env} {s : Shared} {H : Hp} {E : XK} {G : Hp} {ρ : Ev} {C : Addr} {e : Value} {s' : Shared}
    (fl : Ed (ck (CXo P w) P w K mg base N qual scope f cd A outer s H E) G H ρ C e s') (hE : ∀ G' H', Up G H G' H' -> E (.ref C) none H') : (ck (CXo P w) P w K mg base N qual scope f cd A outer s H E).xe e s' := by
  obtain ⟨σ, G₁, H₁, sr, pins, s₁, a, rfl, I, way⟩ := fl
  have hfr : (A.deeper (envOfC qual scope s.heap.objs.size f cd)).frames = some (envOfC qual scope s.heap.objs.size f cd :: outer) := I.ok.frames
  have hf : (envOfC qual scope s.heap.objs.size f cd).frame = some s.heap.objs.size := rfl
  have hst : frs (envOfC qual scope s.heap.objs.size f cd :: outer) = s.heap.objs.size :: frs outer := rj hf
  have old : ∀ b o, s.heap.get? b = some o -> ∃ o0, s₁.heap.get? b = some o0 := fun b o e => I.base.there b o e (by show b ∉ ([] : List Addr); simp)
  show wpAny (model P w) (A.deeper (envOfC qual scope s.heap.objs.size f cd)) (leaving (envOfC qual scope s.heap.objs.size f cd) (.ref a)) (fun _ s'' => CXo P w outer H s E (.ref a) s'') (fun e' s'' => CXo P w outer H s E e' s'') s'
  -- the end, from the heap behind
  have fin : ∀ {H' : Hp} {G' : Hp} {s' : Shared} {h'' B : Heap} {a0 : Value}, Inv (ck (CXo P w) P w K mg base N qual scope f cd A outer s H E) pins σ H' s' -> Up G₁ H₁ G' H' -> H' a = none -> Heap.FlyingW B outer a (.ref C) a0 h'' -> s'.heap.UpToSlots h'' ->
      (∀ b o, b ∉ s.heap.objs.size :: frs outer -> ((∃ o0, s₁.heap.get? b = some o0) \/ ∃ u, H' b = some u) -> s'.heap.get? b = some o -> B.get? b = some o) -> CXo P w outer H s E (.ref a) { s' with heap := h'' } := by
    intro H' G' s' h'' B a0 J up ha fl sm hk
    have J0 : H' s.heap.objs.size = none := J.free
    have fr0 : ∀ b ∈ frs outer, H' b = none := fun b hb => J.stkFree b (by show b ∈ frs (envOfC qual scope s.heap.objs.size f cd :: outer); rw [hst]; exact List.mem_cons_of_mem _ hb)
    have frA : ∀ b ∈ s.heap.objs.size :: frs outer, H' b = none := fun b hb => by
      rcases List.mem_cons.mp hb with rfl | hb
      . exact J0
      . exact fr0 b hb
    have dat : ∀ b ∈ s.heap.objs.size :: frs outer, ∀ o, s'.heap.get? b = some o -> ∀ vs, o.data ≠ .fields vs := fun b hb o e => by
      obtain ⟨o', e', d', _⟩ := FunFrames.data J.stack b (by show b ∈ frs (envOfC qual scope s.heap.objs.size f cd :: outer); rw [hst]; exact hb)
      rw [e] at e'; cases e'; exact d'
    have hok : HOk P w H' h'' := J.hok.flight fl.1 hk frA
    have un : Un (frs outer) [] H H' s.heap h'' := Un.flight J.base fl.1 sm hk old (fun b hb => (List.mem_cons.mp hb).elim (fun z => .inr (by rw [z]; exact Nat.le_refl _)) .inl) dat
    refine ⟨a, C, H', rfl, ⟨J.os, J.bare, un, hok, ha, B, a0, fl, fun b o hb ho e => ?_⟩, hE G' H' (sr.up.trans up)⟩
    have nb : b ∉ s.heap.objs.size :: frs outer := fun z => by
      rcases List.mem_cons.mp z with z | z
      . rcases ho with ⟨o0, ho⟩ | ⟨u, ho⟩
        . rw [z] at ho; exact Nat.lt_irrefl _ (Heap.lt_size ho)
        . rw [z, J0] at ho; cases ho
      . exact hb z
    have ho' : (∃ o0, s₁.heap.get? b = some o0) \/ ∃ u, H' b = some u := ho.imp (fun ⟨o0, z⟩ => old b o0 z) id
    have ex : ∃ o', s'.heap.get? b = some o' := by
      rcases ho with ⟨o0, ho⟩ | ⟨u, ho⟩
      . exact J.base.there b o0 ho (by show b ∉ ([] : List Addr); simp)
      . exact (J.hok b u ho).there
    obtain ⟨o', e'⟩ := ex
    have q := hk b o' nb ho' e'
    have q2 := fl.1 b o' q
    have e2 : h''.get? b = some o := e
    rw [q2] at e2
    cases e2
    exact q
  rcases way with ⟨h', vs, made, rfl⟩ | ⟨G', H', ⟨os, bare, un, hok, ha, B, a0, fl, hk⟩, up⟩
  . -- made here
    have J : Inv (ck (CXo P w) P w K mg base N qual scope f cd A outer s H E) pins σ H₁ { s₁ with heap := h' } := I.kept (t' := s₁.toks) made.keeps
    have hin : ∀ env ∈ (envOfC qual scope s.heap.objs.size f cd :: outer), ∀ b, env.frame = some b -> b ∈ s.heap.objs.size :: frs outer := fun env he b hb => by
      rw [<- hst]; exact List.mem_filterMap.mpr ⟨env, he, hb⟩
    refine wpAny_leaves_madeW (base := PySem.W.hideAll s₁.heap (s.heap.objs.size :: frs outer)) hfr hf (fun b o q => PySem.W.of_hideAll _ q) (PySem.W.funFrames_hide I.stack hin) made fun h'' t fl' _ _ sm => ?_
    have ha : H₁ a = none := by
      cases q : H₁ a with
      | none => rfl
      | some u =>
        obtain ⟨ob, e⟩ := (I.hok a u q).there
        rw [made.new] at e; cases e
    refine fin J (.refl sr.e.sub) ha fl' sm fun b o hb ho e => ?_
    have e1 : s₁.heap.get? b = some o := by
      rcases ho with ⟨o0, ho⟩ | ⟨u, ho⟩
      . have q := made.keeps b o0 ho
        have e' : h'.get? b = some o := e
        rw [q] at e'; cases e'; exact ho
      . obtain ⟨ob, ho⟩ := (I.hok b u ho).there
        have q := made.keeps b ob ho
        have e' : h'.get? b = some o := e
        rw [q] at e'; cases e'; exact ho
    exact PySem.W.hideAll_get _ e1 hb
  . have J := I.call' (s' := s') (ch := []) os un hok bare (fun b z => absurd z (by simp))
    exact wpAny_leaves_onW hfr hf fl fun h'' fl' sm => fin J up ha fl' sm fun b o hb ho e => hk b o (by show b ∉ frs (envOfC qual scope s.heap.objs.size f cd :: outer); rw [hst]; exact hb) ho e

def aN (n : Nat) (ds : List D) : Ev := ds.map (fun d => some (.val d)) ++ List.replicate (n - ds.length) none
def aK (o : O) : R D := match o with
  | .rt d => .ok d
  | .nx _ => .ok .non
  | .ex C _ => .ex C
  | _ => .no
theorem xT {K : PySem.W.Frag} {G H : Hp} {N : List Str} {vs : List V} {ds : List D} (sub : Same G H) (r : Reps K G vs ds) : StR K G H G H (kY N vs) (aN N.length ds) := by
  have hl := r.length
  have get : ∀ (i : Nat) x, (aN N.length ds)[i]? = some (some x) -> ∃ d, ds[i]? = some d /\ x = .val d := fun i x e => by
    unfold aN at e
    by_cases hi : i < ds.length
    . rw [List.getElem?_append_left (by simpa using hi), List.getElem?_map] at e
      cases q : ds[i]? with
      | none => rw [q] at e; cases e
      | some d => rw [q] at e; cases e; exact ⟨d, rfl, rfl⟩
    . rw [List.getElem?_append_right (by simpa using hi), List.getElem?_replicate] at e
      split at e <;> cases e
  refine ⟨⟨sub, by simp [kY, aN, hl], fun i d e => ?_⟩, sub, .refl sub, fun i es e => ?_, fun i j es fs l e => ?_⟩
  . obtain ⟨d', e', q⟩ := get i _ e
    cases q
    obtain ⟨v, ev, rv⟩ := r.get e'
    refine ⟨v, ?_, rv⟩
    unfold kY
    rw [List.getElem?_append_left (by have := (List.getElem?_eq_some_iff.mp ev).1; simpa using this), List.getElem?_map, ev]
    rfl
  . obtain ⟨d', _, q⟩ := get i _ e; cases q
  . obtain ⟨d', _, q⟩ := get i _ e; cases q
theorem Fun.okF_0 {P : Program} {w : World} {K : PySem.W.Frag} {mg : Str -> Option Value} {base : Heap} {x qual : Str} {st : Stmt} {f : Addr} {fd : FuncData} {N ps : List Str} {k : Nat} (F : Fun K x qual st f fd) (S : FnScope N ps (aL st)) {g : Ev -> O}
    (hbody : ∀ (cdv : Value) (A : Around) (outer : List Env) (s : Shared) (H : Hp) (E : XK), Room k (A.deeper (envOfC qual (aL st) s.heap.objs.size f cdv)) -> kW (ck (CXo P w) P w K mg base N qual (aL st) f cdv A outer s H E) (fD st) g) :
    FnF P w K mg base (k + 1) f fd ps (fun ds => aK (g (aN N.length ds))) := by
  obtain ⟨oc, od, kV, doc, pm, an, cdv, ct, osl, rfl, lk, hcd⟩ := F.ex
  refine BH lk hcd S (fun vs H Q E h => h.1) fun A outer s H vs Q E hr hsp => ?_
  obtain ⟨hl, G, ds, sub, r, h⟩ := hsp
  refine ⟨_, hbody cdv A outer s H E hr G H, G, aN N.length ds, xT sub r, ?_⟩
  dsimp only at h
  cases q : g (aN N.length ds) with
  | nx ρ => rw [q] at h; exact fun σ G' H' sr => h .non G' H' sr.up .non
  | rt d => rw [q] at h; exact fun v G' H' u rv => h v G' H' u rv
  | bk ρ => rw [q] at h; exact h.elim
  | ct ρ => rw [q] at h; exact h.elim
  | ex C ρ => rw [q] at h; exact fun e s' fl => xO fl h
  | no => rw [q] at h; exact h.elim
end L2
namespace L2
open PySem PySem.Spec PyProof.Rows
theorem lp : fillsNumberSlot (.type "tuple") "mul" = pure false :=
  PySem.fillsNumberSlot_seq (id := "tuple.__mul__") (r := some (.builtin "tuple.__rmul__")) F.slot_tuple_mul.lookup (by decide +kernel) F.slot_tuple_rmul.lookup (by decide +kernel)
theorem zq : seqRepeat? (.type "tuple") = pure (some (.builtin "tuple.__mul__")) := by
  unfold seqRepeat?
  rw [PySem.seqSlot_of (T := "tuple") (name := "__mul__") (id := "tuple.__mul__") F.slot_tuple_mul.lookup (by decide +kernel), PySem.seqSlot_of (T := "tuple") (name := "__rmul__") (id := "tuple.__rmul__") F.slot_tuple_rmul.lookup (by decide +kernel)]
  rfl
open Builtin in
theorem ny (a : Int) (t : Tok) (l : Addr) (items : Array Value) (n : Nat) (dd : Option Addr) (sl : Array (Option Value)) :
    Meets (Builtin.«int.__rmul__» ⟨[.int a t, .ref l], []⟩) (fun _ Rr s => s.heap.get? l = some { cls := .type "tuple", dict := dd, data := .seq items n, slots := sl } /\ Rr (.ok (.ret Value.notImplemented)) s) :=
  .of_wp fun prog w A Rr s h => by obtain ⟨hp, g, d, tk, os⟩ := s; obtain ⟨hl, h⟩ := h; wp_walk; exact ⟨_, rfl, h⟩
section
open Builtin AutoSeq1
variable (l : Addr) (items : Array Value) (n : Nat) (dd : Option Addr) (sl : Array (Option Value)) (x : Int) (u : Tok) (h1 : (decide (x < -(2 ^ 63)) || decide (x ≥ 2 ^ 63)) = false)
include h1
theorem we (hc : (items.isEmpty || x == 1) = true) :
    Meets (Builtin.«tuple.__mul__» ⟨[.ref l, .int x u], []⟩) (fun _ Rr s => s.heap.get? l = some { cls := .type "tuple", dict := dd, data := .seq items n, slots := sl } /\ Rr (.ok (.ret (.ref l))) s) :=
  .of_wp fun prog w A Rr s h => by
    obtain ⟨hp, g, d, tk, os⟩ := s; obtain ⟨hl, h⟩ := h
    have f1 := idx_int
    wp_walk
    refine wpAny_ite_false (by rw [h1]; rfl) ?_
    refine wpAny_bind (tupleItemsOf_ (show IsTup hp l items from ⟨_, hl, rfl, n, rfl⟩) ?_)
    dsimp only
    rw [if_pos hc]
    unfold Tuple.tupleIsExact
    refine wpAny_bind (wpAny_bind (wpAny_typeOf ⟨_, hl, rfl⟩ (wpAny_pure ?_)))
    rw [if_pos (by decide)]
    exact wpAny_bind (wpAny_rule (wpAny_pure ⟨_, rfl, h⟩))
theorem wY (hc : ¬ (items.isEmpty || x == 1) = true) (h2 : (decide (x <= 0) || items.isEmpty) = true) :
    Meets (Builtin.«tuple.__mul__» ⟨[.ref l, .int x u], []⟩) (fun _ Rr s => s.heap.get? l = some { cls := .type "tuple", dict := dd, data := .seq items n, slots := sl } /\ Rr (.ok (.ret (.ref s.heap.objs.size))) { s with heap := s.heap.push { cls := .type "tuple", data := .seq #[] } }) :=
  .of_wp fun prog w A Rr s h => by
    obtain ⟨hp, g, d, tk, os⟩ := s; obtain ⟨hl, h⟩ := h
    have f1 := idx_int
    wp_walk
    refine wpAny_ite_false (by rw [h1]; rfl) ?_
    refine wpAny_bind (tupleItemsOf_ (show IsTup hp l items from ⟨_, hl, rfl, n, rfl⟩) ?_)
    dsimp only
    rw [if_neg hc, if_pos h2]
    exact wpAny_bind (m := Builtin.Tuple.tupleExact _) (wpAny_newObj_type (wpAny_pure ⟨_, rfl, h⟩) (Nat.zero_le _))
theorem vS (hc : ¬ (items.isEmpty || x == 1) = true) (h2 : ¬ (decide (x <= 0) || items.isEmpty) = true) (hz : items.size * x.toNat <= sizeLine) :
    Meets (Builtin.«tuple.__mul__» ⟨[.ref l, .int x u], []⟩) (fun _ Rr s => s.heap.get? l = some { cls := .type "tuple", dict := dd, data := .seq items n, slots := sl } /\
      Rr (.ok (.ret (.ref s.heap.objs.size))) { s with heap := s.heap.push { cls := .type "tuple", data := .seq (List.foldl (fun x1 x2 => x1 ++ x2) #[] (List.replicate x.toNat items)) } }) :=
  .of_wp fun prog w A Rr s h => by
    obtain ⟨hp, g, d, tk, os⟩ := s; obtain ⟨hl, h⟩ := h
    have f1 := idx_int
    have hx : 0 < x := by
      cases q : decide (x <= 0) with
      | true => rw [q] at h2; exact absurd rfl h2
      | false => exact Int.not_le.mp (of_decide_eq_false q)
    have ez : (items.size : Int) * x = ((items.size * x.toNat : Nat) : Int) := by
      rw [Int.natCast_mul, Int.toNat_of_nonneg (Int.le_of_lt hx)]
    have hlim : (sizeLine : Nat) <= (2 ^ 63 - 1) / 8 := by decide
    have h3 : ¬ ((items.size : Int) * x > (2 ^ 63 - 1) / 8) := by
      rw [ez]
      have : ((sizeLine : Nat) : Int) <= (2 ^ 63 - 1) / 8 := by decide
      omega
    have h4 : ¬ (Tuple.tupleTooMany ((items.size : Int) * x) = true) := by
      unfold Tuple.tupleTooMany
      rw [ez]
      intro q
      have := of_decide_eq_true q
      omega
    have hfz : (List.foldl (fun x1 x2 => x1 ++ x2) #[] (List.replicate x.toNat items)).size <= sizeLine := by
      have e := ie items.toList x.toNat []
      simp only [List.nil_append, Array.toArray_toList] at e
      rw [e, List.size_toArray, nh, Array.length_toList, Nat.mul_comm]
      exact hz
    wp_walk
    refine wpAny_ite_false (by rw [h1]; rfl) ?_
    refine wpAny_bind (tupleItemsOf_ (show IsTup hp l items from ⟨_, hl, rfl, n, rfl⟩) ?_)
    dsimp only
    rw [if_neg hc, if_neg h2, if_neg h3, if_neg h4]
    exact wpAny_bind (m := Builtin.Tuple.tupleExact _) (wpAny_newObj_type (wpAny_pure ⟨_, rfl, h⟩) hfz)
end
section
variable {X : Cx}
def A4 (K : PySem.W.Frag) : R2 := fun x y H Q => ∃ l k xs, x = .ref l /\ y = .int k /\ SqT K H l xs /\ -(2 ^ 63) <= k /\ k < 2 ^ 63 /\ xs.length * k.toNat <= sizeLine /\
  (xs = [] \/ k = 1 -> Q (.ref l) H) /\ (xs ≠ [] -> k ≠ 1 -> ∀ p, H p = none -> Q (.ref p) (upd H p (.tup (List.replicate k.toNat xs).flatten)))
theorem op_repT : OpR X (binaryOp .Mult) (A4 X.K) := by
  intro pins s σ H x y v u Q I rx ry h
  obtain ⟨l, k, xs, rfl, rfl, hH, h1, h2, hz, q0, q1⟩ := h
  cases rx
  obtain ⟨t, rfl⟩ := ry
  obtain ⟨its, r, p, hzz⟩ := I.tuple hH
  obtain ⟨⟨cls, dd, data, sl⟩, ho, hc, n, hd⟩ := id p
  simp only at hc hd
  subst hc hd
  have hlen : its.length = xs.length := r.length.symm
  have hin : (decide (k < -(2 ^ 63)) || decide (k ≥ 2 ^ 63)) = false := by
    rw [decide_eq_false (by omega), decide_eq_false (by omega)]; rfl
  have emp : its.toArray.isEmpty = decide (xs = []) := by
    cases its with
    | nil => cases r; rfl
    | cons a b => cases r; rfl
  refine wpAny_binaryOp_repeat_ref (T := "tuple") (U := "int") (by decide) ⟨_, ho, rfl⟩ (fun s' => typeIs_int s' k t) lp F.fills_int_mul F.slot_int_rmul zq F.slot_int_index.lookup
    (call_meets F.slot_int_rmul (typeIs_int s k t) F.entry_int_rmul (F.args_int_rmul_2 _ _) (ny k t l its.toArray n dd sl) ⟨ho, rfl, ⟨_, ho, rfl⟩, ?_⟩)
  by_cases hc : (its.toArray.isEmpty || k == 1) = true
  . refine call_meets F.slot_tuple_mul ⟨_, ho, rfl⟩ F.entry_tuple_mul (F.args_tuple_mul_2 _ _) (we l its.toArray n dd sl k t hin hc) ⟨ho, .ref l, H, I, rfl, q0 ?_⟩
    rw [emp] at hc
    simpa using hc
  . have hne : xs ≠ [] /\ k ≠ 1 := by
      rw [emp] at hc
      simpa using hc
    have fin : ∀ its', its' = (List.replicate k.toNat its).flatten -> EP X pins σ Q (.ref s.heap.objs.size) { s with heap := s.heap.push { cls := .type "tuple", data := .seq its'.toArray } } := fun its' e => by
      subst e
      refine ⟨.ref s.heap.objs.size, _, I.laid (t' := s.toks) (o := .tup (List.replicate k.toNat xs).flatten) (fun b ob q => Heap.get?_push_of_some _ q) (Nat.le_refl _) ?_, rfl, q1 hne.1 hne.2 _ I.fresh⟩
      exact ⟨by rw [nh, Nat.mul_comm]; exact hz, _, r.rep k.toNat, IsTup.new _ _⟩
    by_cases h0 : (decide (k <= 0) || its.toArray.isEmpty) = true
    . refine call_meets F.slot_tuple_mul ⟨_, ho, rfl⟩ F.entry_tuple_mul (F.args_tuple_mul_2 _ _) (wY l its.toArray n dd sl k t hin hc h0) ⟨ho, ?_⟩
      refine fin [] ?_
      have : k <= 0 := by
        rw [emp, decide_eq_false hne.1, Bool.or_false] at h0
        exact of_decide_eq_true h0
      rw [Int.toNat_of_nonpos this]
      rfl
    . refine call_meets F.slot_tuple_mul ⟨_, ho, rfl⟩ F.entry_tuple_mul (F.args_tuple_mul_2 _ _) (vS l its.toArray n dd sl k t hin hc h0 (by rw [List.size_toArray, hlen]; exact hz)) ⟨ho, ?_⟩
      have e := ie its k.toNat []
      simp only [List.nil_append] at e
      rw [e]
      exact fin _ rfl
theorem zE (x : Str) (n : Int) : (Txt.mul x n).cps.toList = (List.replicate n.toNat x.cps.toList).flatten := by
  unfold Txt.mul
  by_cases h1 : n < 1
  . rw [if_pos h1, Int.toNat_of_nonpos (by omega)]; rfl
  . rw [if_neg h1]
    by_cases h2 : (n == 1 || x.length == 0) = true
    . rw [if_pos h2]
      rcases Bool.or_eq_true_iff.mp h2 with h | h
      . have : n = 1 := by simpa using h
        subst this
        show _ = (List.replicate 1 x.cps.toList).flatten
        simp
      . have : x.cps.toList = [] := List.eq_nil_of_length_eq_zero (by rw [Str.len_list]; simpa using h)
        rw [this]; simp
    . rw [if_neg h2]
      have : ∀ (m : Nat) (acc : Array Nat), ((List.replicate m x.cps).foldl (· ++ ·) acc).toList = acc.toList ++ (List.replicate m x.cps.toList).flatten := by
        intro m
        induction m with
        | zero => intro acc; simp
        | succ m ih => intro acc; rw [List.replicate_succ, List.foldl_cons, ih, List.replicate_succ, List.flatten_cons]; simp
      simpa using this n.toNat #[]
theorem op_mul_str : OpR X (binaryOp .Mult) (fun x y H Q => ∃ (i : Str) (k : Int), x = .str i /\ y = .int k /\ -(2 ^ 63) <= k /\ k < 2 ^ 63 /\ i.length * k.toNat <= sizeLine /\ Q (.str (Txt.mul i k)) H) := by
  intro pins s σ H x y v u Q I rx ry h
  obtain ⟨i, k, rfl, rfl, h1, h2, hz, q⟩ := h
  obtain ⟨t, rfl⟩ := rx
  obtain ⟨t', rfl⟩ := ry
  refine SB.mul ⟨by rw [decide_eq_false (by omega), decide_eq_false (by omega)]; rfl, fun h3 h4 => ?_, fun h3 h4 => ?_⟩ fun t'' n => ⟨.str _, H, I.tok _, ⟨_, rfl⟩, q⟩
  . have hk : 0 < k := by omega
    intro h5
    have h6 : (2 ^ 63 - 1) / k * k <= 2 ^ 63 - 1 := Int.ediv_mul_le _ (by omega)
    have h7 : (((i.length * k.toNat : Nat)) : Int) = (i.length : Int) * k := by rw [Int.natCast_mul, Int.toNat_of_nonneg (by omega)]
    have h8 : ((2 ^ 63 - 1) / k + 1) * k <= (i.length : Int) * k := Int.mul_le_mul_of_nonneg_right (by omega) (by omega)
    have h9 : 2 ^ 63 - 1 < ((2 ^ 63 - 1) / k + 1) * k := Int.lt_ediv_add_one_mul_self _ hk
    have h10 : ((sizeLine : Nat) : Int) < 2 ^ 63 - 1 := by decide
    omega
  . unfold Builtin.Str.tooLong
    exact decide_eq_false (by omega)
def gn : D -> D -> Option D
  | .int i, .int j => if (-(2 ^ 64) < i /\ i < 2 ^ 64) \/ (-(2 ^ 64) < j /\ j < 2 ^ 64) then some (.int (i * j)) else none
  | .str x, .int k => if -(2 ^ 63) <= k /\ k < 2 ^ 63 /\ x.length * k.toNat <= sizeLine then some (.str (List.replicate k.toNat x).flatten) else none
  | .tup xs, .int k => if -(2 ^ 63) <= k /\ k < 2 ^ 63 /\ xs.length * k.toNat <= sizeLine then some (.tup (List.replicate k.toNat xs).flatten) else none
  | .lst false xs, .int k => if -(2 ^ 63) <= k /\ k < 2 ^ 63 /\ xs.length * k.toNat <= sizeLine then some (.lst false (List.replicate k.toNat xs).flatten) else none
  | _, _ => none
def BL (K : PySem.W.Frag) : R2 := fun x y H Q => rI CMul (fun i j => .int (i * j)) x y H Q \/ (∃ (i : Str) (k : Int), x = .str i /\ y = .int k /\ -(2 ^ 63) <= k /\ k < 2 ^ 63 /\ i.length * k.toNat <= sizeLine /\ Q (.str (Txt.mul i k)) H) \/ A4 K x y H Q \/ Eb x y H Q
theorem Aw : OpR X (binaryOp .Mult) (BL X.K) := op_mul.or (op_mul_str.or (op_repT.or Cq))
theorem Cp (K : PySem.W.Frag) : ROk K (BL K) gn := by
  intro G H x y dx dy d Q s rx ry e q
  unfold gn at e
  split at e
  . split at e
    . rename_i hc
      cases e
      exact .inl ⟨_, _, rx.int_inv, ry.int_inv, hc, q _ G H (.refl s) (.int _)⟩
    . cases e
  . split at e
    . rename_i hc
      cases e
      obtain ⟨i, rfl, ei, hi⟩ := rx.str_inv
      subst ei
      rw [Str.len_list] at hc
      exact .inr (.inl ⟨i, _, rfl, ry.int_inv, hc.1, hc.2.1, hc.2.2, q _ G H (.refl s) (.strL (zE i _) (by rw [nh, Str.len_list, Nat.mul_comm]; exact hc.2.2))⟩)
    . cases e
  . split at e
    . rename_i k hc
      cases e
      obtain ⟨a, vs, rfl, ha, ra⟩ := rx.tup_inv
      refine .inr (.inr (.inl ⟨a, _, vs, rfl, ry.int_inv, ha.mono s, hc.1, hc.2.1, by rw [ra.length]; exact hc.2.2, fun z => ?_, fun _ _ p hp => q _ _ _ (.new s hp) (.tup (.of bq) ((ra.rep _).mono (.into (s.free hp))))⟩))
      rcases z with z | z
      . subst z
        cases ra
        have e : (List.replicate k.toNat ([] : List D)).flatten = [] := by simp
        rw [e] at q
        exact q _ G H (.refl s) (.tup ha .nil)
      . subst z
        have e : ∀ l : List D, (List.replicate (1 : Int).toNat l).flatten = l := fun l => by show (List.replicate 1 l).flatten = l; simp
        rw [e] at q
        exact q _ G H (.refl s) (.tup ha ra)
    . cases e
  . split at e
    . rename_i hc
      cases e
      obtain ⟨a, vs, rfl, ha, ra⟩ := rx.lst_inv
      exact .inr (.inr (.inr ⟨a, _, vs, rfl, ry.int_inv, s _ _ ha, hc.1, hc.2.1, by rw [ra.length]; exact hc.2.2, fun p hp => q _ _ _ (.new s hp) (.lst bq ((ra.rep _).mono (.into (s.free hp))))⟩))
    . cases e
  . cases e
theorem wR {a b : Expr} {ga gb : Ev -> R D} {pos : Pos} (ha : QF X a ga) (hb : QF X b gb) : QF X (.BinOp a .Mult b pos) (g2 gn ga gb) := gN Aw (Cp _) ha hb
end
end L2
namespace L2
open PySem PySem.W PySem.Spec PySem.Calls PyProof.Rows
structure ExcCls (K : Frag) (C : Addr) : Prop where
  ga : findIn K (.ref C) "__getattribute__" = some (some (.builtin "BaseException.__getattribute__"))
  gt : findIn K (.ref C) "__getattr__" = some none
  cl : findIn K (.ref C) "__class__" = some (some (.builtin "object.__class__"))
  sp : specialIn K (.builtin "object.__class__") "__get__" = some (some (.builtin "getset_descriptor.__get__"))
  tk : takesIn K (.builtin "object.__class__") = some true
  mo : mroIn K C (.type "object") = some true
  be : subIn K (.ref C) (.type "BaseException") = some true
  some : (clsIn K C).isSome = true
section
variable {prog : Program} {w : World} {A : Around} {E : Value -> Shared -> Prop} {s : Shared} {K : Frag} {a C : Addr}
section
open Builtin Builtin.ObjectAttr Builtin.Getset_descriptor
theorem Ap {tp : Value} {Rr : Result -> Shared -> Prop} (X : K.In s.heap) (L0 : Looks (model prog w) s.heap (typeOf (.ref a)) (.ref C)) (hm : mroIn K C (.type "object") = some true) (h : Rr (.ok (.ret (.ref C))) s) :
    codeAny (model prog w) A (.call (.builtin "getset_descriptor.__get__") ⟨[.builtin "object.__class__", .ref a, tp], []⟩) Rr s := by
  obtain ⟨hh, gg, dd, tt, oo⟩ := s
  have L1 := looks_mroIn (M := model prog w) X hm
  refine codeAny_call_builtin KF.slot_gs.plain KF.entry_gs
    (KF.slot_gs.check _ _ _ _ _ _ _ _ KF.type_class (KF.args_gs _ _ _) ?_)
  unfold Builtin.«getset_descriptor.__get__» descrGet
  rw [dga_obj]
  refine wpAny_bind (wpAny_pure ?_)
  unfold descrGetter descrCheckInstance descrNameAndClass isInstance
  simp only [KF.owner_class]
  repeat lk
  refine ⟨Code.quiet_builtin _ (by decide +kernel),
    codeAny_builtin KF.entry_class ?_⟩
  unfold Builtin.«object.__class__» shownTypeOf
  repeat lk
  exact h
end
theorem uN {Q : Option Value -> Shared -> Prop} (X : K.In s.heap) (T : ExcCls K C) (L0 : Looks (model prog w) s.heap (typeOf (.ref a)) (.ref C))
    (h : Q (some (.ref C)) { s with toks := s.toks + 1 }) : wpAny (model prog w) A (getAttr? (.ref a) "__class__") Q E s := by
  obtain ⟨hh, g, d, t, os⟩ := s
  have L1 := looks_findIn (M := model prog w) X T.ga
  have L2 := looks_findIn (M := model prog w) X T.gt
  have L3 : Looks (model prog w) hh (Builtin.ObjectAttr.find (.ref a) (.ref C) "__class__") (.bind (.builtin "getset_descriptor.__get__") (.builtin "object.__class__")) := by
    have M1 := looks_findIn (M := model prog w) X T.cl
    have M2 : Looks (model prog w) hh (Builtin.ObjectAttr.getOf (some (.builtin "object.__class__"))) (some (.builtin "getset_descriptor.__get__")) := looks_specialIn X T.sp
    have M3 := looks_takesIn (M := model prog w) X T.tk
    refine M1.andThen (M2.andThen ?_)
    exact (show Looks (model prog w) hh (Builtin.ObjectAttr.dataDescriptor? (some (.builtin "object.__class__")) (some (.builtin "getset_descriptor.__get__"))) (some (.builtin "getset_descriptor.__get__", .builtin "object.__class__")) from M3.andThen .now).andThen (Looks.tag .now)
  unfold getAttr? getAttrBy? getAttrBy
  refine wpAny_bind (wpAny_mkText (wpAny_bind (wpAny_attempt (wpAny_holding (wpAny_bind (L0.at (wpAny_bind (L1.at ?_))))))))
  have hx2 : (Value.builtin "BaseException.__getattribute__" == Value.builtin "object.__getattribute__") = false := by decide +kernel
  dsimp only
  rw [if_neg (by rw [hx2, Bool.and_false]; exact Bool.false_ne_true)]
  unfold getAttrByItsOwn hookBefore
  rw [if_pos (show onTheHeap (Value.ref C) = true from rfl)]
  refine wpAny_bind (L2.at ?_)
  refine wpAny_bind (wpAny_attempt (wpAny_holding ?_))
  unfold callGetattribute
  rw [if_neg (by rw [Bool.false_and]; exact Bool.false_ne_true)]
  unfold boundAndCalled
  rw [F.attr_ValueError.ga.bind (.ref a)]
  refine wpAny_bind (wpAny_pure ?_)
  show wpAny _ _ (call (.builtin "BaseException.__getattribute__") [.ref a, .str "__class__" t]) _ _ _
  have LB : Looks (model prog w) hh (isInstance (.ref a) (.type "BaseException")) true := L0.andThen (looks_subIn X T.be)
  have hk : builtinKind "BaseException.__getattribute__" = some .slot := by decide +kernel
  have hsp : splitId "BaseException.__getattribute__" = some ("BaseException", "__getattribute__") := by decide +kernel
  have ha := F.args_bexc_ga (.ref a) (.str "__class__" t)
  refine wpAny_call (codeAny_call_builtin F.attr_ValueError.ga.plain F.entry_bexc_ga ?_)
  simp only [checkBuiltinCall, hk, hsp]
  refine wpAny_bind (LB.at ?_)
  rw [if_neg (by decide)]
  refine wpAny_of_eq (a := ()) ha ?_
  unfold Builtin.«object.__getattribute__»
  refine wpAny_bind (wpAny_pure ?_)
  refine wpAny_bind (wpAny_pure ?_)
  refine wpAny_bind (L0.at ?_)
  refine wpAny_bind (L3.at ?_)
  show wpAny _ _ (Builtin.ObjectAttr.bindTo (.builtin "getset_descriptor.__get__") (.builtin "object.__class__") (.ref a) (.ref C)) _ _ _
  unfold Builtin.ObjectAttr.bindTo
  dsimp only
  exact wpAny_bind (wpAny_holding (wpAny_call (Ap (s := ⟨hh, g, d, t + 1, os⟩) X L0 T.mo (wpAny_pure (handed_on rfl (wpAny_pure h))))))
theorem vY (T : ExcCls K C) : KitX K (.ref a) (.ref C) (fun h => ∃ ob, h.get? a = some ob /\ ob.cls = .ref C) where
  ty := fun M h _ p => by
    obtain ⟨o, h1, h2⟩ := p
    exact h2 ▸ (Looks.ld h1).andThen .now
  it := fun M h X _ => by
    have z := T.some
    unfold clsIn at z
    split at z
    . rename_i c' d' cd' sl' ho
      intro A' Q' E' s' k q
      unfold isType loadHead
      exact wpAny_bind (wpAny_loadPart (k _ _ (X _ _ ho)) (wpAny_pure q))
    . cases z
  ne := fun h tp dd its n sl X htp => by
    refine Bool.eq_false_iff.mpr fun q => ?_
    have e : C = tp := Value.ref.inj (beq_iff_eq.mp q)
    subst e
    have z := T.some
    unfold clsIn at z
    split at z
    . rename_i c' d' cd' sl' ho
      cases (X _ _ ho).symm.trans htp
    . cases z
  ca := fun {prog w A E Q s} X p k => by
    obtain ⟨o, h1, h2⟩ := p
    exact uN X T (h2 ▸ (Looks.ld h1).andThen .now) k
end
section
variable {X : Cx} {pins : List (Addr × Obj)} {σ : St} {G H : Hp} {s : Shared} {A : Around} {E : Value -> Shared -> Prop} {Q : Value -> Shared -> Prop}
def tyN : D -> Option String
  | .non => some "NoneType"
  | .bl _ => some "bool"
  | .int _ => some "int"
  | .str _ => some "str"
  | .tup _ => some "tuple"
  | .lst _ _ => some "list"
  | .exc _ => none
theorem Cl {d : D} {x : V} {u c : Value} {T : String} {b : Bool} (I : Inv X pins σ H s) (sub : Same G H) (r : Rep X.K G x d) (ru : RelV x u) (ht : tyN d = some T) (e : kitOne X.K (.type T) c = some b) (h : ∀ tk, Q (.bool b) { s with toks := tk }) :
    wpAny (model X.prog X.w) A (call (.builtin "isinstance") [u, c]) Q E s := by
  cases r with
  | non => cases ht; cases ru; exact kia_one kitx_none I.kIn True.intro e (fun z => nomatch z) h
  | bl y => cases ht; cases ru; exact kia_one kitx_bool I.kIn True.intro e (fun z => nomatch z) h
  | int i => cases ht; obtain ⟨t, rfl⟩ := ru; exact kia_one kitx_int I.kIn True.intro e (fun z => nomatch z) h
  | str y hy => cases ht; obtain ⟨t, rfl⟩ := ru; exact kia_one kitx_str I.kIn True.intro e (fun z => nomatch z) h
  | tup hh t =>
    cases ht; cases ru
    obtain ⟨its, rv, ⟨o, h1, h2, _⟩, _⟩ := I.tuple (hh.mono sub)
    exact kia_one kitx_tuple I.kIn ⟨o, h1, h2⟩ e (fun z => nomatch z) h
  | lst hh t =>
    cases ht; cases ru
    obtain ⟨its, rv, ⟨o, n, h1, h2, _⟩, _⟩ := I.list ((SqL.of hh : SqL X.K G _ _).mono sub)
    exact kia_one kitx_list I.kIn ⟨o, h1, h2⟩ e (fun z => nomatch z) h
  | fls hh t =>
    cases ht; cases ru
    obtain ⟨its, rv, ⟨o, n, h1, h2, _⟩, _⟩ := I.list (hh.mono sub)
    exact kia_one kitx_list I.kIn ⟨o, h1, h2⟩ e (fun z => nomatch z) h
  | exc hh => cases ht
theorem xx {C : Addr} {x : V} {u c : Value} {b : Bool} (I : Inv X pins σ H s) (sub : Same G H) (r : Rep X.K G x (.exc C)) (ru : RelV x u) (T : ExcCls X.K C) (e : kitOne X.K (.ref C) c = some b) (h : ∀ tk, Q (.bool b) { s with toks := tk }) :
    wpAny (model X.prog X.w) A (call (.builtin "isinstance") [u, c]) Q E s := by
  obtain ⟨a, rfl, hh⟩ := r.exc_inv
  cases ru
  obtain ⟨h1, _, _⟩ := (show ObjOk X.prog X.w H s.heap a (.ext (gm a C)) from I.hok a _ (sub _ _ hh))
  exact kia_one (vY T) I.kIn h1 e (fun z => nomatch z) h
end
section
variable {X : Cx} {e : Expr} {ga : Ev -> R D} {y : Str} {p p2 pos : Pos}
def dh (f : String -> Bool) (d : D) : R D := match tyN d with
  | some t => .ok (.bl (f t))
  | none => .no
theorem fE {T : String} (f : String -> Bool) (hf : ∀ K : Frag, ∀ t ∈ ["NoneType", "bool", "int", "str", "tuple", "list"], kitOne K (.type t) (.type T) = some (f t)) (hg : Gl X "isinstance") (hm : X.mg "isinstance" = none) (hg2 : Gl X y) (hm2 : X.mg y = none)
    (hv : bootBuiltins y = some (.type T)) (ha : QF X e ga) (hs1 : starEach [e, .Name y p2] X.env = (false, eval e X.env) :: starEach [.Name y p2] X.env := by rfl)
    (hn : y ≠ "__name__" := by decide) (hdb : (y == ("__debug__" : Str)) = false := by decide) :
    QF X (.Call (.Name "isinstance" p) [e, .Name y p2] [] pos) (fun ρ => ga ρ >>= dh f) := by
  intro pins s σ H Q I h
  have hc : ic X (.builtin "isinstance") (fun xs H Q => ∃ x G d, xs = [x, .ty T] /\ Same G H /\ Rep X.K G x d /\ ∃ t, tyN d = some t /\ Q (.bl (f t)) H) := by
    intro pins s σ H xs us Q I r ⟨x, G, d, ex, sub, rd, t, et, q⟩
    subst ex
    obtain ⟨u, u2, rfl, r1, r2⟩ := r.two
    cases r2
    refine Cl I sub rd r1 et (hf X.K t ?_) fun tk => ⟨.bl (f t), H, I.tok tk, rfl, q⟩
    cases d <;> cases et <;> simp
  refine mJ hc hg hm PyProof.Rows.Boot.«isinstance» (eA ha (eA (uy (v := .ty T) hg2 hm2 hv rfl hn hdb) kq) hs1) (by decide) (by decide) hs1 rfl pins s σ H Q I ?_
  obtain ⟨G, ρ, st, h⟩ := h
  refine tG.intro st h fun x v G1 H1 u1 st1 r1 h1 => ?_
  refine ⟨v, G1, x, rfl, st1.sub, r1, ?_⟩
  unfold dh at h1
  cases et : tyN x with
  | none => rw [et] at h1; exact h1.elim
  | some t => rw [et] at h1; exact ⟨t, rfl, h1 _ G1 H1 (.refl st1.sub) (.bl _)⟩
def mw (f : Addr -> Option Bool) (d : D) : R D := match d with
  | .exc C => ofO ((f C).map .bl)
  | _ => .no
theorem oh {v2 : V} {u2 : Value} (f : Addr -> Option Bool) (hf : ∀ C b, f C = some b -> ExcCls X.K C /\ kitOne X.K (.ref C) u2 = some b) (hg : Gl X "isinstance") (hm : X.mg "isinstance" = none) (hy : PE X (.Name y p2) (tC v2)) (hr : RelV v2 u2) (hr2 : ∀ u, RelV v2 u -> u = u2)
    (ha : QF X e ga) (hs1 : starEach [e, .Name y p2] X.env = (false, eval e X.env) :: starEach [.Name y p2] X.env := by rfl) :
    QF X (.Call (.Name "isinstance" p) [e, .Name y p2] [] pos) (fun ρ => ga ρ >>= mw f) := by
  intro pins s σ H Q I h
  have hc : ic X (.builtin "isinstance") (fun xs H Q => ∃ x G C b, xs = [x, v2] /\ Same G H /\ Rep X.K G x (.exc C) /\ f C = some b /\ Q (.bl b) H) := by
    intro pins s σ H xs us Q I r ⟨x, G, C, b, ex, sub, rd, ef, q⟩
    subst ex
    obtain ⟨u, w, rfl, r1, r2⟩ := r.two
    obtain rfl := hr2 w r2
    exact xx I sub rd r1 (hf C b ef).1 (hf C b ef).2 fun tk => ⟨.bl b, H, I.tok tk, rfl, q⟩
  refine mJ hc hg hm PyProof.Rows.Boot.«isinstance» (eA ha (eA hy kq) hs1) (by decide) (by decide) hs1 rfl pins s σ H Q I ?_
  obtain ⟨G, ρ, st, h⟩ := h
  refine tG.intro st h fun x v G1 H1 u1 st1 r1 h1 => ?_
  cases x with
  | exc C =>
    cases ef : f C with
    | none => simp only [mw, ef] at h1; exact h1.elim
    | some b =>
      simp only [mw, ef] at h1
      exact ⟨v, G1, C, b, rfl, st1.sub, r1, ef, h1 _ G1 H1 (.refl st1.sub) (.bl b)⟩
  | _ => exact h1.elim
end
end L2
namespace L2
open PySem PySem.Spec PyProof.Rows
def rf : List D -> Option (List Bool)
  | [] => some []
  | .bl b :: ds => (rf ds).map (b :: ·)
  | _ => none
theorem Reps.bls {K : PySem.W.Frag} {G : Hp} : ∀ {vs : List V} {ds : List D} {bs : List Bool}, Reps K G vs ds -> rf ds = some bs -> vs = bs.map .bl
  | _, _, bs, .nil, e => by cases e; rfl
  | _, _, bs, .cons r t, e => by
    cases r with
    | bl b =>
      rename_i ds
      unfold rf at e
      cases q : rf ds with
      | none => rw [q] at e; cases e
      | some cs => rw [q] at e; cases e; rw [Reps.bls t q]; rfl
    | _ => simp [rf] at e
theorem Vals.bls : ∀ {bs : List Bool} {us : List Value}, Vals (bs.map V.bl) us -> us = bs.map Value.bool
  | [], _, .nil => rfl
  | b :: bs, _, .cons r t => by rw [Vals.bls t, show _ = Value.bool b from r]; rfl
section
variable {X : Cx} {e o : Expr} {es : List Expr} {ga gb : Ev -> R D} {gl : Ev -> R (List D)} {pos : Pos}
def Fq (K : PySem.W.Frag) (f : List Bool -> Bool) : List V -> Hp -> VK -> Prop := fun xs H Q => ∃ p bs, xs = [.ref p] /\ SqL K H p (bs.map V.bl) /\ Q (.bl (f bs)) H
theorem vB (A : Around) (prog : Program) (w : World) (bs : List Bool) : TruthOf prog w A (fun i v => (bs.map Value.bool).toArray[i]? = some v) (fun i => bs.getD i true) := by
  intro i v s Q E hP hQ
  rw [List.getElem?_toArray, List.getElem?_map] at hP
  cases q : bs[i]? with
  | none => rw [q] at hP; cases hP
  | some b =>
    rw [q] at hP
    cases hP
    have e : bs.getD i true = b := by rw [List.getD_eq_getElem?_getD, q]; rfl
    have hQ : Q (bs.getD i true) s := hQ
    rw [e] at hQ
    exact wpAny_truthy_bool hQ
theorem uS (hc : X.calm = true) : ic X (.builtin "all") (Fq X.K fun bs => bs.all id) := by
  intro pins s σ H xs us Q I r ⟨p, bs, ex, hs, q⟩
  subst ex
  obtain ⟨u, rfl, r1⟩ := r.one
  cases r1
  obtain ⟨its, rv, pl, hz⟩ := I.list hs
  obtain rfl := rv.bls
  have hh : X.A.in1.handled = none := I.ok.hd hc
  have hlt : p < s.heap.objs.size := by obtain ⟨o, n, e, _⟩ := id pl; exact Heap.lt_size e
  refine call_all_walk (wpAny_pyIter_list pl.isList ?_)
  refine ⟨s.heap.objs.size, [s.heap.objs.size, p], [s.heap.objs.size], _, _, _, fun i => bs.getD i true, rfl, Walks.list hh s.heap.objs.size p (Nat.ne_of_lt hlt) (bs.map Value.bool).toArray, ⟨⟨_, Heap.get?_push_size _ rfl, rfl, rfl⟩, ?_⟩, vB _ _ _ bs, fun h' tk hk => ?_⟩
  . obtain ⟨o, n, e, c, _, d⟩ := id pl
    exact ⟨o, Heap.get?_push_of_some _ e, c, n, d⟩
  . have e : (List.range (bs.map Value.bool).toArray.size).all (fun i => bs.getD i true) = bs.all id := by
      rw [List.size_toArray, List.length_map]; exact jW rfl
    rw [e]
    refine ⟨.bl _, H, I.kept (t' := tk) fun b o eb => hk b o (fun z => ?_) (Heap.get?_push_of_some _ eb), rfl, q⟩
    have : b = s.heap.objs.size := by simpa using z
    exact Nat.lt_irrefl _ (this ▸ Heap.lt_size eb)
def Aj : List D -> Option D
  | [.lst _ ds] => (rf ds).map fun bs => .bl (bs.all id)
  | _ => none
theorem xM {p : Pos} (hc : X.calm = true) (hg : Gl X "all") (hm : X.mg "all" = none) (ha : QFA X [e] gl) (he : starEach [e] X.env = [(false, eval e X.env)] := by rfl) : QF X (.Call (.Name "all" p) [e] [] pos) (fun ρ => gl ρ >>= fun ds => ofO (Aj ds)) :=
  fU (uS hc) (by
    intro G H xs ds d Q s r e q
    unfold Aj at e
    split at e
    . rename_i f ds
      obtain ⟨v, rfl, r1⟩ := r.one
      obtain ⟨a, vs, rfl, h, t⟩ := r1.seq_inv
      cases eb : rf ds with
      | none => rw [eb] at e; cases e
      | some bs =>
        rw [eb] at e
        cases e
        obtain rfl := t.bls eb
        exact ⟨a, bs, rfl, h.mono s, q _ G H (.refl s) (.bl _)⟩
    . cases e) hg hm PyProof.Rows.Boot.«all» ha (he := by rw [he]; rfl)
def B2 (K : PySem.W.Frag) (T : String) (r : V -> List V -> Hp -> VK -> Prop) (f : D -> List D -> Option D) : Prop := ∀ (G H : Hp) (x : V) (xs : List V) (dx : D) (ds : List D) (d : D) (Q : VK), Same G H -> Rep K G x dx -> Reps K G xs ds -> f dx ds = some d -> Fin G H (Rep K) Q d -> r x xs H Q
def jc (T : String) : D -> Bool
  | .str _ => T == "str"
  | .lst _ _ => T == "list"
  | _ => false
theorem kN {T id : String} {name : Str} {ap cp : Pos} {r : V -> List V -> Hp -> VK -> Prop} {f : D -> List D -> Option D} (pa : PlainAttrs T) (slot : PySem.Slot T name id) (hty : typeOf (.builtin id) = pure (.type "method_descriptor")) (hm : MtR X id r) (hf : B2 X.K T r f) (ho : QF X o ga) (ha : QFA X (e :: es) gl)
    (hbase : attributeBase o name X.env (eval o X.env) = eval o X.env := by rfl)
    (hfew : ((backTo cp (starEach (e :: es) X.env)).all (fun x => !x.1) && (backToKw cp (keywordEach [] X.env)).all (fun x => x.1.isSome)
      && decide ((e :: es).length + ([] : List Keyword).length + (if ([] : List Keyword).isEmpty then 0 else 1) < 30)) = true := by rfl)
    (hline : (ap.endLine == cp.line) = true := by rfl) (hs : starEach (e :: es) X.env = (false, eval e X.env) :: starEach es X.env := by rfl) (hplain : (backTo cp (starEach es X.env)).any (·.1) = false := by rfl) :
    QF X (.Call (.Attribute o name ap) (e :: es) [] cp) (fun ρ => ga ρ >>= fun x => if jc T x = true then gl ρ >>= fun ds => ofO (f x ds) else .no) := by
  intro pins s σ H Q I h
  refine wo pa slot hty hm ho ha hbase hfew hline hs hplain pins s σ H Q I ?_
  obtain ⟨G, ρ, st, h⟩ := h
  refine tG.intro st h fun x v G1 H1 u1 st1 r1 h1 => ?_
  by_cases hk : jc T x = true
  . rw [if_pos hk] at h1
    have ty : tyV X.K T v H1 := by
      cases r1 with
      | str y hy => exact show T = "str" by simpa [jc] using hk
      | lst hh t => exact .inl ⟨by simpa [jc] using hk, _, .of (st1.sub _ _ hh)⟩
      | fls hh t => exact .inl ⟨by simpa [jc] using hk, _, hh.mono st1.sub⟩
      | _ => cases hk
    refine ⟨ty, tG.intro st1 h1 fun ds vs G2 H2 u2 st2 r2 h2 => ?_⟩
    obtain ⟨d, e', q⟩ := ofO.ok h2
    exact hf G2 H2 v vs x ds d Q st2.sub (r1.mono u2.gg) r2 e' q
  . rw [if_neg hk] at h1; exact h1.elim
theorem yy {A : Around} {s : Shared} {bs : List Bool} (k : Bool) : ∀ y, y ∈ (bs.map Value.bool).toArray -> SeqAt.EqAt A s y (.bool k) (y == .bool k) := fun y hy => by
  obtain ⟨b, _, rfl⟩ := List.mem_map.mp (List.mem_toArray.mp hy)
  have := SeqAt.EqAt.bool_bool (A := A) (s := s) b k
  have e : (Value.bool b == Value.bool k) = (b == k) := by cases b <;> cases k <;> rfl
  rw [e]; exact this
def yd (K : PySem.W.Frag) : V -> List V -> Hp -> VK -> Prop := fun x vs H Q => ∃ (l : Addr) (bs : List Bool) (k : Bool), x = .ref l /\ vs = [.bl k] /\ SqL K H l (bs.map V.bl) /\ Q (.int (bs.count k : Nat)) H
theorem uc (bs : List Bool) (k : Bool) : (bs.map Value.bool).countP (· == .bool k) = bs.count k := by
  rw [List.countP_map]
  unfold List.count
  congr 1
  funext b
  cases b <;> cases k <;> rfl
theorem wy : MtR X "list.count" (yd X.K) := by
  intro pins s σ H x xs v us Q I rx rv ⟨l, bs, k, ex, exs, hs, q⟩
  subst ex exs
  cases rx
  obtain ⟨u, rfl, r1⟩ := rv.one
  cases r1
  obtain ⟨its, rv', ⟨⟨cls, dd, data, sl⟩, n, eo, c, _, d⟩, hz⟩ := I.list hs
  obtain rfl := rv'.bls
  simp only at c d
  subst c d
  refine call_meets F.slot_list_count ⟨_, eo, rfl⟩ F.entry_list_count (F.args_list_count_2 _ _) (SeqAt.list_countAt l (bs.map Value.bool).toArray n dd sl (.bool k) (· == .bool k)) ⟨eo, yy k, ?_⟩
  rw [List.toList_toArray, uc]
  exact ⟨.int _, H, I.tok _, ⟨_, rfl⟩, q⟩
def lI : D -> List D -> Option D
  | .lst _ ds, [.bl k] => (rf ds).map fun bs => .int (bs.count k : Nat)
  | _, _ => none
theorem xL (K : PySem.W.Frag) : B2 K "list" (yd K) lI := by
  intro G H x xs dx ds d Q s rx rs e q
  unfold lI at e
  split at e
  . rename_i f ds k
    obtain ⟨v, rfl, r1⟩ := rs.one
    obtain rfl := r1.bl_inv
    obtain ⟨a, vs, rfl, h, t⟩ := rx.seq_inv
    cases eb : rf ds with
    | none => rw [eb] at e; cases e
    | some bs =>
      rw [eb] at e
      cases e
      obtain rfl := t.bls eb
      exact ⟨a, bs, k, rfl, rfl, h.mono s, q _ G H (.refl s) (.int _)⟩
  . cases e
def yu (K : PySem.W.Frag) : V -> List V -> Hp -> VK -> Prop := fun x vs H Q => ∃ (l : Addr) (bs : List Bool) (k : Bool), x = .ref l /\ vs = [.bl k] /\ SqL K H l (bs.map V.bl) /\ k ∈ bs /\ Q (.int (bs.idxOf k : Nat)) H
theorem ly (k : Bool) : ∀ (bs : List Bool) (m : Nat), m < bs.idxOf k -> bs[m]? ≠ some k
  | [], m, h => by simp
  | b :: bs, m, h => by
    rw [List.idxOf_cons] at h
    cases hb : (b == k) with
    | true => rw [hb] at h; exact absurd h (Nat.not_lt_zero _)
    | false =>
      rw [hb] at h
      cases m with
      | zero => intro e; have e1 := Option.some.inj e; rw [e1, beq_self_eq_true] at hb; cases hb
      | succ m => rw [List.getElem?_cons_succ]; exact ly k bs m (Nat.lt_of_succ_lt_succ h)
theorem wI : MtR X "list.index" (yu X.K) := by
  intro pins s σ H x xs v us Q I rx rv ⟨l, bs, k, ex, exs, hs, hk, q⟩
  subst ex exs
  cases rx
  obtain ⟨u, rfl, r1⟩ := rv.one
  cases r1
  obtain ⟨its, rv', ⟨⟨cls, dd, data, sl⟩, n, eo, c, _, d⟩, hz⟩ := I.list hs
  obtain rfl := rv'.bls
  simp only at c d
  subst c d
  have hlt : bs.idxOf k < bs.length := List.idxOf_lt_length_iff.mpr hk
  have hsz : bs.length <= sizeLine := by simpa using hz
  have h63 := ku
  have tob : ∀ a b : Bool, (Value.bool a == Value.bool b) = (a == b) := fun a b => by cases a <;> cases b <;> rfl
  refine call_meets F.slot_list_index ⟨_, eo, rfl⟩ F.entry_list_index (F.args_list_index_2 _ _) (SeqAt.list_indexAt l (bs.map Value.bool).toArray n dd sl (.bool k) (· == .bool k) (bs.idxOf k) (by simpa using hlt) (by omega) ?_ ?_) ⟨eo, yy k, ?_⟩
  . simp only [List.getElem_toArray, List.getElem_map, tob]
    exact beq_iff_eq.mpr (List.getElem_idxOf hlt)
  . intro m hm hlt'
    simp only [List.getElem_toArray, List.getElem_map, tob]
    have hm' : m < bs.length := by simpa using hm
    cases hq : (bs[m] == k) with
    | false => rfl
    | true => exact absurd (by rw [List.getElem?_eq_getElem hm', beq_iff_eq.mp hq]) (ly k bs m hlt')
  . exact ⟨.int _, H, I.tok _, ⟨_, rfl⟩, q⟩
def lD : D -> List D -> Option D
  | .lst _ ds, [.bl k] => (rf ds).bind fun bs => if k ∈ bs then some (.int (bs.idxOf k : Nat)) else none
  | _, _ => none
theorem wm (K : PySem.W.Frag) : B2 K "list" (yu K) lD := by
  intro G H x xs dx ds d Q s rx rs e q
  unfold lD at e
  split at e
  . rename_i f ds k
    obtain ⟨v, rfl, r1⟩ := rs.one
    obtain rfl := r1.bl_inv
    obtain ⟨a, vs, rfl, h, t⟩ := rx.seq_inv
    cases eb : rf ds with
    | none => rw [eb] at e; cases e
    | some bs =>
      rw [eb, Option.bind_some] at e
      split at e
      . rename_i hk
        cases e
        obtain rfl := t.bls eb
        exact ⟨a, bs, k, rfl, rfl, h.mono s, hk, q _ G H (.refl s) (.int _)⟩
      . cases e
  . cases e
theorem sJ {ap cp : Pos} (ho : QF X o ga) (ha : QFA X [e] gl) (hbase : attributeBase o "count" X.env (eval o X.env) = eval o X.env := by rfl)
    (hfew : ((backTo cp (starEach [e] X.env)).all (fun x => !x.1) && (backToKw cp (keywordEach [] X.env)).all (fun x => x.1.isSome)
      && decide ([e].length + ([] : List Keyword).length + (if ([] : List Keyword).isEmpty then 0 else 1) < 30)) = true := by rfl)
    (hline : (ap.endLine == cp.line) = true := by rfl) (hs : starEach [e] X.env = (false, eval e X.env) :: starEach [] X.env := by rfl) :
    QF X (.Call (.Attribute o "count" ap) [e] [] cp) (fun ρ => ga ρ >>= fun x => if jc "list" x = true then gl ρ >>= fun ds => ofO (lI x ds) else .no) :=
  kN PySem.F.plainAttrs_list PySem.F.slot_list_count PySem.F.type_list_count wy (xL _) ho ha hbase hfew hline hs rfl
theorem sA {ap cp : Pos} (ho : QF X o ga) (ha : QFA X [e] gl) (hbase : attributeBase o "index" X.env (eval o X.env) = eval o X.env := by rfl)
    (hfew : ((backTo cp (starEach [e] X.env)).all (fun x => !x.1) && (backToKw cp (keywordEach [] X.env)).all (fun x => x.1.isSome)
      && decide ([e].length + ([] : List Keyword).length + (if ([] : List Keyword).isEmpty then 0 else 1) < 30)) = true := by rfl)
    (hline : (ap.endLine == cp.line) = true := by rfl) (hs : starEach [e] X.env = (false, eval e X.env) :: starEach [] X.env := by rfl) :
    QF X (.Call (.Attribute o "index" ap) [e] [] cp) (fun ρ => ga ρ >>= fun x => if jc "list" x = true then gl ρ >>= fun ds => ofO (lD x ds) else .no) :=
  kN PySem.F.plainAttrs_list PySem.F.slot_list_index PySem.F.type_list_index wI (wm _) ho ha hbase hfew hline hs rfl
end
end L2
namespace L2
open PySem PySem.Spec PyProof.Rows
def mH : List Nat -> List D -> Ev -> R Ev
  | [], [], ρ => .ok ρ
  | i :: is, d :: ds, ρ => mH is ds (ρ.set i (some (.val d)))
  | _, _, _ => .no
theorem lQ : ∀ (is : List Nat) (ds : List D) (ρ : Ev) (C : Addr), mH is ds ρ ≠ .ex C
  | [], [], _, _ => by intro z; cases z
  | [], _ :: _, _, _ => by intro z; cases z
  | _ :: _, [], _, _ => by intro z; cases z
  | i :: is, d :: ds, ρ, C => lQ is ds _ C
section
variable {X : Cx} {e : Expr} {es : List Expr} {ga : Ev -> R D} {gl : Ev -> R (List D)} {pos : Pos}
def AM (X : Cx) (es : List Expr) (is : List Nat) : Prop := PGs X es (fun vs σ H Q => ∃ G₀ H₀ G ρ ds ρ', StR X.K G₀ H₀ G H σ ρ /\ Reps X.K G vs ds /\ mH is ds ρ = .ok ρ' /\ ∀ σ', StR X.K G₀ H₀ G H σ' ρ' -> Q σ' H)
theorem qS : AM X [] [] := by
  intro pins s σ H vs us Q I r h
  obtain ⟨G₀, H₀, G, ρ, ds, ρ', sr, rd, e, q⟩ := h
  refine zl pins s σ H vs us Q I r ?_
  cases rd with
  | nil => cases e; exact ⟨rfl, q σ sr⟩
  | cons _ _ => cases e
theorem eI (i : Nat) {x : Str} {p : Pos} {is : List Nat} (hN : X.N.Nodup) (h2 : AM X es is) (hi : X.N[i]? = some x := by rfl) (hx : Loc X.env.scope x := by first | exact Or.inl rfl | exact Or.inr rfl)
    (hs : (assignEach (.Name x p :: es) X.env).map (·.2) = assign (.Name x p) X.env :: (assignEach es X.env).map (·.2) := by rfl) (hf : X.fn x = true \/ X.env.scope.names.lookup x = some .local := by first | exact .inl rfl | exact .inr rfl) :
    AM X (.Name x p :: es) (i :: is) := by
  intro pins s σ H vs us Q I r h
  obtain ⟨G₀, H₀, G, ρ, ds, ρ', sr, rd, e, q⟩ := h
  refine wj (nl (i := i) hN hi hx hf) h2 hs pins s σ H vs us Q I r ?_
  cases rd with
  | nil => cases e
  | cons r1 t1 => exact ⟨_, _, rfl, G₀, H₀, G, _, _, ρ', sr.set r1 i, t1, e, q⟩
def yo (is : List Nat) (d : D) (ρ : Ev) : R Ev := match d with
  | .tup ds => mH is ds ρ
  | _ => .no
theorem og : ∀ (is : List Nat) (ds : List D) (ρ ρ' : Ev), mH is ds ρ = .ok ρ' -> ds.length = is.length
  | [], [], _, _, _ => rfl
  | [], _ :: _, _, _, e => by cases e
  | _ :: _, [], _, _, e => by cases e
  | i :: is, d :: ds, ρ, ρ', e => by simp [og is ds _ ρ' e]
theorem AE {k : Nat} {is : List Nat} (hc : X.calm = true) (h : AM X es is) (hn : (assignEach es X.env).length = is.length := by rfl) (hst : (assignEach es X.env).findIdx? (·.1) = none := by rfl) : PGF X (.Tuple es k pos) (yo is) := by
  intro pins s σ H v u Q I r q
  obtain ⟨G₀, H₀, G, ρ, d, ρ', sr, rd, e, q⟩ := q
  refine Bu hc h hn hst pins s σ H v u Q I r ?_
  cases rd with
  | tup hh t =>
    rename_i ds
    exact ⟨_, _, rfl, hh.mono sr.e.sub, by rw [t.length]; exact og is ds ρ ρ' e, G₀, H₀, G, ρ, ds, ρ', sr, t, e, q⟩
  | _ => cases e
theorem vk (is : List Nat) : ∀ (d : D) (ρ : Ev) (C : Addr), yo is d ρ ≠ .ex C := fun d ρ C => by
  cases d with
  | tup ds => exact lQ is ds ρ C
  | _ => intro z; cases z
theorem rG (i j : Nat) {x y : Str} {a b : Expr} {px py pt pt2 : Pos} {kt k2 : Nat} (hc : X.calm = true) (hN : X.N.Nodup) (ha : QFA X [a, b] gl) (hij : i ≠ j) (hi : X.N[i]? = some x := by rfl) (hj : X.N[j]? = some y := by rfl)
    (hx : X.env.scope.names.lookup x = some .local := by rfl) (hy : X.env.scope.names.lookup y = some .local := by rfl)
    (hw : swappedStores [.Tuple [.Name x px, .Name y py] kt pt] (.Tuple [a, b] k2 pt2) X.env = pure (some [x, y]) := by rfl)
    (hs : swapsWithSole [.Tuple [.Name x px, .Name y py] kt pt] (.Tuple [a, b] k2 pt2) pos.line X.env = pure false := by rfl) :
    QSF X (.Assign [.Tuple [.Name x px, .Name y py] kt pt] (.Tuple [a, b] k2 pt2) pos) (fun ρ => (gl ρ).out ρ fun ds => (mH [i, j] ds ρ).out ρ .nx) := fun G₀ H₀ pins s σ H D I h => by
  refine AX hc hN hi hj hij hx hy ha hw hs pins s σ H D I ?_
  obtain ⟨G, ρ, sr, h⟩ := h
  dsimp only at h
  refine ⟨G, ρ, sr.e, ?_⟩
  cases q : gl ρ with
  | ok ds =>
    rw [q] at h
    simp only [R.out] at h
    intro vs G' H' u r
    cases r with
    | nil => exact h.elim
    | cons r1 t1 =>
      cases t1 with
      | nil => exact h.elim
      | cons r2 t2 =>
        cases t2 with
        | nil => exact ⟨_, _, rfl, h _ G' H' (((sr.ups u).set r1 i).set r2 j)⟩
        | cons _ _ => exact h.elim
  | ex C => rw [q] at h; exact Exx.of sr h
  | no => rw [q] at h; exact h
theorem ow {x : Str} {np cp : Pos} {C : Addr} {bm : List Value} {B newId initId : String} (Oc : OwnCls x C bm newId X.mg X.base) (FB : ExcBaseFacts B newId initId bm) (hh : X.A.handled = none) (hg : Gl X x) (ha : QFA X [e] gl)
    (hdb : (x == ("__debug__" : Str)) = false := by decide) (hs : starEach [e] X.env = (false, eval e X.env) :: starEach [] X.env := by rfl) (hz : ∀ ρ ds, gl ρ = .ok ds -> ds.length <= 1 := by intro _ _ z; first | (cases z; decide) | skip) :
    QSF X (.Raise (some (.Call (.Name x np) [e] [] cp)) none pos) (fun ρ => (gl ρ).out ρ fun _ => .ex C ρ) := fun G₀ H₀ pins s σ H D I h => by
  obtain ⟨G, ρ, sr, h⟩ := h
  dsimp only at h
  obtain ⟨tl, N, nm, qn, bs, hdct, sn, sub, ab, col, dd, k0, k1, k2, k3, k5, mN, hC, hN, hni, T⟩ := Oc.obj
  refine wpAny_Raise_call_subT (C := C) (nm := nm) (q := qn) (N := N) (bs := bs) (bm := tl) (hdct := hdct) (sn := sn) (sub := sub) (ab := ab) (col := col) (dd := dd) (k0 := k0) (k1 := k1) (k2 := k2) (k3 := k3) (k5 := k5)
    FB (mN := mN) (T.hasType FB.hasBase) hh (by rw [hs]; rfl) hni (nc I hg Oc.bound ⟨rfl, ?_⟩ hdb)
  have t : tAF X gl σ H (fun vs H1 => vs.length <= sizeLine /\ ∃ G1, Up G H G1 H1 /\ oj X G₀ H₀ D (.ex C ρ)) := by
    refine ⟨G, ρ, sr.e, ?_⟩
    cases q : gl ρ with
    | ok ds =>
      rw [q] at h
      intro vs G1 H1 u r
      exact ⟨by rw [r.length]; exact Nat.le_trans (hz ρ ds q) (by decide), G1, u, h⟩
    | ex C' => rw [q] at h; exact Exx.of sr h
    | no => rw [q] at h; exact h
  have hA := ha cp pins s σ H _ I t
  rw [hs] at hA ⊢
  refine Calls.evalArgs_plain (wpAny_mono hA (fun vs s₂ q => ?_) fun _ _ y => y)
  obtain ⟨vs', H1, I1, r, hz, G1, u, h⟩ := q
  exact ⟨rfl, by show vs.length <= sizeLine; rw [<- r.length]; exact hz, I1.bk _ _ hC, hN.keeps I1.bk, T.keeps I1.bk, fun h' a made => h _ _ ⟨σ, G1, H1, sr.ups u, pins, s₂, a, rfl, I1, .inl ⟨h', vs, made, rfl⟩⟩⟩
end
section
variable {X : Cx} {pins : List (Addr × Obj)} {σ : St} {H : Hp} {s : Shared}
theorem Inv.unset {i : Nat} {x : Str} {h' : Heap} {m : Str -> Option Value} {u : Option Value} (I : Inv X pins σ H s) (hN : X.N.Nodup) (hi : X.N[i]? = some x)
    (hm : ∀ (j : Nat) (y : Str) (v : V), X.N[j]? = some y -> σ[j]? = some (some v) -> Vis X.env.scope y -> ∃ u, RelV v u /\ Ef X.env s.heap m y u) (hn : h'.Ns X.env.locals (fun y => if y = x then u else m y)) (sb : Heap.SameBut X.env.locals s.heap h') :
    Inv X pins (σ.set i none) H { s with heap := h' } := by
  have kp : ∀ b o, b ≠ X.env.locals -> s.heap.get? b = some o -> h'.get? b = some o := fun b o hb e => (sb.2 b hb).trans e
  refine ⟨I.ok, I.os, I.bare, I.base.sameBut kp I.ok.above, ⟨_, hn, fun j y v h1 h2 h3 => ?_⟩, fun y c e => ?_, I.free, I.freeC, fun p hp => ?_, I.hok.sameBut kp I.free, by simp [I.len]⟩
  . have hj : i ≠ j := fun z => by
      subst z
      rw [List.getElem?_set] at h2
      simp only [if_true] at h2
      split at h2 <;> cases h2
    rw [List.getElem?_set_ne hj] at h2
    have hy : y ≠ x := fun z => hj (lW hN hi (z ▸ h1))
    obtain ⟨w, rw', lk⟩ := hm j y v h1 h2 h3
    refine ⟨w, rw', ?_⟩
    rcases lk with ⟨k, e⟩ | ⟨k, c, hc, cell⟩
    . exact .inl ⟨k, by show (if y = x then u else m y) = some w; rw [if_neg hy]; exact e⟩
    . exact .inr ⟨k, c, hc, cell.sameBut sb (I.cne y c hc)⟩
  . obtain ⟨v, q⟩ := I.cell y c e
    exact ⟨v, q.sameBut sb (I.cne y c e)⟩
  . obtain ⟨p1, p2, p3, p4, p5⟩ := I.pin p hp
    exact ⟨kp _ _ p3 p1, p2, p3, p4, p5⟩
theorem Inv.cx {A' : Around} {calm' : Bool} {pn' pins' : List (Addr × Obj)} {xe' : Value -> Shared -> Prop} (I : Inv X pins σ H s) (hp : ∀ p ∈ pn' ++ pins', p ∈ X.pn ++ pins) (hA : A'.frames = X.A.frames) (hd : calm' = true -> A'.handled = none) :
    Inv { X with A := A', calm := calm', pn := pn', xe := xe' } pins' σ H s :=
  ⟨⟨I.ok.mod, I.ok.kind, I.ok.glob, I.ok.blt, I.ok.above, I.ok.inj, I.ok.has, I.ok.cab, hd, hA.trans I.ok.frames, I.ok.stk, I.ok.exf, I.ok.bs, I.ok.bsz, I.ok.noex, I.ok.exfs, I.ok.funs, I.ok.frf⟩,
    I.os, I.bare, I.base, I.loc, I.cell, I.free, I.freeC, fun p q => I.pin p (hp p q), I.hok, I.len⟩
end
end L2
namespace L2
open PySem PySem.Spec PyProof.Rows
def wr (gb gs : Ev -> O) (f : Addr -> Option Bool) (i : Nat) : Ev -> O := fun ρ => match gb ρ with
  | .ex C ρ' => (match f C with
    | some true => (match gs (ρ'.set i (some (.val (.exc C)))) with
      | .nx ρ'' => .nx (ρ''.set i none)
      | _ => .no)
    | _ => .no)
  | o => o
section
variable {X : Cx} {body suite : List Stmt} {b₀ : Stmt} {gb gs : Ev -> O} {pos hp tp : Pos} {tn nm : Str} {Ct : Addr}
abbrev jd (X : Cx) (pn : List (Addr × Obj)) (xe : Value -> Shared -> Prop) : Cx := { X with A := X.A, calm := X.calm, pn := pn, xe := xe }
abbrev iw (X : Cx) (a : Addr) (xe : Value -> Shared -> Prop) : Cx := { X with A := X.A.mark (some (.ref a)), calm := false, pn := X.pn, xe := xe }
theorem sB (i : Nat) (f : Addr -> Option Bool) (hN : X.N.Nodup) (hcalm : X.calm = true) (hst : X.stack = X.env :: X.outer) (hfr : X.env.frame = some X.env.locals) (hkd : X.env.scope.kind = .function)
    (hb : ∀ pn xe, kW (jd X pn xe) body gb) (hh : ∀ a xe, kW (iw X a xe) (b₀ :: suite) gs) (hf : ∀ C, f C = some true -> PySem.W.exmOne X.K (.ref C) (.ref Ct) = some true) (hg : Gl X tn) (hm : X.mg tn = some (.ref Ct))
    (hi : X.N[i]? = some nm) (hx : X.env.scope.names.lookup nm = some .local) (hdb : (tn == ("__debug__" : Str)) = false := by decide) :
    QSF X (.Try body [.ExceptHandler (some (.Name tn tp)) (some nm) (b₀ :: suite) hp] [] [] pos) (wr gb gs f i) := fun G₀ H₀ pins s σ H D I h => by
  obtain ⟨G, ρ, sr, h⟩ := h
  refine wpAny_Try_except ?_
  have fs : frs X.stack = X.env.locals :: frs X.outer := by rw [hst]; exact rj hfr
  -- the body
  have I1 : ∀ xe, Inv (jd X (X.pn ++ pins) xe) [] σ H s := fun xe => I.cx (fun p q => by simpa using q) rfl I.ok.hd
  have back : ∀ {xe : Value -> Shared -> Prop} {pins' : List (Addr × Obj)} {σ' : St} {H' : Hp} {s' : Shared}, Inv (jd X (X.pn ++ pins) xe) pins' σ' H' s' -> Inv X pins σ' H' s' := fun J =>
    (J.cx (pn' := X.pn) (pins' := pins) (xe' := X.xe) (fun p q => List.mem_append_left _ q) rfl J.ok.hd : Inv { (jd X (X.pn ++ pins) _) with A := X.A, calm := X.calm, pn := X.pn, xe := X.xe } pins _ _ _)
  refine wpAny_mono (hb (X.pn ++ pins) (fun e s₁ => wpAny (model X.prog X.w) X.A (noteFrame e X.env) (fun _ s₂ => wpAny (model X.prog X.w) X.A (setFlight e none) (fun _ s₃ =>
      wpAny (model X.prog X.w) X.A (handleBy e X.env [.ExceptHandler (some (.Name tn tp)) (some nm) (b₀ :: suite) hp]) (SP X pins D) X.xe s₃) X.xe s₂) X.xe s₁) G₀ H₀ [] s σ H D (I1 _) ⟨G, ρ, sr, ?_⟩) (fun fl s₁ q => ?_) fun e s₁ q => q
  case refine_2 =>
    cases fl with
    | next => obtain ⟨σ', H', J, q⟩ := q; exact wpAny_execs_nil ⟨σ', H', back J, q⟩
    | brk => obtain ⟨σ', H', J, q⟩ := q; exact ⟨σ', H', back J, q⟩
    | cont => obtain ⟨σ', H', J, q⟩ := q; exact ⟨σ', H', back J, q⟩
    | ret u => obtain ⟨v, σ', H', J, r, q⟩ := q; exact ⟨v, σ', H', back J, r, q⟩
  unfold wr at h
  cases q : gb ρ with
  | nx ρ' => rw [q] at h; exact h
  | rt d => rw [q] at h; exact h
  | bk ρ' => rw [q] at h; exact h
  | ct ρ' => rw [q] at h; exact h
  | no => rw [q] at h; exact h.elim
  | ex C ρ' =>
    rw [q] at h
    dsimp only at h
    cases qf : f C with
    | none => rw [qf] at h; exact h.elim
    | some b =>
      cases b with
      | false => rw [qf] at h; exact h.elim
      | true =>
        rw [qf] at h
        dsimp only at h
        cases qs : gs (ρ'.set i (some (.val (.exc C)))) with
        | nx ρ'' =>
          rw [qs] at h
          intro e s' fl
          obtain ⟨σ', G₁, H₁, sr', pins₁, s₁, a, rfl, J0, way⟩ := fl
          have J₁ : Inv X pins σ' H₁ s₁ := back J0
          -- from a heap in which it is held
          have cont : ∀ {H' G' : Hp} {s' : Shared} {B : Heap} {a0 : Value} {h₄ : Heap}, s'.os = s₁.os -> AllBare s'.gens -> Un (frs X.stack) [] H₁ H' s₁.heap s'.heap -> HOk X.prog X.w H' s'.heap -> H' a = none -> s₁.heap.get? a = none -> Up G₁ H₁ G' H' ->
              (∀ b o, b ∉ frs X.stack -> ((∃ o0, s₁.heap.get? b = some o0) \/ ∃ u, H' b = some u) -> s'.heap.get? b = some o -> B.get? b = some o) -> Heap.HeldW B (X.env :: X.outer) a (.ref C) a0 X.env.locals h₄ -> s'.heap.UpToSlots h₄ ->
              wpAny (model X.prog X.w) X.A (setFlight (.ref a) none) (fun _ s₃ => wpAny (model X.prog X.w) X.A (handleBy (.ref a) X.env [.ExceptHandler (some (.Name tn tp)) (some nm) (b₀ :: suite) hp]) (SP X pins D) X.xe s₃) X.xe { s' with heap := h₄ } := by
            intro H' G' s' B a0 h₄ os bare un hok ha hnew up hk held sm
            have J' : Inv X pins σ' H' s' := J₁.call' (ch := []) os un hok bare (fun b z => absurd z (by simp))
            have dat : ∀ b ∈ frs X.stack, ∀ o, s'.heap.get? b = some o -> ∀ vs, o.data ≠ .fields vs := fun b hb o e => by
              obtain ⟨o', e', d', _⟩ := FunFrames.data J'.stack b hb
              rw [e] at e'; cases e'; exact d'
            -- the state at a later heap
            have at_ : ∀ {h5 : Heap}, B.StaysIn h5 -> s'.heap.UpToSlots h5 -> Un (frs X.stack) [] H₁ H' s₁.heap h5 /\ HOk X.prog X.w H' h5 := fun {h5} hb5 sm5 =>
              ⟨un.flight hb5 sm5 hk (fun b o e => ⟨o, e⟩) (fun b hb => .inl hb) dat, hok.flight hb5 hk J'.stkFree⟩
            refine wpAny_landsW held fun h₅ fl₅ sm₅ => ?_
            obtain ⟨un₅, hok₅⟩ := at_ fl₅.1 (sm.trans sm₅)
            have J₅ : Inv X pins σ' H' { s' with heap := h₅ } := J₁.call' (s' := { s' with heap := h₅ }) (ch := []) os un₅ hok₅ bare (fun b z => absurd z (by simp))
            have S₅ : Inv (iw X a fun _ _ => False) pins σ' H' { s' with heap := h₅ } := J₅.cx (fun p q => q) rfl (fun z => by cases z)
            obtain ⟨ob, hob, hobc⟩ := fl₅.there
            refine wpAny_handleBy_cons (codeAny_handlers_test (nc S₅ hg hm ?_ hdb)) (by intro z; cases z)
            refine (PySem.W.exm_one (M := model X.prog X.w) S₅.kIn (hobc ▸ (PySem.W.Looks.ld hob).andThen .now) (hf C qf)).here ?_
            show codeAny _ _ _ _ _
            refine codeAny_handlers_suite_as ?_
            refine lands_againW fl₅ fun h₆ fl₆ sm₆ => ?_
            obtain ⟨un₆, hok₆⟩ := at_ fl₆.1 ((sm.trans sm₅).trans sm₆)
            obtain ⟨ob6, hob6, hobc6⟩ := fl₆.there
            -- it is spoken of from now on
            have hokA : HOk X.prog X.w (upd H' a (.ext (gm a C))) h₆ := fun b o e => by
              by_cases eb : b = a
              . subst eb
                rw [bq] at e
                cases e
                exact ⟨⟨ob6, hob6, hobc6⟩, ⟨ob6, hob6⟩, fun h1 h2 ⟨ob, e1, e2⟩ k => ⟨ob, k _ e1, e2⟩⟩
              . rw [bi eb] at e
                refine (hok₆ b o e).stay (fun _ _ _ z => z) (fun c z => ?_) (fun c xs z => ?_)
                . rw [bi (aZ z ha)]; exact z
                . rw [bi (aZ z ha)]; exact z
            have unA : Un (frs X.stack) [] H₁ (upd H' a (.ext (gm a C))) s₁.heap h₆ := by
              refine ⟨un₆.keep, un₆.slot, fun b o e n x => ?_, un₆.there, fun b xs z => ?_, fun b o u z => ?_, fun b ps z => ?_⟩
              . rw [bi (fun z => by rw [z, hnew] at e; cases e)]; exact un₆.free b o e n x
              . have := un₆.tups b xs z; rw [bi (aZ this ha)]; exact this
              . have := un₆.frzs b o u z; rw [bi (aZ this ha)]; exact this
              . obtain ⟨more, this⟩ := un₆.tbls b ps z; exact ⟨more, by rw [bi (aZ this ha)]; exact this⟩
            have J₆ : Inv X pins σ' (upd H' a (.ext (gm a C))) { s' with heap := h₆ } := J₁.call' (s' := { s' with heap := h₆ }) (ch := []) os unA hokA bare (fun b z => absurd z (by simp))
            have upA : Up G₁ H₁ (upd G' a (.ext (gm a C))) (upd H' a (.ext (gm a C))) := up.trans (.new up.sub ha)
            have S₆ : Inv (iw X a fun _ _ => False) pins σ' (upd H' a (.ext (gm a C))) { s' with heap := h₆ } := J₆.cx (fun p q => q) rfl (fun z => by cases z)
            refine jm (X := iw X a fun _ _ => False) S₆ hN hi (.inl hx) (v := .ref a) rfl (fun s₇ S₇ => ?_) (.inr hx)
            have sr7 := (sr'.ups upA).set (.exc bq : Rep X.K (upd G' a (.ext (gm a C))) (.ref a) (.exc C)) i
            refine wpAny_mono (hh a (fun _ _ => False) G₀ H₀ pins s₇ _ _ { nx := fun σ₈ H₈ => ∃ G₈, StR X.K G₀ H₀ G₈ H₈ σ₈ ρ'', rt := fun _ _ => False } S₇ ⟨_, _, sr7, by rw [qs]; exact fun σ₈ G₈ H₈ sr8 => ⟨G₈, sr8⟩⟩) (fun fl s₈ q8 => ?_) fun _ _ z => z.elim
            cases fl with
            | next =>
              obtain ⟨σ₈, H₈, S₈, G₈, sr8⟩ := q8
              have J₈ : Inv X pins σ₈ H₈ s₈ := (S₈.cx (pn' := X.pn) (pins' := pins) (A' := X.A) (calm' := X.calm) (xe' := X.xe) (fun p q => q) rfl I.ok.hd : Inv { (iw X a fun _ _ => False) with A := X.A, calm := X.calm, pn := X.pn, xe := X.xe } pins _ _ _)
              refine wpAny_bind (wpAny_bindName (kx J₈ hN hi (.inl hx) (v := .non) rfl (fun s₉ J₉ _ => ?_) (.inr hx)))
              obtain ⟨m9, hn9, hl9⟩ := id J₉.loc
              have hlt : i < σ₈.length := by rw [J₈.len]; exact (List.getElem?_eq_some_iff.mp hi).1
              obtain ⟨u9, r9, lk9⟩ := hl9 i nm .non hi (by rw [List.getElem?_set_self hlt]) (.inl hx)
              have hv9 : m9 nm = some u9 := by
                rcases lk9 with ⟨_, e⟩ | ⟨k, _⟩
                . exact e
                . have k' : X.env.scope.names.lookup nm = some .cell \/ X.env.scope.names.lookup nm = some .free := k
                  rw [hx] at k'; rcases k' with k' | k' <;> cases k'
              refine wpAny_onRaise (wpAny_unbindName_local hx hn9 hv9 (by rw [hkd]; rfl) fun h10 u10 hn10 sb10 => ?_)
              have J10 := J₉.unset hN hi hl9 hn10 sb10
              refine ⟨_, _, J10, ?_⟩
              have e10 : (σ₈.set i (some V.non)).set i none = σ₈.set i none := by rw [List.set_set]
              rw [e10]
              refine h _ G₈ _ ?_
              -- the slot is forgotten
              have get : ∀ (j : Nat) x, (ρ''.set i none)[j]? = some (some x) -> j ≠ i /\ ρ''[j]? = some (some x) /\ (σ₈.set i none)[j]? = σ₈[j]? := fun j x e => by
                by_cases ej : i = j
                . subst ej
                  rw [List.getElem?_set] at e
                  simp only [if_true] at e
                  split at e <;> cases e
                . rw [List.getElem?_set_ne ej] at e
                  exact ⟨fun z => ej z.symm, e, List.getElem?_set_ne ej⟩
              refine ⟨⟨sr8.e.sub, by simp [sr8.e.len], fun j d e => ?_⟩, sr8.sub0, sr8.up, fun j ds e => ?_, fun j k ds es l e1 e2 e3 e4 => ?_⟩
              . obtain ⟨_, e1, e2⟩ := get j _ e; rw [e2]; exact sr8.e.val j d e1
              . obtain ⟨_, e1, e2⟩ := get j _ e; rw [e2]; exact sr8.own j ds e1
              . obtain ⟨_, f1, f2⟩ := get j _ e1
                obtain ⟨_, f3, f4⟩ := get k _ e2
                exact sr8.inj j k ds es l f1 f3 (f2 ▸ e3) (f4 ▸ e4)
            | brk => obtain ⟨_, _, _, z⟩ := q8; exact z.elim
            | cont => obtain ⟨_, _, _, z⟩ := q8; exact z.elim
            | ret u => obtain ⟨_, _, _, _, _, z⟩ := q8; exact z.elim
          have hfrm : X.A.frames = some (X.env :: X.outer) := by rw [<- hst]; exact I.ok.frames
          rcases way with ⟨h', vs, made, rfl⟩ | ⟨G', H', ⟨os, bare, un, hok, ha, B, a0, fl, hk⟩, up⟩
          . have hin : ∀ env ∈ X.stack, ∀ b, env.frame = some b -> b ∈ frs X.stack := fun env he b hb => List.mem_filterMap.mpr ⟨env, he, hb⟩
            have ha : H₁ a = none := by
              cases q : H₁ a with
              | none => rfl
              | some u =>
                obtain ⟨ob, e⟩ := (J₁.hok a u q).there
                rw [made.new] at e; cases e
            obtain ⟨t, he, htn, ht⟩ := made.there
            have hkb : (PySem.W.hideAll s₁.heap (frs X.stack)).StaysIn h' := fun b o q => made.keeps b o (PySem.W.of_hideAll _ q)
            have hen : (PySem.W.hideAll s₁.heap (frs X.stack)).get? a = none := by
              cases q : (PySem.W.hideAll s₁.heap (frs X.stack)).get? a with
              | none => rfl
              | some o => have := PySem.W.of_hideAll _ q; rw [made.new] at this; cases this
            have hff : h'.FunFrames (PySem.W.hideAll s₁.heap (frs X.stack)) (X.env :: X.outer) := by
              rw [<- hst]
              exact (PySem.W.funFrames_hide J₁.stack hin).of_keeps fun b o hb _ => ⟨o, made.keeps b o hb, rfl⟩
            show wpAny _ _ (noteFrame (.ref a) X.env) _ _ _
            unfold noteFrame
            simp only [hfr]
            refine wpAny_bind (wpAny_field (show ({ s₁ with heap := h' } : Shared).heap.get? a = some _ from he) rfl (x := .none) rfl ?_)
            rw [if_neg (by decide)]
            refine wpAny_entryW (base := PySem.W.hideAll s₁.heap (frs X.stack)) (a0 := .ref t) hfrm hff hfr he hkb hen rfl (by show 1 < 6; decide) rfl fun h₄ noted => ?_
            obtain ⟨n1, n2, n3, n4⟩ := noted
            refine cont (s' := { s₁ with heap := h' }) rfl J₁.bare (Un.kept made.keeps) (J₁.hok.kept made.keeps) ha made.new (.refl sr'.e.sub) (fun b o hb ho e => ?_) ⟨n1, hen, n2, n3⟩ n4
            have e1 : s₁.heap.get? b = some o := by
              rcases ho with ⟨o0, ho⟩ | ⟨u, ho⟩
              . have q := made.keeps b o0 ho
                have e' : h'.get? b = some o := e
                rw [q] at e'; cases e'; exact ho
              . obtain ⟨ob, ho⟩ := (J₁.hok b u ho).there
                have q := made.keeps b ob ho
                have e' : h'.get? b = some o := e
                rw [q] at e'; cases e'; exact ho
            exact PySem.W.hideAll_get _ e1 hb
          . have hna : s₁.heap.get? a = none := by
              cases q : s₁.heap.get? a with
              | none => rfl
              | some o0 =>
                obtain ⟨o', e'⟩ := un.there a o0 q (by simp)
                have hna : a ∉ frs X.stack := fun z => by
                  obtain ⟨o1, e1, d1, _⟩ := FunFrames.data fl.2.2.1 a z
                  obtain ⟨oe, vs, _, _, _, e2, _, d2, _⟩ := fl.2.2.2
                  rw [e1] at e2; cases e2; exact d1 vs d2
                have := hk a o' hna (.inl ⟨o0, q⟩) e'
                rw [fl.2.1] at this; cases this
            rw [hst] at fl
            exact wpAny_looks_onW hfrm hfr fl fun h₄ held sm => cont os bare un hok ha hna up hk held sm
        | rt d => rw [qs] at h; exact h.elim
        | bk ρ'' => rw [qs] at h; exact h.elim
        | ct ρ'' => rw [qs] at h; exact h.elim
        | ex C' ρ'' => rw [qs] at h; exact h.elim
        | no => rw [qs] at h; exact h.elim
end
end L2
namespace L2
open PySem PySem.Spec PyProof.Rows
structure Callee (P : Program) (w : World) (K : PySem.W.Frag) (mg : Str -> Option Value) (base : Heap) (x : Str) (k n : Nat) (g : List D -> R D) : Prop where
  ex : ∃ f fd ps, FnF P w K mg base k f fd ps g /\ mg x = some (.ref f) /\ PySem.W.keepIn K (.ref f) = true /\ Binds K fd ps [] /\ ps.length = n
theorem rD {X : Cx} {x : Str} {k n : Nat} {g : List D -> R D} {e : Expr} {es : List Expr} {gl : Ev -> R (List D)} {p pos : Pos} (c : Callee X.prog X.w X.K X.mg X.base x k n g) (hr : Room k X.A) (ha : QFA X (e :: es) gl) (hg : Gl X x := by rfl)
    (hdb : (x == ("__debug__" : Str)) = false := by decide) (he : starEach (e :: es) X.env = (false, eval e X.env) :: starEach es X.env := by rfl) (hpl : (backTo pos (starEach es X.env)).any (·.1) = false := by rfl) :
    QF X (.Call (.Name x p) (e :: es) [] pos) (fun ρ => gl ρ >>= fun ds => if ds.length = n then g ds else .no) := by
  obtain ⟨f, fd, ps, F, hm, hk, hb, rfl⟩ := c.ex
  exact uu F hr hg hm hk hb ha hdb he hpl
theorem FnF.to {P : Program} {w : World} {K : PySem.W.Frag} {mg : Str -> Option Value} {base : Heap} {k : Nat} {f : Addr} {fd : FuncData} {ps : List Str} {g g' : List D -> R D} (F : FnF P w K mg base k f fd ps g) (h : ∀ ds, ds.length = ps.length -> g' ds = .no \/ g ds = g' ds) : FnF P w K mg base k f fd ps g' := by
  refine F.imp fun vs H Q E ⟨hl, G, ds, sub, r, q⟩ => ⟨hl, G, ds, sub, r, ?_⟩
  rcases h ds (by rw [<- r.length]; exact hl) with z | z
  . rw [z] at q; exact q.elim
  . rw [z]; exact q
theorem Fun.callee {P : Program} {w : World} {K : PySem.W.Frag} {mg : Str -> Option Value} {base : Heap} {x : Str} {st : Stmt} {f : Addr} {fd : FuncData} {ps : List Str} {k : Nat} {g : List D -> R D} (F : Fun K x x st f fd) (hm : mg x = some (.ref f)) (ok : FnF P w K mg base k f fd ps g)
    (h : ∀ (kV doc pm : Value) (an : Option Addr) (cdv ct : Value) (us : List Value), us.length = ps.length -> bindArgs (PySem.W.fnOf x x (iE st) (fD st) (aL st) .none kV doc pm an cdv ct) ⟨us, []⟩ = pure (ps.zip us)) : Callee P w K mg base x k ps.length g :=
  ⟨f, fd, ps, ok, hm, F.kp, F.binds h, rfl⟩
theorem fH {T : String} {f : String -> Bool} (h : ∀ K : PySem.W.Frag, PySem.W.kitOne K (.type "NoneType") (.type T) = some (f "NoneType") /\ PySem.W.kitOne K (.type "bool") (.type T) = some (f "bool") /\ PySem.W.kitOne K (.type "int") (.type T) = some (f "int") /\
    PySem.W.kitOne K (.type "str") (.type T) = some (f "str") /\ PySem.W.kitOne K (.type "tuple") (.type T) = some (f "tuple") /\ PySem.W.kitOne K (.type "list") (.type T) = some (f "list")) :
    ∀ K : PySem.W.Frag, ∀ t ∈ ["NoneType", "bool", "int", "str", "tuple", "list"], PySem.W.kitOne K (.type t) (.type T) = some (f t) := fun K t ht => by
  obtain ⟨h1, h2, h3, h4, h5, h6⟩ := h K
  simp only [List.mem_cons, List.mem_nil_iff, or_false] at ht
  rcases ht with rfl | rfl | rfl | rfl | rfl | rfl <;> assumption
def isInt (t : String) : Bool := t == "int" || t == "bool"
section
variable {X : Cx} {e : Expr} {ga : Ev -> R D} {p p2 pos : Pos}
theorem sG (hm : X.mg "isinstance" = none) (ha : QF X e ga) (hm2 : X.mg "int" = none) (hg2 : Gl X "int" := by rfl) (hg : Gl X "isinstance" := by rfl) (hs1 : starEach [e, .Name "int" p2] X.env = (false, eval e X.env) :: starEach [.Name "int" p2] X.env := by rfl) : QF X (.Call (.Name "isinstance" p) [e, .Name "int" p2] [] pos) (fun ρ => ga ρ >>= dh isInt) :=
  fE (T := "int") isInt (fH fun K => ⟨rfl, rfl, rfl, rfl, rfl, rfl⟩) hg hm hg2 hm2 PyProof.Rows.Boot.«int» ha hs1
theorem oW (hm : X.mg "isinstance" = none) (ha : QF X e ga) (hm2 : X.mg "bool" = none) (hg2 : Gl X "bool" := by rfl) (hg : Gl X "isinstance" := by rfl) (hs1 : starEach [e, .Name "bool" p2] X.env = (false, eval e X.env) :: starEach [.Name "bool" p2] X.env := by rfl) : QF X (.Call (.Name "isinstance" p) [e, .Name "bool" p2] [] pos) (fun ρ => ga ρ >>= dh (· == "bool")) :=
  fE (T := "bool") (· == "bool") (fH fun K => ⟨rfl, rfl, rfl, rfl, rfl, rfl⟩) hg hm hg2 hm2 PyProof.Rows.Boot.«bool» ha hs1
theorem sg (hm : X.mg "isinstance" = none) (ha : QF X e ga) (hm2 : X.mg "str" = none) (hg2 : Gl X "str" := by rfl) (hg : Gl X "isinstance" := by rfl) (hs1 : starEach [e, .Name "str" p2] X.env = (false, eval e X.env) :: starEach [.Name "str" p2] X.env := by rfl) : QF X (.Call (.Name "isinstance" p) [e, .Name "str" p2] [] pos) (fun ρ => ga ρ >>= dh (· == "str")) :=
  fE (T := "str") (· == "str") (fH fun K => ⟨rfl, rfl, rfl, rfl, rfl, rfl⟩) hg hm hg2 hm2 PyProof.Rows.Boot.«str» ha hs1
theorem nJ (hm : X.mg "isinstance" = none) (ha : QF X e ga) (hm2 : X.mg "tuple" = none) (hg2 : Gl X "tuple" := by rfl) (hg : Gl X "isinstance" := by rfl) (hs1 : starEach [e, .Name "tuple" p2] X.env = (false, eval e X.env) :: starEach [.Name "tuple" p2] X.env := by rfl) : QF X (.Call (.Name "isinstance" p) [e, .Name "tuple" p2] [] pos) (fun ρ => ga ρ >>= dh (· == "tuple")) :=
  fE (T := "tuple") (· == "tuple") (fH fun K => ⟨rfl, rfl, rfl, rfl, rfl, rfl⟩) hg hm hg2 hm2 PyProof.Rows.Boot.«tuple» ha hs1
theorem pq (hm : X.mg "isinstance" = none) (ha : QF X e ga) (hm2 : X.mg "list" = none) (hg2 : Gl X "list" := by rfl) (hg : Gl X "isinstance" := by rfl) (hs1 : starEach [e, .Name "list" p2] X.env = (false, eval e X.env) :: starEach [.Name "list" p2] X.env := by rfl) : QF X (.Call (.Name "isinstance" p) [e, .Name "list" p2] [] pos) (fun ρ => ga ρ >>= dh (· == "list")) :=
  fE (T := "list") (· == "list") (fH fun K => ⟨rfl, rfl, rfl, rfl, rfl, rfl⟩) hg hm hg2 hm2 PyProof.Rows.Boot.«list» ha hs1
end
end L2
namespace L2
open PySem PySem.Spec PyProof.Rows
def bO (ga : Ev -> R D) : Ev -> O := fun ρ => (ga ρ).out ρ .rt
def aM (g1 g2 : Ev -> O) : Ev -> O := fun ρ => (g1 ρ).seq g2
def oIf (gt : Ev -> R Bool) (g1 g2 : Ev -> O) : Ev -> O := fun ρ => (gt ρ).out ρ fun k => if k = true then g1 ρ else g2 ρ
def oNx : Ev -> O := fun ρ => .nx ρ
def cP (i : Nat) (ga : Ev -> R D) : Ev -> O := fun ρ => (ga ρ).out ρ fun d => .nx (ρ.set i (some (.val d)))
def rP (i : Nat) (gl : Ev -> R (List D)) : Ev -> O := fun ρ => (gl ρ).out ρ fun ds => .nx (ρ.set i (some (.own ds)))
def ln (ga : Ev -> R D) : Ev -> O := fun ρ => (ga ρ).out ρ fun _ => .nx ρ
def oM (asg : D -> Ev -> R Ev) (gi : Ev -> R (List D)) (g : Ev -> O) : Ev -> O := fun ρ => (gi ρ).out ρ fun items => ci asg g items ρ
def gM (C : Addr) (gl : Ev -> R (List D)) : Ev -> O := fun ρ => (gl ρ).out ρ fun _ => .ex C ρ
def AL (asg : D -> Ev -> R Ev) (ga : Ev -> R D) : Ev -> O := fun ρ => (ga ρ).out ρ fun d => (asg d ρ).out ρ .nx
def vQ (i : Nat) (g : Ev -> O) : Ev -> O := fun ρ => g (frz i ρ)
def aI {α β : Type} (f : α -> R β) (ga : Ev -> R α) : Ev -> R β := fun ρ => ga ρ >>= f
def gOf (f : List D -> Option D) (gl : Ev -> R (List D)) : Ev -> R D := fun ρ => gl ρ >>= fun ds => ofO (f ds)
def ac (ga : Ev -> R D) (gl : Ev -> R (List D)) : Ev -> R (List D) := fun ρ => ga ρ >>= fun x => gl ρ >>= fun xs => .ok (x :: xs)
def aR (n : Nat) (g : List D -> R D) (gl : Ev -> R (List D)) : Ev -> R D := fun ρ => gl ρ >>= fun ds => if ds.length = n then g ds else .no
def bx (gl : Ev -> R (List D)) : Ev -> R D := fun ρ => gl ρ >>= fun ds => .ok (.lst false ds)
def iW (gl : Ev -> R (List D)) : Ev -> R (List D) := fun ρ => gl ρ >>= fun ds => if ds.length <= sizeLine then .ok ds else .no
def gB2 (f : D -> D -> Option D) (ga gb : Ev -> R D) : Ev -> R Bool := fun ρ => g2 f ga gb ρ >>= asB
def gB3 (f f' : D -> D -> Option D) (ga gb gc : Ev -> R D) : Ev -> R Bool := fun ρ => g3 f f' ga gb gc ρ >>= asB
def gBn (gt : Ev -> R Bool) : Ev -> R Bool := fun ρ => gt ρ >>= fun k => .ok (!k)
def da (ga : Ev -> R D) : Ev -> R (Option Int) := fun ρ => ga ρ >>= fun x => asI x >>= fun i => .ok (some i)
def mv (T : String) (f : D -> List D -> Option D) (ga : Ev -> R D) (gl : Ev -> R (List D)) : Ev -> R D := fun ρ => ga ρ >>= fun x => if jc T x = true then gl ρ >>= fun ds => ofO (f x ds) else .no
theorem Callee.mono {P : Program} {w : World} {K : PySem.W.Frag} {mg : Str -> Option Value} {base : Heap} {x : Str} {k n : Nat} {g : List D -> R D} (c : Callee P w K mg base x k n g) (k' : Nat) (h : k <= k' := by decide) : Callee P w K mg base x k' n g := by
  obtain ⟨f, fd, ps, F, hm, hk, hb, e⟩ := c.ex
  exact ⟨f, fd, ps, { F with run := fun A outer s H args us vs Q E hr => F.run A outer s H args us vs Q E (hr.mono h) }, hm, hk, hb, e⟩
section
variable {X : Cx} {st : Stmt} {dI body sa sb : List Stmt} {e a b c o tg : Expr} {es : List Expr} {g gs1 gs2 : Ev -> O} {ga gb gc : Ev -> R D} {gt : Ev -> R Bool} {gl : Ev -> R (List D)} {pos p p2 : Pos} {x : Str}
theorem xu (h1 : QSF X st gs1) (h2 : kW X dI gs2) : kW X (st :: dI) (aM gs1 gs2) := nM h1 h2
theorem Aq : kW X [] oNx := qm
theorem AC (he : QF X e ga) : QSF X (.Return (some e) pos) (bO ga) := sC he
theorem Cf (hc : QB X c gt) (ha : kW X sa gs1) (hb : kW X sb gs2) : QSF X (.If c sa sb pos) (oIf gt gs1 gs2) := tX hc ha hb
theorem pZ (i : Nat) (hN : X.N.Nodup) (he : QF X e ga) (hi : X.N[i]? = some x := by rfl) (hx : Loc X.env.scope x := by first | exact Or.inl rfl | exact Or.inr rfl)
    (hs : swapsWithSole [.Name x p] e pos.line X.env = pure false := by rfl) (hw : swappedStores [.Name x p] e X.env = pure none := by rfl) (hf : X.fn x = true \/ X.env.scope.names.lookup x = some .local := by first | exact .inl rfl | exact .inr rfl) :
    QSF X (.Assign [.Name x p] e pos) (cP i ga) := sw i hN he hi hx hs hw hf
theorem yX (i : Nat) (hN : X.N.Nodup) (he : QFL X e gl) (hi : X.N[i]? = some x := by rfl) (hx : Loc X.env.scope x := by first | exact Or.inl rfl | exact Or.inr rfl)
    (hs : swapsWithSole [.Name x p] e pos.line X.env = pure false := by rfl) (hw : swappedStores [.Name x p] e X.env = pure none := by rfl) (hf : X.fn x = true \/ X.env.scope.names.lookup x = some .local := by first | exact .inl rfl | exact .inr rfl) :
    QSF X (.Assign [.Name x p] e pos) (rP i gl) := rQ i hN he hi hx hs hw hf
theorem xr (he : QF X e ga) (hs : swapsWith e none pos.line X.env = pure false := by rfl) : QSF X (.Expr e pos) (ln ga) := pP he hs
theorem Ad {iter : Expr} {gi : Ev -> R (List D)} {asg : D -> Ev -> R Ev} (hp : PassesOwn (model X.prog X.w) X.A X.env X.xe) (hcalm : X.calm = true) (hi : QIF X tg iter gi) (hg : PGF X tg asg) (hb : kW X body g)
    (hs : ∀ x, foldedSetIterable iter X.env x = pure x := by intro _; rfl) (hn : ∀ d ρ C, asg d ρ ≠ .ex C := by intro _ _ _ z; cases z) : QSF X (.For tg iter body [] pos) (oM asg gi g) := rV hp hcalm hi hg hb hs hn
theorem zm (hg : Gl X "len") (hm : X.mg "len" = none) (ha : QFA X [e] gl) (he : starEach [e] X.env = [(false, eval e X.env)] := by rfl) : QF X (.Call (.Name "len" p) [e] [] pos) (gOf dw gl) := xE hg hm ha he
theorem Ak (hc : X.calm = true) (hg : Gl X "all") (hm : X.mg "all" = none) (ha : QFA X [e] gl) (he : starEach [e] X.env = [(false, eval e X.env)] := by rfl) : QF X (.Call (.Name "all" p) [e] [] pos) (gOf Aj gl) := xM hc hg hm ha he
theorem oy (ha : QF X e ga) (hr : QFA X es gl) (hs : starEach (e :: es) X.env = (false, eval e X.env) :: starEach es X.env := by rfl) : QFA X (e :: es) (ac ga gl) := sN ha hr hs
theorem wa {k n : Nat} {f : List D -> R D} (c : Callee X.prog X.w X.K X.mg X.base x k n f) (hr : Room k X.A) (ha : QFA X (e :: es) gl) (hg : Gl X x := by rfl)
    (hdb : (x == ("__debug__" : Str)) = false := by decide) (he : starEach (e :: es) X.env = (false, eval e X.env) :: starEach es X.env := by rfl) (hpl : (backTo pos (starEach es X.env)).any (·.1) = false := by rfl) :
    QF X (.Call (.Name x p) (e :: es) [] pos) (aR n f gl) := rD c hr ha hg hdb he hpl
theorem wH {gens : List Comprehension} {sc : Scope} (h : QFL X (.ListComp e gens sc pos) gl) : QF X (.ListComp e gens sc pos) (bx gl) := lL h
theorem wV (h : QFL X (.List es pos) gl) : QF X (.List es pos) (bx gl) := lL h
theorem yS (h : QFA X es gl) : QFL X (.List es pos) (iW gl) := vL h
theorem yT {k : Nat} (h : QFA X es gl) : QF X (.Tuple es k pos) (aI mkT gl) := wx h
theorem zn (ha : QF X a ga) : QF X (.UnaryOp .USub a pos) (aI yw ga) := wu ha
theorem uf (hm : X.mg "isinstance" = none) (ha : QF X e ga) (hm2 : X.mg "int" = none) (hg2 : Gl X "int" := by rfl) (hg : Gl X "isinstance" := by rfl) (hs1 : starEach [e, .Name "int" p2] X.env = (false, eval e X.env) :: starEach [.Name "int" p2] X.env := by rfl) : QF X (.Call (.Name "isinstance" p) [e, .Name "int" p2] [] pos) (aI (dh isInt) ga) := sG hm ha hm2 hg2 hg hs1
theorem rz (hm : X.mg "isinstance" = none) (ha : QF X e ga) (hm2 : X.mg "bool" = none) (hg2 : Gl X "bool" := by rfl) (hg : Gl X "isinstance" := by rfl) (hs1 : starEach [e, .Name "bool" p2] X.env = (false, eval e X.env) :: starEach [.Name "bool" p2] X.env := by rfl) : QF X (.Call (.Name "isinstance" p) [e, .Name "bool" p2] [] pos) (aI (dh (· == "bool")) ga) := oW hm ha hm2 hg2 hg hs1
theorem uI (hm : X.mg "isinstance" = none) (ha : QF X e ga) (hm2 : X.mg "str" = none) (hg2 : Gl X "str" := by rfl) (hg : Gl X "isinstance" := by rfl) (hs1 : starEach [e, .Name "str" p2] X.env = (false, eval e X.env) :: starEach [.Name "str" p2] X.env := by rfl) : QF X (.Call (.Name "isinstance" p) [e, .Name "str" p2] [] pos) (aI (dh (· == "str")) ga) := sg hm ha hm2 hg2 hg hs1
theorem qg (hm : X.mg "isinstance" = none) (ha : QF X e ga) (hm2 : X.mg "tuple" = none) (hg2 : Gl X "tuple" := by rfl) (hg : Gl X "isinstance" := by rfl) (hs1 : starEach [e, .Name "tuple" p2] X.env = (false, eval e X.env) :: starEach [.Name "tuple" p2] X.env := by rfl) : QF X (.Call (.Name "isinstance" p) [e, .Name "tuple" p2] [] pos) (aI (dh (· == "tuple")) ga) := nJ hm ha hm2 hg2 hg hs1
theorem xQ (h : QF X e ga) : QFO X (some e) (da ga) := sk h
theorem Ab (ha : QF X a ga) (hb : QF X b gb) : QB X (.Compare a [.Lt] [b] pos) (gB2 ltD ga gb) := zY ha hb
theorem zZ (ha : QF X a ga) (hb : QF X b gb) : QB X (.Compare a [.LtE] [b] pos) (gB2 leD ga gb) := yQ ha hb
theorem As (ha : QF X a ga) (hb : QF X b gb) : QB X (.Compare a [.Gt] [b] pos) (gB2 gtD ga gb) := zG ha hb
theorem yE (hu : X.A.units + 64 < cLine) (ha : QF X a ga) (hb : QF X b gb) : QB X (.Compare a [.Eq] [b] pos) (gB2 eqF ga gb) := Ay hu ha hb
theorem zX (hu : X.A.units + 64 < cLine) (ha : QF X a ga) (hb : QF X b gb) : QB X (.Compare a [.NotEq] [b] pos) (gB2 neF ga gb) := zt hu ha hb
theorem zw (ha : QF X a ga) (hb : QF X b gb) : QB X (.Compare a [.Is] [b] pos) (gB2 isF ga gb) := zd ha hb
theorem uD (ha : QF X a ga) (hb : QF X b gb) (hc : QF X c gc) (hm : lastMarks [.LtE, .LtE] [b, c] = false := by with_unfolding_all rfl) : QB X (.Compare a [.LtE, .LtE] [b, c] pos) (gB3 leD leD ga gb gc) := tm ha hb hc hm
theorem wT (ha : QB X a gt) : QB X (.UnaryOp .Not a pos) (gBn gt) := ww ha
theorem xb (h : QF X (.Call a es [] pos) ga) : QB X (.Call a es [] pos) (aI fw ga) := re h
theorem zC {op : BoolOp} (h : QBW X (.BoolOp op es pos) gt) : QB X (.BoolOp op es pos) gt := fun pins s σ H Q I q => h _ pins s σ H Q I q
theorem wJ (ha : QF X a ga) : QIF X tg a (aI bH ga) := vA ha
theorem rY (hg : Gl X "range") (hm : X.mg "range" = none) (ha : QFA X [a] gl) (hs : starEach [a] X.env = [(false, eval a X.env)] := by rfl) : QIF X tg (.Call (.Name "range" p) [a] [] pos) (aI bE gl) := oa hg hm ha hs
end
end L2
namespace L2
open PySem PySem.Spec PyProof.Rows
@[simp] theorem R.ok_out {α : Type} (a : α) (ρ : Ev) (k : α -> O) : (R.ok a).out ρ k = k a := rfl
@[simp] theorem R.ex_out {α : Type} (C : Addr) (ρ : Ev) (k : α -> O) : (R.ex C : R α).out ρ k = .ex C ρ := rfl
@[simp] theorem pH {α : Type} (a : α) : im (R.ok a) = R.ok a := rfl
theorem gX {gt : Ev -> R Bool} {ge : Ev -> R D} (p : D -> Bool) (h : D -> D) (tl : Ev) : ∀ (ds : List D) (a : Option Sl), (∀ d ∈ ds, gt (some (.val d) :: tl) = .ok (p d) /\ (p d = true -> ge (some (.val d) :: tl) = .ok (h d))) -> fv gt ge ds (a :: tl) = .ok ((ds.filter p).map h)
  | [], a, _ => rfl
  | d :: ds, a, H => by
    have ih := gX p h tl ds (some (.val d)) fun x m => H x (List.mem_cons_of_mem _ m)
    obtain ⟨e1, e2⟩ := H d (List.mem_cons_self ..)
    show (im (gt (some (.val d) :: tl)) >>= fun k => if k = true then im (ge (some (.val d) :: tl)) >>= fun x => fv gt ge ds (some (.val d) :: tl) >>= fun xs => .ok (x :: xs) else fv gt ge ds (some (.val d) :: tl)) = _
    rw [e1, pH, R.ok_bind, ih]
    cases q : p d with
    | true => rw [if_pos rfl, e2 q, pH, R.ok_bind, R.ok_bind, List.filter_cons_of_pos q]; rfl
    | false => rw [if_neg Bool.false_ne_true, List.filter_cons_of_neg (by rw [q]; exact Bool.false_ne_true)]
theorem dH {gt : Ev -> R Bool} {ge : Ev -> R D} (h : D -> D) (tl : Ev) (ds : List D) (a : Option Sl) (H : ∀ d ∈ ds, gt (some (.val d) :: tl) = .ok true /\ ge (some (.val d) :: tl) = .ok (h d)) : fv gt ge ds (a :: tl) = .ok (ds.map h) := by
  rw [gX (fun _ => true) h tl ds a fun d m => ⟨(H d m).1, fun _ => (H d m).2⟩, List.filter_eq_self.2 fun _ _ => rfl]
theorem qt (f : D -> Bool) : ∀ ds : List D, rf (ds.map fun d => .bl (f d)) = some (ds.map f)
  | [] => rfl
  | d :: ds => by
    have ih := qt f ds
    rw [List.map_cons, List.map_cons]
    unfold rf
    first | (rw [ih]; rfl) | (simp only [ih]; rfl) | simp [ih]
theorem mK (f : D -> Bool) (k : Bool) (ds : List D) : Aj [.lst k (ds.map fun d => .bl (f d))] = some (.bl (ds.all f)) := by
  show (rf (ds.map fun d => .bl (f d))).map _ = _
  rw [qt]
  show some (D.bl ((ds.map f).all id)) = _
  rw [List.all_map]; rfl
theorem tw (a b : Nat) : (!decide (([b] : List Nat) < [a])) = decide (a <= b) := by
  have : (([b] : List Nat) < [a]) ↔ b < a := by
    constructor
    . intro h
      cases h with
      | rel h => exact h
      | cons h => cases h
    . intro h; exact .rel h
  by_cases h : a <= b
  . have h2 : ¬ ([b] : List Nat) < [a] := fun q => by have := this.1 q; omega
    simp [h, h2]
  . have h2 : ([b] : List Nat) < [a] := this.2 (by omega)
    simp [h, h2]
theorem eR {X : Cx} {scope : Scope} {x : Str} {N' : List Str} {ix : List Nat} (hk : scope.kind = .function := by rfl)
    (h1 : (∀ y ∈ scope.names, y.2 ≠ .cell) /\ (∀ y ∈ scope.names, y.2 = .local -> scope.names.lookup y.1 = some .local) /\ scope.names.lookup x = some .local /\ (∀ y ∈ scope.names, y.2 = .free -> y.1 ∈ N'.tail) /\ N'.Nodup /\ N'[0]? = some x /\
      ∀ y ∈ N'.tail, scope.names.lookup y = some .free /\ (y, NameKind.free) ∈ scope.names := by decide +kernel)
    (h2 : N'.tail.map X.env.kindOf = N'.tail.map fun _ => some NameKind.cell := by rfl) (h3 : N'.tail = ix.map (fun (i : Nat) => X.N.getD i Str.empty) := by rfl) (h4 : ix.all (fun i => decide (i < X.N.length)) = true := by rfl) : CompOk X scope x N' ix := by
  obtain ⟨a, b, c, d, e, f, g⟩ := h1
  refine ⟨hk, a, b, c, fun y hy h => ?_, e, f, h3, fun i hi => ?_, g⟩
  . exact List.map_inj_left.1 h2 _ (d y hy h)
  . exact of_decide_eq_true (List.all_eq_true.1 h4 i hi)
theorem rd0 (d : D) (ρ : Ev) : rdV (some (.val d) :: ρ) 0 = .ok d := rfl
theorem rd1 (a0 : Option Sl) (d : D) (ρ : Ev) : rdV (a0 :: some (.val d) :: ρ) 1 = .ok d := rfl
theorem rd2 (a0 a1 : Option Sl) (d : D) (ρ : Ev) : rdV (a0 :: a1 :: some (.val d) :: ρ) 2 = .ok d := rfl
theorem rd3 (a0 a1 a2 : Option Sl) (d : D) (ρ : Ev) : rdV (a0 :: a1 :: a2 :: some (.val d) :: ρ) 3 = .ok d := rfl
theorem rd4 (a0 a1 a2 a3 : Option Sl) (d : D) (ρ : Ev) : rdV (a0 :: a1 :: a2 :: a3 :: some (.val d) :: ρ) 4 = .ok d := rfl
theorem rd5 (a0 a1 a2 a3 a4 : Option Sl) (d : D) (ρ : Ev) : rdV (a0 :: a1 :: a2 :: a3 :: a4 :: some (.val d) :: ρ) 5 = .ok d := rfl
theorem rd6 (a0 a1 a2 a3 a4 a5 : Option Sl) (d : D) (ρ : Ev) : rdV (a0 :: a1 :: a2 :: a3 :: a4 :: a5 :: some (.val d) :: ρ) 6 = .ok d := rfl
section
variable {f : List D -> R D} {ga gb gc gd : Ev -> R D} {ρ : Ev}
theorem vf : aR 1 f (ac ga fun _ => .ok []) ρ = ga ρ >>= fun x => f [x] := by
  unfold aR ac
  cases ga ρ <;> rfl
theorem uT : aR 2 f (ac ga (ac gb fun _ => .ok [])) ρ = ga ρ >>= fun x => gb ρ >>= fun y => f [x, y] := by
  unfold aR ac
  cases ga ρ <;> try rfl
  simp only [ac, R.ok_bind]
  cases gb ρ <;> rfl
theorem nK : aR 3 f (ac ga (ac gb (ac gc fun _ => .ok []))) ρ = ga ρ >>= fun x => gb ρ >>= fun y => gc ρ >>= fun z => f [x, y, z] := by
  unfold aR ac
  cases ga ρ <;> try rfl
  simp only [ac, R.ok_bind]
  cases gb ρ <;> try rfl
  simp only [R.ok_bind]
  cases gc ρ <;> rfl
end
def At (N : List Str) (i : Nat) (x : Str) : Prop := N[i]? = some x
theorem at0 {x : Str} {l : List Str} : At (x :: l) 0 x := rfl
theorem at1 {x : Str} {l : List Str} {y0 : Str} : At (y0 :: x :: l) 1 x := rfl
theorem at2 {x : Str} {l : List Str} {y0 y1 : Str} : At (y0 :: y1 :: x :: l) 2 x := rfl
theorem at3 {x : Str} {l : List Str} {y0 y1 y2 : Str} : At (y0 :: y1 :: y2 :: x :: l) 3 x := rfl
theorem at4 {x : Str} {l : List Str} {y0 y1 y2 y3 : Str} : At (y0 :: y1 :: y2 :: y3 :: x :: l) 4 x := rfl
theorem at5 {x : Str} {l : List Str} {y0 y1 y2 y3 y4 : Str} : At (y0 :: y1 :: y2 :: y3 :: y4 :: x :: l) 5 x := rfl
theorem at6 {x : Str} {l : List Str} {y0 y1 y2 y3 y4 y5 : Str} : At (y0 :: y1 :: y2 :: y3 :: y4 :: y5 :: x :: l) 6 x := rfl
theorem at7 {x : Str} {l : List Str} {y0 y1 y2 y3 y4 y5 y6 : Str} : At (y0 :: y1 :: y2 :: y3 :: y4 :: y5 :: y6 :: x :: l) 7 x := rfl
theorem at8 {x : Str} {l : List Str} {y0 y1 y2 y3 y4 y5 y6 y7 : Str} : At (y0 :: y1 :: y2 :: y3 :: y4 :: y5 :: y6 :: y7 :: x :: l) 8 x := rfl
theorem at9 {x : Str} {l : List Str} {y0 y1 y2 y3 y4 y5 y6 y7 y8 : Str} : At (y0 :: y1 :: y2 :: y3 :: y4 :: y5 :: y6 :: y7 :: y8 :: x :: l) 9 x := rfl
theorem Cu {x : Str} {l : List Str} {y0 y1 y2 y3 y4 y5 y6 y7 y8 y9 : Str} : At (y0 :: y1 :: y2 :: y3 :: y4 :: y5 :: y6 :: y7 :: y8 :: y9 :: x :: l) 10 x := rfl
theorem Em {x : Str} {l : List Str} {y0 y1 y2 y3 y4 y5 y6 y7 y8 y9 y10 : Str} : At (y0 :: y1 :: y2 :: y3 :: y4 :: y5 :: y6 :: y7 :: y8 :: y9 :: y10 :: x :: l) 11 x := rfl
section
variable {X : Cx} {N : List Str} {i : Nat} {x : Str} {pos : Pos}
theorem zA {CX : CXT} {P : Program} {w : World} {K : PySem.W.Frag} {mg : Str -> Option Value} {base : Heap} {qual : Str} {scope : Scope} {f : Addr} {cdv : Value} {A : Around} {outer : List Env} {s : Shared} {H : Hp} {E : XK} (h : At N i x)
    (hv : Vis (ck CX P w K mg base N qual scope f cdv A outer s H E).env.scope x := by first | exact Or.inl rfl | exact Or.inr (Or.inl rfl) | exact Or.inr (Or.inr rfl)) (hd : (x == ("__debug__" : Str)) = false := by decide)
    (hcd : (x == ("__classdict__" : Str)) = false := by decide) : QF (ck CX P w K mg base N qual scope f cdv A outer s H E) (.Name x pos) (fun ρ => rdV ρ i) := jp i h hv hd hcd
theorem xp {scope : Scope} {C : Addr} {s₂ : Shared} {H₂ : Hp} {fp : List Addr} (h : At N i x)
    (hv : Vis (bA X N scope C s₂ H₂ fp).env.scope x := by first | exact Or.inl rfl | exact Or.inr (Or.inl rfl) | exact Or.inr (Or.inr rfl)) (hd : (x == ("__debug__" : Str)) = false := by decide)
    (hcd : (x == ("__classdict__" : Str)) = false := by decide) : QF (bA X N scope C s₂ H₂ fp) (.Name x pos) (fun ρ => rdV ρ i) := jp i h hv hd hcd
theorem AK {CX : CXT} {P : Program} {w : World} {K : PySem.W.Frag} {mg : Str -> Option Value} {base : Heap} {qual : Str} {scope : Scope} {f : Addr} {cdv : Value} {A : Around} {outer : List Env} {s : Shared} {H : Hp} {E : XK} {e : Expr} {p : Pos} {ga : Ev -> R D} (h : At N i x) (hN : N.Nodup)
    (he : QF (ck CX P w K mg base N qual scope f cdv A outer s H E) e ga) (hx : Loc (ck CX P w K mg base N qual scope f cdv A outer s H E).env.scope x := by first | exact Or.inl rfl | exact Or.inr rfl)
    (hs : swapsWithSole [.Name x p] e pos.line (ck CX P w K mg base N qual scope f cdv A outer s H E).env = pure false := by rfl) (hw : swappedStores [.Name x p] e (ck CX P w K mg base N qual scope f cdv A outer s H E).env = pure none := by rfl)
    (hf : (ck CX P w K mg base N qual scope f cdv A outer s H E).fn x = true \/ (ck CX P w K mg base N qual scope f cdv A outer s H E).env.scope.names.lookup x = some .local := by first | exact .inl rfl | exact .inr rfl) :
    QSF (ck CX P w K mg base N qual scope f cdv A outer s H E) (.Assign [.Name x p] e pos) (cP i ga) := pZ i hN he h hx hs hw hf
end
end L2
namespace L2
open PySem PySem.Spec PyProof.Rows
theorem vV {X : Cx} {e : Expr} {es : List Expr} {ga : Ev -> R D} {pos pt : Pos} {k : Nat} {is : List Nat} (he : QF X e ga) (hc : X.calm = true) (h : AM X es is) (hn : (assignEach es X.env).length = is.length := by rfl) (hst : (assignEach es X.env).findIdx? (·.1) = none := by rfl)
    (hs : swapsWithSole [.Tuple es k pt] e pos.line X.env = pure false := by rfl) (hw : swappedStores [.Tuple es k pt] e X.env = pure none := by rfl) (h1 : (assignEach [.Tuple es k pt] X.env).map (·.2) = [assign (.Tuple es k pt) X.env] := by rfl) :
    QSF X (.Assign [.Tuple es k pt] e pos) (AL (yo is) ga) := lw he (AE hc h hn hst) hs hw (vk is) h1
theorem yD {ga : Ev -> R D} {ρ : Ev} {ds : List D} (h : ac ga (fun _ => .ok []) ρ = .ok ds) : ds.length <= 1 := by
  unfold ac at h
  cases e : ga ρ with
  | ok x => rw [e] at h; cases h; exact Nat.le_refl _
  | ex C => rw [e] at h; cases h
  | no => rw [e] at h; cases h
structure Ref (x : Str) (C : Addr) (mg : Str -> Option Value) (base : Heap) : Prop where
  ex : ∃ bm B newId initId, OwnCls x C bm newId mg base /\ ExcBaseFacts B newId initId bm
theorem vt {X : Cx} {x : Str} {C : Addr} {e : Expr} {ga : Ev -> R D} {np cp pos : Pos} (r : Ref x C X.mg X.base) (hh : X.A.handled = none) (ha : QF X e ga) (hg : Gl X x := by rfl)
    (hdb : (x == ("__debug__" : Str)) = false := by decide) (hs : starEach [e] X.env = (false, eval e X.env) :: starEach [] X.env := by rfl) :
    QSF X (.Raise (some (.Call (.Name x np) [e] [] cp)) none pos) (gM C (ac ga fun _ => .ok [])) := by
  obtain ⟨bm, B, newId, initId, Oc, FB⟩ := r.ex
  exact ow Oc FB hh hg (oy ha nG hs) hdb hs (fun ρ ds h => yD h)
theorem Un.but {fs : List Addr} {H : Hp} {h h' : Heap} {C : Addr} (hs : Heap.SameBut C h h') : Un fs [C] H H h h' := by
  have ne : ∀ b, b ∉ [C] -> b ≠ C := fun b hb z => hb (by rw [z]; exact List.mem_singleton.2 rfl)
  exact ⟨fun b o e _ _ hx => (hs.2 b (ne b hx)).trans e, fun b o e _ _ hx => ⟨o.slots, (hs.2 b (ne b hx)).trans e⟩, fun _ _ _ n _ => n, fun b o e hx => ⟨o, (hs.2 b (ne b hx)).trans e⟩, fun _ _ e => e, fun _ _ _ e => e, fun _ ps e => ⟨#[], by rw [Array.append_empty]; exact e⟩⟩
section
variable {X : Cx} {elt iter : Expr} {ifs : List Expr} {x : Str} {px pos : Pos} {scope : Scope} {N' : List Str} {ix : List Nat} {gi : Ev -> R (List D)} {gt : Ev -> R Bool} {ge : Ev -> R D}
theorem sv {tgt : Expr} {asg : D -> Ev -> R Ev} {n : Nat} (i : Nat) {y : Str} {py spos : Pos} (hN : X.N.Nodup) (ok : CompOkT X scope n N' ix) (hcalm : X.calm = true) (hg : ∀ C s₂ H₂ fp, PGF (bA X N' scope C s₂ H₂ fp) tgt asg) (hown : ∀ d ρ ρ', asg d ρ = .ok ρ' -> (∀ (j : Nat) ds, ρ[j]? ≠ some (some (.own ds))) -> ∀ (j : Nat) ds, ρ'[j]? ≠ some (some (.own ds))) (hi : QIF X tgt iter gi) (he : ∀ C s₂ H₂ fp, QF (bA X N' scope C s₂ H₂ fp) elt ge) (ht : ∀ C s₂ H₂ fp, PTs (bA X N' scope C s₂ H₂ fp) ifs gt)
    (hni : X.N[i]? = some y := by rfl) (hy : X.env.scope.names.lookup y = some .local := by rfl) (hs : ∀ x, foldedSetIterable iter X.env x = pure x := by intro _; rfl)
    (hsw : swapsWith (.ListComp elt [⟨tgt, iter, ifs, 0⟩] scope pos) (some (.Name y py)) spos.line X.env = pure true := by rfl) :
    QSF X (.Assign [.Name y py] (.ListComp elt [⟨tgt, iter, ifs, 0⟩] scope pos) spos) (rP i (lH n asg gi ix gt ge)) := fun G₀ H₀ pins s σ H D I h => by
  obtain ⟨G, ρ, sr, h⟩ := h
  have h : oj X G₀ H₀ D ((lH n asg gi ix gt ge ρ).out ρ fun ds => .nx (ρ.set i (some (.own ds)))) := h
  rw [exec_Assign_Name_used _ _ _ _ hsw]
  refine wpAny_bind (wpAny_standAt (wpAny_bind ?_))
  show wpAny _ X.A (do let _ <- comprehension (.ListComp elt [⟨tgt, iter, ifs, 0⟩] scope pos) scope X.env _ (newList []) false (eval iter X.env) (some (assign (.Name y py) X.env))) _ _ s
  refine wpAny_bind (wpAny_mono (wpAny_comprehension_free (use := some (assign (.Name y py) X.env)) (Q := fun _ s' => SP X pins D .next s') rfl hs (gK fun z hz hz2 => I.ok.has z.1 (.inl (ok.fr z hz hz2))) ok.kind ok.names ?_) (fun _ s' hq => wpAny_pure (wpAny_pure hq)) fun _ _ e => e)
  have hq : (lH n asg gi ix gt ge ρ).post (vC X.K G H fun v H1 => D.nx (σ.set i (some v)) H1) (Exx X σ G H) := by
    cases q : lH n asg gi ix gt ge ρ with
    | ok ds => rw [q] at h; exact fun l vs G' H' u hl r => h _ G' _ ((sr.ups u).setOwn hl r i)
    | ex C => rw [q] at h; exact Exx.of sr h
    | no => rw [q] at h; exact h
  have t : tG X (fun G J items => ItOk X.K G J items) gi σ H (fun J H1 => ∃ G1 items, Up G H G1 H1 /\ StE X.K G1 H1 σ ρ /\ ItOk X.K G1 J items /\ (fO asg gt ge items (fq n ix ρ) >>= fun ds => if ds.length <= sizeLine then R.ok ds else .no).post (vC X.K G H fun v H1 => D.nx (σ.set i (some v)) H1) (Exx X σ G H)) := by
    refine ⟨G, ρ, sr.e, ?_⟩
    unfold lH at hq
    cases e : gi ρ with
    | ok items => rw [e] at hq; exact fun J G1 H1 u r => ⟨G1, items, u, sr.e.up u, r, hq⟩
    | ex C => rw [e] at hq; exact hq
    | no => rw [e] at hq; exact hq
  refine thn (hi pins s σ H _ I t) fun v s1 h1 => thn h1 fun itv s2 h2 => ?_
  obtain ⟨it, fp, tn, J, H2, e, I2, T, st2, f2, G2, items, u2, sE2, iok, h2⟩ := h2
  subst e
  have h2' : (fO asg gt ge items (fq n ix ρ) >>= fun ds => if ds.length <= sizeLine then R.ok ds else .no).post (vC X.K G2 H2 fun v H1 => D.nx (σ.set i (some v)) H1) (Exx X σ G2 H2) :=
    h2.mono (fun ds q l vs G' H' u hl r => q l vs G' H' (u2.trans u) hl r) fun C q => q.up u2
  refine gY (iter := iter) (pos := pos) (RR := fun acc C => compPost (model X.prog X.w) X.A X.xe (some (assign (.Name y py) X.env)) (fun _ s' => SP X pins D .next s') acc C) ok hcalm hg hown he ht I2 T st2 f2 sE2 iok h2' ?_
  intro Dd C s' m vs G' H' up hd hCD _ q hm hos hb hC hCl un hok
  have I3 : Inv X pins σ (upd H' Dd (.lst vs)) s' := I2.call' (ch := fp) hos un hok hb fun b hb' => by
    obtain ⟨f0, f1, f2', f3, f4, f5⟩ := f2 b hb'
    exact ⟨f3, f1, f4, f5⟩
  have lc : X.env.locals ≠ C := Nat.ne_of_lt (Nat.lt_of_lt_of_le I2.lt hCl)
  have cc : ∀ z c, X.env.cells.lookup z = some c -> c ≠ C := fun z c e => by
    obtain ⟨v, q⟩ := I2.cell z c e
    exact Nat.ne_of_lt (Nat.lt_of_lt_of_le q.lt hCl)
  show wpAny (model X.prog X.w) X.A (assign (.Name y py) X.env (.ref Dd)) _ X.xe s'
  refine wpAny_assign_Name (kx I3 hN hni (.inl hy) (v := .ref Dd) rfl (fun s'' I4 ⟨a, hsb, ha⟩ => ?_) (.inr hy))
  have na : C ≠ a := by
    rcases ha with rfl | ha
    . exact lc.symm
    . exact (cc _ _ ha).symm
  refine ⟨m, hm.sameBut hsb na, fun h' hs' => ?_⟩
  have I5 := I4.call' (s' := { s'' with heap := h' }) (H' := upd H' Dd (.lst vs)) (ch := [C]) rfl (Un.but hs') (I4.hok.sameBut (fun b o hbc e => (hs'.2 b hbc).trans e) (by rw [bi hCD]; exact hC)) I4.bare fun b hb' => by
    rw [List.mem_singleton.1 hb']
    exact ⟨.inr (Nat.le_trans I2.sz hCl), lc.symm, cc, fun p hp z => Nat.lt_irrefl _ (Nat.lt_of_lt_of_le (z ▸ Heap.lt_size (I2.pin p hp).1) hCl)⟩
  exact ⟨_, _, I5, q⟩
theorem sW (i : Nat) {y : Str} {py spos : Pos} (hN : X.N.Nodup) (ok : CompOk X scope x N' ix) (hcalm : X.calm = true) (hi : QIF X (.Name x px) iter gi) (he : ∀ C s₂ H₂ fp, QF (bA X N' scope C s₂ H₂ fp) elt ge) (ht : ∀ C s₂ H₂ fp, PTs (bA X N' scope C s₂ H₂ fp) ifs gt)
    (hni : X.N[i]? = some y := by rfl) (hy : X.env.scope.names.lookup y = some .local := by rfl) (hs : ∀ x, foldedSetIterable iter X.env x = pure x := by intro _; rfl)
    (hsw : swapsWith (.ListComp elt [⟨.Name x px, iter, ifs, 0⟩] scope pos) (some (.Name y py)) spos.line X.env = pure true := by rfl) :
    QSF X (.Assign [.Name y py] (.ListComp elt [⟨.Name x px, iter, ifs, 0⟩] scope pos) spos) (rP i (eM gi ix gt ge)) :=
  sv (n := 1) (asg := gH 0) i hN ok.t hcalm (fun C s₂ H₂ fp => cq (X := bA X N' scope C s₂ H₂ fp) (pos := px) 0 ok.nd ok.hd (.inl (lookup_relabel_local ok.loc)) (.inr (lookup_relabel_local ok.loc))) qO hi he ht hni hy hs hsw
end
theorem Fun.noF {P : Program} {w : World} {K : PySem.W.Frag} {mg : Str -> Option Value} {base : Heap} {x qual : Str} {st : Stmt} {f : Addr} {fd : FuncData} {N ps : List Str} {k : Nat} (F : Fun K x qual st f fd) (S : FnScope N ps (aL st)) : FnF P w K mg base (k + 1) f fd ps (fun _ => .no) := by
  obtain ⟨oc, od, kV, doc, pm, an, cdv, ct, osl, rfl, lk, hcd⟩ := F.ex
  refine BH lk hcd S (fun vs H Q E h => h.1) fun A outer s H vs Q E hr hsp => ?_
  obtain ⟨hl, G, ds, sub, r, h⟩ := hsp
  exact h.elim
def zS (i : Nat) (ga : Ev -> R D) : Ev -> O := fun ρ => (ownAt ρ i).out ρ fun ds => (ga ρ).out ρ fun d => (asL d).out ρ fun es => if ds.length + es.length <= sizeLine then .nx (ρ.set i (some (.own (ds ++ es)))) else .no
def CH (i : Nat) (ga : Ev -> R D) : Ev -> O := fun ρ => (ownAt ρ i).out ρ fun ds => (ga ρ).out ρ fun d => if ds.length < sizeLine then .nx (ρ.set i (some (.own (ds ++ [d])))) else .no
def CI (i j : Nat) (gl : Ev -> R (List D)) : Ev -> O := fun ρ => (gl ρ).out ρ fun ds => (mH [i, j] ds ρ).out ρ .nx
section
variable {X : Cx} {st : Stmt} {dI body : List Stmt} {e c o : Expr} {es : List Expr} {g : Ev -> O} {ga : Ev -> R D} {gl : Ev -> R (List D)} {pos p p2 : Pos}
theorem sH (i : Nat) {x : Str} {p ap cp : Pos} (he : QF X e ga) (hi : X.N[i]? = some x := by rfl) (hv : Vis X.env.scope x := by first | exact Or.inl rfl | exact Or.inr (Or.inl rfl))
    (hd : (x == ("__debug__" : Str)) = false := by decide) (hcd : (x == ("__classdict__" : Str)) = false := by decide) (hs1 : starEach [e] X.env = (false, eval e X.env) :: starEach [] X.env := by rfl)
    (hbase : attributeBase (.Name x p) "extend" X.env (eval (.Name x p) X.env) = eval (.Name x p) X.env := by rfl)
    (hfew : ((backTo cp (starEach [e] X.env)).all (fun x => !x.1) && (backToKw cp (keywordEach [] X.env)).all (fun x => x.1.isSome)
      && decide ([e].length + ([] : List Keyword).length + (if ([] : List Keyword).isEmpty then 0 else 1) < 30)) = true := by rfl)
    (hline : (ap.endLine == cp.line) = true := by rfl)
    (hs : swapsWith (.Call (.Attribute (.Name x p) "extend" ap) [e] [] cp) none pos.line X.env = pure false := by rfl) :
    QSF X (.Expr (.Call (.Attribute (.Name x p) "extend" ap) [e] [] cp) pos) (zS i ga) := mQ i he hi hv hd hcd hs1 hbase hfew hline hs
theorem rO (i : Nat) {x : Str} {p ap cp : Pos} (he : QF X e ga) (hi : X.N[i]? = some x := by rfl) (hv : Vis X.env.scope x := by first | exact Or.inl rfl | exact Or.inr (Or.inl rfl))
    (hd : (x == ("__debug__" : Str)) = false := by decide) (hcd : (x == ("__classdict__" : Str)) = false := by decide) (hs1 : starEach [e] X.env = (false, eval e X.env) :: starEach [] X.env := by rfl)
    (hbase : attributeBase (.Name x p) "append" X.env (eval (.Name x p) X.env) = eval (.Name x p) X.env := by rfl)
    (hfew : ((backTo cp (starEach [e] X.env)).all (fun x => !x.1) && (backToKw cp (keywordEach [] X.env)).all (fun x => x.1.isSome)
      && decide ([e].length + ([] : List Keyword).length + (if ([] : List Keyword).isEmpty then 0 else 1) < 30)) = true := by rfl)
    (hline : (ap.endLine == cp.line) = true := by rfl)
    (hs : swapsWith (.Call (.Attribute (.Name x p) "append" ap) [e] [] cp) none pos.line X.env = pure false := by rfl) :
    QSF X (.Expr (.Call (.Attribute (.Name x p) "append" ap) [e] [] cp) pos) (CH i ga) := ml i he hi hv hd hcd hs1 hbase hfew hline hs
theorem zW (i j : Nat) {x y : Str} {a b : Expr} {px py pt pt2 : Pos} {kt k2 : Nat} (hc : X.calm = true) (hN : X.N.Nodup) (ha : QFA X [a, b] gl) (hij : i ≠ j := by decide) (hi : X.N[i]? = some x := by rfl) (hj : X.N[j]? = some y := by rfl)
    (hx : X.env.scope.names.lookup x = some .local := by rfl) (hy : X.env.scope.names.lookup y = some .local := by rfl)
    (hw : swappedStores [.Tuple [.Name x px, .Name y py] kt pt] (.Tuple [a, b] k2 pt2) X.env = pure (some [x, y]) := by rfl)
    (hs : swapsWithSole [.Tuple [.Name x px, .Name y py] kt pt] (.Tuple [a, b] k2 pt2) pos.line X.env = pure false := by rfl) :
    QSF X (.Assign [.Tuple [.Name x px, .Name y py] kt pt] (.Tuple [a, b] k2 pt2) pos) (CI i j gl) := rG i j hc hN ha hij hi hj hx hy hw hs
theorem tJ {x : Str} (h : QF X (.Name x pos) ga) : QB X (.Name x pos) (aI fw ga) := re h
theorem zV {sts : List Stmt} (i : Nat) (h : kW X sts g) : kW X sts (vQ i g) := pE i h
theorem vd {ap cp : Pos} (ho : QF X o ga) (ha : QFA X [e] gl) (hbase : attributeBase o "count" X.env (eval o X.env) = eval o X.env := by rfl)
    (hfew : ((backTo cp (starEach [e] X.env)).all (fun x => !x.1) && (backToKw cp (keywordEach [] X.env)).all (fun x => x.1.isSome)
      && decide ([e].length + ([] : List Keyword).length + (if ([] : List Keyword).isEmpty then 0 else 1) < 30)) = true := by rfl)
    (hline : (ap.endLine == cp.line) = true := by rfl) (hs : starEach [e] X.env = (false, eval e X.env) :: starEach [] X.env := by rfl) :
    QF X (.Call (.Attribute o "count" ap) [e] [] cp) (mv "list" lI ga gl) := sJ ho ha hbase hfew hline hs
theorem uK {ap cp : Pos} (ho : QF X o ga) (ha : QFA X [e] gl) (hbase : attributeBase o "index" X.env (eval o X.env) = eval o X.env := by rfl)
    (hfew : ((backTo cp (starEach [e] X.env)).all (fun x => !x.1) && (backToKw cp (keywordEach [] X.env)).all (fun x => x.1.isSome)
      && decide ([e].length + ([] : List Keyword).length + (if ([] : List Keyword).isEmpty then 0 else 1) < 30)) = true := by rfl)
    (hline : (ap.endLine == cp.line) = true := by rfl) (hs : starEach [e] X.env = (false, eval e X.env) :: starEach [] X.env := by rfl) :
    QF X (.Call (.Attribute o "index" ap) [e] [] cp) (mv "list" lD ga gl) := sA ho ha hbase hfew hline hs
end
structure Errs (K : PySem.W.Frag) (mg : Str -> Option Value) (rs : List Addr) (ts : List (Str × Addr)) : Prop where
  na : ∀ t ∈ ts, mg t.1 = some (.ref t.2)
  ec : ∀ r ∈ rs, ExcCls K r
  kit : ∀ r ∈ rs, ∀ t ∈ ts, PySem.W.kitOne K (.ref r) (.ref t.2) = some (r == t.2)
  ve : ∀ r ∈ rs, PySem.W.kitOne K (.ref r) (.type "ValueError") = some true
  le : ∃ L, mg "LineError" = some (.ref L) /\ ∀ r ∈ rs, PySem.W.exmOne K (.ref r) (.ref L) = some true
def rK (rs : List Addr) (T C : Addr) : Option Bool := if C ∈ rs then some (C == T) else none
def rR (rs : List Addr) (C : Addr) : Option Bool := if C ∈ rs then some true else none
section
variable {X : Cx} {e : Expr} {ga : Ev -> R D} {p p2 pos : Pos} {rs : List Addr} {ts : List (Str × Addr)}
theorem uZ {y : Str} {T : Addr} (Er : Errs X.K X.mg rs ts) (hy : (y, T) ∈ ts) (hm : X.mg "isinstance" = none) (ha : QF X e ga) (hg : Gl X "isinstance" := by rfl) (hg2 : Gl X y := by rfl) (hd : (y == ("__debug__" : Str)) = false := by decide)
    (hs1 : starEach [e, .Name y p2] X.env = (false, eval e X.env) :: starEach [.Name y p2] X.env := by rfl) : QF X (.Call (.Name "isinstance" p) [e, .Name y p2] [] pos) (aI (mw (rK rs T)) ga) := by
  refine oh (v2 := .ref T) (u2 := .ref T) (rK rs T) (fun C b h => ?_) hg hm (mC hg2 (Er.na _ hy) rfl hd) rfl (fun u h => h) ha hs1
  unfold rK at h
  split at h
  . rename_i hC
    cases h
    exact ⟨Er.ec _ hC, Er.kit _ hC _ hy⟩
  . cases h
end
section
variable {X : Cx} {e : Expr} {ga : Ev -> R D} {p p2 pos : Pos} {rs : List Addr} {ts : List (Str × Addr)}
theorem xD (Er : Errs X.K X.mg rs ts) (hm : X.mg "isinstance" = none) (hm2 : X.mg "ValueError" = none) (ha : QF X e ga) (hg : Gl X "isinstance" := by rfl) (hg2 : Gl X "ValueError" := by rfl)
    (hs1 : starEach [e, .Name "ValueError" p2] X.env = (false, eval e X.env) :: starEach [.Name "ValueError" p2] X.env := by rfl) : QF X (.Call (.Name "isinstance" p) [e, .Name "ValueError" p2] [] pos) (aI (mw (rR rs)) ga) := by
  refine oh (v2 := .ty "ValueError") (u2 := .type "ValueError") (rR rs) (fun C b h => ?_) hg hm (uy hg2 hm2 rfl rfl) rfl (fun u h => h) ha hs1
  unfold rR at h
  split at h
  . rename_i hC
    cases h
    exact ⟨Er.ec _ hC, Er.ve _ hC⟩
  . cases h
end
section
variable {CX : CXT} {P : Program} {w : World} {K : PySem.W.Frag} {mg : Str -> Option Value} {base : Heap} {N : List Str} {i : Nat} {x : Str} {qual : Str} {scope : Scope} {f a : Addr} {cdv : Value} {A : Around} {outer : List Env} {s : Shared} {H : Hp} {E : XK} {pn : List (Addr × Obj)} {xe : Value -> Shared -> Prop} {pos p : Pos} {e : Expr} {ga : Ev -> R D}
theorem wB (h : At N i x) (hv : Vis (ck CX P w K mg base N qual scope f cdv A outer s H E).env.scope x := by first | exact Or.inl rfl | exact Or.inr (Or.inl rfl) | exact Or.inr (Or.inr rfl)) (hd : (x == ("__debug__" : Str)) = false := by decide)
    (hcd : (x == ("__classdict__" : Str)) = false := by decide) : QF (jd (ck CX P w K mg base N qual scope f cdv A outer s H E) pn xe) (.Name x pos) (fun ρ => rdV ρ i) := jp i h hv hd hcd
theorem xl (h : At N i x) (hv : Vis (ck CX P w K mg base N qual scope f cdv A outer s H E).env.scope x := by first | exact Or.inl rfl | exact Or.inr (Or.inl rfl) | exact Or.inr (Or.inr rfl)) (hd : (x == ("__debug__" : Str)) = false := by decide)
    (hcd : (x == ("__classdict__" : Str)) = false := by decide) : QF (iw (ck CX P w K mg base N qual scope f cdv A outer s H E) a xe) (.Name x pos) (fun ρ => rdV ρ i) := jp i h hv hd hcd
theorem xR (h : At N i x) (hN : N.Nodup) (he : QF (jd (ck CX P w K mg base N qual scope f cdv A outer s H E) pn xe) e ga) (hx : Loc (ck CX P w K mg base N qual scope f cdv A outer s H E).env.scope x := by first | exact Or.inl rfl | exact Or.inr rfl)
    (hs : swapsWithSole [.Name x p] e pos.line (ck CX P w K mg base N qual scope f cdv A outer s H E).env = pure false := by rfl) (hw : swappedStores [.Name x p] e (ck CX P w K mg base N qual scope f cdv A outer s H E).env = pure none := by rfl)
    (hf : (ck CX P w K mg base N qual scope f cdv A outer s H E).fn x = true \/ (ck CX P w K mg base N qual scope f cdv A outer s H E).env.scope.names.lookup x = some .local := by first | exact .inl rfl | exact .inr rfl) :
    QSF (jd (ck CX P w K mg base N qual scope f cdv A outer s H E) pn xe) (.Assign [.Name x p] e pos) (cP i ga) := pZ i hN he h hx hs hw hf
theorem wc (h : At N i x) (hN : N.Nodup) (he : QF (iw (ck CX P w K mg base N qual scope f cdv A outer s H E) a xe) e ga) (hx : Loc (ck CX P w K mg base N qual scope f cdv A outer s H E).env.scope x := by first | exact Or.inl rfl | exact Or.inr rfl)
    (hs : swapsWithSole [.Name x p] e pos.line (ck CX P w K mg base N qual scope f cdv A outer s H E).env = pure false := by rfl) (hw : swappedStores [.Name x p] e (ck CX P w K mg base N qual scope f cdv A outer s H E).env = pure none := by rfl)
    (hf : (ck CX P w K mg base N qual scope f cdv A outer s H E).fn x = true \/ (ck CX P w K mg base N qual scope f cdv A outer s H E).env.scope.names.lookup x = some .local := by first | exact .inl rfl | exact .inr rfl) :
    QSF (iw (ck CX P w K mg base N qual scope f cdv A outer s H E) a xe) (.Assign [.Name x p] e pos) (cP i ga) := pZ i hN he h hx hs hw hf
end
section
variable {X : Cx} {body suite : List Stmt} {b₀ : Stmt} {gb gs : Ev -> O} {pos hp tp : Pos} {nm : Str} {rs : List Addr} {ts : List (Str × Addr)}
theorem zM (i : Nat) (Er : Errs X.K X.mg rs ts) (hN : X.N.Nodup) (hcalm : X.calm = true) (hst : X.stack = X.env :: X.outer) (hfr : X.env.frame = some X.env.locals) (hkd : X.env.scope.kind = .function)
    (hb : ∀ pn xe, kW (jd X pn xe) body gb) (hh : ∀ a xe, kW (iw X a xe) (b₀ :: suite) gs) (hg : Gl X "LineError" := by rfl) (hi : X.N[i]? = some nm := by rfl) (hx : X.env.scope.names.lookup nm = some .local := by rfl) :
    QSF X (.Try body [.ExceptHandler (some (.Name "LineError" tp)) (some nm) (b₀ :: suite) hp] [] [] pos) (wr gb gs (rR rs) i) := by
  obtain ⟨L, hL, hk⟩ := Er.le
  refine sB i (rR rs) hN hcalm hst hfr hkd hb hh (fun C h => ?_) hg hL hi hx
  unfold rR at h
  split at h
  . rename_i hC; exact hk C hC
  . cases h
end
end L2
namespace L2
open PySem PySem.Spec PyProof.Rows
def fl : Nat -> D -> Bool
  | 0, _ => false
  | n + 1, .tup xs => xs.all (fl n)
  | _ + 1, .lst _ _ => false
  | _ + 1, .exc _ => false
  | _ + 1, _ => true
theorem vg {K : PySem.W.Frag} {G G2 : Hp} {n : Nat} (ih : ∀ v d, fl n d = true -> Rep K G v d -> Rep K G2 v d) : ∀ {vs : List V} {ds : List D}, ds.all (fl n) = true -> Reps K G vs ds -> Reps K G2 vs ds
  | _, _, _, .nil => .nil
  | _, _, h, .cons r t => by
    rw [List.all_cons, Bool.and_eq_true] at h
    exact .cons (ih _ _ h.1 r) (vg ih h.2 t)
theorem qX {K : PySem.W.Frag} {G G2 : Hp} (h : ∀ a o, G a = some o -> (∀ vs, o ≠ HO.lst vs) -> G2 a = some o) : ∀ (n : Nat) (v : V) (d : D), fl n d = true -> Rep K G v d -> Rep K G2 v d
  | 0, _, _, hf, _ => by simp [fl] at hf
  | n + 1, v, d, hf, r => by
    cases r with
    | non => exact .non
    | bl b => exact .bl b
    | int i => exact .int i
    | str x hx => exact .str x hx
    | tup hs t =>
      refine .tup ?_ (vg (fun v d => qX h n v d) hf t)
      rcases hs with (q | ⟨o, q⟩) | q
      . exact .inl (.inl (h _ _ q fun vs z => by cases z))
      . exact .inl (.inr ⟨o, h _ _ q fun vs z => by cases z⟩)
      . exact .inr q
    | lst hs t => simp [fl] at hf
    | fls hs t => simp [fl] at hf
    | exc hs => simp [fl] at hf
theorem StR.peek {K : PySem.W.Frag} {G₀ H₀ G H : Hp} {σ : St} {ρ : Ev} (s : StR K G₀ H₀ G H σ ρ) (i : Nat) : ∃ G1, StE K G1 H σ (L2.frz i ρ) /\
    ∀ G' H', Up G1 H G' H' -> ∃ G2, Up G H G2 H' /\ ∀ a o, G' a = some o -> (∀ vs, o ≠ HO.lst vs) -> G2 a = some o := by
  obtain ⟨G1, sr, e | ⟨l, vs, hl, e⟩⟩ := s.frzTo i
  . subst e
    exact ⟨G1, sr.e, fun G' H' u => ⟨G', u, fun a o q _ => q⟩⟩
  . subst e
    refine ⟨_, sr.e, fun G' H' u => ⟨fun a => if a = l then none else G' a, ⟨fun a o q => ?_, fun a o q => ?_, u.hh, fun a o q => ?_⟩, fun a o q hq => ?_⟩⟩
    . have q : (if a = l then none else G' a) = some o := q
      split at q
      . cases q
      . exact u.sub a o q
    . have ne : a ≠ l := fun z => by subst z; rw [hl] at q; cases q
      show (if a = l then none else G' a) = some o
      rw [if_neg ne]
      exact u.gg a o (by rw [bi ne]; exact q)
    . have q : (if a = l then none else G' a) = some o := q
      split at q
      . cases q
      . rename_i ne
        rcases u.fr a o q with z | z
        . rw [bi ne] at z; exact .inl z
        . exact .inr z
    . have ne : a ≠ l := fun z => by
        subst z
        have := u.gg a _ bq
        rw [q] at this
        cases this
        exact hq vs rfl
      show (if a = l then none else G' a) = some o
      rw [if_neg ne]; exact q
section
variable {X : Cx} {st : Stmt} {dI body a b : List Stmt} {e c tg : Expr} {g g1 g2 : Ev -> O} {ga gb : Ev -> R D} {gt : Ev -> R Bool} {gl : Ev -> R (List D)} {pos : Pos}
def Fx (i : Nat) (gt : Ev -> R Bool) (g1 g2 : Ev -> O) : Ev -> O := fun ρ => (im (gt (frz i ρ))).out ρ fun k => if k = true then g1 ρ else g2 ρ
def xz (j i : Nat) (ga : Ev -> R D) : Ev -> O := fun ρ => (im (ga (frz j ρ))).out ρ fun d => if fl 10 d = true then .nx (ρ.set i (some (.val d))) else .no
theorem xA (j i : Nat) {x : Str} {p : Pos} (hN : X.N.Nodup) (he : QF X e ga) (hi : X.N[i]? = some x := by rfl) (hx : Loc X.env.scope x := by first | exact Or.inl rfl | exact Or.inr rfl)
    (hs : swapsWithSole [.Name x p] e pos.line X.env = pure false := by rfl) (hw : swappedStores [.Name x p] e X.env = pure none := by rfl) (hf : X.fn x = true \/ X.env.scope.names.lookup x = some .local := by first | exact .inl rfl | exact .inr rfl) :
    QSF X (.Assign [.Name x p] e pos) (xz j i ga) := fun G₀ H₀ pins s σ H D I h => by
  refine qJ he (nl (i := i) hN hi hx hf) hs hw rfl pins s σ H D I ?_
  obtain ⟨G, ρ, sr, h⟩ := h
  have h : oj X G₀ H₀ D ((im (ga (frz j ρ))).out ρ fun d => if fl 10 d = true then .nx (ρ.set i (some (.val d))) else .no) := h
  obtain ⟨G1, st1, pk⟩ := sr.peek j
  refine ⟨G1, _, st1, ?_⟩
  cases q : ga (frz j ρ) with
  | ok d =>
    rw [q] at h
    intro v G' H' u r
    obtain ⟨G2, u2, tr⟩ := pk G' H' u
    have h : oj X G₀ H₀ D (if fl 10 d = true then .nx (ρ.set i (some (.val d))) else .no) := h
    by_cases hfl : fl 10 d = true
    . rw [if_pos hfl] at h
      exact h _ G2 _ ((sr.ups u2).set (qX tr 10 v d hfl r) i)
    . rw [if_neg hfl] at h; exact h.elim
  | ex C => rw [q] at h; exact h.elim
  | no => rw [q] at h; exact h.elim
def wk (j i : Nat) (ga : Ev -> R D) : Ev -> O := fun ρ => (ownAt ρ i).out ρ fun ds => (im (ga (frz j ρ))).out ρ fun d => if ds.length < sizeLine /\ fl 10 d = true then .nx (ρ.set i (some (.own (ds ++ [d])))) else .no
theorem qh (j i : Nat) {x : Str} {p ap cp : Pos} (he : QF X e ga) (hi : X.N[i]? = some x := by rfl) (hv : Vis X.env.scope x := by first | exact Or.inl rfl | exact Or.inr (Or.inl rfl))
    (hd : (x == ("__debug__" : Str)) = false := by decide) (hcd : (x == ("__classdict__" : Str)) = false := by decide) (hs1 : starEach [e] X.env = (false, eval e X.env) :: starEach [] X.env := by rfl)
    (hbase : attributeBase (.Name x p) "append" X.env (eval (.Name x p) X.env) = eval (.Name x p) X.env := by rfl)
    (hfew : ((backTo cp (starEach [e] X.env)).all (fun x => !x.1) && (backToKw cp (keywordEach [] X.env)).all (fun x => x.1.isSome)
      && decide ([e].length + ([] : List Keyword).length + (if ([] : List Keyword).isEmpty then 0 else 1) < 30)) = true := by rfl)
    (hline : (ap.endLine == cp.line) = true := by rfl)
    (hs : swapsWith (.Call (.Attribute (.Name x p) "append" ap) [e] [] cp) none pos.line X.env = pure false := by rfl) :
    QSF X (.Expr (.Call (.Attribute (.Name x p) "append" ap) [e] [] cp) pos) (wk j i ga) := fun G₀ H₀ pins s σ H D I h => by
  refine mx (wo PySem.F.plainAttrs_list PySem.F.slot_list_append PySem.F.type_list_append kO (nP hi hv hd hcd) (eA he kq hs1) hbase hfew hline hs1 rfl) hs pins s σ H D I ?_
  obtain ⟨G, ρ, sr, h⟩ := h
  have h : oj X G₀ H₀ D ((ownAt ρ i).out ρ fun ds => (im (ga (frz j ρ))).out ρ fun d => if ds.length < sizeLine /\ fl 10 d = true then .nx (ρ.set i (some (.own (ds ++ [d])))) else .no) := h
  obtain ⟨ds, e1, h⟩ := ownAt.ok h
  obtain ⟨l, vs, h1, h2, h3, h4, h5⟩ := sr.own i ds e1
  obtain ⟨G1, st1, pk⟩ := sr.peek j
  refine ⟨.ref l, h1, .inl ⟨rfl, vs, .of h2⟩, G1, _, st1, ?_⟩
  cases q : ga (frz j ρ) with
  | ok d =>
    rw [q] at h
    intro v G' H' u r
    obtain ⟨G2, u2, tr⟩ := pk G' H' u
    have h : oj X G₀ H₀ D (if ds.length < sizeLine /\ fl 10 d = true then .nx (ρ.set i (some (.own (ds ++ [d])))) else .no) := h
    by_cases hz : ds.length < sizeLine /\ fl 10 d = true
    . rw [if_pos hz] at h
      refine ⟨l, vs, v, rfl, rfl, u.hh _ _ h2, by rw [h5.length]; exact hz.1, h _ G2 _ ?_⟩
      exact (sr.ups u2).mut e1 h1 ((h5.mono u2.gg).append (.cons (qX tr 10 v d hz.2 r) .nil))
    . rw [if_neg hz] at h; exact h.elim
  | ex C => rw [q] at h; exact h.elim
  | no => rw [q] at h; exact h.elim
def wb (i : Nat) (gk ga : Ev -> R D) : Ev -> O := fun ρ => (ownAt ρ i).out ρ fun ds => (im (ga (frz i ρ))).out ρ fun d => (im (gk (frz i ρ) >>= asI)).out ρ fun k => match ixN ds.length k with
  | some n => if fl 10 d = true then .nx (ρ.set i (some (.own (ds.set n d)))) else .no
  | none => .no
theorem xy (i : Nat) {x : Str} {p tp : Pos} {ix : Expr} {gk : Ev -> R D} (he : QF X e ga) (hk : QF X ix gk) (hi : X.N[i]? = some x := by rfl) (hv : Vis X.env.scope x := by first | exact Or.inl rfl | exact Or.inr (Or.inl rfl))
    (hd : (x == ("__debug__" : Str)) = false := by decide) (hcd : (x == ("__classdict__" : Str)) = false := by decide)
    (hs : swapsWithSole [.Subscript (.Name x p) ix tp] e pos.line X.env = pure false := by rfl) (hw : swappedStores [.Subscript (.Name x p) ix tp] e X.env = pure none := by rfl)
    (h1' : (assignEach [.Subscript (.Name x p) ix tp] X.env).map (·.2) = [assign (.Subscript (.Name x p) ix tp) X.env] := by rfl)
    (ha : ∀ v, assign (.Subscript (.Name x p) ix tp) X.env v = (do
      let ov <- holding [v] (eval (.Name x p) X.env)
      let iv <- holding [v, ov] (eval ix X.env)
      standAt tp
      holding [v, ov, iv] (setItem ov iv v)
      release [v, ov, iv] []) := by intro _; rfl) :
    QSF X (.Assign [.Subscript (.Name x p) ix tp] e pos) (wb i gk ga) := fun G₀ H₀ pins s σ H D I h => by
  refine qJ he (CB (nP hi hv hd hcd) hk xj ha) hs hw h1' pins s σ H D I ?_
  obtain ⟨G, ρ, sr, h⟩ := h
  have h : oj X G₀ H₀ D ((ownAt ρ i).out ρ fun ds => (im (ga (frz i ρ))).out ρ fun d => (im (gk (frz i ρ) >>= asI)).out ρ fun k => match ixN ds.length k with
    | some n => if fl 10 d = true then .nx (ρ.set i (some (.own (ds.set n d)))) else .no
    | none => .no) := h
  obtain ⟨ds, e1, h⟩ := ownAt.ok h
  obtain ⟨l, vs, h1, h2, h3, h4, h5⟩ := sr.own i ds e1
  obtain ⟨G1, st1, pk⟩ := sr.peek i
  refine ⟨G1, _, st1, ?_⟩
  cases q : ga (frz i ρ) with
  | ok d =>
    rw [q] at h
    intro v G' H' u r
    have h : oj X G₀ H₀ D ((im (gk (frz i ρ) >>= asI)).out ρ fun k => match ixN ds.length k with
      | some n => if fl 10 d = true then .nx (ρ.set i (some (.own (ds.set n d)))) else .no
      | none => .no) := h
    show Ey _ _ _ v σ H' _
    refine ⟨.ref l, h1, G', _, st1.up u, ?_⟩
    cases q2 : gk (frz i ρ) with
    | ok kd =>
      rw [q2] at h
      intro kv G'' H'' u' rk
      cases rk with
      | int k =>
        have h : oj X G₀ H₀ D (match ixN ds.length k with
          | some n => if fl 10 d = true then .nx (ρ.set i (some (.own (ds.set n d)))) else .no
          | none => .no) := h
        obtain ⟨G2, u2, tr⟩ := pk G'' H'' (u.trans u')
        cases q3 : ixN ds.length k with
        | none => rw [q3] at h; exact h.elim
        | some n =>
          rw [q3] at h
          have h : oj X G₀ H₀ D (if fl 10 d = true then .nx (ρ.set i (some (.own (ds.set n d)))) else .no) := h
          by_cases hz : fl 10 d = true
          . rw [if_pos hz] at h
            refine ⟨l, vs, k, n, rfl, rfl, (u.trans u').hh _ _ h2, by rw [h5.length]; exact q3, h _ G2 _ ?_⟩
            exact (sr.ups u2).mut e1 h1 (.set (qX tr 10 v d hz (r.mono u'.gg)) n (h5.mono u2.gg))
          . rw [if_neg hz] at h; exact h.elim
      | _ => exact h.elim
    | ex C => rw [q2] at h; exact h.elim
    | no => rw [q2] at h; exact h.elim
  | ex C => rw [q] at h; exact h.elim
  | no => rw [q] at h; exact h.elim
def EE : D -> R (List D)
  | .lst _ xs => .ok xs
  | .tup xs => .ok xs
  | _ => .no
def CM : List D -> R (List D)
  | [d] => EE d
  | _ => .no
def DE (gl : Ev -> R (List D)) : Ev -> R (List D) := fun ρ => gl ρ >>= CM
end
end L2
namespace L2
open PySem PySem.Spec PyProof.Rows PySem.W
section
variable {X : Cx} {pins : List (Addr × Obj)} {σ : St} {G H : Hp} {s : Shared} {A : Around} {E : Value -> Shared -> Prop} {Q : Value -> Shared -> Prop}
end
section
variable {X : Cx} {e : Expr} {ga : Ev -> R D} {p p2 p3 p4 pos : Pos} {k : Nat}
end
def iC : List D -> Option (List (List Nat))
  | [] => some []
  | .str x :: ds => (iC ds).map (x :: ·)
  | _ => none
def lZ : List D -> Option (List Int)
  | [] => some []
  | .int i :: ds => (lZ ds).map (i :: ·)
  | _ => none
theorem Reps.nums {K : PySem.W.Frag} {G : Hp} : ∀ {vs : List V} {ds : List D} {ns : List Int}, Reps K G vs ds -> lZ ds = some ns -> vs = ns.map V.int
  | _, _, _, .nil, h => by cases h; rfl
  | _, _, ns, .cons (d := d) r t, h => by
    cases d <;> first | (cases h; done) | skip
    rename_i x
    rename_i ds'
    cases q : lZ ds' with
    | none => simp [lZ, q] at h
    | some zs =>
      simp [lZ, q] at h
      subst h
      rw [Reps.nums t q, r.int_inv]; rfl
section
variable {X : Cx}
theorem rZ {e : Expr} {ga : Ev -> R D} {p p2 pos : Pos} (hm : X.mg "isinstance" = none) (ha : QF X e ga) (hm2 : X.mg "list" = none) (hg2 : Gl X "list" := by rfl) (hg : Gl X "isinstance" := by rfl) (hs1 : starEach [e, .Name "list" p2] X.env = (false, eval e X.env) :: starEach [.Name "list" p2] X.env := by rfl) : QF X (.Call (.Name "isinstance" p) [e, .Name "list" p2] [] pos) (aI (dh (· == "list")) ga) := pq hm ha hm2 hg2 hg hs1
end
end L2
namespace L2
open PySem PySem.Spec PyProof.Rows
open Sem (wp)
open AutoSeq1 (wpAny_loadPart')
section
variable {prog : Program} {w : World} {A : Around} {E : Value -> Shared -> Prop} {s : Shared}
end
section
variable {prog : Program} {w : World} {A : Around} {E : Value -> Shared -> Prop} {s : Shared}
end
section
variable {P : Program} {w : World} {K : PySem.W.Frag} {elts : List Expr} {kt : Nat} {tp : Pos}
structure Inner (P : Program) (w : World) (K : PySem.W.Frag) (sq : Hp -> List V -> Prop) (a it : Addr) (iter : Nat -> Heap -> Prop) : Prop where
  obj : ∀ i h, iter i h -> ∃ o, h.get? it = some o /\ ∀ v, o.data ≠ .cell v
  at_ : ∀ i h h', iter i h -> (∀ o, h.get? it = some o -> h'.get? it = some o) -> iter i h'
  inj : ∀ (X : Cx), X.K = K -> ∀ (pins : List (Addr × Obj)) (σ : St) (H : Hp) (s : Shared) xs ys, Inv X pins σ H s -> sq H xs -> sq H ys -> xs = ys
  dr : ∀ (X : Cx), X.prog = P -> X.w = w -> X.K = K -> X.calm = true -> ∀ (pins : List (Addr × Obj)) (σ : St) (H : Hp) (s : Shared) (xs : List V) (c : Nat), Inv X pins σ H s -> sq H xs -> (∀ i, iter i s.heap -> a ≠ it) ->
    ∃ its : List Value, Vals xs its /\ xs.length <= sizeLine /\ ∃ (Pd : Nat -> Value -> Prop) (St : Nat -> Heap -> Prop), Draws P w X.A.in1 it [it, a] (c + its.length) Pd St /\ (∀ k v, Pd (c + k) v -> its[k]? = some v) /\
      (∀ k h, iter k h -> (∀ o, s.heap.get? a = some o -> h.get? a = some o) -> a ≠ it -> St (c + k) h) /\ ∀ k h, St (c + k) h -> iter k h
  fin : ∀ (X : Cx), X.prog = P -> X.w = w -> X.K = K -> X.calm = true -> ∀ (pins : List (Addr × Obj)) (σ : St) (H : Hp) (s : Shared) (xs : List V) (i : Nat) (Q : Value -> Shared -> Prop) (E : Value -> Shared -> Prop), Inv X pins σ H s -> sq H xs -> xs.length <= i -> iter i s.heap ->
    (∀ h' x, Heap.ExtBut it s.heap h' -> (∃ o, h'.get? x = some o /\ o.cls = .type "StopIteration") -> E (.ref x) { s with heap := h' }) -> wpAny (model P w) X.A.in1 (Builtin.SmallTypes.nextOf (.ref it)) Q E s
end
end L2
namespace L2
open PySem PySem.Spec PyProof.Rows
def wt (c : Nat) (xs : List D) : List D := (List.range xs.length).map fun i => .tup [.int ((c + i : Nat) : Int), xs.getD i .non]
section
variable {X : Cx} {pins : List (Addr × Obj)} {σ : St} {H : Hp} {s : Shared} {elts : List Expr} {kt : Nat} {tp : Pos} {Rr : It -> Hp -> Prop}
end
def yt : D -> D -> R (List D)
  | .tup xs, .int c => if 0 <= c /\ c < 1073741824 then .ok (wt c.toNat xs) else .no
  | _, _ => .no
section
variable {X : Cx} {a b : Expr} {ga gb : Ev -> R D} {elts : List Expr} {kt : Nat} {p pos tp kp : Pos}
def Ck (ga gb : Ev -> R D) : Ev -> R (List D) := fun ρ => ga ρ >>= fun x => gb ρ >>= fun c => yt x c
end
end L2
namespace L2
open PySem PySem.Spec PyProof.Rows
section
variable {X : Cx} {elt iter tgt : Expr} {ifs : List Expr} {pos : Pos} {scope : Scope} {n : Nat} {N' : List Str} {ix : List Nat} {asg : D -> Ev -> R Ev} {gi : Ev -> R (List D)} {gt : Ev -> R Bool} {ge : Ev -> R D}
end
def zT : List D -> Option D
  | [.lst _ ds] => match lZ ds with
    | some ns => some (.int ns.sum)
    | none => none
  | [.tup ds] => match lZ ds with
    | some ns => some (.int ns.sum)
    | none => none
  | _ => none
theorem Vals.ints : ∀ {ns : List Int} {its : List Value}, Vals (ns.map V.int) its -> IntsAre its ns
  | [], _, .nil => .nil
  | n :: ns, _, .cons r t => by
    obtain ⟨tk, rfl⟩ := r
    exact .cons n tk (Vals.ints t)
section
variable {X : Cx}
theorem oC {ns : List Int} {its : List Value} (rv : Vals (ns.map V.int) its) : ∃ xs : Array (Int × Tok), its.toArray = intItems xs /\ preSum (numAt xs) xs.size = ns.sum := by
  have hi := Vals.ints rv
  obtain ⟨xs, hx⟩ := hi.allInts.items
  have e1 : ns = xs.toList.map (·.1) := by
    rw [<- nums_intItems, <- hx]
    exact (show numsOf its.toArray.toList = ns from hi.numsOf).symm
  exact ⟨xs, hx, by rw [preSum_eq, List.take_of_length_le (by simp), e1]⟩
theorem vw (hc : X.calm = true) : ic X (.builtin "sum") (fun xs H Q => ∃ p, ∃ ns : List Int, xs = [.ref p] /\ (SqL X.K H p (ns.map V.int) \/ SqT X.K H p (ns.map V.int)) /\ Q (.int ns.sum) H) := by
  intro pins s σ H xs us Q I r ⟨p, ns, ex, hs, q⟩
  subst ex
  obtain ⟨u, rfl, r1⟩ := r.one
  cases r1
  rcases hs with hs | hs
  . obtain ⟨its, rv, pl, hz⟩ := I.list hs
    obtain ⟨xs, hx, e2⟩ := oC rv
    refine sum_intListG (I.ok.hd hc) (hx ▸ pl.isList) fun h' tk t' hk => ?_
    rw [e2]
    exact ⟨.int _, H, I.kept (t' := tk) hk, ⟨_, rfl⟩, q⟩
  . obtain ⟨its, rv, pl, hz⟩ := I.tuple hs
    obtain ⟨xs, hx, e2⟩ := oC rv
    have ht : s.heap.IsTuple p its.toArray := pl
    refine PySem.W.ktm_sumG (I.ok.hd hc) (hx ▸ ht) fun h' tk t' hk => ?_
    rw [e2]
    exact ⟨.int _, H, I.kept (t' := tk) hk, ⟨_, rfl⟩, q⟩
theorem yJ (K : PySem.W.Frag) : yz K (fun xs H Q => ∃ p, ∃ ns : List Int, xs = [.ref p] /\ (SqL K H p (ns.map V.int) \/ SqT K H p (ns.map V.int)) /\ Q (.int ns.sum) H) zT := by
  intro G H xs ds d Q s r e q
  unfold zT at e
  split at e
  . split at e
    . rename_i ns hn
      cases e
      obtain ⟨v, rfl, r1⟩ := r.one
      obtain ⟨a, vs, rfl, hs, rr⟩ := r1.seq_inv
      obtain rfl := rr.nums hn
      exact ⟨a, ns, rfl, .inl (hs.mono s), q _ G H (.refl s) (.int _)⟩
    . cases e
  . split at e
    . rename_i ns hn
      cases e
      obtain ⟨v, rfl, r1⟩ := r.one
      obtain ⟨a, vs, rfl, hs, rr⟩ := r1.tup_inv
      obtain rfl := rr.nums hn
      exact ⟨a, ns, rfl, .inr (hs.mono s), q _ G H (.refl s) (.int _)⟩
    . cases e
  . cases e
theorem Ai {e : Expr} {gl : Ev -> R (List D)} {p pos : Pos} (hc : X.calm = true) (hg : Gl X "sum") (hm : X.mg "sum" = none) (ha : QFA X [e] gl) (he : starEach [e] X.env = (false, eval e X.env) :: starEach [] X.env := by rfl) :
    QF X (.Call (.Name "sum" p) [e] [] pos) (gOf zT gl) := fU (vw hc) (yJ _) hg hm PyProof.Rows.Boot.«sum» ha (by decide) (by decide) he rfl
end
def DA (i j : Nat) (ga : Ev -> R D) (gl : Ev -> R (List D)) : Ev -> O := fun ρ => (ga ρ).out ρ fun d => (gl ρ).out ρ fun ds => .nx ((ρ.set i (some (.val d))).set j (some (.own ds)))
section
variable {X : Cx} {ga : Ev -> R D} {gl : Ev -> R (List D)} {pos : Pos}
end
end L2
namespace L2
open PySem PySem.Spec PyProof.Rows
section
variable {P : Program} {w : World} {K : PySem.W.Frag} {elts : List Expr} {kt : Nat} {tp : Pos}
end
section
variable {X : Cx} {a b : Expr} {gl : Ev -> R (List D)} {elts : List Expr} {kt : Nat} {p pos tp : Pos}
end
end L2
namespace L2
open PySem PySem.Spec PyProof.Rows
def CL : D -> D -> R D
  | .str x, .int k => if k = -1 then .ok (.str x.reverse) else .no
  | .lst _ xs, .int k => if k = -1 then .ok (.lst false xs.reverse) else .no
  | _, _ => .no
def EI (ga gs : Ev -> R D) : Ev -> R D := fun ρ => ga ρ >>= fun x => gs ρ >>= fun k => CL x k
section
variable {X : Cx} {a st : Expr} {ga gs : Ev -> R D} {pos p2 : Pos}
def nV : List D -> Option D
  | [.bl b] => some (.int (if b = true then 1 else 0))
  | _ => none
theorem rJ : ic X (.type "int") (fun xs H Q => ∃ b : Bool, xs = [.bl b] /\ Q (.int (if b = true then 1 else 0)) H) := by
  intro pins s σ H xs us Q I r ⟨b, ex, q⟩
  subst ex
  obtain ⟨u, rfl, r1⟩ := r.one
  cases r1
  exact call_int_bool ⟨.int _, H, I.tok _, ⟨_, rfl⟩, q⟩
theorem wv (K : PySem.W.Frag) : yz K (fun xs H Q => ∃ b : Bool, xs = [.bl b] /\ Q (.int (if b = true then 1 else 0)) H) nV := by
  intro G H xs ds d Q s r e q
  unfold nV at e
  split at e
  . cases e
    obtain ⟨v, rfl, r1⟩ := r.one
    cases r1
    exact ⟨_, rfl, q _ G H (.refl s) (.int _)⟩
  . cases e
theorem vH {e : Expr} {gl : Ev -> R (List D)} {p : Pos} (hg : Gl X "int") (hm : X.mg "int" = none) (ha : QFA X [e] gl) (he : starEach [e] X.env = (false, eval e X.env) :: starEach [] X.env := by rfl) :
    QF X (.Call (.Name "int" p) [e] [] pos) (gOf nV gl) := jq rJ (wv _) hg hm PyProof.Rows.Boot.«int» ha (by decide) (by decide) he rfl
end
end L2
namespace L2
open PySem PySem.Spec PyProof.Rows
section
variable {X : Cx} {c e : Expr} {body : List Stmt} {gt : Ev -> R Bool} {g : Ev -> O} {ga : Ev -> R D} {pos : Pos}
end
end L2
namespace L2
open PySem PySem.Spec PyProof.Rows
def xH (gs : List (Ev -> R D)) (ρ : Ev) : D -> R D
  | .int i => if 0 <= i then (match gs[i.toNat]? with
    | some g => g ρ
    | none => .no) else .no
  | _ => .no
def uv (gs : List (Ev -> R D)) (gi : Ev -> R D) : Ev -> R D := fun ρ => gi ρ >>= xH gs ρ
theorem CA {gs : List (Ev -> R D)} {gi : Ev -> R D} {ρ : Ev} : uv gs gi ρ = gi ρ >>= xH gs ρ := rfl
theorem Ca {g : Ev -> R D} {gs : List (Ev -> R D)} {ρ : Ev} : xH (g :: gs) ρ (.int 0) = g ρ := rfl
theorem AW {f g : Ev -> R D} {gs : List (Ev -> R D)} {ρ : Ev} : xH (f :: g :: gs) ρ (.int 1) = g ρ := rfl
def inD (x : D) : List D -> Option Bool
  | [] => some false
  | y :: ys => (eqD 40 y x).bind fun k => if k = true then some true else inD x ys
def inF : D -> D -> Option D
  | x, .lst _ ys => if inD x ys = some false then some (.bl false) else none
  | _, _ => none
theorem uM {x : D} : ∀ {ys : List D}, inD x ys = some false -> ∀ y ∈ ys, eqD 40 y x = some false
  | [], _, _, h => by cases h
  | z :: ys, e, y, h => by
    unfold inD at e
    cases q : eqD 40 z x with
    | none => rw [q] at e; cases e
    | some k =>
      rw [q, Option.bind_some] at e
      cases k with
      | true => rw [if_pos rfl] at e; cases e
      | false =>
        rw [if_neg Bool.false_ne_true] at e
        rcases List.mem_cons.1 h with rfl | h
        . exact q
        . exact uM e y h
section
variable {X : Cx} {a b ix e : Expr} {es : List Expr} {ga gb gi : Ev -> R D} {gl : Ev -> R (List D)} {pos p1 p2 pl sp : Pos}
theorem vX (v sl : Expr) (args : List Expr) (env : Env) : eval (.Call (.Subscript v sl sp) args [] pos) env = (do
    callWith pos (<- eval (.Subscript v sl sp) env) [] (backTo pos (starEach args env)) (backToKw pos (keywordEach [] env))) := rfl
theorem oq {pins : List (Addr × Obj)} {s : Shared} {σ : St} {H G : Hp} {ρ : Ev} {Q : VK} {k : Nat} {f : Addr} {fd : FuncData} {ps : List Str} {g : List D -> R D} (F : FnF X.prog X.w X.K X.mg X.base k f fd ps g) (hr : Room k X.A) (hk : PySem.W.keepIn X.K (.ref f) = true) (hb : Binds X.K fd ps []) (ha : QFA X (e :: es) gl)
    (he : starEach (e :: es) X.env = (false, eval e X.env) :: starEach es X.env) (hpl : (backTo pos (starEach es X.env)).any (·.1) = false) (I : Inv X pins σ H s) (st : StE X.K G H σ ρ)
    (h : (aR ps.length g gl ρ).post (Fin G H (Rep X.K) Q) (Exx X σ G H)) : wpAny (model X.prog X.w) X.A (callWith pos (.ref f) [] (backTo pos (starEach (e :: es) X.env)) (backToKw pos (keywordEach [] X.env))) (EP X pins σ Q) X.xe s := by
  have t : tAF X gl σ H (fun vs H1 => ∃ G1 ds, Up G H G1 H1 /\ Same G1 H1 /\ Reps X.K G1 vs ds /\ ds.length = ps.length /\ (g ds).post (Fin G1 H1 (Rep X.K) Q) (Exx X σ G1 H1)) := by
    refine tG.intro st h fun ds vs G1 H1 u1 st1 r1 h1 => ?_
    by_cases hl : ds.length = ps.length
    . rw [if_pos hl] at h1; exact ⟨G1, ds, u1, st1.sub, r1, hl, h1⟩
    . rw [if_neg hl] at h1; exact h1.elim
  refine PySem.W.callWith_K (h₀ := X.base) I.ok.mod.kin hk (thn (ha pos pins s σ H _ I t) fun us s1 q => ⟨?_, ?_⟩) he hpl
  . obtain ⟨vs, H1, I1, r, _⟩ := q; exact I1.kIn
  obtain ⟨vs, H1, I1, r, G1, ds, u1, sub1, rp, hl, h1⟩ := q
  have hvl : vs.length = ps.length := by rw [rp.length]; exact hl
  have hul : (us ++ []).length = ps.length := by rw [List.append_nil, <- r.length]; exact hvl
  have hbb := hb s1 us I1.kIn hul
  rw [List.append_nil] at hbb
  refine wpAny_call (codeAny_mono (F.run X.A X.stack s1 H1 ⟨us, []⟩ us vs Q (fun c _ H' => ∃ C G', c = .ref C /\ Up G1 H1 G' H' /\ Exx X σ G1 H1 C) hr I1.env0 hbb r ⟨hvl, G1, ds, sub1, rp, h1.mono (fun _ q => q) fun C q G' H' u => ⟨C, G', rfl, u, q⟩⟩) fun r' s' hq => ?_)
  cases r' with
  | error e' =>
    obtain ⟨a, C, H', rfl, fl, C', G', ec, u, q⟩ := hq
    cases ec
    exact q _ _ ⟨G1, H1, .refl sub1, pins, s1, a, rfl, I1, .inr ⟨G', H', fl, u⟩⟩
  | ok fl =>
    cases fl with
    | ret u => exact I1.after hq
    | next => exact False.elim hq
    | brk => exact False.elim hq
    | cont => exact False.elim hq
theorem xo {x1 x2 : Str} {k n : Nat} {f1 f2 : List D -> R D} (c1 : Callee X.prog X.w X.K X.mg X.base x1 k n f1) (c2 : Callee X.prog X.w X.K X.mg X.base x2 k n f2) (hr : Room k X.A) (hi : QF X ix gi) (ha : QFA X (e :: es) gl) (hg1 : Gl X x1 := by rfl) (hg2 : Gl X x2 := by rfl)
    (hd1 : (x1 == ("__debug__" : Str)) = false := by decide) (hd2 : (x2 == ("__debug__" : Str)) = false := by decide) (he : starEach (e :: es) X.env = (false, eval e X.env) :: starEach es X.env := by rfl) (hpl : (backTo pos (starEach es X.env)).any (·.1) = false := by rfl) (hs : ju ix := by exact fun _ _ => rfl)
    (hs1 : starEach [.Name x1 p1, .Name x2 p2] X.env = (false, eval (.Name x1 p1) X.env) :: starEach [.Name x2 p2] X.env := by rfl) (hs2 : starEach [.Name x2 p2] X.env = (false, eval (.Name x2 p2) X.env) :: starEach [] X.env := by rfl) :
    QF X (.Call (.Subscript (.List [.Name x1 p1, .Name x2 p2] pl) ix sp) (e :: es) [] pos) (uv [aR n f1 gl, aR n f2 gl] gi) := by
  intro pins s σ H Q I h
  obtain ⟨G, ρ, st, h⟩ := h
  obtain ⟨a1, fd1, ps1, F1, m1, k1, b1, l1⟩ := c1.ex
  obtain ⟨a2, fd2, ps2, F2, m2, k2, b2, l2⟩ := c2.ex
  rw [vX]
  have key : PE X (.Subscript (.List [.Name x1 p1, .Name x2 p2] pl) ix sp) (tOp (CU X.K) (Et (zJ (tC (.ref a1)) (zJ (tC (.ref a2)) Ex))) (tF X gi)) := B8 ix_list (yb (eA (mC hg1 m1 rfl hd1) (eA (mC hg2 m2 rfl hd2) kq hs2) hs1)) hi hs
  refine wpAny_bind (thn (key pins s σ H (fun v H1 => ∃ G1, StE X.K G1 H1 σ ρ /\ ((v = .ref a1 /\ (aR n f1 gl ρ).post (Fin G1 H1 (Rep X.K) Q) (Exx X σ G1 H1)) \/ (v = .ref a2 /\ (aR n f2 gl ρ).post (Fin G1 H1 (Rep X.K) Q) (Exx X σ G1 H1)))) I ?_) fun u s1 q => ?_)
  . refine ⟨by show 2 <= sizeLine; decide, fun l hl => ?_⟩
    have u0 : Up G H (upd G l (.lst [.ref a1, .ref a2])) (upd H l (.lst [.ref a1, .ref a2])) := .new st.sub hl
    refine tG.intro (st.up u0) (jU u0 h) fun d y G1 H1 u1 st1 r1 h1 => ?_
    cases r1 with
    | int i =>
      have h1 : (if 0 <= i then (match [aR n f1 gl, aR n f2 gl][i.toNat]? with
        | some g => g ρ
        | none => .no) else .no : R D).post (Fin G1 H1 (Rep X.K) Q) (Exx X σ G1 H1) := h1
      by_cases h0 : 0 <= i
      . rw [if_pos h0] at h1
        obtain ⟨j, rfl⟩ := Int.eq_ofNat_of_zero_le h0
        rw [Int.toNat_natCast] at h1
        have hsq : SqL X.K H1 l [.ref a1, .ref a2] := .of (u1.sub _ _ (u1.gg _ _ bq))
        match j, h1 with
        | 0, h1 => exact ⟨l, _, _, _, rfl, rfl, hsq, rfl, G1, st1, .inl ⟨rfl, h1⟩⟩
        | 1, h1 => exact ⟨l, _, _, _, rfl, rfl, hsq, rfl, G1, st1, .inr ⟨rfl, h1⟩⟩
        | j + 2, h1 => exact h1.elim
      . rw [if_neg h0] at h1; exact h1.elim
    | _ => exact h1.elim
  . obtain ⟨v, H1, I1, rv, G1, st1, q⟩ := q
    rcases q with ⟨rfl, q⟩ | ⟨rfl, q⟩
    . cases rv
      rw [<- l1] at q
      exact oq F1 hr k1 b1 ha he hpl I1 st1 q
    . cases rv
      rw [<- l2] at q
      exact oq F2 hr k2 b2 ha he hpl I1 st1 q
def Es (K : PySem.W.Frag) : R2 := fun x y H Q => ∃ G dx f ds, Same G H /\ Rep K G x dx /\ Rep K G y (.lst f ds) /\ (∀ d ∈ ds, eqD 40 d dx = some false) /\ Q (.bl false) H
theorem vv {K : PySem.W.Frag} {G : Hp} : ∀ {vs : List V} {ds : List D} {its : List Value}, Reps K G vs ds -> Vals vs its -> ∀ u ∈ its, ∃ v d, d ∈ ds /\ Rep K G v d /\ RelV v u
  | _, _, _, .nil, .nil, u, h => by cases h
  | _, _, _, .cons r t, .cons q w, u, h => by
    rcases List.mem_cons.1 h with rfl | h
    . exact ⟨_, _, List.mem_cons_self .., r, q⟩
    . obtain ⟨v, d, m, r', q'⟩ := vv t w u h
      exact ⟨v, d, List.mem_cons_of_mem _ m, r', q'⟩
theorem Cc (hu : X.A.units + 64 < cLine) : OpR X (compareOp .In) (Es X.K) := by
  intro pins s σ H x y v u Q I rx ry h
  obtain ⟨G, dx, f, ds, sub, r1, r2, he, q⟩ := h
  obtain ⟨c, its, vs, rfl, p, w, r⟩ := fQ I sub r2 ry
  refine SeqAt.in_listAt (fun _ => false) p (fun z hz => ?_) ?_
  . obtain ⟨v', d, m, rr, qq⟩ := vv r w z (List.mem_toArray.1 hz)
    exact (pO I sub 40 X.A.in1 d dx false v' x z v (by show X.A.units + 1 + 40 < cLine; omega) (he d m) rr r1 qq rx).eq
  . have e : (List.toArray its).any (fun _ => false) = false := by simp
    rw [e]
    exact ⟨.bl false, H, I, rfl, q⟩
theorem BW (K : PySem.W.Frag) : ROk K (Es K) inF := by
  intro G H x y dx dy d Q s rx ry e q
  unfold inF at e
  split at e
  . split at e
    . rename_i h
      cases e
      exact ⟨G, _, _, _, s, rx, ry, uM h, q _ G H (.refl s) (.bl false)⟩
    . cases e
  . cases e
theorem Ag (hu : X.A.units + 64 < cLine) (ha : QF X a ga) (hb : QF X b gb) (hm : behindInMarks .In b = false := by rfl) : QB X (.Compare a [.In] [b] pos) (gB2 inF ga gb) := dY (Cc hu) (BW _) ha hb hm
end
end L2
namespace L2
open PySem PySem.Spec PyProof.Rows
@[irreducible] def PF (X : Cx) (e : Expr) (g : Ev -> R D) : Prop := QF X e g
@[irreducible] def PFA (X : Cx) (e : List Expr) (g : Ev -> R (List D)) : Prop := QFA X e g
@[irreducible] def PB (X : Cx) (e : Expr) (g : Ev -> R Bool) : Prop := QB X e g
@[irreducible] def PBW (X : Cx) (e : Expr) (g : Ev -> R Bool) : Prop := QBW X e g
@[irreducible] def PSF (X : Cx) (e : Stmt) (g : Ev -> O) : Prop := QSF X e g
@[irreducible] def va (X : Cx) (e : List Stmt) (g : Ev -> O) : Prop := kW X e g
@[irreducible] def PFL (X : Cx) (e : Expr) (g : Ev -> R (List D)) : Prop := QFL X e g
@[irreducible] def PIF (X : Cx) (tg e : Expr) (g : Ev -> R (List D)) : Prop := QIF X tg e g
@[irreducible] def PFO (X : Cx) (e : Option Expr) (g : Ev -> R (Option Int)) : Prop := QFO X e g
section
variable {X : Cx} {e a b c : Expr} {ga gb gc : Ev -> R D} {pos : Pos}
theorem aq {i : Int} {j : Nat} : PF X (.Constant (.int i) j pos) (fun _ => .ok (.int i)) := by
  with_unfolding_all exact wz
theorem fu {k : Bool} {j : Nat} : PF X (.Constant (.bool k) j pos) (fun _ => .ok (.bl k)) := by
  with_unfolding_all exact zf
theorem fJ {j : Nat} : PF X (.Constant .none j pos) (fun _ => .ok .non) := by
  with_unfolding_all exact xI
theorem aW {x : Str} {j : Nat} {l : List Nat} (hl : x.cps.toList = l := by rfl) (hz : l.length <= 1000 := by decide) : PF X (.Constant (.str x) j pos) (fun _ => .ok (.str l)) := by
  with_unfolding_all exact wN hl hz
theorem dP {x : Str} {i : Int} {t : Tok} (hg : Gl X x) (hm : X.mg x = some (.int i t)) (hd : (x == ("__debug__" : Str)) = false := by decide) : PF X (.Name x pos) (fun _ => .ok (.int i)) := by
  with_unfolding_all exact rX hg hm hd
end
section
variable {X : Cx}
theorem ba {a b : Expr} {ga gb : Ev -> R D} {pos : Pos} (ha : PF X a ga) (hb : PF X b gb) : PF X (.BinOp a .Add b pos) (g2 bw ga gb) := by
  with_unfolding_all exact xi ha hb
theorem iM {a b : Expr} {ga gb : Ev -> R D} {pos : Pos} (ha : PF X a ga) (hb : PF X b gb) : PF X (.BinOp a .Sub b pos) (g2 oO ga gb) := by
  with_unfolding_all exact xJ ha hb
theorem AB {a b : Expr} {ga gb : Ev -> R D} {pos : Pos} (ha : PF X a ga) (hb : PF X b gb) : PF X (.BinOp a .FloorDiv b pos) (g2 tN ga gb) := by
  with_unfolding_all exact uC ha hb
theorem qZ {a b : Expr} {ga gb : Ev -> R D} {pos : Pos} (ha : PF X a ga) (hb : PF X b gb) : PF X (.BinOp a .Mod b pos) (g2 sR ga gb) := by
  with_unfolding_all exact xv ha hb
end
section
variable {X : Cx} {a b c e : Expr} {ga gb gc : Ev -> R D} {pos : Pos}
theorem Dv (ha : PF X a ga) (hb : PF X b gb) : PF X (.Compare a [.LtE] [b] pos) (g2 leD ga gb) := by
  with_unfolding_all exact yC ha hb
theorem DI (ha : PF X a ga) (hb : PF X b gb) : PF X (.Compare a [.Lt] [b] pos) (g2 ltD ga gb) := by
  with_unfolding_all exact Az ha hb
theorem mE (ha : PF X a ga) (hb : PF X b gb) (hc : PF X c gc) (hm : lastMarks [.LtE, .LtE] [b, c] = false := by with_unfolding_all rfl) : PF X (.Compare a [.LtE, .LtE] [b, c] pos) (g3 leD leD ga gb gc) := by
  with_unfolding_all exact ud ha hb hc hm
end
section
variable {X : Cx} {a b : Expr} {ga gb : Ev -> R D} {pos : Pos}
theorem pi (hu : X.A.units + 64 < cLine) (ha : PF X a ga) (hb : PF X b gb) : PF X (.Compare a [.Eq] [b] pos) (g2 eqF ga gb) := by
  with_unfolding_all exact yL hu ha hb
end
section
variable {X : Cx} {a b c e : Expr} {es dI : List Expr} {ga gb gc : Ev -> R D} {gt gu : Ev -> R Bool} {gl : Ev -> R (List D)} {pos : Pos}
theorem eK {op : BoolOp} (h : PF X a ga) : PF X (.BoolOp op [a] pos) ga := by
  with_unfolding_all exact xg h
theorem dQ (ha : PF X a ga) (hb : PF X (.BoolOp .And (b :: dI) pos) gb) : PF X (.BoolOp .And (a :: b :: dI) pos) (iK ga gb) := by
  with_unfolding_all exact wL ha hb
theorem yK (ha : PF X a ga) (hb : PF X (.BoolOp .Or (b :: dI) pos) gb) : PF X (.BoolOp .Or (a :: b :: dI) pos) (gOr ga gb) := by
  with_unfolding_all exact yG ha hb
theorem yr (ha : PF X a ga) : PF X (.UnaryOp .Not a pos) (AR ga) := by
  with_unfolding_all exact wn ha
theorem Dg (ha : PF X a ga) (hb : PF X b gb) : PB X (.Compare a [.GtE] [b] pos) (fun ρ => g2 geD ga gb ρ >>= asB) := by
  with_unfolding_all exact zy ha hb
theorem mG (ha : PB X a gt) : PBW X (.BoolOp .And [a] pos) gt := by
  with_unfolding_all exact sj ha
theorem cK (ha : PB X a gt) : PBW X (.BoolOp .Or [a] pos) gt := by
  with_unfolding_all exact ux ha
theorem mm (ha : PB X a gt) (hb : PBW X (.BoolOp .And (b :: dI) pos) gu) : PBW X (.BoolOp .And (a :: b :: dI) pos) (pS gt gu) := by
  with_unfolding_all exact vc ha hb
theorem cZ (ha : PB X a gt) (hb : PBW X (.BoolOp .Or (b :: dI) pos) gu) : PBW X (.BoolOp .Or (a :: b :: dI) pos) (ig gt gu) := by
  with_unfolding_all exact xn ha hb
theorem jb (hc : PB X c gt) (ha : PF X a ga) (hb : PF X b gb) : PF X (.IfExp c a b pos) (gIf gt ga gb) := by
  with_unfolding_all exact zh hc ha hb
theorem aj  : PFA X [] (fun _ => .ok []) := by
  with_unfolding_all exact nG
theorem aY (ha : PF X a ga) (hb : PF X b gb) (hs : ju b := by exact fun _ _ => rfl) : PF X (.Subscript a b pos) (g2 ixD ga gb) := by
  with_unfolding_all exact Af ha hb hs
end
section
variable {X : Cx} {a b c e : Expr} {es dI : List Expr} {lo hi : Option Expr} {ga gb gc : Ev -> R D} {go gp : Ev -> R (Option Int)} {gl : Ev -> R (List D)} {pos p2 : Pos}
theorem br  : PFO X none (fun _ => .ok none) := by
  with_unfolding_all exact ss
theorem bt (ha : PF X a ga) (hl : PFO X lo go) (hu : PFO X hi gp) : PF X (.Subscript a (.Slice lo hi none p2) pos) (gSl ga go gp) := by
  with_unfolding_all exact rH ha hl hu
theorem wM {id : String} {x : Str} {p : Pos} {r : List V -> Hp -> VK -> Prop} {f : List D -> Option D} (hc : ic X (.builtin id) r) (hf : yz X.K r f) (hg : Gl X x) (hm : X.mg x = none) (hv : bootBuiltins x = some (.builtin id)) (ha : PFA X (e :: es) gl)
    (hn : x ≠ "__name__" := by decide) (hdb : (x == ("__debug__" : Str)) = false := by decide)
    (he : starEach (e :: es) X.env = (false, eval e X.env) :: starEach es X.env := by rfl) (hpl : (backTo pos (starEach es X.env)).any (·.1) = false := by rfl) : PF X (.Call (.Name x p) (e :: es) [] pos) (fun ρ => gl ρ >>= fun ds => ofO (f ds)) := by
  with_unfolding_all exact fU hc hf hg hm hv ha hn hdb he hpl
theorem tI {T : String} {x : Str} {p : Pos} {r : List V -> Hp -> VK -> Prop} {f : List D -> Option D} (hc : ic X (.type T) r) (hf : yz X.K r f) (hg : Gl X x) (hm : X.mg x = none) (hv : bootBuiltins x = some (.type T)) (ha : PFA X (e :: es) gl)
    (hn : x ≠ "__name__" := by decide) (hdb : (x == ("__debug__" : Str)) = false := by decide)
    (he : starEach (e :: es) X.env = (false, eval e X.env) :: starEach es X.env := by rfl) (hpl : (backTo pos (starEach es X.env)).any (·.1) = false := by rfl) : PF X (.Call (.Name x p) (e :: es) [] pos) (fun ρ => gl ρ >>= fun ds => ofO (f ds)) := by
  with_unfolding_all exact jq hc hf hg hm hv ha hn hdb he hpl
end
section
variable {X : Cx} {tg a e : Expr} {ga : Ev -> R D} {gl : Ev -> R (List D)} {pos : Pos}
end
section
theorem vb {X : Cx} {c : Expr} {gt : Ev -> R Bool} (h : PB X c gt) : PTs X [c] gt := by
  with_unfolding_all exact uH h
end
section
variable {X : Cx} {elt iter : Expr} {ifs : List Expr} {x : Str} {px pos : Pos} {scope : Scope} {N' : List Str} {ix : List Nat} {gi : Ev -> R (List D)} {gt : Ev -> R Bool} {ge : Ev -> R D}
theorem eT (ok : CompOk X scope x N' ix) (hcalm : X.calm = true) (hi : PIF X (.Name x px) iter gi) (he : ∀ C s₂ H₂ fp, PF (bA X N' scope C s₂ H₂ fp) elt ge) (ht : ∀ C s₂ H₂ fp, PTs (bA X N' scope C s₂ H₂ fp) ifs gt)
    (hs : ∀ x, foldedSetIterable iter X.env x = pure x := by intro _; rfl) : PFL X (.ListComp elt [⟨.Name x px, iter, ifs, 0⟩] scope pos) (eM gi ix gt ge) := by
  with_unfolding_all exact sE ok hcalm hi he ht hs
end
section
variable {X : Cx} {st : Stmt} {dI body a b : List Stmt} {e c tg : Expr} {g g1 g2 : Ev -> O} {ga : Ev -> R D} {gt : Ev -> R Bool} {gl : Ev -> R (List D)} {pos : Pos}
end
section
variable {X : Cx} {k : Nat} {f : Addr} {fd : FuncData} {ps : List Str} {x : Str} {p pos : Pos} {e : Expr} {es : List Expr} {gl : Ev -> R (List D)} {g : List D -> R D}
end
section
theorem Fun.okF {P : Program} {w : World} {K : PySem.W.Frag} {mg : Str -> Option Value} {base : Heap} {x qual : Str} {st : Stmt} {f : Addr} {fd : FuncData} {N ps : List Str} {k : Nat} (F : Fun K x qual st f fd) (S : FnScope N ps (aL st)) {g : Ev -> O}
    (hbody : ∀ (cdv : Value) (A : Around) (outer : List Env) (s : Shared) (H : Hp) (E : XK), Room k (A.deeper (envOfC qual (aL st) s.heap.objs.size f cdv)) -> va (ck (CXo P w) P w K mg base N qual (aL st) f cdv A outer s H E) (fD st) g) : FnF P w K mg base (k + 1) f fd ps (fun ds => aK (g (aN N.length ds))) := by
  with_unfolding_all exact Fun.okF_0 F S hbody
end
section
variable {X : Cx}
theorem gT {a b : Expr} {ga gb : Ev -> R D} {pos : Pos} (ha : PF X a ga) (hb : PF X b gb) : PF X (.BinOp a .Mult b pos) (g2 gn ga gb) := by
  with_unfolding_all exact wR ha hb
end
section
variable {X : Cx} {e o : Expr} {es : List Expr} {ga gb : Ev -> R D} {gl : Ev -> R (List D)} {pos : Pos}
theorem Ac {T id : String} {name : Str} {ap cp : Pos} {r : V -> List V -> Hp -> VK -> Prop} {f : D -> List D -> Option D} (pa : PlainAttrs T) (slot : PySem.Slot T name id) (hty : typeOf (.builtin id) = pure (.type "method_descriptor")) (hm : MtR X id r) (hf : B2 X.K T r f) (ho : PF X o ga) (ha : PFA X (e :: es) gl)
    (hbase : attributeBase o name X.env (eval o X.env) = eval o X.env := by rfl)
    (hfew : ((backTo cp (starEach (e :: es) X.env)).all (fun x => !x.1) && (backToKw cp (keywordEach [] X.env)).all (fun x => x.1.isSome)
      && decide ((e :: es).length + ([] : List Keyword).length + (if ([] : List Keyword).isEmpty then 0 else 1) < 30)) = true := by rfl)
    (hline : (ap.endLine == cp.line) = true := by rfl) (hs : starEach (e :: es) X.env = (false, eval e X.env) :: starEach es X.env := by rfl) (hplain : (backTo cp (starEach es X.env)).any (·.1) = false := by rfl) : PF X (.Call (.Attribute o name ap) (e :: es) [] cp) (fun ρ => ga ρ >>= fun x => if jc T x = true then gl ρ >>= fun ds => ofO (f x ds) else .no) := by
  with_unfolding_all exact kN pa slot hty hm hf ho ha hbase hfew hline hs hplain
end
section
variable {X : Cx} {e : Expr} {es : List Expr} {ga : Ev -> R D} {gl : Ev -> R (List D)} {pos : Pos}
end
section
variable {X : Cx} {body suite : List Stmt} {b₀ : Stmt} {gb gs : Ev -> O} {pos hp tp : Pos} {tn nm : Str} {Ct : Addr}
end
section
end
section
variable {X : Cx} {e : Expr} {ga : Ev -> R D} {p p2 pos : Pos}
end
section
variable {X : Cx} {st : Stmt} {dI body sa sb : List Stmt} {e a b c o tg : Expr} {es : List Expr} {g gs1 gs2 : Ev -> O} {ga gb gc : Ev -> R D} {gt : Ev -> R Bool} {gl : Ev -> R (List D)} {pos p p2 : Pos} {x : Str}
theorem ao (h1 : PSF X st gs1) (h2 : va X dI gs2) : va X (st :: dI) (aM gs1 gs2) := by
  with_unfolding_all exact xu h1 h2
theorem aO  : va X [] oNx := by
  with_unfolding_all exact Aq
theorem bg (he : PF X e ga) : PSF X (.Return (some e) pos) (bO ga) := by
  with_unfolding_all exact AC he
theorem fj (hc : PB X c gt) (ha : va X sa gs1) (hb : va X sb gs2) : PSF X (.If c sa sb pos) (oIf gt gs1 gs2) := by
  with_unfolding_all exact Cf hc ha hb
theorem vj (i : Nat) (hN : X.N.Nodup) (he : PFL X e gl) (hi : X.N[i]? = some x := by rfl) (hx : Loc X.env.scope x := by first | exact Or.inl rfl | exact Or.inr rfl)
    (hs : swapsWithSole [.Name x p] e pos.line X.env = pure false := by rfl) (hw : swappedStores [.Name x p] e X.env = pure none := by rfl) (hf : X.fn x = true \/ X.env.scope.names.lookup x = some .local := by first | exact .inl rfl | exact .inr rfl) : PSF X (.Assign [.Name x p] e pos) (rP i gl) := by
  with_unfolding_all exact yX i hN he hi hx hs hw hf
theorem kP (he : PF X e ga) (hs : swapsWith e none pos.line X.env = pure false := by rfl) : PSF X (.Expr e pos) (ln ga) := by
  with_unfolding_all exact xr he hs
theorem mf {iter : Expr} {gi : Ev -> R (List D)} {asg : D -> Ev -> R Ev} (hp : PassesOwn (model X.prog X.w) X.A X.env X.xe) (hcalm : X.calm = true) (hi : PIF X tg iter gi) (hg : PGF X tg asg) (hb : va X body g)
    (hs : ∀ x, foldedSetIterable iter X.env x = pure x := by intro _; rfl) (hn : ∀ d ρ C, asg d ρ ≠ .ex C := by intro _ _ _ z; cases z) : PSF X (.For tg iter body [] pos) (oM asg gi g) := by
  with_unfolding_all exact Ad hp hcalm hi hg hb hs hn
theorem cQ (hg : Gl X "len") (hm : X.mg "len" = none) (ha : PFA X [e] gl) (he : starEach [e] X.env = [(false, eval e X.env)] := by rfl) : PF X (.Call (.Name "len" p) [e] [] pos) (gOf dw gl) := by
  with_unfolding_all exact zm hg hm ha he
theorem Ce (hc : X.calm = true) (hg : Gl X "all") (hm : X.mg "all" = none) (ha : PFA X [e] gl) (he : starEach [e] X.env = [(false, eval e X.env)] := by rfl) : PF X (.Call (.Name "all" p) [e] [] pos) (gOf Aj gl) := by
  with_unfolding_all exact Ak hc hg hm ha he
theorem aa (ha : PF X e ga) (hr : PFA X es gl) (hs : starEach (e :: es) X.env = (false, eval e X.env) :: starEach es X.env := by rfl) : PFA X (e :: es) (ac ga gl) := by
  with_unfolding_all exact oy ha hr hs
theorem aQ {k n : Nat} {f : List D -> R D} (c : Callee X.prog X.w X.K X.mg X.base x k n f) (hr : Room k X.A) (ha : PFA X (e :: es) gl) (hg : Gl X x := by rfl)
    (hdb : (x == ("__debug__" : Str)) = false := by decide) (he : starEach (e :: es) X.env = (false, eval e X.env) :: starEach es X.env := by rfl) (hpl : (backTo pos (starEach es X.env)).any (·.1) = false := by rfl) : PF X (.Call (.Name x p) (e :: es) [] pos) (aR n f gl) := by
  with_unfolding_all exact wa c hr ha hg hdb he hpl
theorem jY {gens : List Comprehension} {sc : Scope} (h : PFL X (.ListComp e gens sc pos) gl) : PF X (.ListComp e gens sc pos) (bx gl) := by
  with_unfolding_all exact wH h
theorem dz (h : PFL X (.List es pos) gl) : PF X (.List es pos) (bx gl) := by
  with_unfolding_all exact wV h
theorem eP (h : PFA X es gl) : PFL X (.List es pos) (iW gl) := by
  with_unfolding_all exact yS h
theorem cf {k : Nat} (h : PFA X es gl) : PF X (.Tuple es k pos) (aI mkT gl) := by
  with_unfolding_all exact yT h
theorem zv (ha : PF X a ga) : PF X (.UnaryOp .USub a pos) (aI yw ga) := by
  with_unfolding_all exact zn ha
theorem pG (hm : X.mg "isinstance" = none) (ha : PF X e ga) (hm2 : X.mg "int" = none) (hg2 : Gl X "int" := by rfl) (hg : Gl X "isinstance" := by rfl) (hs1 : starEach [e, .Name "int" p2] X.env = (false, eval e X.env) :: starEach [.Name "int" p2] X.env := by rfl) : PF X (.Call (.Name "isinstance" p) [e, .Name "int" p2] [] pos) (aI (dh isInt) ga) := by
  with_unfolding_all exact uf hm ha hm2 hg2 hg hs1
theorem qE (hm : X.mg "isinstance" = none) (ha : PF X e ga) (hm2 : X.mg "bool" = none) (hg2 : Gl X "bool" := by rfl) (hg : Gl X "isinstance" := by rfl) (hs1 : starEach [e, .Name "bool" p2] X.env = (false, eval e X.env) :: starEach [.Name "bool" p2] X.env := by rfl) : PF X (.Call (.Name "isinstance" p) [e, .Name "bool" p2] [] pos) (aI (dh (· == "bool")) ga) := by
  with_unfolding_all exact rz hm ha hm2 hg2 hg hs1
theorem oX (hm : X.mg "isinstance" = none) (ha : PF X e ga) (hm2 : X.mg "str" = none) (hg2 : Gl X "str" := by rfl) (hg : Gl X "isinstance" := by rfl) (hs1 : starEach [e, .Name "str" p2] X.env = (false, eval e X.env) :: starEach [.Name "str" p2] X.env := by rfl) : PF X (.Call (.Name "isinstance" p) [e, .Name "str" p2] [] pos) (aI (dh (· == "str")) ga) := by
  with_unfolding_all exact uI hm ha hm2 hg2 hg hs1
theorem cJ (hm : X.mg "isinstance" = none) (ha : PF X e ga) (hm2 : X.mg "tuple" = none) (hg2 : Gl X "tuple" := by rfl) (hg : Gl X "isinstance" := by rfl) (hs1 : starEach [e, .Name "tuple" p2] X.env = (false, eval e X.env) :: starEach [.Name "tuple" p2] X.env := by rfl) : PF X (.Call (.Name "isinstance" p) [e, .Name "tuple" p2] [] pos) (aI (dh (· == "tuple")) ga) := by
  with_unfolding_all exact qg hm ha hm2 hg2 hg hs1
theorem cm (h : PF X e ga) : PFO X (some e) (da ga) := by
  with_unfolding_all exact xQ h
theorem zD (ha : PF X a ga) (hb : PF X b gb) : PB X (.Compare a [.Lt] [b] pos) (gB2 ltD ga gb) := by
  with_unfolding_all exact Ab ha hb
theorem D3 (ha : PF X a ga) (hb : PF X b gb) : PB X (.Compare a [.LtE] [b] pos) (gB2 leD ga gb) := by
  with_unfolding_all exact zZ ha hb
theorem si (ha : PF X a ga) (hb : PF X b gb) : PB X (.Compare a [.Gt] [b] pos) (gB2 gtD ga gb) := by
  with_unfolding_all exact As ha hb
theorem jk (hu : X.A.units + 64 < cLine) (ha : PF X a ga) (hb : PF X b gb) : PB X (.Compare a [.Eq] [b] pos) (gB2 eqF ga gb) := by
  with_unfolding_all exact yE hu ha hb
theorem dL (hu : X.A.units + 64 < cLine) (ha : PF X a ga) (hb : PF X b gb) : PB X (.Compare a [.NotEq] [b] pos) (gB2 neF ga gb) := by
  with_unfolding_all exact zX hu ha hb
theorem AV (ha : PF X a ga) (hb : PF X b gb) : PB X (.Compare a [.Is] [b] pos) (gB2 isF ga gb) := by
  with_unfolding_all exact zw ha hb
theorem pA (ha : PF X a ga) (hb : PF X b gb) (hc : PF X c gc) (hm : lastMarks [.LtE, .LtE] [b, c] = false := by with_unfolding_all rfl) : PB X (.Compare a [.LtE, .LtE] [b, c] pos) (gB3 leD leD ga gb gc) := by
  with_unfolding_all exact uD ha hb hc hm
theorem cS (ha : PB X a gt) : PB X (.UnaryOp .Not a pos) (gBn gt) := by
  with_unfolding_all exact wT ha
theorem cI (h : PF X (.Call a es [] pos) ga) : PB X (.Call a es [] pos) (aI fw ga) := by
  with_unfolding_all exact xb h
theorem fP {op : BoolOp} (h : PBW X (.BoolOp op es pos) gt) : PB X (.BoolOp op es pos) gt := by
  with_unfolding_all exact zC h
theorem ff (ha : PF X a ga) : PIF X tg a (aI bH ga) := by
  with_unfolding_all exact wJ ha
theorem fX (hg : Gl X "range") (hm : X.mg "range" = none) (ha : PFA X [a] gl) (hs : starEach [a] X.env = [(false, eval a X.env)] := by rfl) : PIF X tg (.Call (.Name "range" p) [a] [] pos) (aI bE gl) := by
  with_unfolding_all exact rY hg hm ha hs
end
section
variable {X : Cx} {N : List Str} {i : Nat} {x : Str} {pos : Pos}
theorem ai {CX : CXT} {P : Program} {w : World} {K : PySem.W.Frag} {mg : Str -> Option Value} {base : Heap} {qual : Str} {scope : Scope} {f : Addr} {cdv : Value} {A : Around} {outer : List Env} {s : Shared} {H : Hp} {E : XK} (h : At N i x)
    (hv : Vis (ck CX P w K mg base N qual scope f cdv A outer s H E).env.scope x := by first | exact Or.inl rfl | exact Or.inr (Or.inl rfl) | exact Or.inr (Or.inr rfl)) (hd : (x == ("__debug__" : Str)) = false := by decide)
    (hcd : (x == ("__classdict__" : Str)) = false := by decide) : PF (ck CX P w K mg base N qual scope f cdv A outer s H E) (.Name x pos) (fun ρ => rdV ρ i) := by
  with_unfolding_all exact zA h hv hd hcd
theorem bW {scope : Scope} {C : Addr} {s₂ : Shared} {H₂ : Hp} {fp : List Addr} (h : At N i x)
    (hv : Vis (bA X N scope C s₂ H₂ fp).env.scope x := by first | exact Or.inl rfl | exact Or.inr (Or.inl rfl) | exact Or.inr (Or.inr rfl)) (hd : (x == ("__debug__" : Str)) = false := by decide)
    (hcd : (x == ("__classdict__" : Str)) = false := by decide) : PF (bA X N scope C s₂ H₂ fp) (.Name x pos) (fun ρ => rdV ρ i) := by
  with_unfolding_all exact xp h hv hd hcd
theorem bM {CX : CXT} {P : Program} {w : World} {K : PySem.W.Frag} {mg : Str -> Option Value} {base : Heap} {qual : Str} {scope : Scope} {f : Addr} {cdv : Value} {A : Around} {outer : List Env} {s : Shared} {H : Hp} {E : XK} {e : Expr} {p : Pos} {ga : Ev -> R D} (h : At N i x) (hN : N.Nodup)
    (he : PF (ck CX P w K mg base N qual scope f cdv A outer s H E) e ga) (hx : Loc (ck CX P w K mg base N qual scope f cdv A outer s H E).env.scope x := by first | exact Or.inl rfl | exact Or.inr rfl)
    (hs : swapsWithSole [.Name x p] e pos.line (ck CX P w K mg base N qual scope f cdv A outer s H E).env = pure false := by rfl) (hw : swappedStores [.Name x p] e (ck CX P w K mg base N qual scope f cdv A outer s H E).env = pure none := by rfl)
    (hf : (ck CX P w K mg base N qual scope f cdv A outer s H E).fn x = true \/ (ck CX P w K mg base N qual scope f cdv A outer s H E).env.scope.names.lookup x = some .local := by first | exact .inl rfl | exact .inr rfl) : PSF (ck CX P w K mg base N qual scope f cdv A outer s H E) (.Assign [.Name x p] e pos) (cP i ga) := by
  with_unfolding_all exact AK h hN he hx hs hw hf
end
section
theorem xU {X : Cx} {e : Expr} {es : List Expr} {ga : Ev -> R D} {pos pt : Pos} {k : Nat} {is : List Nat} (he : PF X e ga) (hc : X.calm = true) (h : AM X es is) (hn : (assignEach es X.env).length = is.length := by rfl) (hst : (assignEach es X.env).findIdx? (·.1) = none := by rfl)
    (hs : swapsWithSole [.Tuple es k pt] e pos.line X.env = pure false := by rfl) (hw : swappedStores [.Tuple es k pt] e X.env = pure none := by rfl) (h1 : (assignEach [.Tuple es k pt] X.env).map (·.2) = [assign (.Tuple es k pt) X.env] := by rfl) : PSF X (.Assign [.Tuple es k pt] e pos) (AL (yo is) ga) := by
  with_unfolding_all exact vV he hc h hn hst hs hw h1
theorem jv {X : Cx} {x : Str} {C : Addr} {e : Expr} {ga : Ev -> R D} {np cp pos : Pos} (r : Ref x C X.mg X.base) (hh : X.A.handled = none) (ha : PF X e ga) (hg : Gl X x := by rfl)
    (hdb : (x == ("__debug__" : Str)) = false := by decide) (hs : starEach [e] X.env = (false, eval e X.env) :: starEach [] X.env := by rfl) : PSF X (.Raise (some (.Call (.Name x np) [e] [] cp)) none pos) (gM C (ac ga fun _ => .ok [])) := by
  with_unfolding_all exact vt r hh ha hg hdb hs
end
section
variable {X : Cx} {elt iter : Expr} {ifs : List Expr} {x : Str} {px pos : Pos} {scope : Scope} {N' : List Str} {ix : List Nat} {gi : Ev -> R (List D)} {gt : Ev -> R Bool} {ge : Ev -> R D}
theorem tP (i : Nat) {y : Str} {py spos : Pos} (hN : X.N.Nodup) (ok : CompOk X scope x N' ix) (hcalm : X.calm = true) (hi : PIF X (.Name x px) iter gi) (he : ∀ C s₂ H₂ fp, PF (bA X N' scope C s₂ H₂ fp) elt ge) (ht : ∀ C s₂ H₂ fp, PTs (bA X N' scope C s₂ H₂ fp) ifs gt)
    (hni : X.N[i]? = some y := by rfl) (hy : X.env.scope.names.lookup y = some .local := by rfl) (hs : ∀ x, foldedSetIterable iter X.env x = pure x := by intro _; rfl)
    (hsw : swapsWith (.ListComp elt [⟨.Name x px, iter, ifs, 0⟩] scope pos) (some (.Name y py)) spos.line X.env = pure true := by rfl) : PSF X (.Assign [.Name y py] (.ListComp elt [⟨.Name x px, iter, ifs, 0⟩] scope pos) spos) (rP i (eM gi ix gt ge)) := by
  with_unfolding_all exact sW i hN ok hcalm hi he ht hni hy hs hsw
end
section
variable {X : Cx} {st : Stmt} {dI body : List Stmt} {e c o : Expr} {es : List Expr} {g : Ev -> O} {ga : Ev -> R D} {gl : Ev -> R (List D)} {pos p p2 : Pos}
theorem jn (i : Nat) {x : Str} {p ap cp : Pos} (he : PF X e ga) (hi : X.N[i]? = some x := by rfl) (hv : Vis X.env.scope x := by first | exact Or.inl rfl | exact Or.inr (Or.inl rfl))
    (hd : (x == ("__debug__" : Str)) = false := by decide) (hcd : (x == ("__classdict__" : Str)) = false := by decide) (hs1 : starEach [e] X.env = (false, eval e X.env) :: starEach [] X.env := by rfl)
    (hbase : attributeBase (.Name x p) "extend" X.env (eval (.Name x p) X.env) = eval (.Name x p) X.env := by rfl)
    (hfew : ((backTo cp (starEach [e] X.env)).all (fun x => !x.1) && (backToKw cp (keywordEach [] X.env)).all (fun x => x.1.isSome)
      && decide ([e].length + ([] : List Keyword).length + (if ([] : List Keyword).isEmpty then 0 else 1) < 30)) = true := by rfl)
    (hline : (ap.endLine == cp.line) = true := by rfl)
    (hs : swapsWith (.Call (.Attribute (.Name x p) "extend" ap) [e] [] cp) none pos.line X.env = pure false := by rfl) : PSF X (.Expr (.Call (.Attribute (.Name x p) "extend" ap) [e] [] cp) pos) (zS i ga) := by
  with_unfolding_all exact sH i he hi hv hd hcd hs1 hbase hfew hline hs
theorem wK (i : Nat) {x : Str} {p ap cp : Pos} (he : PF X e ga) (hi : X.N[i]? = some x := by rfl) (hv : Vis X.env.scope x := by first | exact Or.inl rfl | exact Or.inr (Or.inl rfl))
    (hd : (x == ("__debug__" : Str)) = false := by decide) (hcd : (x == ("__classdict__" : Str)) = false := by decide) (hs1 : starEach [e] X.env = (false, eval e X.env) :: starEach [] X.env := by rfl)
    (hbase : attributeBase (.Name x p) "append" X.env (eval (.Name x p) X.env) = eval (.Name x p) X.env := by rfl)
    (hfew : ((backTo cp (starEach [e] X.env)).all (fun x => !x.1) && (backToKw cp (keywordEach [] X.env)).all (fun x => x.1.isSome)
      && decide ([e].length + ([] : List Keyword).length + (if ([] : List Keyword).isEmpty then 0 else 1) < 30)) = true := by rfl)
    (hline : (ap.endLine == cp.line) = true := by rfl)
    (hs : swapsWith (.Call (.Attribute (.Name x p) "append" ap) [e] [] cp) none pos.line X.env = pure false := by rfl) : PSF X (.Expr (.Call (.Attribute (.Name x p) "append" ap) [e] [] cp) pos) (CH i ga) := by
  with_unfolding_all exact rO i he hi hv hd hcd hs1 hbase hfew hline hs
theorem Dj (i j : Nat) {x y : Str} {a b : Expr} {px py pt pt2 : Pos} {kt k2 : Nat} (hc : X.calm = true) (hN : X.N.Nodup) (ha : PFA X [a, b] gl) (hij : i ≠ j := by decide) (hi : X.N[i]? = some x := by rfl) (hj : X.N[j]? = some y := by rfl)
    (hx : X.env.scope.names.lookup x = some .local := by rfl) (hy : X.env.scope.names.lookup y = some .local := by rfl)
    (hw : swappedStores [.Tuple [.Name x px, .Name y py] kt pt] (.Tuple [a, b] k2 pt2) X.env = pure (some [x, y]) := by rfl)
    (hs : swapsWithSole [.Tuple [.Name x px, .Name y py] kt pt] (.Tuple [a, b] k2 pt2) pos.line X.env = pure false := by rfl) : PSF X (.Assign [.Tuple [.Name x px, .Name y py] kt pt] (.Tuple [a, b] k2 pt2) pos) (CI i j gl) := by
  with_unfolding_all exact zW i j hc hN ha hij hi hj hx hy hw hs
theorem zO {x : Str} (h : PF X (.Name x pos) ga) : PB X (.Name x pos) (aI fw ga) := by
  with_unfolding_all exact tJ h
theorem rW {sts : List Stmt} (i : Nat) (h : va X sts g) : va X sts (vQ i g) := by
  with_unfolding_all exact zV i h
theorem AF {ap cp : Pos} (ho : PF X o ga) (ha : PFA X [e] gl) (hbase : attributeBase o "count" X.env (eval o X.env) = eval o X.env := by rfl)
    (hfew : ((backTo cp (starEach [e] X.env)).all (fun x => !x.1) && (backToKw cp (keywordEach [] X.env)).all (fun x => x.1.isSome)
      && decide ([e].length + ([] : List Keyword).length + (if ([] : List Keyword).isEmpty then 0 else 1) < 30)) = true := by rfl)
    (hline : (ap.endLine == cp.line) = true := by rfl) (hs : starEach [e] X.env = (false, eval e X.env) :: starEach [] X.env := by rfl) : PF X (.Call (.Attribute o "count" ap) [e] [] cp) (mv "list" lI ga gl) := by
  with_unfolding_all exact vd ho ha hbase hfew hline hs
theorem Am {ap cp : Pos} (ho : PF X o ga) (ha : PFA X [e] gl) (hbase : attributeBase o "index" X.env (eval o X.env) = eval o X.env := by rfl)
    (hfew : ((backTo cp (starEach [e] X.env)).all (fun x => !x.1) && (backToKw cp (keywordEach [] X.env)).all (fun x => x.1.isSome)
      && decide ([e].length + ([] : List Keyword).length + (if ([] : List Keyword).isEmpty then 0 else 1) < 30)) = true := by rfl)
    (hline : (ap.endLine == cp.line) = true := by rfl) (hs : starEach [e] X.env = (false, eval e X.env) :: starEach [] X.env := by rfl) : PF X (.Call (.Attribute o "index" ap) [e] [] cp) (mv "list" lD ga gl) := by
  with_unfolding_all exact uK ho ha hbase hfew hline hs
end
section
variable {X : Cx} {e : Expr} {ga : Ev -> R D} {p p2 pos : Pos} {rs : List Addr} {ts : List (Str × Addr)}
theorem gF {y : Str} {T : Addr} (Er : Errs X.K X.mg rs ts) (hy : (y, T) ∈ ts) (hm : X.mg "isinstance" = none) (ha : PF X e ga) (hg : Gl X "isinstance" := by rfl) (hg2 : Gl X y := by rfl) (hd : (y == ("__debug__" : Str)) = false := by decide)
    (hs1 : starEach [e, .Name y p2] X.env = (false, eval e X.env) :: starEach [.Name y p2] X.env := by rfl) : PF X (.Call (.Name "isinstance" p) [e, .Name y p2] [] pos) (aI (mw (rK rs T)) ga) := by
  with_unfolding_all exact uZ Er hy hm ha hg hg2 hd hs1
theorem BT (Er : Errs X.K X.mg rs ts) (hm : X.mg "isinstance" = none) (hm2 : X.mg "ValueError" = none) (ha : PF X e ga) (hg : Gl X "isinstance" := by rfl) (hg2 : Gl X "ValueError" := by rfl)
    (hs1 : starEach [e, .Name "ValueError" p2] X.env = (false, eval e X.env) :: starEach [.Name "ValueError" p2] X.env := by rfl) : PF X (.Call (.Name "isinstance" p) [e, .Name "ValueError" p2] [] pos) (aI (mw (rR rs)) ga) := by
  with_unfolding_all exact xD Er hm hm2 ha hg hg2 hs1
end
section
variable {CX : CXT} {P : Program} {w : World} {K : PySem.W.Frag} {mg : Str -> Option Value} {base : Heap} {N : List Str} {i : Nat} {x : Str} {qual : Str} {scope : Scope} {f a : Addr} {cdv : Value} {A : Around} {outer : List Env} {s : Shared} {H : Hp} {E : XK} {pn : List (Addr × Obj)} {xe : Value -> Shared -> Prop} {pos p : Pos} {e : Expr} {ga : Ev -> R D}
theorem oG (h : At N i x) (hv : Vis (ck CX P w K mg base N qual scope f cdv A outer s H E).env.scope x := by first | exact Or.inl rfl | exact Or.inr (Or.inl rfl) | exact Or.inr (Or.inr rfl)) (hd : (x == ("__debug__" : Str)) = false := by decide)
    (hcd : (x == ("__classdict__" : Str)) = false := by decide) : PF (jd (ck CX P w K mg base N qual scope f cdv A outer s H E) pn xe) (.Name x pos) (fun ρ => rdV ρ i) := by
  with_unfolding_all exact wB h hv hd hcd
theorem Bf (h : At N i x) (hv : Vis (ck CX P w K mg base N qual scope f cdv A outer s H E).env.scope x := by first | exact Or.inl rfl | exact Or.inr (Or.inl rfl) | exact Or.inr (Or.inr rfl)) (hd : (x == ("__debug__" : Str)) = false := by decide)
    (hcd : (x == ("__classdict__" : Str)) = false := by decide) : PF (iw (ck CX P w K mg base N qual scope f cdv A outer s H E) a xe) (.Name x pos) (fun ρ => rdV ρ i) := by
  with_unfolding_all exact xl h hv hd hcd
theorem Bo (h : At N i x) (hN : N.Nodup) (he : PF (jd (ck CX P w K mg base N qual scope f cdv A outer s H E) pn xe) e ga) (hx : Loc (ck CX P w K mg base N qual scope f cdv A outer s H E).env.scope x := by first | exact Or.inl rfl | exact Or.inr rfl)
    (hs : swapsWithSole [.Name x p] e pos.line (ck CX P w K mg base N qual scope f cdv A outer s H E).env = pure false := by rfl) (hw : swappedStores [.Name x p] e (ck CX P w K mg base N qual scope f cdv A outer s H E).env = pure none := by rfl)
    (hf : (ck CX P w K mg base N qual scope f cdv A outer s H E).fn x = true \/ (ck CX P w K mg base N qual scope f cdv A outer s H E).env.scope.names.lookup x = some .local := by first | exact .inl rfl | exact .inr rfl) : PSF (jd (ck CX P w K mg base N qual scope f cdv A outer s H E) pn xe) (.Assign [.Name x p] e pos) (cP i ga) := by
  with_unfolding_all exact xR h hN he hx hs hw hf
theorem A3 (h : At N i x) (hN : N.Nodup) (he : PF (iw (ck CX P w K mg base N qual scope f cdv A outer s H E) a xe) e ga) (hx : Loc (ck CX P w K mg base N qual scope f cdv A outer s H E).env.scope x := by first | exact Or.inl rfl | exact Or.inr rfl)
    (hs : swapsWithSole [.Name x p] e pos.line (ck CX P w K mg base N qual scope f cdv A outer s H E).env = pure false := by rfl) (hw : swappedStores [.Name x p] e (ck CX P w K mg base N qual scope f cdv A outer s H E).env = pure none := by rfl)
    (hf : (ck CX P w K mg base N qual scope f cdv A outer s H E).fn x = true \/ (ck CX P w K mg base N qual scope f cdv A outer s H E).env.scope.names.lookup x = some .local := by first | exact .inl rfl | exact .inr rfl) : PSF (iw (ck CX P w K mg base N qual scope f cdv A outer s H E) a xe) (.Assign [.Name x p] e pos) (cP i ga) := by
  with_unfolding_all exact wc h hN he hx hs hw hf
end
section
variable {X : Cx} {body suite : List Stmt} {b₀ : Stmt} {gb gs : Ev -> O} {pos hp tp : Pos} {nm : Str} {rs : List Addr} {ts : List (Str × Addr)}
theorem C4 (i : Nat) (Er : Errs X.K X.mg rs ts) (hN : X.N.Nodup) (hcalm : X.calm = true) (hst : X.stack = X.env :: X.outer) (hfr : X.env.frame = some X.env.locals) (hkd : X.env.scope.kind = .function)
    (hb : ∀ pn xe, va (jd X pn xe) body gb) (hh : ∀ a xe, va (iw X a xe) (b₀ :: suite) gs) (hg : Gl X "LineError" := by rfl) (hi : X.N[i]? = some nm := by rfl) (hx : X.env.scope.names.lookup nm = some .local := by rfl) : PSF X (.Try body [.ExceptHandler (some (.Name "LineError" tp)) (some nm) (b₀ :: suite) hp] [] [] pos) (wr gb gs (rR rs) i) := by
  with_unfolding_all exact zM i Er hN hcalm hst hfr hkd hb hh hg hi hx
end
section
variable {X : Cx} {st : Stmt} {dI body a b : List Stmt} {e c tg : Expr} {g g1 g2 : Ev -> O} {ga gb : Ev -> R D} {gt : Ev -> R Bool} {gl : Ev -> R (List D)} {pos : Pos}
theorem Cv (j i : Nat) {x : Str} {p : Pos} (hN : X.N.Nodup) (he : PF X e ga) (hi : X.N[i]? = some x := by rfl) (hx : Loc X.env.scope x := by first | exact Or.inl rfl | exact Or.inr rfl)
    (hs : swapsWithSole [.Name x p] e pos.line X.env = pure false := by rfl) (hw : swappedStores [.Name x p] e X.env = pure none := by rfl) (hf : X.fn x = true \/ X.env.scope.names.lookup x = some .local := by first | exact .inl rfl | exact .inr rfl) : PSF X (.Assign [.Name x p] e pos) (xz j i ga) := by
  with_unfolding_all exact xA j i hN he hi hx hs hw hf
theorem ut (j i : Nat) {x : Str} {p ap cp : Pos} (he : PF X e ga) (hi : X.N[i]? = some x := by rfl) (hv : Vis X.env.scope x := by first | exact Or.inl rfl | exact Or.inr (Or.inl rfl))
    (hd : (x == ("__debug__" : Str)) = false := by decide) (hcd : (x == ("__classdict__" : Str)) = false := by decide) (hs1 : starEach [e] X.env = (false, eval e X.env) :: starEach [] X.env := by rfl)
    (hbase : attributeBase (.Name x p) "append" X.env (eval (.Name x p) X.env) = eval (.Name x p) X.env := by rfl)
    (hfew : ((backTo cp (starEach [e] X.env)).all (fun x => !x.1) && (backToKw cp (keywordEach [] X.env)).all (fun x => x.1.isSome)
      && decide ([e].length + ([] : List Keyword).length + (if ([] : List Keyword).isEmpty then 0 else 1) < 30)) = true := by rfl)
    (hline : (ap.endLine == cp.line) = true := by rfl)
    (hs : swapsWith (.Call (.Attribute (.Name x p) "append" ap) [e] [] cp) none pos.line X.env = pure false := by rfl) : PSF X (.Expr (.Call (.Attribute (.Name x p) "append" ap) [e] [] cp) pos) (wk j i ga) := by
  with_unfolding_all exact qh j i he hi hv hd hcd hs1 hbase hfew hline hs
theorem A0 (i : Nat) {x : Str} {p tp : Pos} {ix : Expr} {gk : Ev -> R D} (he : PF X e ga) (hk : PF X ix gk) (hi : X.N[i]? = some x := by rfl) (hv : Vis X.env.scope x := by first | exact Or.inl rfl | exact Or.inr (Or.inl rfl))
    (hd : (x == ("__debug__" : Str)) = false := by decide) (hcd : (x == ("__classdict__" : Str)) = false := by decide)
    (hs : swapsWithSole [.Subscript (.Name x p) ix tp] e pos.line X.env = pure false := by rfl) (hw : swappedStores [.Subscript (.Name x p) ix tp] e X.env = pure none := by rfl)
    (h1' : (assignEach [.Subscript (.Name x p) ix tp] X.env).map (·.2) = [assign (.Subscript (.Name x p) ix tp) X.env] := by rfl)
    (ha : ∀ v, assign (.Subscript (.Name x p) ix tp) X.env v = (do
      let ov <- holding [v] (eval (.Name x p) X.env)
      let iv <- holding [v, ov] (eval ix X.env)
      standAt tp
      holding [v, ov, iv] (setItem ov iv v)
      release [v, ov, iv] []) := by intro _; rfl) : PSF X (.Assign [.Subscript (.Name x p) ix tp] e pos) (wb i gk ga) := by
  with_unfolding_all exact xy i he hk hi hv hd hcd hs hw h1' ha
end
section
variable {X : Cx} {e : Expr} {ga : Ev -> R D} {p p2 p3 p4 pos : Pos} {k : Nat}
end
section
end
section
variable {X : Cx}
theorem xa {e : Expr} {ga : Ev -> R D} {p p2 pos : Pos} (hm : X.mg "isinstance" = none) (ha : PF X e ga) (hm2 : X.mg "list" = none) (hg2 : Gl X "list" := by rfl) (hg : Gl X "isinstance" := by rfl) (hs1 : starEach [e, .Name "list" p2] X.env = (false, eval e X.env) :: starEach [.Name "list" p2] X.env := by rfl) : PF X (.Call (.Name "isinstance" p) [e, .Name "list" p2] [] pos) (aI (dh (· == "list")) ga) := by
  with_unfolding_all exact rZ hm ha hm2 hg2 hg hs1
end
section
variable {X : Cx} {a b : Expr} {ga gb : Ev -> R D} {elts : List Expr} {kt : Nat} {p pos tp kp : Pos}
end
section
variable {X : Cx} {elt iter tgt : Expr} {ifs : List Expr} {pos : Pos} {scope : Scope} {n : Nat} {N' : List Str} {ix : List Nat} {asg : D -> Ev -> R Ev} {gi : Ev -> R (List D)} {gt : Ev -> R Bool} {ge : Ev -> R D}
end
section
variable {X : Cx}
theorem Dt {e : Expr} {gl : Ev -> R (List D)} {p pos : Pos} (hc : X.calm = true) (hg : Gl X "sum") (hm : X.mg "sum" = none) (ha : PFA X [e] gl) (he : starEach [e] X.env = (false, eval e X.env) :: starEach [] X.env := by rfl) : PF X (.Call (.Name "sum" p) [e] [] pos) (gOf zT gl) := by
  with_unfolding_all exact Ai hc hg hm ha he
end
section
variable {X : Cx} {ga : Ev -> R D} {gl : Ev -> R (List D)} {pos : Pos}
end
section
variable {X : Cx} {a b : Expr} {gl : Ev -> R (List D)} {elts : List Expr} {kt : Nat} {p pos tp : Pos}
end
section
variable {X : Cx} {a st : Expr} {ga gs : Ev -> R D} {pos p2 : Pos}
theorem zQ {e : Expr} {gl : Ev -> R (List D)} {p : Pos} (hg : Gl X "int") (hm : X.mg "int" = none) (ha : PFA X [e] gl) (he : starEach [e] X.env = (false, eval e X.env) :: starEach [] X.env := by rfl) : PF X (.Call (.Name "int" p) [e] [] pos) (gOf nV gl) := by
  with_unfolding_all exact vH hg hm ha he
end
section
variable {X : Cx} {c e : Expr} {body : List Stmt} {gt : Ev -> R Bool} {g : Ev -> O} {ga : Ev -> R D} {pos : Pos}
end
section
variable {X : Cx} {a b ix e : Expr} {es : List Expr} {ga gb gi : Ev -> R D} {gl : Ev -> R (List D)} {pos p1 p2 pl sp : Pos}
theorem B5 {x1 x2 : Str} {k n : Nat} {f1 f2 : List D -> R D} (c1 : Callee X.prog X.w X.K X.mg X.base x1 k n f1) (c2 : Callee X.prog X.w X.K X.mg X.base x2 k n f2) (hr : Room k X.A) (hi : PF X ix gi) (ha : PFA X (e :: es) gl) (hg1 : Gl X x1 := by rfl) (hg2 : Gl X x2 := by rfl)
    (hd1 : (x1 == ("__debug__" : Str)) = false := by decide) (hd2 : (x2 == ("__debug__" : Str)) = false := by decide) (he : starEach (e :: es) X.env = (false, eval e X.env) :: starEach es X.env := by rfl) (hpl : (backTo pos (starEach es X.env)).any (·.1) = false := by rfl) (hs : ju ix := by exact fun _ _ => rfl)
    (hs1 : starEach [.Name x1 p1, .Name x2 p2] X.env = (false, eval (.Name x1 p1) X.env) :: starEach [.Name x2 p2] X.env := by rfl) (hs2 : starEach [.Name x2 p2] X.env = (false, eval (.Name x2 p2) X.env) :: starEach [] X.env := by rfl) : PF X (.Call (.Subscript (.List [.Name x1 p1, .Name x2 p2] pl) ix sp) (e :: es) [] pos) (uv [aR n f1 gl, aR n f2 gl] gi) := by
  with_unfolding_all exact xo c1 c2 hr hi ha hg1 hg2 hd1 hd2 he hpl hs hs1 hs2
theorem zi (hu : X.A.units + 64 < cLine) (ha : PF X a ga) (hb : PF X b gb) (hm : behindInMarks .In b = false := by rfl) : PB X (.Compare a [.In] [b] pos) (gB2 inF ga gb) := by
  with_unfolding_all exact Ag hu ha hb hm
end
end L2
namespace L2
open PySem PySem.Spec PyProof.Rows
section
variable {ρ : Ev} {g g1 g2' : Ev -> O} {gt gu : Ev -> R Bool} {ga gb gc : Ev -> R D} {gl : Ev -> R (List D)} {go gp : Ev -> R (Option Int)} {i n : Nat} {f f' : D -> D -> Option D} {asg : D -> Ev -> R Ev} {C : Addr}
theorem kA : aM g1 g2' ρ = (g1 ρ).seq g2' := rfl
theorem E0 : oIf gt g1 g2' ρ = (gt ρ).out ρ fun k => if k = true then g1 ρ else g2' ρ := rfl
theorem wA : cP i ga ρ = (ga ρ).out ρ fun d => .nx (ρ.set i (some (.val d))) := rfl
theorem DQ : bO ga ρ = (ga ρ).out ρ .rt := rfl
theorem Fj : oNx ρ = .nx ρ := rfl
theorem D8 : rP i gl ρ = (gl ρ).out ρ fun ds => .nx (ρ.set i (some (.own ds))) := rfl
theorem BI : ln ga ρ = (ga ρ).out ρ fun _ => .nx ρ := rfl
theorem Cz : oM asg gl g ρ = (gl ρ).out ρ fun items => ci asg g items ρ := rfl
theorem Au : gM C gl ρ = (gl ρ).out ρ fun _ => .ex C ρ := rfl
theorem DW : AL asg ga ρ = (ga ρ).out ρ fun d => (asg d ρ).out ρ .nx := rfl
theorem Db : vQ i g ρ = g (frz i ρ) := rfl
theorem yh {α β : Type} {h : α -> R β} {gx : Ev -> R α} : aI h gx ρ = gx ρ >>= h := rfl
theorem EN {h : List D -> Option D} : gOf h gl ρ = gl ρ >>= fun ds => ofO (h ds) := rfl
theorem ua : ac ga gl ρ = ga ρ >>= fun x => gl ρ >>= fun xs => .ok (x :: xs) := rfl
theorem AD : bx gl ρ = gl ρ >>= fun ds => .ok (.lst false ds) := rfl
theorem C9 : iW gl ρ = gl ρ >>= fun ds => if ds.length <= sizeLine then .ok ds else .no := rfl
theorem Fd : gB2 f ga gb ρ = g2 f ga gb ρ >>= asB := rfl
theorem EL : gB3 f f' ga gb gc ρ = g3 f f' ga gb gc ρ >>= asB := rfl
theorem EG : gBn gt ρ = gt ρ >>= fun k => .ok (!k) := rfl
theorem Cj : da ga ρ = ga ρ >>= fun x => asI x >>= fun i => .ok (some i) := rfl
theorem Bd {T : String} {h : D -> List D -> Option D} : mv T h ga gl ρ = ga ρ >>= fun x => if jc T x = true then gl ρ >>= fun ds => ofO (h x ds) else .no := rfl
theorem Fw : g2 f ga gb ρ = ga ρ >>= fun x => gb ρ >>= fun y => ofO (f x y) := rfl
theorem Da : iK ga gb ρ = ga ρ >>= fun x => asB x >>= fun k => if k = true then gb ρ else .ok (.bl false) := rfl
theorem Fn : gOr ga gb ρ = ga ρ >>= fun x => asB x >>= fun k => if k = true then .ok (.bl true) else gb ρ := rfl
theorem CW : AR ga ρ = ga ρ >>= fun x => asB x >>= fun k => .ok (.bl (!k)) := rfl
theorem Bs : pS gt gu ρ = gt ρ >>= fun k => if k = true then gu ρ else .ok false := rfl
theorem Dx : ig gt gu ρ = gt ρ >>= fun k => if k = true then .ok true else gu ρ := rfl
theorem Dh : gIf gt ga gb ρ = gt ρ >>= fun k => if k = true then ga ρ else gb ρ := rfl
theorem ES : gSl ga go gp ρ = ga ρ >>= fun x => go ρ >>= fun l => gp ρ >>= fun u => ofO (AS l u x) := rfl
theorem Ch {ix : List Nat} : eM gl ix gt ga ρ = gl ρ >>= fun items => fv gt ga items (ib ix ρ) >>= fun ds => if ds.length <= sizeLine then .ok ds else .no := rfl
theorem AG {h : List D -> R D} : aR 1 h (ac ga fun _ => .ok []) ρ = ga ρ >>= fun x => h [x] := vf
theorem Ae {h : List D -> R D} : aR 2 h (ac ga (ac gb fun _ => .ok [])) ρ = ga ρ >>= fun x => gb ρ >>= fun y => h [x, y] := uT
theorem yY {h : List D -> R D} : aR 3 h (ac ga (ac gb (ac gc fun _ => .ok []))) ρ = ga ρ >>= fun x => gb ρ >>= fun y => gc ρ >>= fun z => h [x, y, z] := nK
theorem yH {h : List D -> R D} {gd : Ev -> R D} : aR 4 h (ac ga (ac gb (ac gc (ac gd fun _ => .ok [])))) ρ = ga ρ >>= fun x => gb ρ >>= fun y => gc ρ >>= fun z => gd ρ >>= fun u => h [x, y, z, u] := by
  unfold aR
  simp only [ua]
  cases ga ρ <;> try rfl
  simp only [R.ok_bind]
  cases gb ρ <;> try rfl
  simp only [R.ok_bind]
  cases gc ρ <;> try rfl
  simp only [R.ok_bind]
  cases gd ρ <;> rfl
end
theorem CZ (i : Nat) (ga : Ev -> R D) (ρ : Ev) : zS i ga ρ = (ownAt ρ i).out ρ fun ds => (ga ρ).out ρ fun d => (asL d).out ρ fun es => if ds.length + es.length <= sizeLine then .nx (ρ.set i (some (.own (ds ++ es)))) else .no := rfl
theorem Df (i : Nat) (ga : Ev -> R D) (ρ : Ev) : CH i ga ρ = (ownAt ρ i).out ρ fun ds => (ga ρ).out ρ fun d => if ds.length < sizeLine then .nx (ρ.set i (some (.own (ds ++ [d])))) else .no := rfl
theorem Dz (i j : Nat) (gl : Ev -> R (List D)) (ρ : Ev) : CI i j gl ρ = (gl ρ).out ρ fun ds => (mH [i, j] ds ρ).out ρ .nx := rfl
theorem Fa (ds : List D) (ρ : Ev) : ownAt (some (.own ds) :: ρ) 0 = .ok ds := rfl
theorem E7 (a0 : Option Sl) (ds : List D) (ρ : Ev) : ownAt (a0 :: some (.own ds) :: ρ) 1 = .ok ds := rfl
theorem Fk (a0 a1 : Option Sl) (ds : List D) (ρ : Ev) : ownAt (a0 :: a1 :: some (.own ds) :: ρ) 2 = .ok ds := rfl
theorem asl (ds : List D) : asL (.lst false ds) = .ok ds := rfl
theorem Fv (a0 : Option Sl) (ds : List D) (ρ : Ev) : frz 1 (a0 :: some (.own ds) :: ρ) = a0 :: some (.val (.lst false ds)) :: ρ := rfl
def g3k (f' : D -> D -> Option D) (r : R D) (y : D) : D -> R D
  | .bl true => r >>= fun w => ofO (f' y w)
  | .bl false => .ok (.bl false)
  | _ => .no
theorem EF (f f' : D -> D -> Option D) (ga gb gc : Ev -> R D) (ρ : Ev) : g3 f f' ga gb gc ρ = ga ρ >>= fun x => gb ρ >>= fun y => ofO (f x y) >>= g3k f' (gc ρ) y := rfl
theorem DK (f' : D -> D -> Option D) (r : R D) (y : D) (b : Bool) : g3k f' r y (.bl b) = if b = true then (r >>= fun w => ofO (f' y w)) else .ok (.bl false) := by cases b <;> rfl
theorem sv2 (i j : Nat) (x y : D) (ρ : Ev) : mH [i, j] [x, y] ρ = .ok ((ρ.set i (some (.val x))).set j (some (.val y))) := rfl
theorem EZ (a0 a1 a2 a3 : Option Sl) (ds : List D) (ρ : Ev) : frz 4 (a0 :: a1 :: a2 :: a3 :: some (.own ds) :: ρ) = a0 :: a1 :: a2 :: a3 :: some (.val (.lst false ds)) :: ρ := rfl
theorem wG (ρ : Ev) (k : Ev -> O) : (O.nx ρ).seq k = k ρ := rfl
theorem DD (d : D) (k : Ev -> O) : (O.rt d).seq k = .rt d := rfl
theorem EY (C : Addr) (ρ : Ev) (k : Ev -> O) : (O.ex C ρ).seq k = .ex C ρ := rfl
theorem E1 (k : Ev -> O) : (O.no).seq k = .no := rfl
theorem Eo (d : D) : aK (.rt d) = .ok d := rfl
theorem EC (ρ : Ev) : aK (.nx ρ) = .ok .non := rfl
theorem Fr (C : Addr) (ρ : Ev) : aK (.ex C ρ) = .ex C := rfl
theorem ED (k : Bool) : asB (.bl k) = .ok k := rfl
theorem ft (i : Int) : asI (.int i) = .ok i := rfl
theorem E2 (k : Bool) : fw (.bl k) = .ok k := rfl
theorem rd7 (a0 a1 a2 a3 a4 a5 a6 : Option Sl) (d : D) (ρ : Ev) : rdV (a0 :: a1 :: a2 :: a3 :: a4 :: a5 :: a6 :: some (.val d) :: ρ) 7 = .ok d := rfl
theorem rd8 (a0 a1 a2 a3 a4 a5 a6 a7 : Option Sl) (d : D) (ρ : Ev) : rdV (a0 :: a1 :: a2 :: a3 :: a4 :: a5 :: a6 :: a7 :: some (.val d) :: ρ) 8 = .ok d := rfl
theorem rd9 (a0 a1 a2 a3 a4 a5 a6 a7 a8 : Option Sl) (d : D) (ρ : Ev) : rdV (a0 :: a1 :: a2 :: a3 :: a4 :: a5 :: a6 :: a7 :: a8 :: some (.val d) :: ρ) 9 = .ok d := rfl
theorem Fl (a0 a1 a2 a3 a4 a5 a6 a7 a8 a9 : Option Sl) (d : D) (ρ : Ev) : rdV (a0 :: a1 :: a2 :: a3 :: a4 :: a5 :: a6 :: a7 :: a8 :: a9 :: some (.val d) :: ρ) 10 = .ok d := rfl
theorem E6 (a0 a1 a2 a3 a4 a5 a6 a7 a8 a9 a10 : Option Sl) (d : D) (ρ : Ev) : rdV (a0 :: a1 :: a2 :: a3 :: a4 :: a5 :: a6 :: a7 :: a8 :: a9 :: a10 :: some (.val d) :: ρ) 11 = .ok d := rfl
theorem Fg (a0 a1 a2 a3 a4 a5 a6 a7 a8 a9 a10 a11 : Option Sl) (d : D) (ρ : Ev) : rdV (a0 :: a1 :: a2 :: a3 :: a4 :: a5 :: a6 :: a7 :: a8 :: a9 :: a10 :: a11 :: some (.val d) :: ρ) 12 = .ok d := rfl
section
variable (i j : Int)
theorem Du : bw (.int i) (.int j) = some (.int (i + j)) := by simp only [bw]
theorem CY : oO (.int i) (.int j) = some (.int (i - j)) := by simp only [oO]
theorem EK : leD (.int i) (.int j) = some (.bl (decide (i <= j))) := by simp only [leD]
theorem Fz : ltD (.int i) (.int j) = some (.bl (decide (i < j))) := by simp only [ltD]
theorem Ff : gtD (.int i) (.int j) = some (.bl (decide (j < i))) := by simp only [gtD]
theorem EA : geD (.int i) (.int j) = some (.bl (decide (j <= i))) := by simp only [geD]
theorem Fy : eqF (.int i) (.int j) = some (.bl (i == j)) := by simp only [eqF, eqD, Option.map_some]
theorem EU : neF (.int i) (.int j) = some (.bl (!(i == j))) := by simp only [neF, eqD, Option.map_some]
end
theorem Bq {i j : Int} (h : -(2 ^ 64) < i /\ i < 2 ^ 64) : gn (.int i) (.int j) = some (.int (i * j)) := by simp only [gn]; rw [if_pos (Or.inl h)]
theorem lj {x y : List Nat} (h : x.length + y.length <= sizeLine) : bw (.str x) (.str y) = some (.str (x ++ y)) := by simp only [bw]; rw [if_pos h]
theorem mS {x y : List D} (h : x.length + y.length <= sizeLine) : bw (.tup x) (.tup y) = some (.tup (x ++ y)) := by simp only [bw]; rw [if_pos h]
theorem EX (x y : List Nat) : eqF (.str x) (.str y) = some (.bl (x == y)) := by simp only [eqF, eqD, Option.map_some]
theorem ET (x y : List Nat) : neF (.str x) (.str y) = some (.bl (!(x == y))) := by simp only [neF, eqD, Option.map_some]
theorem qN {α : Type} (n : Nat) (x : α) : (List.replicate n [x]).flatten = List.replicate n x := by
  induction n with
  | zero => rfl
  | succ n ih => rw [List.replicate_succ, List.flatten_cons, ih]; rfl
theorem bc : (1000 : Nat) <= sizeLine := by decide
theorem D7 {c n : Nat} (h : n <= 1000) : gn (.str [c]) (.int (n : Int)) = some (.str (List.replicate n c)) := by
  have := bc
  simp only [gn]
  rw [if_pos (by refine ⟨by omega, by omega, ?_⟩; simp; omega), Int.toNat_natCast, qN]
theorem Cn {c : D} {n : Nat} (h : n <= 1000) : gn (.lst false [c]) (.int (n : Int)) = some (.lst false (List.replicate n c)) := by
  have := bc
  simp only [gn]
  rw [if_pos (by refine ⟨by omega, by omega, ?_⟩; simp; omega), Int.toNat_natCast, qN]
theorem pX {xs : List D} {k : Nat} {d : D} (h : xs[k]? = some d) : ixD (.tup xs) (.int (k : Int)) = some d := by simp only [ixD]; exact uJ h
theorem CN {fz : Bool} {xs : List D} {k : Nat} {d : D} (h : xs[k]? = some d) : ixD (.lst fz xs) (.int (k : Int)) = some d := by simp only [ixD]; exact uJ h
theorem jl {α : Type} (xs : List α) (k : Nat) : ii xs none (some (k : Int)) = xs.take k := by
  unfold ii
  rw [HT.sIx_none, HT.sIx_nat, List.drop_zero, Nat.sub_zero]
  by_cases h : k <= xs.length
  . rw [Nat.min_eq_left h]
  . rw [Nat.min_eq_right (by omega), List.take_length, List.take_of_length_le (by omega)]
theorem dA {α : Type} (xs : List α) (k : Nat) : ii xs (some (k : Int)) none = xs.drop k := by
  unfold ii
  rw [HT.sIx_none, HT.sIx_nat]
  by_cases h : k <= xs.length
  . rw [Nat.min_eq_left h, List.take_of_length_le (by simp)]
  . rw [Nat.min_eq_right (by omega), List.drop_length, List.take_nil, List.drop_of_length_le (by omega)]
theorem CT (lo hi : Option Int) (x : List Nat) : AS lo hi (.str x) = some (.str (ii x lo hi)) := rfl
theorem C6 (lo hi : Option Int) (x : List D) : AS lo hi (.tup x) = some (.tup (ii x lo hi)) := rfl
theorem Dr (fz : Bool) (x : List D) : dw [.lst fz x] = some (.int x.length) := rfl
theorem DR (x : List D) : dw [.tup x] = some (.int x.length) := rfl
theorem Di (x : List Nat) : dw [.str x] = some (.int x.length) := rfl
theorem m_t {ds : List D} (h : ds.length <= 1000) : mkT ds = .ok (.tup ds) := if_pos (Nat.le_trans h bc)
theorem gS {n : Nat} (h : n <= 1000) : bE [.int (n : Int)] = .ok ((List.range n).map fun (i : Nat) => D.int (i : Int)) := by
  have e : bE [.int (n : Int)] = if -(2 ^ 62) <= (n : Int) /\ (n : Int) < 2 ^ 62 then .ok ((List.range (n : Int).toNat).map fun i => D.int (0 + (i : Nat))) else .no := by simp only [bE]
  rw [e, if_pos (by constructor <;> omega), Int.toNat_natCast]
  simp only [Int.zero_add]
theorem E3 {α : Type} (a v : α) (l : List α) : (a :: l).set 0 v = v :: l := rfl
theorem eB {asg : D -> Ev -> R Ev} {g : Ev -> O} {d : D} {ds : List D} {ρ ρ1 ρ2 : Ev} (h1 : asg d ρ = .ok ρ1) (h2 : g ρ1 = .nx ρ2) : ci asg g (d :: ds) ρ = ci asg g ds ρ2 := by
  rw [ci, h1]
  show (match g ρ1 with
    | .nx ρ2 => ci asg g ds ρ2
    | .ct ρ2 => ci asg g ds ρ2
    | .bk ρ2 => O.nx ρ2
    | .rt d => O.rt d
    | .ex C ρ2 => O.ex C ρ2
    | .no => O.no) = _
  rw [h2]
theorem DZ {X : Cx} {e : Expr} {gl : Ev -> R (List D)} {p pos : Pos} (hg : Gl X "ord") (hm : X.mg "ord" = none) (ha : PFA X [e] gl) (he : starEach [e] X.env = (false, eval e X.env) :: starEach [] X.env := by rfl) : PF X (.Call (.Name "ord" p) [e] [] pos) (gOf AN gl) := wM xB (BB _) hg hm rfl ha (he := he)
theorem vh {X : Cx} {e : Expr} {gl : Ev -> R (List D)} {p pos : Pos} (hg : Gl X "tuple") (hm : X.mg "tuple" = none) (ha : PFA X [e] gl) (he : starEach [e] X.env = (false, eval e X.env) :: starEach [] X.env := by rfl) :
    PF X (.Call (.Name "tuple" p) [e] [] pos) (gOf ot gl) := tI zQz9 (wl _) hg hm PyProof.Rows.Boot.«tuple» ha (by decide) (by decide) he rfl
end L2
namespace L2
open PySem PySem.Spec PyProof.Rows
theorem Dy {X : Cx} {a b : Expr} {ga gb : Ev -> R D} {pos : Pos} (ha : PF X a ga) (hb : PF X b gb) : PB X (.Compare a [.GtE] [b] pos) (gB2 geD ga gb) := Dg ha hb
def lR : D -> List D -> Option D
  | .str x, [.int i] => if -1000 <= i /\ i <= 1000 then some (.str (x ++ List.replicate (i.toNat - x.length) 32)) else none
  | _, _ => none
def yq : V -> List V -> Hp -> VK -> Prop := fun x vs H Q => ∃ (y : Str) (i : Int), x = .str y /\ vs = [.int i] /\ -1000 <= i /\ i <= 1000 /\ Q (.str (Txt.ljust y i)) H
theorem xh {X : Cx} : MtR X "str.ljust" yq := by
  intro pins s σ H x xs v us Q I rx rv ⟨y, i, ex, exs, h1, h2, q⟩
  subst ex exs
  obtain ⟨t, rfl⟩ := rx
  obtain ⟨u, rfl, r1⟩ := rv.one
  obtain ⟨t', rfl⟩ := r1
  exact SC.ljust (padOk_of (by omega) (by omega)) (fun t'' k => ⟨.str _, H, I.tok _, ⟨_, rfl⟩, q⟩)
theorem oE (y : Str) (i : Int) : (Txt.ljust y i).cps.toList = y.cps.toList ++ List.replicate (i.toNat - y.cps.toList.length) 32 := by
  unfold Txt.ljust
  have hl : y.length = y.cps.toList.length := by simp [Str.length]
  split
  . rename_i h
    have : i.toNat - y.cps.toList.length = 0 := by omega
    rw [this]; simp
  . simp [Builtin.Str.padded, Str.length]
theorem xG (K : PySem.W.Frag) : B2 K "str" yq lR := by
  intro G H x xs dx ds d Q s rx rs e q
  unfold lR at e
  split at e
  . split at e
    . rename_i hi
      cases e
      obtain ⟨v, rfl, r1⟩ := rs.one
      obtain ⟨y, rfl, ey, hy⟩ := rx.str_inv
      obtain rfl := r1.int_inv
      refine ⟨y, _, rfl, rfl, hi.1, hi.2, q _ G H (.refl s) (.strL (by rw [oE, ey]) ?_)⟩
      have h1 : y.length = y.cps.toList.length := by simp [Str.length]
      have := bc
      rw [h1, ey] at hy
      simp; omega
    . cases e
  . cases e
theorem zN {X : Cx} {o e : Expr} {ga : Ev -> R D} {gl : Ev -> R (List D)} {ap cp : Pos} (ho : PF X o ga) (ha : PFA X [e] gl) (hbase : attributeBase o "ljust" X.env (eval o X.env) = eval o X.env := by rfl)
    (hfew : ((backTo cp (starEach [e] X.env)).all (fun x => !x.1) && (backToKw cp (keywordEach [] X.env)).all (fun x => x.1.isSome)
      && decide ([e].length + ([] : List Keyword).length + (if ([] : List Keyword).isEmpty then 0 else 1) < 30)) = true := by rfl)
    (hline : (ap.endLine == cp.line) = true := by rfl) (hs : starEach [e] X.env = (false, eval e X.env) :: starEach [] X.env := by rfl) :
    PF X (.Call (.Attribute o "ljust" ap) [e] [] cp) (mv "str" lR ga gl) := Ac PySem.F.plainAttrs_str PySem.F.slot_str_ljust PySem.F.type_str_ljust xh (xG _) ho ha hbase hfew hline hs rfl
end L2
namespace L2
open PySem PySem.Spec PyProof.Rows
theorem Fm {x : Str} {l : List Str} {y0 y1 y2 y3 y4 y5 y6 y7 y8 y9 y10 y11 : Str} : At (y0 :: y1 :: y2 :: y3 :: y4 :: y5 :: y6 :: y7 :: y8 :: y9 :: y10 :: y11 :: x :: l) 12 x := rfl
theorem D6 {x : Str} {l : List Str} {y0 y1 y2 y3 y4 y5 y6 y7 y8 y9 y10 y11 y12 : Str} : At (y0 :: y1 :: y2 :: y3 :: y4 :: y5 :: y6 :: y7 :: y8 :: y9 :: y10 :: y11 :: y12 :: x :: l) 13 x := rfl
theorem ER (a0 a1 a2 a3 a4 a5 a6 a7 a8 a9 a10 a11 a12 : Option Sl) (d : D) (ρ : Ev) : rdV (a0 :: a1 :: a2 :: a3 :: a4 :: a5 :: a6 :: a7 :: a8 :: a9 :: a10 :: a11 :: a12 :: some (.val d) :: ρ) 13 = .ok d := rfl
theorem Ft (a0 a1 a2 a3 a4 a5 a6 a7 a8 a9 a10 a11 a12 a13 : Option Sl) (d : D) (ρ : Ev) : rdV (a0 :: a1 :: a2 :: a3 :: a4 :: a5 :: a6 :: a7 :: a8 :: a9 :: a10 :: a11 :: a12 :: a13 :: some (.val d) :: ρ) 14 = .ok d := rfl
theorem DJ (i : Nat) (gt : Ev -> R Bool) (g1 g2 : Ev -> O) (ρ : Ev) : Fx i gt g1 g2 ρ = (im (gt (frz i ρ))).out ρ fun k => if k = true then g1 ρ else g2 ρ := rfl
theorem Bx (j i : Nat) (ga : Ev -> R D) (ρ : Ev) : xz j i ga ρ = (im (ga (frz j ρ))).out ρ fun d => if fl 10 d = true then .nx (ρ.set i (some (.val d))) else .no := rfl
theorem BJ (j i : Nat) (ga : Ev -> R D) (ρ : Ev) : wk j i ga ρ = (ownAt ρ i).out ρ fun ds => (im (ga (frz j ρ))).out ρ fun d => if ds.length < sizeLine /\ fl 10 d = true then .nx (ρ.set i (some (.own (ds ++ [d])))) else .no := rfl
def AY (i : Nat) (ρ : Ev) (ds : List D) (d : D) : Option Nat -> O
  | some n => if fl 10 d = true then .nx (ρ.set i (some (.own (ds.set n d)))) else .no
  | none => .no
theorem Bb (i : Nat) (gk ga : Ev -> R D) (ρ : Ev) : wb i gk ga ρ = (ownAt ρ i).out ρ fun ds => (im (ga (frz i ρ))).out ρ fun d => (im (gk (frz i ρ) >>= asI)).out ρ fun k => AY i ρ ds d (ixN ds.length k) := rfl
theorem sy (i : Nat) (ρ : Ev) (ds : List D) (d : D) (n : Nat) : AY i ρ ds d (some n) = if fl 10 d = true then .nx (ρ.set i (some (.own (ds.set n d)))) else .no := rfl
theorem Bi (gl : Ev -> R (List D)) (ρ : Ev) : DE gl ρ = gl ρ >>= CM := rfl
theorem CS (xs : List D) : CM [.tup xs] = .ok xs := rfl
theorem zF (ga gb : Ev -> R D) (ρ : Ev) : Ck ga gb ρ = ga ρ >>= fun x => gb ρ >>= fun c => yt x c := rfl
theorem yI (n : Nat) (asg : D -> Ev -> R Ev) (gl : Ev -> R (List D)) (ix : List Nat) (gt : Ev -> R Bool) (ga : Ev -> R D) (ρ : Ev) : lH n asg gl ix gt ga ρ = gl ρ >>= fun items => fO asg gt ga items (fq n ix ρ) >>= fun ds => if ds.length <= sizeLine then .ok ds else .no := rfl
theorem B7 (i j : Nat) (ga : Ev -> R D) (gl : Ev -> R (List D)) (ρ : Ev) : DA i j ga gl ρ = (ga ρ).out ρ fun d => (gl ρ).out ρ fun ds => .nx ((ρ.set i (some (.val d))).set j (some (.own ds))) := rfl
theorem DP (f : Bool) (lo hi : Option Int) (x : List D) : AS lo hi (.lst f x) = some (.lst false (ii x lo hi)) := rfl
theorem DN (ga gs : Ev -> R D) (ρ : Ev) : EI ga gs ρ = ga ρ >>= fun x => gs ρ >>= fun k => CL x k := rfl
theorem DC (x : List Nat) : CL (.str x) (.int (-1)) = .ok (.str x.reverse) := rfl
theorem CP (f : Bool) (x : List D) : CL (.lst f x) (.int (-1)) = .ok (.lst false x.reverse) := rfl
theorem DM (f : Bool) (xs : List D) : CM [.lst f xs] = .ok xs := rfl
end L2
section
open L2
set_option compiler.extract_closed false in
local macro_rules | `(tactic| walk_at "run") => `(tactic| simp -implicitDefEqProofs only [↓AG, ↓Ae, ↓yY, ↓yH, CA, Ca, AW, kA, E0, wA, DQ, Fj, D8, BI, Cz, Au, DW, Db, yh, EN, ua, AD, C9, Fd, EL, EG, Cj, Bd, Fw, Da, Fn, CW, Bs, Dx, Dh, ES, Ch, CZ, Df, BJ, DJ, Bx, Bb, pH, Bi, zF, yI, B7, DP, DN, DC, CP, sy, CS, DM, ER, Ft, and_self, Dz, Fa, E7, Fk, asl, Fv, EZ, EF, DK, sv2, wG, DD, EY, E1, Eo, EC, Fr, ED, ft, E2, rd0, rd1, rd2, rd3, rd4, rd5, rd6, rd7, rd8, rd9, Fl, E6, Fg, R.ok_bind, R.ok_out, R.ex_bind, R.ex_out, bv, Du, CY, EK, Fz, Ff, EA, Fy, EU, EX, ET, Dr, DR, Di, CT, C6, E3, List.set_cons_succ, List.length_nil, List.length_cons, List.cons_append, List.nil_append, Nat.reduceAdd, Nat.reduceBEq, Bool.not_true, Bool.not_false, Bool.false_eq_true, if_false, if_true, *])
namespace Q
open L2
open PySem (sizeLine Addr)
def Ea : D -> Bool
  | .int _ => true
  | _ => false
def wX : List D -> R D
  | [.exc _] => .no
  | [d] => .ok (.bl (Ea d))
  | _ => .no
noncomputable def jA : Ev -> O := (bO (iK (aI (dh isInt) (fun ρ => rdV ρ 0)) (AR (aI (dh (· == "bool")) (fun ρ => rdV ρ 0)))))
noncomputable def dX : Ev -> O := (aM jA oNx)
theorem qk : ∀ ds : List D, ds.length = 1 -> wX ds = .no \/ aK (dX  (aN 1 ds)) = wX ds := by
  intro ds hl
  unfold dX jA
  match ds, hl with
  | [d], _ => cases d <;> first | exact Or.inr rfl | exact Or.inl rfl
def inB (d : D) (lo hi : Int) : Bool := match d with
  | .int i => decide (lo <= i) && decide (i <= hi)
  | _ => false
def uE : List D -> R D
  | [.exc _, _, _] => .no
  | [d, .int lo, .int hi] => .ok (.bl (inB d lo hi))
  | _ => .no
noncomputable def iS (cU : List D -> R D) : Ev -> O := (bO (iK (aR 1 cU (ac (fun ρ => rdV ρ 0) (fun _ => R.ok []))) (g3 leD leD (fun ρ => rdV ρ 1) (fun ρ => rdV ρ 0) (fun ρ => rdV ρ 2))))
noncomputable def du (cU : List D -> R D) : Ev -> O := (aM (iS cU) oNx)
theorem nu : ∀ ds : List D, ds.length = 3 -> uE ds = .no \/ aK (du wX (aN 3 ds)) = uE ds := by
  intro ds hl
  unfold du iS
  match ds, hl with
  | [d, l, h], _ =>
    cases d <;> first | exact Or.inl rfl | skip
    all_goals (cases l <;> first | exact Or.inl rfl | skip)
    all_goals (cases h <;> first | exact Or.inl rfl | skip)
    all_goals first | exact Or.inr rfl | skip
    rename_i i lo hi hl
    refine Or.inr ?_
    show aK (aM _ oNx [some (.val (.int i)), some (.val (.int lo)), some (.val (.int hi))]) = R.ok (D.bl (inB (.int i) lo hi))
    by_cases h1 : lo <= i <;> simp [aM, bO, iK, aR, ac, g3, rdV, wX, Ea, asB, leD, inB, aK, O.seq, h1]
def plain (x : List Nat) : Bool := x.all fun c => decide (32 <= c) && decide (c <= 126)
def ze : D -> Bool
  | .str x => plain x
  | _ => false
def iq : List D -> R D
  | [.exc _] => .no
  | [.str x] => if x.length <= sizeLine then .ok (.bl (plain x)) else .no
  | [d] => .ok (.bl false)
  | _ => .no
noncomputable def kR : Ev -> O := (bO (iK (aI (dh (· == "str")) (fun ρ => rdV ρ 0)) (gOf Aj (ac (bx (eM (aI bH (fun ρ => rdV ρ 0)) [] (fun _ => R.ok true) (g3 leD leD (fun _ => R.ok (D.str [32])) (fun ρ => rdV ρ 0) (fun _ => R.ok (D.str [126]))))) (fun _ => R.ok [])))))
noncomputable def dM : Ev -> O := (aM kR oNx)
theorem oZ : ∀ ds : List D, ds.length = 1 -> iq ds = .no \/ aK (dM  (aN 1 ds)) = iq ds := by
  intro ds hl
  unfold dM kR
  match ds, hl with
  | [d], _ =>
    cases d <;> first | exact Or.inl rfl | exact Or.inr rfl | skip
    rename_i x hl
    by_cases hx : x.length <= sizeLine
    . refine Or.inr ?_
      have e : fv (fun _ => R.ok true) (g3 leD leD (fun _ => .ok (.str [32])) (fun ρ => rdV ρ 0) (fun _ => .ok (.str [126]))) (x.map fun c => D.str [c]) [none] = .ok ((x.map fun c => D.str [c]).map fun d => .bl (match d with | .str [c] => decide (32 <= c) && decide (c <= 126) | _ => false)) := by
        refine dH _ [] _ none fun d m => ⟨rfl, ?_⟩
        obtain ⟨c, _, rfl⟩ := List.mem_map.1 m
        show (ofO (some (D.bl (!decide (([c] : List Nat) < [32])))) >>= fun z => match z with
          | .bl true => ofO (some (D.bl (!decide (([126] : List Nat) < [c]))))
          | .bl false => R.ok (D.bl false)
          | _ => R.no : R D) = _
        rw [tw, tw, bv, R.ok_bind]
        cases h1 : decide (32 <= c) <;> simp [h1]
      have e2 : iq [.str x] = .ok (.bl (plain x)) := if_pos hx
      rw [e2]
      show aK (aM _ oNx [some (.val (.str x))]) = _
      simp only [aM, bO, iK, aI, gOf, ac, bx, eM, rd0, dh, tyN, asB, ib, bH, R.ok_bind, List.map_nil]
      simp only [beq_self_eq_true, if_true, e, R.ok_bind]
      simp only [List.length_map, hx, if_true, R.ok_bind, mK, bv, R.ok_out, aK, O.seq, List.all_map, plain]
      rfl
    . exact Or.inl (if_neg hx)
def AJ : D -> Bool
  | .exc _ => false
  | .str x => decide (x.length <= sizeLine)
  | _ => true
def nv (d : D) (wd : Int) : Bool := match d with
  | .str x => plain x && ((x.length : Int) == wd)
  | _ => false
def qG (d : D) (wd : Int) : Bool := match d with
  | .tup xs => decide (1 <= xs.length) && decide (xs.length <= 12) && xs.all fun r => nv r wd
  | _ => false
def tj : List D -> R D
  | [.exc _, _] => .no
  | [.tup xs, .int wd] => if xs.all AJ = true then .ok (.bl (qG (.tup xs) wd)) else .no
  | [d, .int wd] => .ok (.bl false)
  | _ => .no
theorem lA {d : D} (h : AJ d = true) : iq [d] = .ok (.bl (ze d)) := by
  cases d <;> first | rfl | (cases h; done) | skip
  exact if_pos (of_decide_eq_true h)
noncomputable def fk (bn : List D -> R D) : Ev -> O := (oIf (ig (gBn (aI fw (aI (dh (· == "tuple")) (fun ρ => rdV ρ 0)))) (gBn (gB3 leD leD (fun _ => R.ok (D.int 1)) (gOf dw (ac (fun ρ => rdV ρ 0) (fun _ => R.ok []))) (fun _ => R.ok (D.int 12))))) (aM (bO (fun _ => R.ok (D.bl false))) oNx) oNx)
noncomputable def fg (bn : List D -> R D) : Ev -> O := (bO (gOf Aj (ac (bx (eM (aI bH (fun ρ => rdV ρ 0)) [1] (fun _ => R.ok true) (iK (aR 1 bn (ac (fun ρ => rdV ρ 0) (fun _ => R.ok []))) (g2 eqF (gOf dw (ac (fun ρ => rdV ρ 0) (fun _ => R.ok []))) (fun ρ => rdV ρ 1))))) (fun _ => R.ok []))))
noncomputable def bZ (bn : List D -> R D) : Ev -> O := (aM (fk bn) (aM (fg bn) oNx))
theorem jf : ∀ ds : List D, ds.length = 2 -> tj ds = .no \/ aK (bZ iq (aN 2 ds)) = tj ds := by
  intro ds hl
  unfold bZ fk fg
  match ds, hl with
  | [d, l], _ =>
    cases d <;> first | exact Or.inl rfl | skip
    all_goals (cases l <;> first | exact Or.inl rfl | exact Or.inr rfl | skip)
    rename_i xs wd hl
    by_cases hf : xs.all AJ = true
    . refine Or.inr ?_
      have e2 : tj [.tup xs, .int wd] = .ok (.bl (qG (.tup xs) wd)) := if_pos hf
      rw [e2]
      have e : fv (fun _ => R.ok true) (iK (aR 1 iq (ac (fun ρ => rdV ρ 0) fun x => R.ok [])) (g2 eqF (gOf dw (ac (fun ρ => rdV ρ 0) fun x => R.ok [])) fun ρ => rdV ρ 1)) xs [none, some (.val (.int wd))] = .ok (xs.map fun d => .bl (nv d wd)) := by
        refine dH _ [some (.val (.int wd))] xs none fun d m => ⟨rfl, ?_⟩
        have hd := List.all_eq_true.1 hf d m
        simp only [iK, aR, ac, rd0, R.ok_bind, List.length_singleton, if_true, lA hd, asB]
        cases d <;> first | rfl | skip
        rename_i x
        show (if plain x = true then R.ok (D.bl ((x.length : Int) == wd)) else R.ok (.bl false)) = R.ok (.bl (plain x && ((x.length : Int) == wd)))
        cases plain x <;> rfl
      show aK (aM _ _ [some (.val (.tup xs)), some (.val (.int wd))]) = _
      have i2 : ib [1] [some (.val (.tup xs)), some (.val (.int wd))] = [none, some (.val (.int wd))] := rfl
      have t1 : dh (fun x => x == "tuple") (.tup xs) = .ok (.bl true) := rfl
      have t2 : fw (.bl true) = .ok true := rfl
      have t3 : dw [.tup xs] = some (.int xs.length) := rfl
      simp only [aM, oIf, ig, gBn, aI, gB3, g3, bO, gOf, ac, bx, eM, rd0, R.ok_bind, R.ok_out, bH, i2, e, t1, t2, t3, bv, leD, Bool.not_true, Bool.false_eq_true, if_false]
      by_cases h1 : 1 <= xs.length
      . have h1' : (1 : Int) <= (xs.length : Int) := by omega
        by_cases h2 : xs.length <= 12
        . have h2' : (xs.length : Int) <= 12 := by omega
          have h3 : xs.length <= sizeLine := Nat.le_trans h2 (by decide)
          simp [h1, h1', h2, h2', h3, asB, oNx, O.seq, mK, aK, qG]
          simp only [aM, bO, gOf, ac, bx, eM, aI, rd0, R.ok_bind, bH, i2, e, List.length_map, h3, if_true, mK, bv, R.ok_out, O.seq]
        . have h2' : ¬ (xs.length : Int) <= 12 := by omega
          simp [h1, h1', h2, h2', asB, oNx, O.seq, aK, qG]
      . have h1' : ¬ (1 : Int) <= (xs.length : Int) := by omega
        simp [h1, h1', asB, oNx, O.seq, aK, qG]
    . exact Or.inl (if_neg hf)
def oA (d : D) (wd m : Int) : Bool := match d with
  | .tup [a, b] => inB a 0 (m - 1) && inB b 0 wd
  | _ => false
def gC : D -> Bool
  | .exc _ => false
  | _ => true
def lU : List D -> R D
  | [.exc _, _, _] => .no
  | [.tup xs, .int wd, .int m] => if xs.all gC = true then .ok (.bl (oA (.tup xs) wd m)) else .no
  | [d, .int wd, .int m] => .ok (.bl false)
  | _ => .no
theorem cF {d : D} {lo hi : Int} (h : gC d = true) : uE [d, .int lo, .int hi] = .ok (.bl (inB d lo hi)) := by
  cases d <;> first | rfl | (cases h; done)
noncomputable def jQ (aJ : List D -> R D) : Ev -> O := (oIf (ig (gBn (aI fw (aI (dh (· == "tuple")) (fun ρ => rdV ρ 0)))) (gB2 neF (gOf dw (ac (fun ρ => rdV ρ 0) (fun _ => R.ok []))) (fun _ => R.ok (D.int 2)))) (aM (bO (fun _ => R.ok (D.bl false))) oNx) oNx)
noncomputable def jJ (aJ : List D -> R D) : Ev -> O := (bO (iK (aR 3 aJ (ac (g2 ixD (fun ρ => rdV ρ 0) (fun _ => R.ok (D.int 0))) (ac (fun _ => R.ok (D.int 0)) (ac (g2 oO (fun ρ => rdV ρ 2) (fun _ => R.ok (D.int 1))) (fun _ => R.ok []))))) (aR 3 aJ (ac (g2 ixD (fun ρ => rdV ρ 0) (fun _ => R.ok (D.int 1))) (ac (fun _ => R.ok (D.int 0)) (ac (fun ρ => rdV ρ 1) (fun _ => R.ok [])))))))
noncomputable def dW (aJ : List D -> R D) : Ev -> O := (aM (jQ aJ) (aM (jJ aJ) oNx))
theorem pR : ∀ ds : List D, ds.length = 3 -> lU ds = .no \/ aK (dW uE (aN 3 ds)) = lU ds := by
  intro ds hl
  unfold dW jQ jJ
  match ds, hl with
  | [d, l, h], _ =>
    cases d <;> first | exact Or.inl rfl | skip
    all_goals (cases l <;> first | exact Or.inl rfl | skip)
    all_goals (cases h <;> first | exact Or.inl rfl | exact Or.inr rfl | skip)
    rename_i xs wd m hl
    by_cases hf : xs.all gC = true
    . refine Or.inr ?_
      have e2 : lU [.tup xs, .int wd, .int m] = .ok (.bl (oA (.tup xs) wd m)) := if_pos hf
      rw [e2]
      match xs, hf with
      | [], _ => rfl
      | [_], _ => rfl
      | [a, b], hf =>
        have ha : gC a = true := List.all_eq_true.1 hf a (by simp)
        have hb : gC b = true := List.all_eq_true.1 hf b (by simp)
        show aK ((iK (fun _ => uE [a, .int 0, .int (m - 1)]) (fun _ => uE [b, .int 0, .int wd]) []).out _ .rt |>.seq oNx) = _
        rw [iK, cF ha, cF hb]
        show aK ((if inB a 0 (m - 1) = true then R.ok (D.bl (inB b 0 wd)) else R.ok (D.bl false)).out _ .rt |>.seq oNx) = R.ok (D.bl (inB a 0 (m - 1) && inB b 0 wd))
        cases inB a 0 (m - 1) <;> rfl
      | a :: b :: c :: l, _ =>
        show aK (aM _ _ [some (.val (.tup (a :: b :: c :: l))), some (.val (.int wd)), some (.val (.int m))]) = _
        have t1 : dh (fun x => x == "tuple") (.tup (a :: b :: c :: l)) = .ok (.bl true) := rfl
        have t2 : fw (.bl true) = .ok true := rfl
        have t3 : dw [.tup (a :: b :: c :: l)] = some (.int (a :: b :: c :: l).length) := rfl
        have t4 : neF (.int (a :: b :: c :: l).length) (.int 2) = some (.bl true) := by
          have : (((a :: b :: c :: l).length : Int) == 2) = false := by simp; omega
          show some (D.bl (!(((a :: b :: c :: l).length : Int) == 2))) = _
          rw [this]; rfl
        simp only [aM, oIf, ig, gBn, aI, gB2, g2, bO, gOf, ac, rd0, R.ok_bind, R.ok_out, t1, t2, t3, t4, bv, Bool.not_true, Bool.false_eq_true, if_false]
        rfl
    . exact Or.inl (if_neg hf)
def mB : D -> Bool
  | .exc _ => false
  | .tup [w, r, p] => gC w && (match r with | .exc _ => false | .tup xs => xs.all AJ | _ => true) && (match p with | .exc _ => false | .tup xs => xs.all gC | _ => true)
  | _ => true
def screen : D -> Bool
  | .tup [a, r, p] => match a with
    | .int wd => inB (.int wd) 1 40 && qG r wd && (match r with | .tup rows => oA p wd rows.length | _ => false)
    | _ => false
  | _ => false
def cN : List D -> R D
  | [d] => if mB d = true then .ok (.bl (screen d)) else .no
  | _ => .no
noncomputable def iX (aJ bd bB : List D -> R D) : Ev -> O := (oIf (ig (gBn (aI fw (aI (dh (· == "tuple")) (fun ρ => rdV ρ 0)))) (gB2 neF (gOf dw (ac (fun ρ => rdV ρ 0) (fun _ => R.ok []))) (fun _ => R.ok (D.int 3)))) (aM (bO (fun _ => R.ok (D.bl false))) oNx) oNx)
noncomputable def iY (aJ bd bB : List D -> R D) : Ev -> O := (cP 1 (g2 ixD (fun ρ => rdV ρ 0) (fun _ => R.ok (D.int 0))))
noncomputable def iV (aJ bd bB : List D -> R D) : Ev -> O := (oIf (ig (gBn (aI fw (aR 3 aJ (ac (fun ρ => rdV ρ 1) (ac (fun _ => R.ok (D.int 1)) (ac (fun _ => R.ok (D.int 40)) (fun _ => R.ok []))))))) (gBn (aI fw (aR 2 bd (ac (g2 ixD (fun ρ => rdV ρ 0) (fun _ => R.ok (D.int 1))) (ac (fun ρ => rdV ρ 1) (fun _ => R.ok []))))))) (aM (bO (fun _ => R.ok (D.bl false))) oNx) oNx)
noncomputable def iT (aJ bd bB : List D -> R D) : Ev -> O := (bO (aR 3 bB (ac (g2 ixD (fun ρ => rdV ρ 0) (fun _ => R.ok (D.int 2))) (ac (fun ρ => rdV ρ 1) (ac (gOf dw (ac (g2 ixD (fun ρ => rdV ρ 0) (fun _ => R.ok (D.int 1))) (fun _ => R.ok []))) (fun _ => R.ok []))))))
noncomputable def dn (aJ bd bB : List D -> R D) : Ev -> O := (aM (iX aJ bd bB) (aM (iY aJ bd bB) (aM (iV aJ bd bB) (aM (iT aJ bd bB) oNx))))
theorem nS : ∀ ds : List D, ds.length = 1 -> cN ds = .no \/ aK (dn uE tj lU (aN 2 ds)) = cN ds := by
  intro ds hl
  unfold dn iX iY iV iT
  match ds, hl with
  | [d], _ =>
    cases d <;> first | exact Or.inl rfl | exact Or.inr rfl | skip
    rename_i xs hl
    match xs with
    | [] => exact Or.inr rfl
    | [_] => exact Or.inr rfl
    | [_, _] => exact Or.inr rfl
    | a :: b :: c :: e :: l =>
      refine Or.inr ?_
      show aK (aM _ _ [some (.val (.tup (a :: b :: c :: e :: l))), none]) = _
      have t1 : dh (fun x => x == "tuple") (.tup (a :: b :: c :: e :: l)) = .ok (.bl true) := rfl
      have t2 : fw (.bl true) = .ok true := rfl
      have t3 : dw [.tup (a :: b :: c :: e :: l)] = some (.int (a :: b :: c :: e :: l).length) := rfl
      have t4 : neF (.int (a :: b :: c :: e :: l).length) (.int 3) = some (.bl true) := by
        have : (((a :: b :: c :: e :: l).length : Int) == 3) = false := by simp; omega
        show some (D.bl (!(((a :: b :: c :: e :: l).length : Int) == 3))) = _
        rw [this]; rfl
      simp only [aM, oIf, ig, gBn, aI, gB2, g2, bO, gOf, ac, rd0, R.ok_bind, R.ok_out, t1, t2, t3, t4, bv, Bool.not_true, Bool.false_eq_true, if_false]
      rfl
    | [a, r, p] =>
      by_cases hf : mB (.tup [a, r, p]) = true
      . refine Or.inr ?_
        have e2 : cN [.tup [a, r, p]] = .ok (.bl (screen (.tup [a, r, p]))) := if_pos hf
        rw [e2]
        simp only [mB, Bool.and_eq_true] at hf
        obtain ⟨⟨ha, hr⟩, hp⟩ := hf
        show aK (aM _ _ [some (.val (.tup [a, r, p])), none]) = _
        have t1 : dh (fun x => x == "tuple") (.tup [a, r, p]) = .ok (.bl true) := rfl
        have t2 : ∀ k, fw (.bl k) = .ok k := fun _ => rfl
        have t3 : dw [.tup [a, r, p]] = some (.int 3) := rfl
        have t4 : neF (.int 3) (.int 3) = some (.bl false) := rfl
        have x0 : ixD (.tup [a, r, p]) (.int 0) = some a := rfl
        have x1 : ixD (.tup [a, r, p]) (.int 1) = some r := rfl
        have x2 : ixD (.tup [a, r, p]) (.int 2) = some p := rfl
        have s1 : ([some (.val (.tup [a, r, p])), none] : Ev).set 1 (some (.val a)) = [some (.val (.tup [a, r, p])), some (.val a)] := rfl
        simp only [aM, oIf, cP, ig, gBn, aI, gB2, g2, bO, gOf, ac, rd0, rd1, R.ok_bind, R.ok_out, t1, t2, t3, t4, x0, x1, x2, s1, uT, nK, bv, asB, oNx, O.seq, Bool.not_true, Bool.false_eq_true, if_false, cF ha]
        cases hi : inB a 1 40 with
        | false =>
          have : screen (.tup [a, r, p]) = false := by
            cases a <;> first | rfl | skip
            simp only [screen, hi, Bool.false_and]
          rw [this]; rfl
        | true =>
          cases a <;> first | (cases hi; done) | skip
          rename_i i
          have e3 : tj [r, .int i] = .ok (.bl (qG r i)) := by
            cases r <;> first | rfl | (cases hr; done) | exact if_pos hr
          cases hq : qG r i with
          | false =>
            have : screen (.tup [.int i, r, p]) = false := by simp only [screen, hi, hq, Bool.and_false, Bool.false_and]
            rw [e3, hq, this]; rfl
          | true =>
            cases r <;> first | (cases hq; done) | skip
            rename_i rows
            have e4 : lU [p, .int i, .int rows.length] = .ok (.bl (oA p i rows.length)) := by
              cases p <;> first | rfl | (cases hp; done) | exact if_pos hp
            have e5 : screen (.tup [.int i, .tup rows, p]) = oA p i rows.length := by simp only [screen, hi, hq, Bool.and_true, Bool.true_and]
            rw [e3, hq, e5]
            show aK ((lU [p, .int i, .int rows.length]).out _ .rt |>.seq _) = _
            rw [e4]; rfl
      . exact Or.inl (if_neg hf)
def eX : List D -> Option (List Int)
  | [] => some []
  | .int i :: ds => (eX ds).map (i :: ·)
  | _ => none
theorem eU : ∀ {ds : List D} {ns : List Int}, eX ds = some ns -> ds = ns.map .int
  | [], ns, h => by cases h; rfl
  | d :: ds, ns, h => by
    cases d <;> first | (cases h; done) | skip
    rename_i i
    cases q : eX ds with
    | none => simp [eX, q] at h
    | some ms => simp [eX, q] at h; subst h; rw [eU q]; rfl
theorem dE : ∀ ns : List Int, eX (ns.map .int) = some ns
  | [] => rfl
  | i :: ns => by simp [eX, dE ns]
def cell (ns : List Int) (k : Nat) : Int := if k < ns.length then ns.getD k 0 else if ns.length = 0 then 0 else ns.getD (k % ns.length) 0 * 31 + k
def mY : List D -> R D
  | [.lst _ ds, .int k] => match eX ds with
    | some ns => if 0 <= k then .ok (.int (cell ns k.toNat)) else .no
    | none => .no
  | _ => .no
theorem qT {ns : List Int} {k : Nat} (h : k < ns.length) : atI (ns.map D.int) (k : Int) = some (.int (ns.getD k 0)) := by
  have e : ixN (ns.map D.int).length (k : Int) = some k := by
    rw [List.length_map]
    simp [ixN]
    try omega
  rw [atI, e]
  simp [List.getD, h]
noncomputable def jN : Ev -> O := (oIf (gB2 ltD (fun ρ => rdV ρ 1) (gOf dw (ac (fun ρ => rdV ρ 0) (fun _ => R.ok [])))) (aM (bO (g2 ixD (fun ρ => rdV ρ 0) (fun ρ => rdV ρ 1))) oNx) oNx)
noncomputable def jV : Ev -> O := (oIf (gB2 eqF (fun ρ => rdV ρ 0) (bx (iW (fun _ => R.ok [])))) (aM (bO (fun _ => R.ok (D.int 0))) oNx) oNx)
noncomputable def jF : Ev -> O := (bO (g2 bw (g2 gn (g2 ixD (fun ρ => rdV ρ 0) (g2 sR (fun ρ => rdV ρ 1) (gOf dw (ac (fun ρ => rdV ρ 0) (fun _ => R.ok []))))) (fun _ => R.ok (D.int 31))) (fun ρ => rdV ρ 1)))
noncomputable def dZ : Ev -> O := (aM jN (aM jV (aM jF oNx)))
theorem ql : ∀ ds : List D, ds.length = 2 -> mY ds = .no \/ aK (dZ  (aN 2 ds)) = mY ds := by
  intro ds hl
  unfold dZ jN jV jF
  match ds, hl with
  | [l, kd], _ =>
    cases l <;> first | exact Or.inl rfl | skip
    cases kd <;> first | exact Or.inl rfl | skip
    rename_i fz ds k hl
    cases hi : eX ds with
    | none => refine Or.inl ?_; simp only [mY, hi]
    | some ns =>
      have e := eU hi
      subst e
      by_cases hk : 0 <= k
      . refine Or.inr ?_
        have e2 : mY [.lst fz (ns.map .int), .int k] = .ok (.int (cell ns k.toNat)) := by simp only [mY, hi, hk, if_true]
        rw [e2]
        obtain ⟨n, rfl⟩ := Int.eq_ofNat_of_zero_le hk
        rw [Int.toNat_natCast]
        show aK (aM _ _ [some (.val (.lst fz (ns.map .int))), some (.val (.int n))]) = _
        have t3 : dw [.lst fz (ns.map .int)] = some (.int ns.length) := by simp [dw]
        by_cases h1 : n < ns.length
        . have h1' : (n : Int) < (ns.length : Int) := by omega
          have x1 : ixD (.lst fz (ns.map .int)) (.int n) = some (.int (ns.getD n 0)) := qT h1
          simp only [aM, oIf, gB2, g2, bO, gOf, ac, rd0, rd1, R.ok_bind, R.ok_out, t3, x1, bv, ltD, asB, h1', decide_true, if_true, O.seq, aK, cell, h1]
        . have h1' : ¬ (n : Int) < (ns.length : Int) := by omega
          cases ns with
          | nil => rfl
          | cons a as =>
            have t4 : eqF (.lst fz ((a :: as).map .int)) (.lst false []) = some (.bl false) := rfl
            have h2 : n % (a :: as).length < (a :: as).length := Nat.mod_lt _ (by simp)
            have x1 : ixD (.lst fz ((a :: as).map .int)) (.int ((n % (a :: as).length : Nat) : Int)) = some (.int ((a :: as).getD (n % (a :: as).length) 0)) := qT h2
            have m1 : sR (.int n) (.int (a :: as).length) = some (.int ((n % (a :: as).length : Nat) : Int)) := by
              have : (0 : Int) < ((a :: as).length : Int) := by simp
              simp only [sR, this, if_true]; rw [Int.natCast_emod]
            have m2 : ∀ z : Int, gn (.int z) (.int 31) = some (.int (z * 31)) := fun z => if_pos (Or.inr (by decide))
            have z1 : (0 : Nat) <= sizeLine := Nat.zero_le _
            have z2 : ¬ (a :: as).length = 0 := by simp
            simp only [aM, oIf, gB2, g2, bO, gOf, ac, bx, iW, rd0, rd1, R.ok_bind, R.ok_out, t3, t4, x1, m1, m2, bv, ltD, bw, asB, h1', decide_false, Bool.false_eq_true, if_false, O.seq, oNx, aK, cell, h1, List.length_nil, z1, if_true, z2]
      . refine Or.inl ?_; simp only [mY, hi, hk, if_false]
def drawn (ns : List Int) (k : Nat) : Int := (cell ns k + 6151 * ((k : Int) + 1)) * 40692 % 2147483399
def bF (ns : List Int) (k : Nat) (m : Int) : Int := (drawn ns k * drawn ns k + drawn ns k / 31) % 2147483629 % m
theorem bf (ns : List Int) (k : Nat) {m : Int} (h : 0 < m) : 0 <= bF ns k m /\ bF ns k m < m := ⟨Int.emod_nonneg _ (by omega), Int.emod_lt_of_pos _ h⟩
def bI : List D -> R D
  | [.lst _ ds, .int k, .int m] => match eX ds with
    | some ns => if 0 <= k /\ 0 < m then .ok (.int (bF ns k.toNat m)) else .no
    | none => .no
  | _ => .no
theorem tO {fz : Bool} {ns : List Int} {n : Nat} : mY [.lst fz (ns.map .int), .int n] = .ok (.int (cell ns n)) := by
  simp only [mY, dE, Int.natCast_nonneg, if_true, Int.toNat_natCast]
noncomputable def ki (bT : List D -> R D) : Ev -> O := (cP 3 (g2 sR (g2 gn (g2 bw (aR 2 bT (ac (fun ρ => rdV ρ 0) (ac (fun ρ => rdV ρ 1) (fun _ => R.ok [])))) (g2 gn (fun _ => R.ok (D.int 6151)) (g2 bw (fun ρ => rdV ρ 1) (fun _ => R.ok (D.int 1))))) (fun _ => R.ok (D.int 40692))) (fun _ => R.ok (D.int 2147483399))))
noncomputable def kG (bT : List D -> R D) : Ev -> O := (bO (g2 sR (g2 sR (g2 bw (g2 gn (fun ρ => rdV ρ 3) (fun ρ => rdV ρ 3)) (g2 tN (fun ρ => rdV ρ 3) (fun _ => R.ok (D.int 31)))) (fun _ => R.ok (D.int 2147483629))) (fun ρ => rdV ρ 2)))
noncomputable def dN (bT : List D -> R D) : Ev -> O := (aM (ki bT) (aM (kG bT) oNx))
theorem pz : ∀ ds : List D, ds.length = 3 -> bI ds = .no \/ aK (dN mY (aN 4 ds)) = bI ds := by
  intro ds hl
  unfold dN ki kG
  match ds, hl with
  | [l, kd, md], _ =>
    cases l <;> first | exact Or.inl rfl | skip
    cases kd <;> first | exact Or.inl rfl | skip
    cases md <;> first | exact Or.inl rfl | skip
    rename_i fz ds k m hl
    cases hi : eX ds with
    | none => refine Or.inl ?_; simp only [bI, hi]
    | some ns =>
      have e := eU hi
      subst e
      by_cases hk : 0 <= k /\ 0 < m
      . refine Or.inr ?_
        have e2 : bI [.lst fz (ns.map .int), .int k, .int m] = .ok (.int (bF ns k.toNat m)) := by simp only [bI, hi, hk, and_self, if_true]
        rw [e2]
        obtain ⟨hk, hm⟩ := hk
        obtain ⟨n, rfl⟩ := Int.eq_ofNat_of_zero_le hk
        rw [Int.toNat_natCast]
        show aK (aM _ _ [some (.val (.lst fz (ns.map .int))), some (.val (.int n)), some (.val (.int m)), none]) = _
        have m1 : ∀ z : Int, gn (.int 6151) (.int z) = some (.int (6151 * z)) := fun z => by show (if ((-(2 ^ 64) : Int) < 6151 /\ (6151 : Int) < 2 ^ 64) \/ ((-(2 ^ 64) : Int) < z /\ z < 2 ^ 64) then some (D.int (6151 * z)) else none) = _; exact if_pos (Or.inl (by decide))
        have m2 : ∀ z : Int, gn (.int z) (.int 40692) = some (.int (z * 40692)) := fun z => if_pos (Or.inr (by decide))
        have m3 : ∀ z : Int, sR (.int z) (.int 2147483399) = some (.int (z % 2147483399)) := fun z => by show (if (0 : Int) < 2147483399 then some (D.int (z % 2147483399)) else none) = _; exact if_pos (by decide)
        have m4 : ∀ z : Int, sR (.int z) (.int 2147483629) = some (.int (z % 2147483629)) := fun z => by show (if (0 : Int) < 2147483629 then some (D.int (z % 2147483629)) else none) = _; exact if_pos (by decide)
        have m5 : ∀ z : Int, sR (.int z) (.int m) = some (.int (z % m)) := fun z => if_pos hm
        have m6 : ∀ z : Int, tN (.int z) (.int 31) = some (.int (z / 31)) := fun z => by show (if (0 : Int) < 31 /\ (31 : Int) < 1073741824 then some (D.int (z / 31)) else none) = _; exact if_pos (by decide)
        have m7 : ∀ i j : Int, bw (.int i) (.int j) = some (.int (i + j)) := fun _ _ => rfl
        have hd : 0 <= drawn ns n /\ drawn ns n < 2147483399 := ⟨Int.emod_nonneg _ (by decide), Int.emod_lt_of_pos _ (by decide)⟩
        have m8 : gn (.int (drawn ns n)) (.int (drawn ns n)) = some (.int (drawn ns n * drawn ns n)) := if_pos (Or.inl (by omega))
        have s1 : ∀ v, ([some (.val (.lst fz (ns.map .int))), some (.val (.int n)), some (.val (.int m)), none] : Ev).set 3 v = [some (.val (.lst fz (ns.map .int))), some (.val (.int n)), some (.val (.int m)), v] := fun _ => rfl
        have q1 : (cell ns n + 6151 * ((n : Int) + 1)) * 40692 % 2147483399 = drawn ns n := rfl
        simp only [aM, cP, bO, g2, uT, rd0, rd1, rd2, rd3, R.ok_bind, R.ok_out, tO, m1, m2, m3, m4, m5, m6, m7, bv, O.seq, s1, q1, m8, aK, bF]
      . refine Or.inl ?_; simp only [bI, hi, hk, if_false]
def yW : D -> Bool
  | .str [c] => !(decide (32 <= c) && decide (c <= 126))
  | _ => false
theorem om : ∀ x : List Nat, ((x.map fun c => D.str [c]).filter yW).isEmpty = plain x
  | [] => rfl
  | c :: x => by
    have ih := om x
    rw [List.map_cons, plain, List.all_cons]
    cases h : (decide (32 <= c) && decide (c <= 126)) with
    | true => rw [List.filter_cons_of_neg (by simp only [yW, h]; decide), ih, Bool.true_and]; rfl
    | false => rw [List.filter_cons_of_pos (by simp only [yW, h]; rfl)]; rfl
theorem BM (ys : List D) : eqF (.lst false ys) (.lst false []) = some (.bl ys.isEmpty) := by
  cases ys <;> rfl
theorem vi (f : D -> Bool) : ∀ xs : List D, (xs.filter fun d => !f d).isEmpty = xs.all f
  | [] => rfl
  | x :: xs => by
    have ih := vi f xs
    rw [List.all_cons]
    cases h : f x with
    | true => rw [List.filter_cons_of_neg (by simp [h]), ih, Bool.true_and]
    | false => rw [List.filter_cons_of_pos (by simp [h])]; rfl
theorem Bj (ys : List D) : neF (.lst false ys) (.lst false []) = some (.bl (!ys.isEmpty)) := by
  cases ys <;> rfl
def iH (C : Addr) : List D -> R D
  | [d] => if mB d = true then (if screen d = true then .ok .non else .ex C) else .no
  | _ => .no
noncomputable def fN (cy : List D -> R D) (af : Addr) : Ev -> O := (oIf (gBn (aI fw (aR 1 cy (ac (fun ρ => rdV ρ 0) (fun _ => R.ok []))))) (aM (gM af (ac (fun _ => R.ok (D.str [116, 104, 105, 115, 32, 105, 115, 32, 110, 111, 32, 115, 99, 114, 101, 101, 110])) (fun _ => R.ok []))) oNx) oNx)
noncomputable def cr (cy : List D -> R D) (af : Addr) : Ev -> O := (aM (fN cy af) oNx)
theorem kT {C : Addr} : ∀ ds : List D, ds.length = 1 -> iH C ds = .no \/ aK (cr cN C (aN 1 ds)) = iH C ds := by
  intro ds hl
  unfold cr fN
  match ds, hl with
  | [d], _ =>
    by_cases hf : mB d = true
    . refine Or.inr ?_
      have e1 : cN [d] = .ok (.bl (screen d)) := if_pos hf
      have e2 : iH C [d] = if screen d = true then .ok .non else .ex C := if_pos hf
      rw [e2]
      show aK (aM _ _ [some (.val d)]) = _
      have t2 : ∀ k, fw (.bl k) = .ok k := fun _ => rfl
      simp only [aM, oIf, gM, gBn, aI, vf, rd0, R.ok_bind, R.ok_out, e1, t2]
      cases screen d <;> rfl
    . exact Or.inl (if_neg hf)
theorem zU {α : Type} (n : Nat) (x : α) : (List.replicate n [x]).flatten = List.replicate n x := by
  induction n with
  | zero => rfl
  | succ n ih => rw [List.replicate_succ, List.flatten_cons, ih]; rfl
theorem bz {fz : Bool} {ns : List Int} {n : Nat} {m : Int} (h : 0 < m) : bI [.lst fz (ns.map .int), .int n, .int m] = .ok (.int (bF ns n m)) := by
  simp only [bI, dE, Int.natCast_nonneg, h, and_self, if_true, Int.toNat_natCast]
def sgn (ns : List Int) (k : Nat) : Nat := ([32, 32, 97, 98, 35] : List Nat).getD (bF ns k 5).toNat 0
theorem BA (ns : List Int) (k : Nat) : ixD (.str [32, 32, 97, 98, 35]) (.int (bF ns k 5)) = some (.str [sgn ns k]) := by
  have h := bf ns k (m := 5) (by decide)
  unfold sgn
  generalize bF ns k 5 = v at h
  have : v = 0 \/ v = 1 \/ v = 2 \/ v = 3 \/ v = 4 := by omega
  rcases this with rfl | rfl | rfl | rfl | rfl <;> rfl
theorem uW (ns : List Int) (k : Nat) : 32 <= sgn ns k /\ sgn ns k <= 126 := by
  have h := bf ns k (m := 5) (by decide)
  unfold sgn
  generalize bF ns k 5 = v at h
  have : v = 0 \/ v = 1 \/ v = 2 \/ v = 3 \/ v = 4 := by omega
  rcases this with rfl | rfl | rfl | rfl | rfl <;> decide
def xK : Ev -> O := aM (cP 3 (g2 bw (fun ρ => rdV ρ 3) (g2 ixD (fun x => R.ok (D.str [32, 32, 97, 98, 35])) (aR 3 bI (ac (fun ρ => rdV ρ 0) (ac (g2 bw (g2 bw (fun ρ => rdV ρ 1) fun x => R.ok (D.int 1)) fun ρ => rdV ρ 4) (ac (fun x => R.ok (D.int 5)) fun x => R.ok []))))))) oNx
theorem qo (ns : List Int) (fz : Bool) (a : Nat) (W : Option Sl) : ∀ (ks : List Nat) (x : List Nat) (kk : Option Sl), x.length + ks.length <= sizeLine ->
    ∃ kk', ci (gH 4) xK (ks.map fun i => D.int (0 + (i : Nat))) [some (.val (.lst fz (ns.map .int))), some (.val (.int a)), W, some (.val (.str x)), kk, none] = .nx [some (.val (.lst fz (ns.map .int))), some (.val (.int a)), W, some (.val (.str (x ++ ks.map fun k => sgn ns (a + 1 + k)))), kk', none]
  | [], x, kk, _ => ⟨kk, by simp [ci]⟩
  | k :: ks, x, kk, h => by
    have h' : (x ++ [sgn ns (a + 1 + k)]).length + ks.length <= sizeLine := by simp at h ⊢; omega
    obtain ⟨kk', ih⟩ := qo ns fz a W ks (x ++ [sgn ns (a + 1 + k)]) (some (.val (.int (0 + (k : Nat))))) h'
    refine ⟨kk', ?_⟩
    have hx : x.length + 1 <= sizeLine := by simp at h; omega
    have c1 : ((a : Int) + 1 + (0 + (k : Int))) = ((a + 1 + k : Nat) : Int) := by omega
    have p5 : ∀ n : Nat, bI [.lst fz (ns.map .int), .int n, .int 5] = .ok (.int (bF ns n 5)) := fun n => bz (by decide)
    have m7 : ∀ i j : Int, bw (.int i) (.int j) = some (.int (i + j)) := fun _ _ => rfl
    have m8 : bw (.str x) (.str [sgn ns (a + 1 + k)]) = some (.str (x ++ [sgn ns (a + 1 + k)])) := if_pos hx
    have hB : xK [some (.val (.lst fz (ns.map .int))), some (.val (.int a)), W, some (.val (.str x)), some (.val (.int (0 + (k : Nat)))), none] = .nx [some (.val (.lst fz (ns.map .int))), some (.val (.int a)), W, some (.val (.str (x ++ [sgn ns (a + 1 + k)]))), some (.val (.int (0 + (k : Nat)))), none] := by
      simp only [xK, aM, cP, g2, nK, rd0, rd1, rd3, rd4, R.ok_bind, m7, c1, p5, BA, m8, bv, R.ok_out, O.seq, oNx]
      rfl
    rw [List.map_cons, ci]
    show (match xK [some (.val (.lst fz (ns.map .int))), some (.val (.int a)), W, some (.val (.str x)), some (.val (.int (0 + (k : Nat)))), none] with
      | .nx ρ2 => ci (gH 4) xK _ ρ2
      | .ct ρ2 => ci (gH 4) xK _ ρ2
      | .bk ρ2 => O.nx ρ2
      | .rt d => O.rt d
      | .ex C ρ2 => O.ex C ρ2
      | .no => O.no) = _
    rw [hB]
    simp only [List.map_cons]
    rw [ih, List.append_assoc]
    rfl
def oN (ns : List Int) (a wd : Nat) : List Nat :=
  if bF ns (a + 20) 2 = 0 then (List.range wd).map fun k => sgn ns (a + 1 + k) else ((List.range wd).map fun k => sgn ns (a + 1 + k)).take (bF ns a (wd + 1)).toNat ++ List.replicate (wd - (bF ns a (wd + 1)).toNat) 32
theorem kK (ns : List Int) (a wd : Nat) : (oN ns a wd).length = wd := by
  have h := bf ns a (m := (wd : Int) + 1) (by omega)
  unfold oN
  split
  . simp
  . simp; omega
theorem sL (ns : List Int) (a wd : Nat) : plain (oN ns a wd) = true := by
  have hm : ∀ c ∈ (List.range wd).map (fun k => sgn ns (a + 1 + k)), 32 <= c /\ c <= 126 := by
    intro c hc
    obtain ⟨k, _, rfl⟩ := List.mem_map.1 hc
    exact uW ns _
  unfold plain
  rw [List.all_eq_true]
  intro c hc
  have : 32 <= c /\ c <= 126 := by
    unfold oN at hc
    split at hc
    . exact hm c hc
    . rcases List.mem_append.1 hc with q | q
      . exact hm c (List.mem_of_mem_take q)
      . have := (List.mem_replicate.1 q).2; omega
  simp [this.1, this.2]
def vP : List D -> R D
  | [.lst _ ds, .int a, .int wd] => match eX ds with
    | some ns => if 0 <= a /\ 0 <= wd /\ wd <= 100 then .ok (.str (oN ns a.toNat wd.toNat)) else .no
    | none => .no
  | _ => .no
theorem tU {wd : Nat} (h : wd <= 100) : bE [.int (wd : Int)] = .ok ((List.range wd).map fun i => D.int (0 + (i : Nat))) := by
  have e : bE [.int (wd : Int)] = if -(2 ^ 62) <= (wd : Int) /\ (wd : Int) < 2 ^ 62 then .ok ((List.range (wd : Int).toNat).map fun i => D.int (0 + (i : Nat))) else .no := by simp only [bE]
  rw [e, if_pos (by constructor <;> omega), Int.toNat_natCast]
theorem C5 {fz : Bool} {ns : List Int} {a : Nat} : bI [.lst fz (ns.map .int), .int ((a + 20 : Nat) : Int), .int 2] = .ok (.int (bF ns (a + 20) 2)) := bz (by decide)
def D4 (pk : List D -> R D) : Ev -> O := aM (cP 5 (aR 3 pk (ac (fun ρ => rdV ρ 0) (ac (fun ρ => rdV ρ 1) (ac (g2 bw (fun ρ => rdV ρ 2) fun x => R.ok (D.int 1)) fun x => R.ok [])))))
  (aM (bO (gIf (gB2 eqF (aR 3 pk (ac (fun ρ => rdV ρ 0) (ac (g2 bw (fun ρ => rdV ρ 1) fun x => R.ok (D.int 20)) (ac (fun x => R.ok (D.int 2)) fun x => R.ok [])))) fun x => R.ok (D.int 0)) (fun ρ => rdV ρ 3)
    (g2 bw (gSl (fun ρ => rdV ρ 3) (fun x => R.ok none) (da fun ρ => rdV ρ 5)) (g2 gn (fun x => R.ok (D.str [32])) (g2 oO (fun ρ => rdV ρ 2) fun ρ => rdV ρ 5))))) oNx)
theorem vz {n : Nat} (h : n <= 100) : gn (.str [32]) (.int (n : Int)) = some (.str (List.replicate n 32)) := by
  have hz : (100 : Nat) <= sizeLine := by decide
  have e : [32] = [32] := rfl
  rw [e, <- zU n 32]
  simp only [gn]
  rw [if_pos (by refine ⟨by omega, by omega, ?_⟩; simp; omega), Int.toNat_natCast]
theorem yM (pk : List D -> R D) (S : D) (a wd l : Nat) (z : Int) (x : List Nat) (kk : Option Sl) (h1 : pk [S, .int a, .int ((wd : Int) + 1)] = .ok (.int (l : Int))) (h2 : pk [S, .int ((a : Int) + 20), .int 2] = .ok (.int z)) (hx : x.length = wd) (hw : wd <= 100) (hl : l <= wd) :
    D4 pk [some (.val S), some (.val (.int a)), some (.val (.int wd)), some (.val (.str x)), kk, none] = .rt (.str (if z = 0 then x else x.take l ++ List.replicate (wd - l) 32)) := by
  have c1 : (wd : Int) - (l : Int) = ((wd - l : Nat) : Int) := by omega
  have m1 : gn (.str [32]) (.int ((wd - l : Nat) : Int)) = some (.str (List.replicate (wd - l) 32)) := vz (by omega)
  have m2 : bw (.str (x.take l)) (.str (List.replicate (wd - l) 32)) = some (.str (x.take l ++ List.replicate (wd - l) 32)) := lj (by have := bc; simp; omega)
  have m3 := jl x l
  unfold D4
  clear hx hw hl
  walk_at "run"
  by_cases hz : z = 0
  . simp only [hz, if_true, beq_self_eq_true, R.ok_out, DD]
  . have : (z == 0) = false := by simp [hz]
    simp only [hz, this, if_false, Bool.false_eq_true, R.ok_out, DD]
noncomputable def lF (ag : List D -> R D) : Ev -> O := (cP 3 (fun _ => R.ok (D.str [])))
noncomputable def rE (ag : List D -> R D) : Ev -> O := (aM (cP 3 (g2 bw (fun ρ => rdV ρ 3) (g2 ixD (fun _ => R.ok (D.str [32, 32, 97, 98, 35])) (aR 3 ag (ac (fun ρ => rdV ρ 0) (ac (g2 bw (g2 bw (fun ρ => rdV ρ 1) (fun _ => R.ok (D.int 1))) (fun ρ => rdV ρ 4)) (ac (fun _ => R.ok (D.int 5)) (fun _ => R.ok [])))))))) oNx)
noncomputable def lM (ag : List D -> R D) : Ev -> O := (oM (gH 4) (aI bE (ac (fun ρ => rdV ρ 2) (fun _ => R.ok []))) (rE ag))
noncomputable def lB (ag : List D -> R D) : Ev -> O := (cP 5 (aR 3 ag (ac (fun ρ => rdV ρ 0) (ac (fun ρ => rdV ρ 1) (ac (g2 bw (fun ρ => rdV ρ 2) (fun _ => R.ok (D.int 1))) (fun _ => R.ok []))))))
noncomputable def lz (ag : List D -> R D) : Ev -> O := (bO (gIf (gB2 eqF (aR 3 ag (ac (fun ρ => rdV ρ 0) (ac (g2 bw (fun ρ => rdV ρ 1) (fun _ => R.ok (D.int 20))) (ac (fun _ => R.ok (D.int 2)) (fun _ => R.ok []))))) (fun _ => R.ok (D.int 0))) (fun ρ => rdV ρ 3) (g2 bw (gSl (fun ρ => rdV ρ 3) (fun _ => R.ok none) (da (fun ρ => rdV ρ 5))) (g2 gn (fun _ => R.ok (D.str [32])) (g2 oO (fun ρ => rdV ρ 2) (fun ρ => rdV ρ 5))))))
noncomputable def eY (ag : List D -> R D) : Ev -> O := (aM (lF ag) (aM (lM ag) (aM (lB ag) (aM (lz ag) oNx))))
theorem su : ∀ ds : List D, ds.length = 3 -> vP ds = .no \/ aK (eY bI (aN 6 ds)) = vP ds := by
  intro ds hl
  unfold eY lF lM lB lz
  match ds, hl with
  | [l, ad, wd], _ =>
    cases l <;> first | exact Or.inl rfl | skip
    cases ad <;> first | exact Or.inl rfl | skip
    cases wd <;> first | exact Or.inl rfl | skip
    rename_i fz ds a wd hl
    cases hi : eX ds with
    | none => refine Or.inl ?_; simp only [vP, hi]
    | some ns =>
      have e := eU hi
      subst e
      by_cases hk : 0 <= a /\ 0 <= wd /\ wd <= 100
      . refine Or.inr ?_
        have e2 : vP [.lst fz (ns.map .int), .int a, .int wd] = .ok (.str (oN ns a.toNat wd.toNat)) := by simp only [vP, hi, hk, and_self, if_true]
        rw [e2]
        obtain ⟨ha, hw, hw2⟩ := hk
        obtain ⟨a, rfl⟩ := Int.eq_ofNat_of_zero_le ha
        obtain ⟨wd, rfl⟩ := Int.eq_ofNat_of_zero_le hw
        rw [Int.toNat_natCast, Int.toNat_natCast]
        have hw3 : wd <= 100 := by omega
        show aK (aM (cP 3 (fun _ => R.ok (D.str []))) (aM (oM (gH 4) (aI bE (ac (fun ρ => rdV ρ 2) fun _ => R.ok [])) xK) (D4 bI)) [some (.val (.lst fz (ns.map .int))), some (.val (.int a)), some (.val (.int wd)), none, none, none]) = _
        obtain ⟨kk', hL⟩ := qo ns fz a (some (.val (.int wd))) (List.range wd) [] none (by have := bc; simp; omega)
        have s2 : oM (gH 4) (aI bE (ac (fun ρ => rdV ρ 2) fun _ => R.ok [])) xK [some (.val (.lst fz (ns.map .int))), some (.val (.int a)), some (.val (.int wd)), some (.val (.str [])), none, none] = .nx [some (.val (.lst fz (ns.map .int))), some (.val (.int a)), some (.val (.int wd)), some (.val (.str ([] ++ (List.range wd).map fun k => sgn ns (a + 1 + k)))), kk', none] := by
          rw [Cz, yh, ua, rd2, R.ok_bind, R.ok_bind, R.ok_bind, tU hw3, R.ok_out]
          exact hL
        have hp := bf ns a (m := (wd : Int) + 1) (by omega)
        have s3 := yM bI (.lst fz (ns.map .int)) a wd (bF ns a ((wd : Int) + 1)).toNat (bF ns (a + 20) 2) ([] ++ (List.range wd).map fun k => sgn ns (a + 1 + k)) kk'
          (by rw [Int.toNat_of_nonneg hp.1]; exact bz (by omega)) (by exact C5) (by simp) hw3 (by omega)
        rw [kA, wA, R.ok_out, wG, kA]
        show aK ((oM (gH 4) _ xK [some (.val (.lst fz (ns.map .int))), some (.val (.int a)), some (.val (.int wd)), some (.val (.str [])), none, none]).seq _) = _
        rw [s2, wG, s3, Eo]
        unfold oN
        rw [List.nil_append]
      . refine Or.inl ?_; simp only [vP, hi, hk, if_false]
theorem xN {fz : Bool} {ns : List Int} {a wd : Nat} (h : wd <= 100) : vP [.lst fz (ns.map .int), .int (a : Int), .int (wd : Int)] = .ok (.str (oN ns a wd)) := by
  have h2 : (wd : Int) <= 100 := by omega
  simp only [vP, dE, Int.natCast_nonneg, h2, and_self, if_true, Int.toNat_natCast]
def sF (ns : List Int) (a wd m : Nat) : List D := (List.range m).map fun k => .str (oN ns (a + 30 * k) wd)
def AQ (ns : List Int) (a wd m : Nat) : D := .tup [.int wd, .tup (sF ns a wd m), .tup [.int (bF ns (a + 400) m), .int (bF ns (a + 401) (wd + 1))]]
def hU : List D -> R D
  | [.lst _ ds, .int a, .int wd, .int m] => match eX ds with
    | some ns => if (0 <= a /\ 0 <= wd /\ wd <= 100) /\ 0 < m /\ m <= 100 then .ok (AQ ns a.toNat wd.toNat m.toNat) else .no
    | none => .no
  | _ => .no
noncomputable def gP (ce ag : List D -> R D) : Ev -> O := (cP 4 (gOf ot (ac (bx (eM (aI bE (ac (fun ρ => rdV ρ 3) (fun _ => R.ok []))) [0, 1, 2] (fun _ => R.ok true) (aR 3 ce (ac (fun ρ => rdV ρ 1) (ac (g2 bw (fun ρ => rdV ρ 2) (g2 gn (fun _ => R.ok (D.int 30)) (fun ρ => rdV ρ 0))) (ac (fun ρ => rdV ρ 3) (fun _ => R.ok []))))))) (fun _ => R.ok []))))
noncomputable def gQ (ce ag : List D -> R D) : Ev -> O := (bO (aI mkT (ac (fun ρ => rdV ρ 2) (ac (fun ρ => rdV ρ 4) (ac (aI mkT (ac (aR 3 ag (ac (fun ρ => rdV ρ 0) (ac (g2 bw (fun ρ => rdV ρ 1) (fun _ => R.ok (D.int 400))) (ac (fun ρ => rdV ρ 3) (fun _ => R.ok []))))) (ac (aR 3 ag (ac (fun ρ => rdV ρ 0) (ac (g2 bw (fun ρ => rdV ρ 1) (fun _ => R.ok (D.int 401))) (ac (g2 bw (fun ρ => rdV ρ 2) (fun _ => R.ok (D.int 1))) (fun _ => R.ok []))))) (fun _ => R.ok [])))) (fun _ => R.ok []))))))
noncomputable def cX (ce ag : List D -> R D) : Ev -> O := (aM (gP ce ag) (aM (gQ ce ag) oNx))
theorem nq : ∀ ds : List D, ds.length = 4 -> hU ds = .no \/ aK (cX vP bI (aN 5 ds)) = hU ds := by
  intro ds hl
  unfold cX gP gQ
  match ds, hl with
  | [l, ad, wd, md], _ =>
    cases l <;> first | exact Or.inl rfl | skip
    cases ad <;> first | exact Or.inl rfl | skip
    cases wd <;> first | exact Or.inl rfl | skip
    cases md <;> first | exact Or.inl rfl | skip
    rename_i fz ds a wd m hl
    cases hi : eX ds with
    | none => refine Or.inl ?_; simp only [hU, hi]
    | some ns =>
      have e := eU hi
      subst e
      by_cases hk : (0 <= a /\ 0 <= wd /\ wd <= 100) /\ 0 < m /\ m <= 100
      . refine Or.inr ?_
        have e2 : hU [.lst fz (ns.map .int), .int a, .int wd, .int m] = .ok (AQ ns a.toNat wd.toNat m.toNat) := by simp only [hU, hi, hk, and_self, if_true]
        rw [e2]
        obtain ⟨⟨ha, hw, hw2⟩, hm, hm2⟩ := hk
        obtain ⟨a, rfl⟩ := Int.eq_ofNat_of_zero_le ha
        obtain ⟨wd, rfl⟩ := Int.eq_ofNat_of_zero_le hw
        obtain ⟨m, rfl⟩ := Int.eq_ofNat_of_zero_le (Int.le_of_lt hm)
        rw [Int.toNat_natCast, Int.toNat_natCast, Int.toNat_natCast]
        have hw3 : wd <= 100 := by omega
        have hm3 : m <= 100 := by omega
        have e : fv (fun _ => R.ok true) (aR 3 vP (ac (fun ρ => rdV ρ 1) (ac (g2 bw (fun ρ => rdV ρ 2) (g2 gn (fun _ => R.ok (D.int 30)) fun ρ => rdV ρ 0)) (ac (fun ρ => rdV ρ 3) fun _ => R.ok []))))
            ((List.range m).map fun (i : Nat) => D.int (i : Int)) [none, some (.val (.lst fz (ns.map .int))), some (.val (.int a)), some (.val (.int wd))] = .ok (((List.range m).map fun (i : Nat) => D.int (i : Int)).map fun d => match d with | .int k => .str (oN ns (a + 30 * k.toNat) wd) | d => d) := by
          refine dH _ _ _ none fun d hd => ⟨rfl, ?_⟩
          obtain ⟨k, _, rfl⟩ := List.mem_map.1 hd
          have m1 : gn (.int 30) (.int (k : Int)) = some (.int ((30 * k : Nat) : Int)) := by rw [Bq (by decide)]; congr 2
          have m2 : (a : Int) + ((30 * k : Nat) : Int) = ((a + 30 * k : Nat) : Int) := by omega
          have m3 := xN (fz := fz) (ns := ns) (a := a + 30 * k) hw3
          walk_at "run"
          simp only [Int.toNat_natCast]
        show aK (aM _ _ [some (.val (.lst fz (ns.map .int))), some (.val (.int a)), some (.val (.int wd)), some (.val (.int m)), none]) = _
        have i1 : ib [0, 1, 2] [some (.val (.lst fz (ns.map .int))), some (.val (.int a)), some (.val (.int wd)), some (.val (.int m)), none] = [none, some (.val (.lst fz (ns.map .int))), some (.val (.int a)), some (.val (.int wd))] := rfl
        have r1 : bE [.int (m : Int)] = .ok ((List.range m).map fun (i : Nat) => D.int (i : Int)) := gS (by omega)
        have z1 : (((List.range m).map fun (i : Nat) => D.int (i : Int)).map fun d => match d with | .int k => .str (oN ns (a + 30 * k.toNat) wd) | d => d) = sF ns a wd m := by
          rw [List.map_map]; unfold sF; refine List.map_congr_left fun k _ => ?_; simp
        have z2 : (sF ns a wd m).length <= sizeLine := by have := bc; unfold sF; simp; omega
        have p1 : bI [.lst fz (ns.map .int), .int ((a : Int) + 400), .int (m : Int)] = .ok (.int (bF ns (a + 400) m)) := by have := bz (fz := fz) (ns := ns) (n := a + 400) (m := m) (by omega); exact this
        have p2 : bI [.lst fz (ns.map .int), .int ((a : Int) + 401), .int ((wd : Int) + 1)] = .ok (.int (bF ns (a + 401) (wd + 1))) := by have := bz (fz := fz) (ns := ns) (n := a + 401) (m := (wd : Int) + 1) (by omega); exact this
        have k1 : ∀ x : List D, ot [.lst false x] = some (.tup x) := fun _ => rfl
        have k2 : ∀ x y : D, mkT [x, y] = .ok (.tup [x, y]) := fun _ _ => m_t (by simp)
        have k3 : ∀ x y z : D, mkT [x, y, z] = .ok (.tup [x, y, z]) := fun _ _ _ => m_t (by simp)
        rw [z1] at e
        clear hi hl e2 hw hw2 hm hm2 hw3 hm3 z1
        walk_at "run"
        rfl
      . refine Or.inl ?_; simp only [hU, hi, hk, if_false]
def cl : Nat -> D -> Bool
  | 0, _ => false
  | _ + 1, .exc _ => false
  | n + 1, .tup xs => xs.all (cl n)
  | n + 1, .lst _ xs => xs.all (cl n)
  | _ + 1, _ => true
theorem mi {f : D -> D -> Option Bool} : ∀ xs : List D, (∀ x ∈ xs, f x x = some true) -> eqZ f xs xs = some (xs.map fun _ => true)
  | [], _ => rfl
  | x :: xs, h => by
    rw [eqZ, h x (List.mem_cons_self ..), mi xs fun y hy => h y (List.mem_cons_of_mem _ hy)]; rfl
theorem mj {α : Type} : ∀ xs : List α, (xs.map fun _ => true).all id = true
  | [] => rfl
  | _ :: xs => by rw [List.map_cons, List.all_cons, mj xs]; rfl
theorem mD : ∀ (n m : Nat) (d : D), n <= m -> cl n d = true -> eqD m d d = some true
  | 0, _, _, _, h => by simp [cl] at h
  | n + 1, 0, _, h, _ => by omega
  | n + 1, m + 1, d, hm, h => by
    cases d <;> first | (simp [cl] at h; done) | (simp [eqD]; done) | skip
    . rename_i xs
      simp only [cl, List.all_eq_true] at h
      have := mi (f := eqD m) xs fun x hx => mD n m x (by omega) (h x hx)
      simp only [eqD, this, Option.map_some, mj, beq_self_eq_true, Bool.and_true]
    . rename_i fz xs
      simp only [cl, List.all_eq_true] at h
      have := mi (f := eqD m) xs fun x hx => mD n m x (by omega) (h x hx)
      simp only [eqD, if_true, this, Option.map_some, mj]
theorem jw {d : D} (h : cl 10 d = true) : neF d d = some (.bl false) := by
  unfold neF; rw [mD 10 40 d (by omega) h]; rfl
end Q
namespace Q
open L2
open PySem (sizeLine Addr)
noncomputable def gZ (aB : List D -> R D) : Ev -> O := (rP 1 (iW (ac (aI mkT (fun _ => R.ok [])) (fun _ => R.ok []))))
noncomputable def cM (aB : List D -> R D) : Ev -> O := (aM (zS 1 (bx (eM (aI bH (aR 1 aB (ac (g2 ixD (fun ρ => rdV ρ 0) (fun ρ => rdV ρ 2)) (fun _ => R.ok [])))) [2] (fun _ => R.ok true) (g2 bw (aI mkT (ac (fun ρ => rdV ρ 1) (fun _ => R.ok []))) (fun ρ => rdV ρ 0))))) oNx)
noncomputable def hG (aB : List D -> R D) : Ev -> O := (oIf (aI fw (aI (dh (· == "tuple")) (fun ρ => rdV ρ 0))) (aM (oM (gH 2) (aI bE (ac (gOf dw (ac (fun ρ => rdV ρ 0) (fun _ => R.ok []))) (fun _ => R.ok []))) (cM aB)) oNx) oNx)
noncomputable def hZ (aB : List D -> R D) : Ev -> O := (bO (fun ρ => rdV ρ 1))
noncomputable def cV (aB : List D -> R D) : Ev -> O := (aM (gZ aB) (aM (hG aB) (vQ 1 (aM (hZ aB) oNx))))
noncomputable def lC (aF : List D -> R D) : Ev -> O := (oIf (gB2 eqF (fun ρ => rdV ρ 1) (aI mkT (fun _ => R.ok []))) (aM (bO (fun ρ => rdV ρ 2)) oNx) oNx)
noncomputable def lx (aF : List D -> R D) : Ev -> O := (cP 3 (g2 ixD (fun ρ => rdV ρ 1) (fun _ => R.ok (D.int 0))))
noncomputable def lu (aF : List D -> R D) : Ev -> O := (bO (g2 bw (g2 bw (gSl (fun ρ => rdV ρ 0) (fun _ => R.ok none) (da (fun ρ => rdV ρ 3))) (aI mkT (ac (aR 3 aF (ac (g2 ixD (fun ρ => rdV ρ 0) (fun ρ => rdV ρ 3)) (ac (gSl (fun ρ => rdV ρ 1) (da (fun _ => R.ok (D.int 1))) (fun _ => R.ok none)) (ac (fun ρ => rdV ρ 2) (fun _ => R.ok []))))) (fun _ => R.ok [])))) (gSl (fun ρ => rdV ρ 0) (da (g2 bw (fun ρ => rdV ρ 3) (fun _ => R.ok (D.int 1)))) (fun _ => R.ok none))))
noncomputable def eW (aF : List D -> R D) : Ev -> O := (aM (lC aF) (aM (lx aF) (aM (lu aF) oNx)))
noncomputable def cA (aB ag aF : List D -> R D) : Ev -> O := (cP 3 (aR 1 aB (ac (fun ρ => rdV ρ 2) (fun _ => R.ok []))))
noncomputable def cu (aB ag aF : List D -> R D) : Ev -> O := (cP 4 (g2 ixD (fun ρ => rdV ρ 3) (aR 3 ag (ac (fun ρ => rdV ρ 0) (ac (fun ρ => rdV ρ 1) (ac (gOf dw (ac (fun ρ => rdV ρ 3) (fun _ => R.ok []))) (fun _ => R.ok [])))))))
noncomputable def cw (aB ag aF : List D -> R D) : Ev -> O := (cP 5 (fun ρ => rdV ρ 2))
noncomputable def bR (aB ag aF : List D -> R D) : Ev -> O := (aM (cP 5 (g2 ixD (fun ρ => rdV ρ 5) (fun ρ => rdV ρ 6))) oNx)
noncomputable def cC (aB ag aF : List D -> R D) : Ev -> O := (oM (gH 6) (aI bH (fun ρ => rdV ρ 4)) (bR aB ag aF))
noncomputable def cB (aB ag aF : List D -> R D) : Ev -> O := (cP 7 (bx (iW (ac (fun _ => R.ok (D.int 0)) (ac (fun _ => R.ok (D.int 1)) (ac (fun _ => R.ok (D.int 2)) (ac (fun _ => R.ok (D.int 11)) (ac (fun _ => R.ok (D.int 12)) (ac (fun _ => R.ok (D.int 40)) (ac (fun _ => R.ok (D.int 41)) (ac (aI yw (fun _ => R.ok (D.int 1))) (ac (fun _ => R.ok (D.bl true)) (ac (fun _ => R.ok D.non) (ac (fun _ => R.ok (D.str [97])) (ac (fun _ => R.ok (D.str [])) (ac (aI mkT (ac (fun _ => R.ok (D.str [103, 111])) (ac (fun _ => R.ok (D.int 0)) (ac (fun _ => R.ok (D.int 0)) (fun _ => R.ok []))))) (ac (aI mkT (ac (fun _ => R.ok (D.int 0)) (ac (fun _ => R.ok (D.int 0)) (fun _ => R.ok [])))) (ac (bx (iW (ac (fun _ => R.ok (D.int 0)) (fun _ => R.ok [])))) (ac (aI mkT (ac (fun ρ => rdV ρ 5) (fun _ => R.ok []))) (ac (aI mkT (ac (fun ρ => rdV ρ 5) (ac (fun ρ => rdV ρ 5) (fun _ => R.ok [])))) (fun _ => R.ok [])))))))))))))))))))))
noncomputable def cz (aB ag aF : List D -> R D) : Ev -> O := (cP 8 (aR 3 ag (ac (fun ρ => rdV ρ 0) (ac (g2 bw (fun ρ => rdV ρ 1) (fun _ => R.ok (D.int 1))) (ac (fun _ => R.ok (D.int 23)) (fun _ => R.ok []))))))
noncomputable def dD (aB ag aF : List D -> R D) : Ev -> O := (oIf (gB2 ltD (fun ρ => rdV ρ 8) (fun _ => R.ok (D.int 17))) (aM (bO (aR 3 aF (ac (fun ρ => rdV ρ 2) (ac (fun ρ => rdV ρ 4) (ac (g2 ixD (fun ρ => rdV ρ 7) (fun ρ => rdV ρ 8)) (fun _ => R.ok [])))))) oNx) oNx)
noncomputable def dG (aB ag aF : List D -> R D) : Ev -> O := (oIf (pS (aI fw (aI (dh (· == "tuple")) (fun ρ => rdV ρ 5))) (gB2 neF (fun ρ => rdV ρ 5) (aI mkT (fun _ => R.ok [])))) (aM (cP 6 (aR 3 ag (ac (fun ρ => rdV ρ 0) (ac (g2 bw (fun ρ => rdV ρ 1) (fun _ => R.ok (D.int 2))) (ac (gOf dw (ac (fun ρ => rdV ρ 5) (fun _ => R.ok []))) (fun _ => R.ok [])))))) (aM (bO (aR 3 aF (ac (fun ρ => rdV ρ 2) (ac (fun ρ => rdV ρ 4) (ac (gIf (gB2 ltD (fun ρ => rdV ρ 8) (fun _ => R.ok (D.int 20))) (g2 bw (gSl (fun ρ => rdV ρ 5) (fun _ => R.ok none) (da (fun ρ => rdV ρ 6))) (gSl (fun ρ => rdV ρ 5) (da (g2 bw (fun ρ => rdV ρ 6) (fun _ => R.ok (D.int 1)))) (fun _ => R.ok none))) (g2 bw (gSl (fun ρ => rdV ρ 5) (fun _ => R.ok none) (da (g2 bw (fun ρ => rdV ρ 6) (fun _ => R.ok (D.int 1))))) (gSl (fun ρ => rdV ρ 5) (da (fun ρ => rdV ρ 6)) (fun _ => R.ok none)))) (fun _ => R.ok [])))))) oNx)) oNx)
noncomputable def dg (aB ag aF : List D -> R D) : Ev -> O := (oIf (aI fw (aI (dh (· == "str")) (fun ρ => rdV ρ 5))) (aM (cP 9 (aR 3 ag (ac (fun ρ => rdV ρ 0) (ac (g2 bw (fun ρ => rdV ρ 1) (fun _ => R.ok (D.int 2))) (ac (g2 bw (gOf dw (ac (fun ρ => rdV ρ 5) (fun _ => R.ok []))) (fun _ => R.ok (D.int 1))) (fun _ => R.ok [])))))) (aM (cP 10 (g2 ixD (bx (iW (ac (fun _ => R.ok (D.str [10])) (ac (fun _ => R.ok (D.str [])) (ac (fun _ => R.ok (D.str [97])) (ac (fun _ => R.ok (D.str [9])) (fun _ => R.ok []))))))) (gIf (gB2 gtD (fun ρ => rdV ρ 8) (fun _ => R.ok (D.int 19))) (g2 oO (fun ρ => rdV ρ 8) (fun _ => R.ok (D.int 19))) (fun _ => R.ok (D.int 0))))) (aM (bO (aR 3 aF (ac (fun ρ => rdV ρ 2) (ac (fun ρ => rdV ρ 4) (ac (g2 bw (g2 bw (gSl (fun ρ => rdV ρ 5) (fun _ => R.ok none) (da (fun ρ => rdV ρ 9))) (fun ρ => rdV ρ 10)) (gSl (fun ρ => rdV ρ 5) (da (g2 bw (fun ρ => rdV ρ 9) (fun _ => R.ok (D.int 1)))) (fun _ => R.ok none))) (fun _ => R.ok [])))))) oNx))) oNx)
noncomputable def dc (aB ag aF : List D -> R D) : Ev -> O := (bO (aR 3 aF (ac (fun ρ => rdV ρ 2) (ac (fun ρ => rdV ρ 4) (ac (gIf (aI fw (aI (dh isInt) (fun ρ => rdV ρ 5))) (g2 bw (fun ρ => rdV ρ 5) (fun _ => R.ok (D.int 1))) (fun _ => R.ok (D.int 7))) (fun _ => R.ok []))))))
noncomputable def bN (aB ag aF : List D -> R D) : Ev -> O := (aM (cA aB ag aF) (aM (cu aB ag aF) (aM (cw aB ag aF) (aM (cC aB ag aF) (aM (cB aB ag aF) (aM (cz aB ag aF) (aM (dD aB ag aF) (aM (dG aB ag aF) (aM (dg aB ag aF) (aM (dc aB ag aF) oNx))))))))))
noncomputable def iJ : Ev -> O := (bO (iK (aI (dh isInt) (fun ρ => rdV ρ 0)) (iK (AR (aI (dh (· == "bool")) (fun ρ => rdV ρ 0))) (g3 leD leD (fun ρ => rdV ρ 1) (fun ρ => rdV ρ 0) (fun ρ => rdV ρ 2)))))
noncomputable def dk : Ev -> O := (aM iJ oNx)
noncomputable def fx : Ev -> O := (bO (iK (aI (dh (· == "str")) (fun ρ => rdV ρ 0)) (g2 eqF (bx (eM (aI bH (fun ρ => rdV ρ 0)) [] (gBn (gB3 leD leD (fun _ => R.ok (D.int 32)) (gOf AN (ac (fun ρ => rdV ρ 0) (fun _ => R.ok []))) (fun _ => R.ok (D.int 126)))) (fun ρ => rdV ρ 0))) (bx (iW (fun _ => R.ok []))))))
noncomputable def cn : Ev -> O := (aM fx oNx)
noncomputable def fo (aX aS : List D -> R D) : Ev -> O := (oIf (ig (gBn (aI fw (aI (dh (· == "tuple")) (fun ρ => rdV ρ 0)))) (ig (gB2 neF (gOf dw (ac (fun ρ => rdV ρ 0) (fun _ => R.ok []))) (fun _ => R.ok (D.int 3))) (gBn (aI fw (aR 3 aX (ac (g2 ixD (fun ρ => rdV ρ 0) (fun _ => R.ok (D.int 0))) (ac (fun _ => R.ok (D.int 1)) (ac (fun _ => R.ok (D.int 40)) (fun _ => R.ok []))))))))) (aM (bO (fun _ => R.ok (D.bl false))) oNx) oNx)
noncomputable def fm (aX aS : List D -> R D) : Ev -> O := (AL (yo [1, 2, 3]) (fun ρ => rdV ρ 0))
noncomputable def fe (aX aS : List D -> R D) : Ev -> O := (oIf (ig (gBn (aI fw (aI (dh (· == "tuple")) (fun ρ => rdV ρ 2)))) (gBn (gB3 leD leD (fun _ => R.ok (D.int 1)) (gOf dw (ac (fun ρ => rdV ρ 2) (fun _ => R.ok []))) (fun _ => R.ok (D.int 12))))) (aM (bO (fun _ => R.ok (D.bl false))) oNx) oNx)
noncomputable def fi (aX aS : List D -> R D) : Ev -> O := (oIf (gB2 neF (bx (eM (aI bH (fun ρ => rdV ρ 2)) [1] (ig (gBn (aI fw (aR 1 aS (ac (fun ρ => rdV ρ 0) (fun _ => R.ok []))))) (gB2 neF (gOf dw (ac (fun ρ => rdV ρ 0) (fun _ => R.ok []))) (fun ρ => rdV ρ 1))) (fun ρ => rdV ρ 0))) (bx (iW (fun _ => R.ok [])))) (aM (bO (fun _ => R.ok (D.bl false))) oNx) oNx)
noncomputable def fc (aX aS : List D -> R D) : Ev -> O := (oIf (ig (gBn (aI fw (aI (dh (· == "tuple")) (fun ρ => rdV ρ 3)))) (gB2 neF (gOf dw (ac (fun ρ => rdV ρ 3) (fun _ => R.ok []))) (fun _ => R.ok (D.int 2)))) (aM (bO (fun _ => R.ok (D.bl false))) oNx) oNx)
noncomputable def fh (aX aS : List D -> R D) : Ev -> O := (bO (iK (aR 3 aX (ac (g2 ixD (fun ρ => rdV ρ 3) (fun _ => R.ok (D.int 0))) (ac (fun _ => R.ok (D.int 0)) (ac (g2 oO (gOf dw (ac (fun ρ => rdV ρ 2) (fun _ => R.ok []))) (fun _ => R.ok (D.int 1))) (fun _ => R.ok []))))) (aR 3 aX (ac (g2 ixD (fun ρ => rdV ρ 3) (fun _ => R.ok (D.int 1))) (ac (fun _ => R.ok (D.int 0)) (ac (fun ρ => rdV ρ 1) (fun _ => R.ok [])))))))
noncomputable def bX (aX aS : List D -> R D) : Ev -> O := (aM (fo aX aS) (aM (fm aX aS) (aM (fe aX aS) (aM (fi aX aS) (aM (fc aX aS) (aM (fh aX aS) oNx))))))
theorem nR : ∀ ds : List D, ds.length = 3 -> uE ds = .no \/ aK (dk (aN 3 ds)) = uE ds := by
  intro ds hl
  unfold dk iJ
  match ds, hl with
  | [d, l, h], _ =>
    cases d <;> first | exact Or.inl rfl | skip
    all_goals (cases l <;> first | exact Or.inl rfl | skip)
    all_goals (cases h <;> first | exact Or.inl rfl | skip)
    all_goals first | exact Or.inr rfl | skip
    rename_i i lo hi hl
    refine Or.inr ?_
    show aK (aM _ oNx [some (.val (.int i)), some (.val (.int lo)), some (.val (.int hi))]) = R.ok (D.bl (inB (.int i) lo hi))
    by_cases h1 : lo <= i <;> simp [aM, bO, iK, AR, aI, g3, rd0, rd1, rd2, dh, tyN, L2.isInt, asB, leD, inB, aK, O.seq, h1]
theorem jI : ∀ ds : List D, ds.length = 1 -> iq ds = .no \/ aK (cn (aN 1 ds)) = iq ds := by
  intro ds hl
  unfold cn fx
  match ds, hl with
  | [d], _ =>
    cases d <;> first | exact Or.inl rfl | exact Or.inr rfl | skip
    rename_i x hl
    by_cases hx : x.length <= sizeLine
    . refine Or.inr ?_
      have e : fv (gBn (gB3 leD leD (fun _ => R.ok (.int 32)) (gOf AN (ac (fun ρ => rdV ρ 0) fun _ => .ok [])) (fun _ => R.ok (.int 126)))) (fun ρ => rdV ρ 0) (x.map fun c => D.str [c]) [none] = .ok (((x.map fun c => D.str [c]).filter yW).map id) := by
        refine gX yW id [] _ none fun d m => ?_
        obtain ⟨c, _, rfl⟩ := List.mem_map.1 m
        refine ⟨?_, fun _ => rfl⟩
        have o1 : AN [.str [c]] = some (.int (c : Nat)) := rfl
        simp only [gBn, gB3, g3, gOf, ac, rd0, R.ok_bind, o1, bv, leD, yW]
        by_cases h1 : 32 <= c
        . have h1' : (32 : Int) <= (c : Int) := by omega
          by_cases h2 : c <= 126
          . have h2' : (c : Int) <= 126 := by omega
            simp [h1, h1', h2, h2', asB]
          . have h2' : ¬ (c : Int) <= 126 := by omega
            simp [h1, h1', h2, h2', asB]
        . have h1' : ¬ (32 : Int) <= (c : Int) := by omega
          simp [h1, h1', asB]
      have e2 : iq [.str x] = .ok (.bl (plain x)) := if_pos hx
      rw [e2]
      have hz : ((x.map fun c => D.str [c]).filter yW).length <= sizeLine := Nat.le_trans (List.length_filter_le _ _) (by rw [List.length_map]; exact hx)
      show aK (aM _ oNx [some (.val (.str x))]) = _
      simp only [aM, bO, iK, aI, g2, bx, iW, eM, rd0, dh, tyN, asB, ib, bH, R.ok_bind, List.map_nil, beq_self_eq_true, if_true, e, List.map_id, hz, List.length_nil, Nat.zero_le, BM, om, bv, R.ok_out, O.seq, aK]
    . exact Or.inl (if_neg hx)
theorem ji : ∀ ds : List D, ds.length = 1 -> cN ds = .no \/ aK (bX uE iq (aN 4 ds)) = cN ds := by
  intro ds hl
  unfold bX fo fm fe fi fc fh
  match ds, hl with
  | [d], _ =>
    cases d <;> first | exact Or.inl rfl | exact Or.inr rfl | skip
    rename_i xs hl
    match xs with
    | [] => exact Or.inr rfl
    | [_] => exact Or.inr rfl
    | [_, _] => exact Or.inr rfl
    | a :: b :: c :: e :: l =>
      refine Or.inr ?_
      show aK (aM _ _ [some (.val (.tup (a :: b :: c :: e :: l))), none, none, none]) = _
      have t1 : dh (fun x => x == "tuple") (.tup (a :: b :: c :: e :: l)) = .ok (.bl true) := rfl
      have t2 : fw (.bl true) = .ok true := rfl
      have t3 : dw [.tup (a :: b :: c :: e :: l)] = some (.int (a :: b :: c :: e :: l).length) := rfl
      have t4 : neF (.int (a :: b :: c :: e :: l).length) (.int 3) = some (.bl true) := by
        have : (((a :: b :: c :: e :: l).length : Int) == 3) = false := by simp; omega
        show some (D.bl (!(((a :: b :: c :: e :: l).length : Int) == 3))) = _
        rw [this]; rfl
      simp only [aM, oIf, ig, gBn, aI, gB2, g2, bO, gOf, ac, rd0, R.ok_bind, R.ok_out, t1, t2, t3, t4, bv, asB, Bool.not_true, Bool.false_eq_true, if_false, if_true]
      rfl
    | [a, r, p] =>
      by_cases hf : mB (.tup [a, r, p]) = true
      . refine Or.inr ?_
        have e2 : cN [.tup [a, r, p]] = .ok (.bl (screen (.tup [a, r, p]))) := if_pos hf
        rw [e2]
        simp only [mB, Bool.and_eq_true] at hf
        obtain ⟨⟨ha, hr⟩, hp⟩ := hf
        show aK (aM _ _ [some (.val (.tup [a, r, p])), none, none, none]) = _
        have t1 : ∀ q, dh (fun x => x == "tuple") (.tup q) = .ok (.bl true) := fun _ => rfl
        have t2 : ∀ k, fw (.bl k) = .ok k := fun _ => rfl
        have t3 : dw [.tup [a, r, p]] = some (.int 3) := rfl
        have t4 : neF (.int 3) (.int 3) = some (.bl false) := rfl
        have x0 : ixD (.tup [a, r, p]) (.int 0) = some a := rfl
        have s1 : yo [1, 2, 3] (.tup [a, r, p]) [some (.val (.tup [a, r, p])), none, none, none] = .ok [some (.val (.tup [a, r, p])), some (.val a), some (.val r), some (.val p)] := rfl
        rw [aM]
        simp only [oIf, bO, ig, gBn, aI, gB2, g2, gOf, ac, rd0, R.ok_bind, R.ok_out, t1, t2, t3, t4, x0, nK, bv, asB, oNx, O.seq, aM, Bool.not_true, Bool.false_eq_true, if_false, cF ha]
        cases hi : inB a 1 40 with
        | false =>
          have : screen (.tup [a, r, p]) = false := by
            cases a <;> first | rfl | skip
            simp only [screen, hi, Bool.false_and]
          rw [this]; rfl
        | true =>
          cases a <;> first | (cases hi; done) | skip
          rename_i i
          simp only [Bool.not_true, Bool.false_eq_true, if_false, AL, rd0, R.ok_out, s1]
          cases r <;> first | (cases hr; done) | skip
          all_goals first
            | (have : ∀ q, (∀ rows, q ≠ D.tup rows) -> screen (.tup [.int i, q, p]) = false := by
                intro q hq
                cases q <;> first | exact absurd rfl (hq _) | (simp only [screen, qG, Bool.and_false])
               rw [this _ (by intro rows z; cases z)]; rfl)
            | skip
          rename_i rows
          have hr' : rows.all AJ = true := hr
          have t5 : dw [.tup rows] = some (.int rows.length) := rfl
          have e : fv (ig (gBn (aI fw (aR 1 iq (ac (fun ρ => rdV ρ 0) fun x => R.ok [])))) (gB2 neF (gOf dw (ac (fun ρ => rdV ρ 0) fun x => R.ok [])) fun ρ => rdV ρ 1)) (fun ρ => rdV ρ 0) rows [none, some (.val (.int i))] = .ok ((rows.filter fun d => !nv d i).map id) := by
            refine gX (fun d => !nv d i) id [some (.val (.int i))] rows none fun d m => ⟨?_, fun _ => rfl⟩
            have hd := List.all_eq_true.1 hr' d m
            simp only [ig, gBn, aI, gB2, g2, gOf, ac, vf, rd0, rd1, R.ok_bind, lA hd, t2]
            cases d <;> first | rfl | skip
            rename_i x
            show (if (!plain x) = true then R.ok true else R.ok (!((x.length : Int) == i))) = R.ok (!(plain x && ((x.length : Int) == i)))
            cases plain x <;> rfl
          have i2 : ib [1] [some (.val (.tup [.int i, .tup rows, p])), some (.val (.int i)), some (.val (.tup rows)), some (.val p)] = [none, some (.val (.int i))] := rfl
          simp only [rd1, rd2, rd3, R.ok_bind, t1, t2, t5, gB3, g3, gOf, ac, bv, leD, Bool.not_true, Bool.false_eq_true, if_false]
          by_cases h1 : 1 <= rows.length
          . have h1' : (1 : Int) <= (rows.length : Int) := by omega
            by_cases h2 : rows.length <= 12
            . have h2' : (rows.length : Int) <= 12 := by omega
              have h3 : (rows.filter fun d => !nv d i).length <= sizeLine := Nat.le_trans (List.length_filter_le _ _) (Nat.le_trans h2 (by decide))
              simp only [h1', h2', decide_true, asB, R.ok_bind, R.ok_out, Bool.not_true, Bool.false_eq_true, if_false, bx, eM, iW, aI, rd2, bH, i2, e, List.map_id, h3, if_true, List.length_nil, Nat.zero_le, Bj, vi, bv]
              have sc : screen (.tup [.int i, .tup rows, p]) = ((rows.all fun d => nv d i) && oA p i rows.length) := by
                simp [screen, hi, qG, h1, h2]
              rw [sc]
              cases hq : (rows.all fun d => nv d i) with
              | false => rfl
              | true =>
                simp only [Bool.not_true, Bool.false_eq_true, if_false, rd3, R.ok_bind, Bool.true_and]
                cases p <;> first | (cases hp; done) | rfl | skip
                rename_i q
                have hq' : q.all gC = true := hp
                match q, hq' with
                | [], _ => rfl
                | [_], _ => rfl
                | u :: v :: c :: l, _ =>
                  have t6 : dw [.tup (u :: v :: c :: l)] = some (.int (u :: v :: c :: l).length) := rfl
                  have t7 : neF (.int (u :: v :: c :: l).length) (.int 2) = some (.bl true) := by
                    have : (((u :: v :: c :: l).length : Int) == 2) = false := by simp; omega
                    show some (D.bl (!(((u :: v :: c :: l).length : Int) == 2))) = _
                    rw [this]; rfl
                  simp only [t1, t2, t6, t7, R.ok_bind, bv, asB, Bool.not_true, Bool.false_eq_true, if_false, R.ok_out, if_true]
                  rfl
                | [u, v], hq' =>
                  have hu : gC u = true := List.all_eq_true.1 hq' u (by simp)
                  have hv : gC v = true := List.all_eq_true.1 hq' v (by simp)
                  have t6 : dw [.tup [u, v]] = some (.int 2) := rfl
                  have t7 : neF (.int 2) (.int 2) = some (.bl false) := rfl
                  have y0 : ixD (.tup [u, v]) (.int 0) = some u := rfl
                  have y1 : ixD (.tup [u, v]) (.int 1) = some v := rfl
                  simp only [t1, t2, t6, t7, R.ok_bind, bv, asB, Bool.not_true, Bool.false_eq_true, if_false, R.ok_out, iK, nK, g2, gOf, ac, rd1, rd2, rd3, y0, y1, t5, oO, cF hu, cF hv, oA]
                  cases inB u 0 ((rows.length : Int) - 1) <;> rfl
            . have h2' : ¬ (rows.length : Int) <= 12 := by omega
              have sc : screen (.tup [.int i, .tup rows, p]) = false := by simp [screen, qG, h2]
              rw [sc]
              simp only [h1', h2', decide_true, decide_false, asB, R.ok_bind, R.ok_out, Bool.not_false, if_true, aK]
          . have h1' : ¬ (1 : Int) <= (rows.length : Int) := by omega
            have sc : screen (.tup [.int i, .tup rows, p]) = false := by simp [screen, qG, h1]
            rw [sc]
            simp only [h1', decide_false, asB, R.ok_bind, R.ok_out, Bool.not_false, if_true, aK]
      . exact Or.inl (if_neg hf)
def dB (p : List Nat) : D := .tup (p.map fun (k : Nat) => .int (k : Int))
def cj : Nat -> D -> List (List Nat)
  | 0, _ => []
  | n + 1, .tup xs => [] :: (List.range xs.length).flatMap fun k => (cj n (xs.getD k .non)).map (k :: ·)
  | _ + 1, _ => [[]]
def okd : Nat -> D -> Bool
  | 0, _ => false
  | _ + 1, .exc _ => false
  | n + 1, .tup xs => xs.all (okd n) && decide ((cj (n + 1) (.tup xs)).length <= 1000) && decide (xs.length <= 1000)
  | _ + 1, _ => true
def bL (n : Nat) : List D -> R D
  | [d] => if okd n d = true /\ n <= 500 then .ok (.lst false ((cj n d).map dB)) else .no
  | _ => .no
theorem iu : ∀ (n : Nat) (d : D) (p : List Nat), p ∈ cj n d -> p.length < n
  | 0, _, p, h => by simp [cj] at h
  | n + 1, d, p, h => by
    cases d with
    | tup xs =>
      simp only [cj, List.mem_cons, List.mem_flatMap, List.mem_map] at h
      rcases h with rfl | ⟨k, _, q, hq, rfl⟩
      . simp
      . have := iu n _ q hq
        simp; omega
    | _ => simp [cj] at h; subst h; simp
theorem zH (n k : Nat) (hn : n <= 500) (ps : List (List Nat)) (h : ∀ p ∈ ps, p.length <= n) : fv (fun _ => R.ok true) (g2 bw (aI mkT (ac (fun ρ => rdV ρ 1) fun _ => R.ok [])) fun ρ => rdV ρ 0) (ps.map dB) [none, some (.val (.int (k : Int)))] = .ok ((ps.map (k :: ·)).map dB) := by
  have z : (ps.map (k :: ·)).map dB = (ps.map dB).map fun d => match d with | .tup qs => .tup (.int k :: qs) | d => d := by
    rw [List.map_map, List.map_map]; refine List.map_congr_left fun p _ => ?_; simp [dB]
  rw [z]
  refine dH _ _ _ none fun d hd => ⟨rfl, ?_⟩
  obtain ⟨p, hp, rfl⟩ := List.mem_map.1 hd
  have hl := h p hp
  have k1 : mkT [.int (k : Int)] = .ok (.tup [.int (k : Int)]) := m_t (by simp)
  have k2 : bw (.tup [.int (k : Int)]) (dB p) = some (.tup (.int k :: p.map fun (k : Nat) => .int (k : Int))) := by
    unfold dB
    rw [mS (by have := bc; simp; omega)]; rfl
  clear hd hl hp
  walk_at "run"
  rfl
theorem vy (n : Nat) (hn : n <= 500) (xs : List D) (hx : xs.all (okd n) = true) : ∀ (ks : List Nat) (acc : List D) (kk : Option Sl), (∀ k ∈ ks, k < xs.length) -> acc.length + (ks.flatMap fun k => (cj n (xs.getD k .non)).map (k :: ·)).length <= 1000 ->
    ∃ kk', ci (gH 2) (cM (bL n)) (ks.map fun (i : Nat) => D.int (i : Int)) [some (.val (.tup xs)), some (.own acc), kk] = .nx [some (.val (.tup xs)), some (.own (acc ++ (ks.flatMap fun k => (cj n (xs.getD k .non)).map (k :: ·)).map dB)), kk']
  | [], acc, kk, _, _ => ⟨kk, by simp [ci]⟩
  | k :: ks, acc, kk, hk, hz => by
    rw [List.flatMap_cons, List.length_append] at hz
    obtain ⟨kk', ih⟩ := vy n hn xs hx ks (acc ++ ((cj n (xs.getD k .non)).map (k :: ·)).map dB) (some (.val (.int (k : Int)))) (fun j hj => hk j (List.mem_cons_of_mem _ hj)) (by simp at hz ⊢; omega)
    refine ⟨kk', ?_⟩
    have hlt := hk k (List.mem_cons_self ..)
    have g1 : xs[k]? = some (xs.getD k .non) := by rw [List.getElem?_eq_getElem hlt]; simp [List.getD, hlt]
    have o1 : okd n (xs.getD k .non) = true := List.all_eq_true.1 hx _ (List.mem_of_getElem? g1)
    have x1 : ixD (.tup xs) (.int (k : Int)) = some (xs.getD k .non) := pX g1
    have p1 : bL n [xs.getD k .non] = .ok (.lst false ((cj n (xs.getD k .non)).map dB)) := if_pos ⟨o1, hn⟩
    have c1 := zH n k hn (cj n (xs.getD k .non)) fun p hp => Nat.le_of_lt (iu n _ p hp)
    have i1 : ∀ d : D, bH (.lst false ((cj n (xs.getD k .non)).map dB)) = .ok ((cj n (xs.getD k .non)).map dB) := fun _ => rfl
    have i2 : ib [2] [some (.val (.tup xs)), some (.own acc), some (.val (.int (k : Int)))] = [none, some (.val (.int (k : Int)))] := rfl
    have z1 : (((cj n (xs.getD k .non)).map (k :: ·)).map dB).length <= sizeLine := by have := bc; simp at hz ⊢; omega
    have z2 : acc.length + (((cj n (xs.getD k .non)).map (k :: ·)).map dB).length <= sizeLine := by have := bc; simp at hz ⊢; omega
    have hB : cM (bL n) [some (.val (.tup xs)), some (.own acc), some (.val (.int (k : Int)))] = .nx [some (.val (.tup xs)), some (.own (acc ++ ((cj n (xs.getD k .non)).map (k :: ·)).map dB)), some (.val (.int (k : Int)))] := by
      unfold cM
      have i1' := i1 .non
      clear ih hz hk hx hlt g1 o1 i1
      walk_at "run"
    rw [List.map_cons, eB (ρ1 := [some (.val (.tup xs)), some (.own acc), some (.val (.int (k : Int)))]) rfl hB, ih, List.flatMap_cons, List.map_append, List.append_assoc]
theorem mV (n : Nat) : ∀ ds : List D, ds.length = 1 -> bL (n + 1) ds = .no \/ aK (cV (bL n) (aN 3 ds)) = bL (n + 1) ds := by
  intro ds hl
  unfold cV gZ hG hZ
  match ds, hl with
  | [d], _ =>
    by_cases hk : okd (n + 1) d = true /\ n + 1 <= 500
    . refine Or.inr ?_
      have e2 : bL (n + 1) [d] = .ok (.lst false ((cj (n + 1) d).map dB)) := if_pos hk
      rw [e2]
      show aK (aM _ (aM (oIf _ (aM (oM (gH 2) _ (cM (bL n))) oNx) oNx) (vQ 1 _)) [some (.val d), none, none]) = _
      have k1 : mkT [] = .ok (.tup []) := m_t (by simp)
      have z0 : 0 + 1 <= sizeLine := by decide
      cases d with
      | exc C => exact absurd hk.1 (by simp [okd])
      | tup xs =>
        have h1 := hk.1
        simp only [okd, Bool.and_eq_true, decide_eq_true_eq] at h1
        have h2 : 1 + ((List.range xs.length).flatMap fun k => (cj n (xs.getD k .non)).map (k :: ·)).length <= 1000 := by have := h1.1.2; simp only [cj, List.length_cons] at this; omega
        have hxl : xs.length <= 1000 := h1.2
        obtain ⟨kk', hL⟩ := vy n (by omega) xs h1.1.1 (List.range xs.length) [.tup []] none (fun k hk => List.mem_range.1 hk) (by simpa using h2)
        have r1 : bE [.int (xs.length : Int)] = .ok ((List.range xs.length).map fun (i : Nat) => D.int (i : Int)) := gS hxl
        have y1 : dh (fun x => x == "tuple") (.tup xs) = .ok (.bl true) := rfl
        clear hk e2 h1 h2 hl hxl
        walk_at "run"
        simp [cj, dB]
      | _ =>
        walk_at "run"
        rfl
    . exact Or.inl (if_neg hk)
def oK : List Nat -> D -> D -> Option D
  | [], _, v => some v
  | k :: ks, .tup xs, v => match xs[k]? with
    | some x => if xs.length <= 1000 then (oK ks x v).map fun y => .tup (xs.take k ++ [y] ++ xs.drop (k + 1)) else none
    | none => none
  | _, _, _ => none
def mX : List D -> Option (List Nat)
  | [] => some []
  | .int i :: ds => if 0 <= i then (mX ds).map (i.toNat :: ·) else none
  | _ :: _ => none
theorem rq : ∀ {ds : List D} {ks : List Nat}, mX ds = some ks -> ds = ks.map fun (k : Nat) => D.int (k : Int)
  | [], ks, h => by simp [mX] at h; subst h; rfl
  | d :: ds, ks, h => by
    cases d <;> first | (cases h; done) | skip
    rename_i i
    simp only [mX] at h
    by_cases hi : 0 <= i
    . rw [if_pos hi] at h
      cases q : mX ds with
      | none => rw [q] at h; cases h
      | some ms => rw [q] at h; cases h; rw [rq q, List.map_cons, Int.toNat_of_nonneg hi]
    . rw [if_neg hi] at h; cases h
theorem nt : ∀ ks : List Nat, mX (ks.map fun (k : Nat) => D.int (k : Int)) = some ks
  | [] => rfl
  | k :: ks => by simp [mX, nt ks]
def jM (n : Nat) : List D -> R D
  | [d, .tup p, v] => match mX p with
    | some ks => if ks.length < n /\ n <= 500 then ofO (oK ks d v) else .no
    | none => .no
  | _ => .no
theorem mR {n : Nat} {d v : D} {ks : List Nat} (h : ks.length < n /\ n <= 500) : jM n [d, .tup (ks.map fun (k : Nat) => D.int (k : Int)), v] = ofO (oK ks d v) := by
  simp only [jM, nt]; rw [if_pos h]
theorem rT (n : Nat) : ∀ ds : List D, ds.length = 3 -> jM (n + 1) ds = .no \/ aK (eW (jM n) (aN 4 ds)) = jM (n + 1) ds := by
  intro ds hl
  unfold eW lC lx lu
  match ds, hl with
  | [d, pd, v], _ =>
    cases pd <;> first | exact Or.inl rfl | skip
    rename_i p hl
    cases hi : mX p with
    | none => refine Or.inl ?_; simp only [jM, hi]
    | some ks =>
      have e := rq hi
      subst e
      by_cases hk : ks.length < n + 1 /\ n + 1 <= 500
      . rw [mR hk]
        have k0 : mkT [] = .ok (.tup []) := m_t (by simp)
        cases ks with
        | nil =>
          refine Or.inr ?_
          show aK (aM _ _ [some (.val d), some (.val (.tup [])), some (.val v), none]) = _
          have q1 : eqF (.tup []) (.tup []) = some (.bl true) := rfl
          walk_at "run"
          rfl
        | cons j js =>
          cases hp : oK (j :: js) d v with
          | none => exact Or.inl rfl
          | some r =>
            refine Or.inr ?_
            cases d <;> first | (cases hp; done) | skip
            rename_i hl2 xs
            unfold oK at hp
            cases hx : xs[j]? with
            | none => rw [hx] at hp; cases hp
            | some x =>
              rw [hx] at hp
              dsimp only at hp
              by_cases hz : xs.length <= 1000
              . rw [if_pos hz] at hp
                cases hy : oK js x v with
                | none => rw [hy] at hp; cases hp
                | some y =>
                  rw [hy] at hp
                  cases hp
                  have hj : j < xs.length := (List.getElem?_eq_some_iff.mp hx).1
                  show aK (aM _ _ [some (.val (.tup xs)), some (.val (.tup (.int (j : Int) :: js.map fun (k : Nat) => D.int (k : Int)))), some (.val v), none]) = _
                  have q1 : eqF (.tup (.int (j : Int) :: js.map fun (k : Nat) => D.int (k : Int))) (.tup []) = some (.bl false) := by simp [eqF, eqD, eqZ]
                  have q2 : ixD (.tup (.int (j : Int) :: js.map fun (k : Nat) => D.int (k : Int))) (.int 0) = some (.int (j : Int)) := pX (k := 0) rfl
                  have q3 : ixD (.tup xs) (.int (j : Int)) = some x := pX hx
                  have q4 : ii (.int (j : Int) :: js.map fun (k : Nat) => D.int (k : Int)) (some 1) none = js.map fun (k : Nat) => D.int (k : Int) := dA _ 1
                  have q5 := jl xs j
                  have q6 : ii xs (some ((j : Int) + 1)) none = xs.drop (j + 1) := dA xs (j + 1)
                  have q7 : jM n [x, .tup (js.map fun (k : Nat) => D.int (k : Int)), v] = .ok y := by
                    rw [mR (by simp at hk; omega), hy]; rfl
                  have k1 : mkT [y] = .ok (.tup [y]) := m_t (by simp)
                  have q8 : bw (.tup (xs.take j)) (.tup [y]) = some (.tup (xs.take j ++ [y])) := mS (by have := bc; simp; omega)
                  have q9 : bw (.tup (xs.take j ++ [y])) (.tup (xs.drop (j + 1))) = some (.tup (xs.take j ++ [y] ++ xs.drop (j + 1))) := mS (by have := bc; simp; omega)
                  clear hk hi hl hx hz hj hy
                  walk_at "run"
              . rw [if_neg hz] at hp; cases hp
      . refine Or.inl ?_; simp only [jM, hi]; rw [if_neg hk]
theorem ur : ∀ ds : List D, ds.length = 1 -> bL 0 ds = .no := by
  intro ds hl
  match ds, hl with
  | [d], _ =>
    have e : okd 0 d = false := by simp only [okd]
    simp only [bL, e]
    rfl
theorem Be : ∀ ds : List D, ds.length = 3 -> jM 0 ds = .no := by
  intro ds hl
  match ds, hl with
  | [d, p, v], _ =>
    cases p <;> first | rfl | skip
    simp only [jM]
    split <;> simp
def pt : Nat -> D -> Bool
  | 0, _ => false
  | _ + 1, .int _ => true
  | _ + 1, .str x => decide (x.length <= 900)
  | n + 1, .tup xs => xs.all (pt n) && decide (xs.length <= 900)
  | _ + 1, _ => false
def good : Nat -> D -> Bool
  | 0, _ => true
  | _ + 1, .exc _ => false
  | _ + 1, .str x => decide (x.length <= 1000)
  | n + 1, .tup xs => xs.all (good n)
  | n + 1, .lst _ xs => xs.all (good n)
  | _ + 1, _ => true
theorem jr : ∀ (n : Nat) (d : D), good (n + 1) d = true -> good n d = true
  | 0, _, _ => rfl
  | n + 1, d, h => by
    cases d <;> first | (simp [good] at h; done) | rfl | skip
    . exact h
    . simp only [good, List.all_eq_true] at h ⊢
      exact fun x hx => jr n x (h x hx)
    . simp only [good, List.all_eq_true] at h ⊢
      exact fun x hx => jr n x (h x hx)
theorem pj : ∀ (n m : Nat) (d : D), pt n d = true -> good m d = true
  | 0, _, _, h => by simp [pt] at h
  | n + 1, 0, _, _ => rfl
  | n + 1, m + 1, d, h => by
    cases d <;> first | (simp [pt] at h; done) | rfl | skip
    . simp only [pt, decide_eq_true_eq] at h; simp only [good, decide_eq_true_eq]; omega
    . simp only [pt, Bool.and_eq_true, List.all_eq_true] at h
      simp only [good, List.all_eq_true]
      exact fun x hx => pj n m x (h.1 x hx)
theorem jK {d : D} (h : good 4 d = true) : mB d = true := by
  cases d <;> first | (simp [good] at h; done) | rfl | skip
  rename_i xs
  match xs, h with
  | [], _ => rfl
  | [_], _ => rfl
  | [_, _], _ => rfl
  | _ :: _ :: _ :: _ :: _, _ => rfl
  | [a, r, p], h =>
    simp only [good, List.all_cons, List.all_nil, Bool.and_true, Bool.and_eq_true] at h
    obtain ⟨ha, hr, hp⟩ := h
    have l1 := bc
    have na : gC a = true := by cases a <;> first | (simp [good] at ha; done) | rfl
    simp only [mB, Bool.and_eq_true]
    refine ⟨⟨na, ?_⟩, ?_⟩
    . cases r <;> first | (simp [good] at hr; done) | rfl | skip
      rename_i xs
      simp only [good, List.all_eq_true] at hr
      show xs.all AJ = true
      rw [List.all_eq_true]
      intro x hx
      have := hr x hx
      cases x <;> first | (simp [good] at this; done) | rfl | skip
      simp only [good, decide_eq_true_eq] at this
      simp only [AJ, decide_eq_true_eq]; omega
    . cases p <;> first | (simp [good] at hp; done) | rfl | skip
      rename_i xs
      simp only [good, List.all_eq_true] at hp
      show xs.all gC = true
      rw [List.all_eq_true]
      intro x hx
      have := hp x hx
      cases x <;> first | (simp [good] at this; done) | rfl
theorem qR (n : Nat) : ∀ (ks : List Nat) (d v r : D), oK ks d v = some r -> good n d = true -> good n v = true -> good n r = true
  | [], d, v, r, h, _, hv => by simp only [oK, Option.some.injEq] at h; subst h; exact hv
  | k :: ks, d, v, r, h, hd, hv => by
    cases n with
    | zero => rfl
    | succ n =>
      cases d <;> first | (simp [oK] at h; done) | skip
      rename_i xs
      unfold oK at h
      cases hx : xs[k]? with
      | none => rw [hx] at h; cases h
      | some x =>
        rw [hx] at h
        dsimp only at h
        split at h
        . cases hy : oK ks x v with
          | none => rw [hy] at h; cases h
          | some y =>
            rw [hy] at h
            cases h
            simp only [good, List.all_eq_true] at hd ⊢
            have gy := qR n ks x v y hy (hd x (List.mem_of_getElem? hx)) (jr n v hv)
            intro z hz
            simp only [List.mem_append, List.mem_singleton] at hz
            rcases hz with (hz | rfl) | hz
            . exact hd z (List.mem_of_mem_take hz)
            . exact gy
            . exact hd z (List.mem_of_mem_drop hz)
        . cases h
def uh : List Nat -> D -> Option D
  | [], d => some d
  | k :: ks, .tup xs => (xs[k]?).bind (uh ks)
  | _ :: _, _ => none
theorem ng : ∀ (n : Nat) (d : D) (ks : List Nat), pt n d = true -> ks ∈ cj n d -> (∃ x, uh ks d = some x /\ ∃ m, pt m x = true) /\ ∀ v, ∃ r, oK ks d v = some r
  | 0, _, _, h, _ => by simp [pt] at h
  | n + 1, d, ks, h, hk => by
    cases ks with
    | nil => exact ⟨⟨d, rfl, n + 1, h⟩, fun v => ⟨v, rfl⟩⟩
    | cons k ks =>
      cases d <;> first | (simp [cj] at hk; done) | skip
      rename_i xs
      simp only [cj, List.mem_cons, List.mem_flatMap, List.mem_map, List.mem_range, reduceCtorEq, false_or] at hk
      obtain ⟨j, hj, q, hq, e⟩ := hk
      cases e
      simp only [pt, Bool.and_eq_true, List.all_eq_true, decide_eq_true_eq] at h
      have g1 : xs[k]? = some (xs.getD k .non) := by rw [List.getElem?_eq_getElem hj]; simp [List.getD, hj]
      obtain ⟨⟨x, hx, m, hm⟩, hp⟩ := ng n _ ks (h.1 _ (List.mem_of_getElem? g1)) hq
      refine ⟨⟨x, ?_, m, hm⟩, fun v => ?_⟩
      . simp only [uh, g1, Option.bind_some]; exact hx
      . obtain ⟨r, hr⟩ := hp v
        refine ⟨.tup (xs.take k ++ [r] ++ xs.drop (k + 1)), ?_⟩
        simp only [oK, g1]
        rw [if_pos (by omega), hr]; rfl
def gW (h : D) : List D := [.int 0, .int 1, .int 2, .int 11, .int 12, .int 40, .int 41, .int (-1), .bl true, .non, .str [97], .str [], .tup [.str [103, 111], .int 0, .int 0], .tup [.int 0, .int 0], .lst false [.int 0], .tup [h], .tup [h, h]]
def signL : List D := [.str [10], .str [], .str [97], .str [9]]
def sS (w : Int) : List Nat := match signL.getD (if 19 < w then (w - 19).toNat else 0) .non with
  | .str x => x
  | _ => []
def lO (ns : List Int) (a : Nat) (h : D) : D :=
  if bF ns (a + 1) 23 < 17 then (gW h).getD (bF ns (a + 1) 23).toNat .non
  else match h with
    | .tup xs => if xs.length = 0 then .int 7 else if bF ns (a + 1) 23 < 20 then .tup (xs.take (bF ns (a + 2) xs.length).toNat ++ xs.drop ((bF ns (a + 2) xs.length).toNat + 1)) else .tup (xs.take ((bF ns (a + 2) xs.length).toNat + 1) ++ xs.drop (bF ns (a + 2) xs.length).toNat)
    | .str x => .str (x.take (bF ns (a + 2) (x.length + 1)).toNat ++ sS (bF ns (a + 1) 23) ++ x.drop ((bF ns (a + 2) (x.length + 1)).toNat + 1))
    | .int i => .int (i + 1)
    | _ => .int 7
def dm (ns : List Int) (a : Nat) (T : D) : List Nat := (cj 4 T).getD (bF ns a (cj 4 T).length).toNat []
def cE : List D -> R D
  | [.lst _ ds, .int a, T] => match eX ds with
    | some ns => if 0 <= a /\ pt 4 T = true /\ okd 4 T = true then ofO (oK (dm ns a.toNat T) T (lO ns a.toNat ((uh (dm ns a.toNat T) T).getD .non))) else .no
    | none => .no
  | _ => .no
theorem qP (n : Nat) (d : D) : 0 < (cj (n + 1) d).length := by
  cases d <;> simp [cj]
theorem mT (ns : List Int) (a : Nat) (T : D) : dm ns a T ∈ cj 4 T := by
  have h0 : 0 < (cj 4 T).length := qP 3 T
  have h := bf ns a (m := ((cj 4 T).length : Int)) (by omega)
  unfold dm
  have hl : (bF ns a (cj 4 T).length).toNat < (cj 4 T).length := by omega
  rw [List.getD_eq_getElem?_getD, List.getElem?_eq_getElem hl]
  exact List.getElem_mem hl
theorem lS (v : Int) : (sS v).length <= 1 := by
  unfold sS
  generalize (if 19 < v then (v - 19).toNat else 0) = k
  rcases Nat.lt_or_ge k 4 with hk | hk
  . have : k = 0 \/ k = 1 \/ k = 2 \/ k = 3 := by omega
    rcases this with rfl | rfl | rfl | rfl <;> decide
  . have : signL.getD k .non = .non := by
      rw [List.getD_eq_getElem?_getD, List.getElem?_eq_none (by show 4 <= k; exact hk)]; rfl
    rw [this]; decide
theorem fK (s0 s1 s2 s3 s4 s7 s8 s9 s10 : Option Sl) : ∀ (ks : List Nat) (d x : D) (kk : Option Sl), uh ks d = some x ->
    ∃ kk', ci (gH 6) (bR (bL 4) bI (jM 4)) (ks.map fun (i : Nat) => D.int (i : Int)) [s0, s1, s2, s3, s4, some (.val d), kk, s7, s8, s9, s10] = .nx [s0, s1, s2, s3, s4, some (.val x), kk', s7, s8, s9, s10]
  | [], d, x, kk, h => by simp only [uh, Option.some.injEq] at h; subst h; exact ⟨kk, rfl⟩
  | k :: ks, d, x, kk, h => by
    cases d <;> first | (simp [uh] at h; done) | skip
    rename_i xs
    cases hx : xs[k]? with
    | none => simp [uh, hx] at h
    | some y =>
      simp only [uh, hx, Option.bind_some] at h
      obtain ⟨kk', ih⟩ := fK s0 s1 s2 s3 s4 s7 s8 s9 s10 ks y x (some (.val (.int (k : Int)))) h
      refine ⟨kk', ?_⟩
      have q3 : ixD (.tup xs) (.int (k : Int)) = some y := pX hx
      have hB : (bR (bL 4) bI (jM 4)) [s0, s1, s2, s3, s4, some (.val (.tup xs)), some (.val (.int (k : Int))), s7, s8, s9, s10] = .nx [s0, s1, s2, s3, s4, some (.val y), some (.val (.int (k : Int))), s7, s8, s9, s10] := by
        unfold bR
        clear ih h hx
        walk_at "run"
      rw [List.map_cons, eB (ρ1 := [s0, s1, s2, s3, s4, some (.val (.tup xs)), some (.val (.int (k : Int))), s7, s8, s9, s10]) rfl hB]
      exact ih
theorem gD : ∀ ds : List D, ds.length = 3 -> cE ds = .no \/ aK (bN (bL 4) bI (jM 4) (aN 11 ds)) = cE ds := by
  intro ds hl
  unfold bN
  match ds, hl with
  | [l, ad, T], _ =>
    cases l <;> first | exact Or.inl rfl | skip
    cases ad <;> first | exact Or.inl rfl | skip
    rename_i fz ds a hl
    cases hi : eX ds with
    | none => refine Or.inl ?_; simp only [cE, hi]
    | some ns =>
      have e := eU hi
      subst e
      by_cases hk : 0 <= a /\ pt 4 T = true /\ okd 4 T = true
      . refine Or.inr ?_
        have e2 : cE [.lst fz (ns.map .int), .int a, T] = ofO (oK (dm ns a.toNat T) T (lO ns a.toNat ((uh (dm ns a.toNat T) T).getD .non))) := by simp only [cE, hi]; rw [if_pos hk]
        rw [e2]
        obtain ⟨ha, hp, ho⟩ := hk
        obtain ⟨a, rfl⟩ := Int.eq_ofNat_of_zero_le ha
        rw [Int.toNat_natCast]
        show aK (aM _ _ [some (.val (.lst fz (ns.map .int))), some (.val (.int a)), some (.val T), none, none, none, none, none, none, none, none]) = _
        obtain ⟨⟨x, hx, m, hm⟩, hput⟩ := ng 4 T _ hp (mT ns a T)
        obtain ⟨r, hr⟩ := hput (lO ns a x)
        rw [hx, Option.getD_some, hr]
        have kl := iu 4 T _ (mT ns a T)
        have P1 : bL 4 [T] = .ok (.lst false ((cj 4 T).map dB)) := if_pos ⟨ho, by decide⟩
        have h0 : 0 < (cj 4 T).length := qP 3 T
        have h1 := bf ns a (m := ((cj 4 T).length : Int)) (by omega)
        have P2 : bI [.lst fz (ns.map .int), .int (a : Int), .int (((cj 4 T).map dB).length : Int)] = .ok (.int (bF ns a (cj 4 T).length)) := by rw [List.length_map]; exact bz (by omega)
        have P3 : ixD (.lst false ((cj 4 T).map dB)) (.int (bF ns a (cj 4 T).length)) = some (dB (dm ns a T)) := by
          have hlt : (bF ns a (cj 4 T).length).toNat < (cj 4 T).length := by omega
          rw [<- Int.toNat_of_nonneg h1.1]
          refine CN ?_
          rw [List.getElem?_map, List.getElem?_eq_getElem hlt]
          unfold dm
          rw [List.getD_eq_getElem?_getD, List.getElem?_eq_getElem hlt]; rfl
        have P4 : bH (dB (dm ns a T)) = .ok ((dm ns a T).map fun (k : Nat) => .int (k : Int)) := rfl
        obtain ⟨kk', hL⟩ := fK (some (.val (.lst fz (ns.map .int)))) (some (.val (.int a))) (some (.val T)) (some (.val (.lst false ((cj 4 T).map dB)))) (some (.val (dB (dm ns a T)))) none none none none (dm ns a T) T x none hx
        skip
        have P5 : bI [.lst fz (ns.map .int), .int ((a : Int) + 1), .int 23] = .ok (.int (bF ns (a + 1) 23)) := bz (n := a + 1) (by decide)
        have P6 : jM 4 [T, dB (dm ns a T), lO ns a x] = .ok r := by
          unfold dB; rw [mR ⟨kl, by decide⟩, hr]; rfl
        have k0 : mkT [] = .ok (.tup []) := m_t (by simp)
        have k1 : ∀ x, mkT [x] = .ok (.tup [x]) := fun _ => m_t (by simp)
        have k2 : ∀ x y, mkT [x, y] = .ok (.tup [x, y]) := fun _ _ => m_t (by simp)
        have k3 : ∀ x y z, mkT [x, y, z] = .ok (.tup [x, y, z]) := fun _ _ _ => m_t (by simp)
        have z17 : 17 <= sizeLine := by decide
        have z1 : 1 <= sizeLine := by decide
        have z4 : 4 <= sizeLine := by decide
        have n1 : yw (.int 1) = .ok (.int (-1)) := rfl
        have hw0 := bf ns (a + 1) (m := 23) (by decide)
        clear e2 hi hl hput hr kl h0 h1 ho hp hx
        have R0 : cA (bL 4) bI (jM 4) [some (.val (.lst fz (ns.map .int))), some (.val (.int a)), some (.val T), none, none, none, none, none, none, none, none] = .nx [some (.val (.lst fz (ns.map .int))), some (.val (.int a)), some (.val T), some (.val (.lst false ((cj 4 T).map dB))), none, none, none, none, none, none, none] := by
          unfold cA
          clear P6
          walk_at "run"
        have R1 : cu (bL 4) bI (jM 4) [some (.val (.lst fz (ns.map .int))), some (.val (.int a)), some (.val T), some (.val (.lst false ((cj 4 T).map dB))), none, none, none, none, none, none, none] = .nx [some (.val (.lst fz (ns.map .int))), some (.val (.int a)), some (.val T), some (.val (.lst false ((cj 4 T).map dB))), some (.val (dB (dm ns a T))), none, none, none, none, none, none] := by
          unfold cu
          clear R0 P6
          walk_at "run"
        have R2 : cw (bL 4) bI (jM 4) [some (.val (.lst fz (ns.map .int))), some (.val (.int a)), some (.val T), some (.val (.lst false ((cj 4 T).map dB))), some (.val (dB (dm ns a T))), none, none, none, none, none, none] = .nx [some (.val (.lst fz (ns.map .int))), some (.val (.int a)), some (.val T), some (.val (.lst false ((cj 4 T).map dB))), some (.val (dB (dm ns a T))), some (.val T), none, none, none, none, none] := by
          unfold cw
          clear R0 R1 P6
          walk_at "run"
        have R3 : cC (bL 4) bI (jM 4) [some (.val (.lst fz (ns.map .int))), some (.val (.int a)), some (.val T), some (.val (.lst false ((cj 4 T).map dB))), some (.val (dB (dm ns a T))), some (.val T), none, none, none, none, none] = .nx [some (.val (.lst fz (ns.map .int))), some (.val (.int a)), some (.val T), some (.val (.lst false ((cj 4 T).map dB))), some (.val (dB (dm ns a T))), some (.val x), kk', none, none, none, none] := by
          unfold cC
          clear R0 R1 R2 P6
          walk_at "run"
        have R4 : cB (bL 4) bI (jM 4) [some (.val (.lst fz (ns.map .int))), some (.val (.int a)), some (.val T), some (.val (.lst false ((cj 4 T).map dB))), some (.val (dB (dm ns a T))), some (.val x), kk', none, none, none, none] = .nx [some (.val (.lst fz (ns.map .int))), some (.val (.int a)), some (.val T), some (.val (.lst false ((cj 4 T).map dB))), some (.val (dB (dm ns a T))), some (.val x), kk', some (.val (.lst false (gW x))), none, none, none] := by
          unfold cB gW
          clear R0 R1 R2 R3 P6
          walk_at "run"
        have R5 : cz (bL 4) bI (jM 4) [some (.val (.lst fz (ns.map .int))), some (.val (.int a)), some (.val T), some (.val (.lst false ((cj 4 T).map dB))), some (.val (dB (dm ns a T))), some (.val x), kk', some (.val (.lst false (gW x))), none, none, none] = .nx [some (.val (.lst fz (ns.map .int))), some (.val (.int a)), some (.val T), some (.val (.lst false ((cj 4 T).map dB))), some (.val (dB (dm ns a T))), some (.val x), kk', some (.val (.lst false (gW x))), some (.val (.int (bF ns (a + 1) 23))), none, none] := by
          unfold cz
          clear R0 R1 R2 R3 R4 P6
          walk_at "run"
        rw [kA, R0, wG, kA, R1, wG, kA, R2, wG, kA, R3, wG, kA, R4, wG, kA, R5, wG]
        clear R0 R1 R2 R3 R4 R5 hL P1 P2 P3 P4 P5
        unfold dD dG dg dc
        by_cases hw : bF ns (a + 1) 23 < 17
        . have d1 : decide (bF ns (a + 1) 23 < 17) = true := by simp [hw]
          have q1 : ixD (.lst false (gW x)) (.int (bF ns (a + 1) 23)) = some (lO ns a x) := by
            have e : lO ns a x = (gW x).getD (bF ns (a + 1) 23).toNat .non := if_pos hw
            rw [e, <- Int.toNat_of_nonneg hw0.1]
            refine CN ?_
            have hlt : (bF ns (a + 1) 23).toNat < (gW x).length := by show _ < 17; omega
            rw [Int.toNat_natCast, List.getD_eq_getElem?_getD, List.getElem?_eq_getElem hlt]; rfl
          clear hw hw0 hm
          walk_at "run"
        . have d1 : decide (bF ns (a + 1) 23 < 17) = false := by simp [hw]
          have y1 : ∀ f xs, dh f (.tup xs) = .ok (.bl (f "tuple")) := fun _ _ => rfl
          have y2 : ∀ f xs, dh f (.str xs) = .ok (.bl (f "str")) := fun _ _ => rfl
          have y3 : ∀ f xs, dh f (.int xs) = .ok (.bl (f "int")) := fun _ _ => rfl
          have u1 : ("tuple" == "tuple") = true := rfl
          have u2 : ("tuple" == "str") = false := rfl
          have u3 : ("str" == "str") = true := rfl
          have u4 : ("str" == "tuple") = false := rfl
          have u5 : ("int" == "tuple") = false := rfl
          have u6 : ("int" == "str") = false := rfl
          have u7 : L2.isInt "int" = true := rfl
          have u8 : L2.isInt "tuple" = false := rfl
          cases x <;> first | (cases m <;> cases hm; done) | skip
          . rename_i i
            have e : lO ns a (.int i) = .int (i + 1) := by simp only [lO, hw, if_false]
            rw [e] at P6
            clear hw hw0 hm e
            walk_at "run"
          . rename_i s
            have hs : s.length <= 900 := by cases m <;> simp [pt] at hm; exact hm
            have hj := bf ns (a + 2) (m := (s.length : Int) + 1) (by omega)
            have P7 : bI [.lst fz (ns.map .int), .int ((a : Int) + 2), .int ((s.length : Int) + 1)] = .ok (.int (bF ns (a + 2) ((s.length : Int) + 1))) := bz (n := a + 2) (by omega)
            have e : lO ns a (.str s) = .str (s.take (bF ns (a + 2) (s.length + 1)).toNat ++ sS (bF ns (a + 1) 23) ++ s.drop ((bF ns (a + 2) (s.length + 1)).toNat + 1)) := by simp only [lO, hw, if_false]
            rw [e] at P6
            obtain ⟨j, hjj⟩ : ∃ j : Nat, bF ns (a + 2) ((s.length : Int) + 1) = (j : Int) := ⟨_, (Int.toNat_of_nonneg hj.1).symm⟩
            rw [hjj] at P7
            rw [hjj, Int.toNat_natCast] at P6
            have hsg := lS (bF ns (a + 1) 23)
            have c1 := jl s j
            have c2 : ii s (some ((j : Int) + 1)) none = s.drop (j + 1) := dA s (j + 1)
            have a1 : bw (.str (s.take j)) (.str (sS (bF ns (a + 1) 23))) = some (.str (s.take j ++ sS (bF ns (a + 1) 23))) := lj (by have := bc; simp; omega)
            have a2 : bw (.str (s.take j ++ sS (bF ns (a + 1) 23))) (.str (s.drop (j + 1))) = some (.str (s.take j ++ sS (bF ns (a + 1) 23) ++ s.drop (j + 1))) := lj (by have := bc; simp; omega)
            by_cases h19 : 19 < bF ns (a + 1) 23
            . have d2 : decide (19 < bF ns (a + 1) 23) = true := by simp [h19]
              have q2 : ixD (.lst false signL) (.int (bF ns (a + 1) 23 - 19)) = some (.str (sS (bF ns (a + 1) 23))) := by
                unfold sS
                rw [if_pos h19]
                generalize bF ns (a + 1) 23 = v at hw0 h19
                have : v = 20 \/ v = 21 \/ v = 22 := by omega
                rcases this with rfl | rfl | rfl <;> rfl
              unfold signL at q2
              clear hw hw0 hm e hj hjj hs h19 hsg
              walk_at "run"
            . have d2 : decide (19 < bF ns (a + 1) 23) = false := by simp [h19]
              have q2 : ixD (.lst false signL) (.int 0) = some (.str (sS (bF ns (a + 1) 23))) := by
                unfold sS
                rw [if_neg h19]; rfl
              unfold signL at q2
              clear hw hw0 hm e hj hjj hs h19 hsg
              walk_at "run"
          . rename_i xs
            have hs : xs.length <= 900 := by cases m <;> simp [pt] at hm; exact hm.2
            cases xs with
            | nil =>
              have e : lO ns a (.tup []) = .int 7 := by simp only [lO, hw, if_false, List.length_nil, if_true]
              rw [e] at P6
              have v1 : neF (.tup []) (.tup []) = some (.bl false) := rfl
              clear hw hw0 hm e hs
              walk_at "run"
            | cons y ys =>
              generalize hxs : y :: ys = xs at hs hm P6
              have hl0 : 0 < xs.length := by rw [<- hxs]; simp
              have v1 : neF (.tup xs) (.tup []) = some (.bl true) := by rw [<- hxs]; simp [neF, eqD, eqZ]
              have hj := bf ns (a + 2) (m := (xs.length : Int)) (by omega)
              have P7 : bI [.lst fz (ns.map .int), .int ((a : Int) + 2), .int (xs.length : Int)] = .ok (.int (bF ns (a + 2) (xs.length : Int))) := bz (n := a + 2) (by omega)
              obtain ⟨j, hjj⟩ : ∃ j : Nat, bF ns (a + 2) (xs.length : Int) = (j : Int) := ⟨_, (Int.toNat_of_nonneg hj.1).symm⟩
              rw [hjj] at P7
              have ne : ¬ xs.length = 0 := by omega
              have c1 := jl xs j
              have c2 : ii xs (some ((j : Int) + 1)) none = xs.drop (j + 1) := dA xs (j + 1)
              have c3 : ii xs none (some ((j : Int) + 1)) = xs.take (j + 1) := jl xs (j + 1)
              have c4 := dA xs j
              by_cases h20 : bF ns (a + 1) 23 < 20
              . have d2 : decide (bF ns (a + 1) 23 < 20) = true := by simp [h20]
                have e : lO ns a (.tup xs) = .tup (xs.take j ++ xs.drop (j + 1)) := by simp only [lO, hw, if_false, ne, h20, if_true, hjj, Int.toNat_natCast]
                rw [e] at P6
                have a1 : bw (.tup (xs.take j)) (.tup (xs.drop (j + 1))) = some (.tup (xs.take j ++ xs.drop (j + 1))) := mS (by have := bc; simp; omega)
                clear hw hw0 hm e hj hjj hs h20 hl0 ne hxs
                walk_at "run"
              . have d2 : decide (bF ns (a + 1) 23 < 20) = false := by simp [h20]
                have e : lO ns a (.tup xs) = .tup (xs.take (j + 1) ++ xs.drop j) := by simp only [lO, hw, if_false, ne, h20, hjj, Int.toNat_natCast]
                rw [e] at P6
                have a1 : bw (.tup (xs.take (j + 1))) (.tup (xs.drop j)) = some (.tup (xs.take (j + 1) ++ xs.drop j)) := mS (by have := bc; simp; omega)
                clear hw hw0 hm e hj hjj hs h20 hl0 ne hxs
                walk_at "run"
      . refine Or.inl ?_; simp only [cE, hi]; rw [if_neg hk]
theorem sx (h : D) (hp : ∀ m, good m h = true) (k : Nat) : good 4 ((gW h).getD k .non) = true := by
  have h3 := hp 3
  have hall : ∀ x ∈ gW h, good 4 x = true := by
    have e : (gW h).all (good 4) = true := by
      have e0 : (gW h).all (good 4) = (good 3 h && (good 3 h && good 3 h)) := by cases hh : good 3 h <;> simp [gW, good, hh] <;> decide
      rw [e0, h3]; rfl
    exact List.all_eq_true.1 e
  rcases Nat.lt_or_ge k (gW h).length with hk | hk
  . rw [List.getD_eq_getElem?_getD, List.getElem?_eq_getElem hk]
    exact hall _ (List.getElem_mem hk)
  . rw [List.getD_eq_getElem?_getD, List.getElem?_eq_none hk]; rfl
theorem vm (ns : List Int) (a : Nat) (h : D) {m : Nat} (hp : pt m h = true) : good 4 (lO ns a h) = true := by
  have hg : ∀ j, good j h = true := fun j => pj m j h hp
  unfold lO
  split
  . exact sx h hg _
  . cases h <;> first | rfl | skip
    . rename_i x
      have h1 : x.length <= 900 := by cases m <;> simp [pt] at hp; exact hp
      have h2 := lS (bF ns (a + 1) 23)
      simp only [good, decide_eq_true_eq, List.length_append, List.length_take, List.length_drop]
      omega
    . rename_i xs
      have h1 : ∀ x ∈ xs, good 3 x = true := by
        have := hg 4
        simp only [good, List.all_eq_true] at this
        exact this
      dsimp only
      split
      . rfl
      . split
        all_goals
          simp only [good, List.all_eq_true, List.mem_append]
          intro x hx
          rcases hx with hx | hx
          . exact h1 x (List.mem_of_mem_take hx)
          . exact h1 x (List.mem_of_mem_drop hx)
theorem tK (n : Nat) (rows : List D) (h : ∀ d ∈ rows, ∃ x, d = D.str x) : (cj (n + 2) (.tup rows)).length = 1 + rows.length := by
  have key : ∀ ks : List Nat, (∀ k ∈ ks, k < rows.length) -> (ks.flatMap fun k => (cj (n + 1) (rows.getD k .non)).map (k :: ·)).length = ks.length := by
    intro ks
    induction ks with
    | nil => intro _; rfl
    | cons k ks ih =>
      intro hk
      have hlt := hk k (List.mem_cons_self ..)
      have g1 : rows[k]? = some (rows.getD k .non) := by rw [List.getElem?_eq_getElem hlt]; simp [List.getD, hlt]
      obtain ⟨x, hx⟩ := h _ (List.mem_of_getElem? g1)
      rw [List.flatMap_cons, List.length_append, ih fun j hj => hk j (List.mem_cons_of_mem _ hj), hx]
      simp [cj]; omega
  simp only [cj, List.length_cons]
  rw [key _ fun k hk => List.mem_range.1 hk, List.length_range]; omega
theorem BF {wd a b : Int} {rows : List D} (hn : rows.length <= 12) (hr : ∀ d ∈ rows, ∃ x, d = D.str x /\ x.length <= 40) : pt 4 (.tup [.int wd, .tup rows, .tup [.int a, .int b]]) = true := by
  have h3 : rows.all (pt 2) = true := by
    rw [List.all_eq_true]
    intro d hd
    obtain ⟨x, rfl, hx⟩ := hr d hd
    simp only [pt, decide_eq_true_eq]; omega
  simp only [pt, List.all_cons, List.all_nil, Bool.and_true, h3, Bool.true_and, decide_eq_true_eq, Bool.and_eq_true, List.length_cons, List.length_nil]
  omega
theorem zx {wd a b : Int} {rows : List D} (hn : rows.length <= 12) (hr : ∀ d ∈ rows, ∃ x, d = D.str x /\ x.length <= 40) : okd 4 (.tup [.int wd, .tup rows, .tup [.int a, .int b]]) = true := by
  have hs : ∀ d ∈ rows, ∃ x, d = D.str x := fun d hd => let ⟨x, e, _⟩ := hr d hd; ⟨x, e⟩
  have h3 : rows.all (okd 2) = true := by
    rw [List.all_eq_true]
    intro d hd
    obtain ⟨x, rfl⟩ := hs d hd
    rfl
  have p1 := tK 1 rows hs
  have p2 : (cj 4 (.tup [.int wd, .tup rows, .tup [.int a, .int b]])).length = 6 + rows.length := by
    have e : cj 4 (.tup [.int wd, .tup rows, .tup [.int a, .int b]]) = [] :: ((cj 3 (.int wd)).map (0 :: ·) ++ ((cj 3 (.tup rows)).map (1 :: ·) ++ ((cj 3 (.tup [.int a, .int b])).map (2 :: ·) ++ []))) := rfl
    rw [e]
    simp only [List.length_cons, List.length_append, List.length_map, p1, List.length_nil]
    have e1 : (cj 3 (.int wd)).length = 1 := rfl
    have e2 : (cj 3 (.tup [.int a, .int b])).length = 3 := rfl
    rw [e1, e2]; omega
  have a1 : okd 3 (.tup rows) = true := by
    simp only [okd, h3, Bool.true_and, p1, Bool.and_eq_true, decide_eq_true_eq]; omega
  have a2 : okd 3 (.tup [.int a, .int b]) = true := rfl
  have a3 : okd 3 (.int wd) = true := rfl
  have e : okd 4 (.tup [.int wd, .tup rows, .tup [.int a, .int b]]) = ([.int wd, .tup rows, .tup [.int a, .int b]].all (okd 3) && decide ((cj 4 (.tup [.int wd, .tup rows, .tup [.int a, .int b]])).length <= 1000) && decide (3 <= 1000)) := rfl
  rw [e, List.all_cons, List.all_cons, List.all_cons, a1, a2, a3, p2, List.all_nil]
  simp; omega
theorem tY {wd a b : Int} {rows : List D} (ns : List Int) (fz : Bool) (k : Nat) (hn : rows.length <= 12) (hr : ∀ d ∈ rows, ∃ x, d = D.str x /\ x.length <= 40) : ∃ d, cE [.lst fz (ns.map .int), .int (k : Int), .tup [.int wd, .tup rows, .tup [.int a, .int b]]] = .ok d /\ good 4 d = true := by
  have h1 := BF (wd := wd) (a := a) (b := b) hn hr
  have h2 := zx (wd := wd) (a := a) (b := b) hn hr
  generalize D.tup [.int wd, .tup rows, .tup [.int a, .int b]] = T at h1 h2
  obtain ⟨⟨x, hx, m, hm⟩, hp⟩ := ng 4 T _ h1 (mT ns k T)
  obtain ⟨r, hr⟩ := hp (lO ns k x)
  refine ⟨r, ?_, qR 4 _ _ _ r hr (pj 4 4 _ h1) (vm ns k x hm)⟩
  have e : cE [.lst fz (ns.map .int), .int (k : Int), T] = ofO (oK (dm ns k T) T (lO ns k ((uh (dm ns k T) T).getD .non))) := by
    simp only [cE, dE, Int.toNat_natCast]
    rw [if_pos ⟨by omega, h1, h2⟩]
  rw [e, hx, Option.getD_some, hr]; rfl
end Q
namespace Q
open L2
open PySem (sizeLine Addr)
noncomputable def ol (bn : List D -> R D) : Ev -> O := (bO (iK (g2 eqF (gOf dw (ac (fun ρ => rdV ρ 0) (fun _ => R.ok []))) (fun _ => R.ok (D.int 2))) (iK (g2 eqF (g2 ixD (fun ρ => rdV ρ 0) (fun _ => R.ok (D.int 0))) (fun _ => R.ok (D.str [115, 97, 121]))) (iK (aR 1 bn (ac (g2 ixD (fun ρ => rdV ρ 0) (fun _ => R.ok (D.int 1))) (fun _ => R.ok []))) (g3 leD leD (fun _ => R.ok (D.int 1)) (gOf dw (ac (g2 ixD (fun ρ => rdV ρ 0) (fun _ => R.ok (D.int 1))) (fun _ => R.ok []))) (fun _ => R.ok (D.int 40)))))))
noncomputable def fV (bn : List D -> R D) : Ev -> O := (aM (ol bn) oNx)
noncomputable def qv (aJ : List D -> R D) : Ev -> O := (oIf (ig (gB2 neF (gOf dw (ac (fun ρ => rdV ρ 0) (fun _ => R.ok []))) (fun _ => R.ok (D.int 3))) (gB2 neF (g2 ixD (fun ρ => rdV ρ 0) (fun _ => R.ok (D.int 0))) (fun _ => R.ok (D.str [103, 111])))) (aM (bO (fun _ => R.ok (D.bl false))) oNx) oNx)
noncomputable def qU (aJ : List D -> R D) : Ev -> O := (bO (iK (aR 3 aJ (ac (g2 ixD (fun ρ => rdV ρ 0) (fun _ => R.ok (D.int 1))) (ac (fun _ => R.ok (D.int 0)) (ac (g2 oO (fun _ => R.ok (D.int 12)) (fun _ => R.ok (D.int 1))) (fun _ => R.ok []))))) (aR 3 aJ (ac (g2 ixD (fun ρ => rdV ρ 0) (fun _ => R.ok (D.int 2))) (ac (fun _ => R.ok (D.int 0)) (ac (fun _ => R.ok (D.int 40)) (fun _ => R.ok [])))))))
noncomputable def ia (aJ : List D -> R D) : Ev -> O := (aM (qv aJ) (aM (qU aJ) oNx))
noncomputable def kH (dq fb : List D -> R D) : Ev -> O := (oIf (gBn (aI fw (aI (dh (· == "tuple")) (fun ρ => rdV ρ 0)))) (aM (bO (fun _ => R.ok (D.bl false))) oNx) oNx)
noncomputable def kL (dq fb : List D -> R D) : Ev -> O := (bO (gOr (aR 1 dq (ac (fun ρ => rdV ρ 0) (fun _ => R.ok []))) (gOr (aR 1 fb (ac (fun ρ => rdV ρ 0) (fun _ => R.ok []))) (g2 eqF (fun ρ => rdV ρ 0) (aI mkT (ac (fun _ => R.ok (D.str [119, 105, 112, 101])) (fun _ => R.ok [])))))))
noncomputable def dU (dq fb : List D -> R D) : Ev -> O := (aM (kH dq fb) (aM (kL dq fb) oNx))
noncomputable def gv (cT : List D -> R D) (ae : Addr) : Ev -> O := (oIf (gBn (aI fw (aR 1 cT (ac (fun ρ => rdV ρ 0) (fun _ => R.ok []))))) (aM (gM ae (ac (fun _ => R.ok (D.str [116, 104, 105, 115, 32, 105, 115, 32, 110, 111, 32, 111, 114, 100, 101, 114])) (fun _ => R.ok []))) oNx) oNx)
noncomputable def cL (cT : List D -> R D) (ae : Addr) : Ev -> O := (aM (gv cT ae) oNx)
noncomputable def de : Ev -> O := (cP 3 (g2 ixD (g2 ixD (fun ρ => rdV ρ 0) (fun _ => R.ok (D.int 2))) (fun _ => R.ok (D.int 0))))
noncomputable def df : Ev -> O := (cP 4 (g2 bw (g2 bw (gSl (g2 ixD (fun ρ => rdV ρ 0) (fun _ => R.ok (D.int 1))) (fun _ => R.ok none) (da (fun ρ => rdV ρ 3))) (aI mkT (ac (fun ρ => rdV ρ 1) (fun _ => R.ok [])))) (gSl (g2 ixD (fun ρ => rdV ρ 0) (fun _ => R.ok (D.int 1))) (da (g2 bw (fun ρ => rdV ρ 3) (fun _ => R.ok (D.int 1)))) (fun _ => R.ok none))))
noncomputable def di : Ev -> O := (bO (aI mkT (ac (g2 ixD (fun ρ => rdV ρ 0) (fun _ => R.ok (D.int 0))) (ac (fun ρ => rdV ρ 4) (ac (aI mkT (ac (fun ρ => rdV ρ 3) (ac (fun ρ => rdV ρ 2) (fun _ => R.ok [])))) (fun _ => R.ok []))))))
noncomputable def bK : Ev -> O := (aM de (aM df (aM di oNx)))
noncomputable def iP (aw : List D -> R D) (ah : Addr) : Ev -> O := (cP 2 (g2 ixD (g2 ixD (fun ρ => rdV ρ 0) (fun _ => R.ok (D.int 1))) (g2 ixD (g2 ixD (fun ρ => rdV ρ 0) (fun _ => R.ok (D.int 2))) (fun _ => R.ok (D.int 0)))))
noncomputable def iI (aw : List D -> R D) (ah : Addr) : Ev -> O := (cP 3 (g2 ixD (g2 ixD (fun ρ => rdV ρ 0) (fun _ => R.ok (D.int 2))) (fun _ => R.ok (D.int 1))))
noncomputable def iL (aw : List D -> R D) (ah : Addr) : Ev -> O := (cP 4 (g2 bw (fun ρ => rdV ρ 3) (gOf dw (ac (fun ρ => rdV ρ 1) (fun _ => R.ok [])))))
noncomputable def ja (aw : List D -> R D) (ah : Addr) : Ev -> O := (oIf (gB2 gtD (fun ρ => rdV ρ 4) (g2 ixD (fun ρ => rdV ρ 0) (fun _ => R.ok (D.int 0)))) (aM (gM ah (ac (fun _ => R.ok (D.str [116, 104, 101, 32, 116, 101, 120, 116, 32, 105, 115, 32, 119, 105, 100, 101, 114, 32, 116, 104, 97, 110, 32, 119, 104, 97, 116, 32, 105, 115, 32, 108, 101, 102, 116, 32, 111, 102, 32, 116, 104, 101, 32, 114, 111, 119])) (fun _ => R.ok []))) oNx) oNx)
noncomputable def iR (aw : List D -> R D) (ah : Addr) : Ev -> O := (bO (aR 3 aw (ac (fun ρ => rdV ρ 0) (ac (g2 bw (g2 bw (gSl (fun ρ => rdV ρ 2) (fun _ => R.ok none) (da (fun ρ => rdV ρ 3))) (fun ρ => rdV ρ 1)) (gSl (fun ρ => rdV ρ 2) (da (fun ρ => rdV ρ 4)) (fun _ => R.ok none))) (ac (fun ρ => rdV ρ 4) (fun _ => R.ok []))))))
noncomputable def dt (aw : List D -> R D) (ah : Addr) : Ev -> O := (aM (iP aw ah) (aM (iI aw ah) (aM (iL aw ah) (aM (ja aw ah) (aM (iR aw ah) oNx)))))
noncomputable def jR (ah : Addr) : Ev -> O := (oIf (ig (gB2 geD (fun ρ => rdV ρ 1) (gOf dw (ac (g2 ixD (fun ρ => rdV ρ 0) (fun _ => R.ok (D.int 1))) (fun _ => R.ok [])))) (gB2 gtD (fun ρ => rdV ρ 2) (g2 ixD (fun ρ => rdV ρ 0) (fun _ => R.ok (D.int 0))))) (aM (gM ah (ac (fun _ => R.ok (D.str [116, 104, 101, 32, 115, 99, 114, 101, 101, 110, 32, 100, 111, 101, 115, 32, 110, 111, 116, 32, 104, 97, 118, 101, 32, 116, 104, 105, 115, 32, 112, 108, 97, 99, 101])) (fun _ => R.ok []))) oNx) oNx)
noncomputable def kz (ah : Addr) : Ev -> O := (bO (aI mkT (ac (g2 ixD (fun ρ => rdV ρ 0) (fun _ => R.ok (D.int 0))) (ac (g2 ixD (fun ρ => rdV ρ 0) (fun _ => R.ok (D.int 1))) (ac (aI mkT (ac (fun ρ => rdV ρ 1) (ac (fun ρ => rdV ρ 2) (fun _ => R.ok [])))) (fun _ => R.ok []))))))
noncomputable def dR (ah : Addr) : Ev -> O := (aM (jR ah) (aM (kz ah) oNx))
noncomputable def gU (aw : List D -> R D) : Ev -> O := (cP 1 (g2 ixD (g2 ixD (fun ρ => rdV ρ 0) (fun _ => R.ok (D.int 1))) (g2 ixD (g2 ixD (fun ρ => rdV ρ 0) (fun _ => R.ok (D.int 2))) (fun _ => R.ok (D.int 0)))))
noncomputable def gR (aw : List D -> R D) : Ev -> O := (cP 2 (g2 ixD (g2 ixD (fun ρ => rdV ρ 0) (fun _ => R.ok (D.int 2))) (fun _ => R.ok (D.int 1))))
noncomputable def gL (aw : List D -> R D) : Ev -> O := (bO (aR 3 aw (ac (fun ρ => rdV ρ 0) (ac (mv "str" lR (gSl (fun ρ => rdV ρ 1) (fun _ => R.ok none) (da (fun ρ => rdV ρ 2))) (ac (g2 ixD (fun ρ => rdV ρ 0) (fun _ => R.ok (D.int 0))) (fun _ => R.ok []))) (ac (fun ρ => rdV ρ 2) (fun _ => R.ok []))))))
noncomputable def cW (aw : List D -> R D) : Ev -> O := (aM (gU aw) (aM (gR aw) (aM (gL aw) oNx)))
noncomputable def gq (bD bP bu : List D -> R D) : Ev -> O := (oIf (gB2 eqF (g2 ixD (fun ρ => rdV ρ 1) (fun _ => R.ok (D.int 0))) (fun _ => R.ok (D.str [115, 97, 121]))) (aM (bO (aR 2 bD (ac (fun ρ => rdV ρ 0) (ac (g2 ixD (fun ρ => rdV ρ 1) (fun _ => R.ok (D.int 1))) (fun _ => R.ok []))))) oNx) oNx)
noncomputable def gz (bD bP bu : List D -> R D) : Ev -> O := (oIf (gB2 eqF (g2 ixD (fun ρ => rdV ρ 1) (fun _ => R.ok (D.int 0))) (fun _ => R.ok (D.str [103, 111]))) (aM (bO (aR 3 bP (ac (fun ρ => rdV ρ 0) (ac (g2 ixD (fun ρ => rdV ρ 1) (fun _ => R.ok (D.int 1))) (ac (g2 ixD (fun ρ => rdV ρ 1) (fun _ => R.ok (D.int 2))) (fun _ => R.ok [])))))) oNx) oNx)
noncomputable def gj (bD bP bu : List D -> R D) : Ev -> O := (bO (aR 1 bu (ac (fun ρ => rdV ρ 0) (fun _ => R.ok []))))
noncomputable def cH (bD bP bu : List D -> R D) : Ev -> O := (aM (gq bD bP bu) (aM (gz bD bP bu) (aM (gj bD bP bu) oNx)))
noncomputable def uz (aE aP aG : List D -> R D) : Ev -> O := (ln (aR 1 aE (ac (fun ρ => rdV ρ 0) (fun _ => R.ok []))))
noncomputable def uA (aE aP aG : List D -> R D) : Ev -> O := (ln (aR 1 aP (ac (fun ρ => rdV ρ 1) (fun _ => R.ok []))))
noncomputable def tZ (aE aP aG : List D -> R D) : Ev -> O := (bO (aR 2 aG (ac (fun ρ => rdV ρ 0) (ac (fun ρ => rdV ρ 1) (fun _ => R.ok [])))))
noncomputable def jo (aE aP aG : List D -> R D) : Ev -> O := (aM (uz aE aP aG) (aM (uA aE aP aG) (aM (tZ aE aP aG) oNx)))
noncomputable def jG : Ev -> O := (AL (yo [2, 3, 4]) (fun ρ => rdV ρ 0))
noncomputable def jH : Ev -> O := (oIf (gB2 eqF (g2 ixD (fun ρ => rdV ρ 1) (fun _ => R.ok (D.int 0))) (fun _ => R.ok (D.str [103, 111]))) (aM (cP 5 (iK (g2 ltD (g2 ixD (fun ρ => rdV ρ 1) (fun _ => R.ok (D.int 1))) (gOf dw (ac (fun ρ => rdV ρ 3) (fun _ => R.ok [])))) (g2 leD (g2 ixD (fun ρ => rdV ρ 1) (fun _ => R.ok (D.int 2))) (fun ρ => rdV ρ 2)))) (aM (bO (gIf (aI fw (fun ρ => rdV ρ 5)) (aI mkT (ac (fun ρ => rdV ρ 2) (ac (fun ρ => rdV ρ 3) (ac (aI mkT (ac (g2 ixD (fun ρ => rdV ρ 1) (fun _ => R.ok (D.int 1))) (ac (g2 ixD (fun ρ => rdV ρ 1) (fun _ => R.ok (D.int 2))) (fun _ => R.ok [])))) (fun _ => R.ok []))))) (fun _ => R.ok (D.str [110, 111, 32, 114, 111, 111, 109])))) oNx)) oNx)
noncomputable def ky : Ev -> O := (cP 6 (gIf (gB2 eqF (g2 ixD (fun ρ => rdV ρ 1) (fun _ => R.ok (D.int 0))) (fun _ => R.ok (D.str [115, 97, 121]))) (g2 ixD (fun ρ => rdV ρ 1) (fun _ => R.ok (D.int 1))) (g2 gn (fun _ => R.ok (D.str [32])) (g2 oO (fun ρ => rdV ρ 2) (g2 ixD (fun ρ => rdV ρ 4) (fun _ => R.ok (D.int 1)))))))
noncomputable def km : Ev -> O := (cP 7 (g2 bw (g2 ixD (fun ρ => rdV ρ 4) (fun _ => R.ok (D.int 1))) (gOf dw (ac (fun ρ => rdV ρ 6) (fun _ => R.ok [])))))
noncomputable def kh : Ev -> O := (oIf (gB2 gtD (fun ρ => rdV ρ 7) (fun ρ => rdV ρ 2)) (aM (bO (fun _ => R.ok (D.str [110, 111, 32, 114, 111, 111, 109]))) oNx) oNx)
noncomputable def kU : Ev -> O := (cP 8 (g2 ixD (fun ρ => rdV ρ 3) (g2 ixD (fun ρ => rdV ρ 4) (fun _ => R.ok (D.int 0)))))
noncomputable def kI : Ev -> O := (cP 8 (g2 bw (g2 bw (gSl (fun ρ => rdV ρ 8) (fun _ => R.ok none) (da (g2 ixD (fun ρ => rdV ρ 4) (fun _ => R.ok (D.int 1))))) (fun ρ => rdV ρ 6)) (gSl (fun ρ => rdV ρ 8) (da (fun ρ => rdV ρ 7)) (fun _ => R.ok none))))
noncomputable def kf : Ev -> O := (cP 9 (g2 bw (g2 bw (gSl (fun ρ => rdV ρ 3) (fun _ => R.ok none) (da (g2 ixD (fun ρ => rdV ρ 4) (fun _ => R.ok (D.int 0))))) (aI mkT (ac (fun ρ => rdV ρ 8) (fun _ => R.ok [])))) (gSl (fun ρ => rdV ρ 3) (da (g2 bw (g2 ixD (fun ρ => rdV ρ 4) (fun _ => R.ok (D.int 0))) (fun _ => R.ok (D.int 1)))) (fun _ => R.ok none))))
noncomputable def kn : Ev -> O := (bO (aI mkT (ac (fun ρ => rdV ρ 2) (ac (fun ρ => rdV ρ 9) (ac (aI mkT (ac (g2 ixD (fun ρ => rdV ρ 4) (fun _ => R.ok (D.int 0))) (ac (gIf (gB2 eqF (g2 ixD (fun ρ => rdV ρ 1) (fun _ => R.ok (D.int 0))) (fun _ => R.ok (D.str [115, 97, 121]))) (fun ρ => rdV ρ 7) (g2 ixD (fun ρ => rdV ρ 4) (fun _ => R.ok (D.int 1)))) (fun _ => R.ok [])))) (fun _ => R.ok []))))))
noncomputable def ee : Ev -> O := (aM jG (aM jH (aM ky (aM km (aM kh (aM kU (aM kI (aM kf (aM kn oNx)))))))))
def fZ : D -> Bool
  | .tup [.str x, .str y] => (x == [115, 97, 121]) && (plain y && (decide (1 <= y.length) && decide (y.length <= 40)))
  | _ => false
def lN : D -> Bool
  | .tup [.str x, b, c] => (x == [103, 111]) && (inB b 0 11 && inB c 0 40)
  | _ => false
def eN : D -> Bool
  | .tup [.str x] => x == [119, 105, 112, 101]
  | _ => false
def bU (d : D) : Bool := fZ d || (lN d || eN d)
def B3 : List D -> R D
  | [.tup xs] => if good 3 (.tup xs) = true then .ok (.bl (fZ (.tup xs))) else .no
  | _ => .no
def goF : List D -> R D
  | [.tup xs] => if good 3 (.tup xs) = true then .ok (.bl (lN (.tup xs))) else .no
  | _ => .no
def tu : List D -> R D
  | [d] => if good 3 d = true then .ok (.bl (bU d)) else .no
  | _ => .no
def fG (C : Addr) : List D -> R D
  | [d] => if good 3 d = true then (if bU d = true then .ok .non else .ex C) else .no
  | _ => .no
def isX (x : List Nat) : D -> Bool
  | .str y => y == x
  | _ => false
def Bh : D -> Bool
  | .str y => decide (1 <= y.length) && decide (y.length <= 40)
  | _ => false
theorem vJ (a b : D) : fZ (.tup [a, b]) = (isX ([115, 97, 121]) a && (ze b && Bh b)) := by
  cases a <;> cases b <;> first | rfl | (simp only [fZ, isX, ze, Bh, Bool.and_false, Bool.false_and])
theorem DG (a b c : D) : lN (.tup [a, b, c]) = (isX ([103, 111]) a && (inB b 0 11 && inB c 0 40)) := by
  cases a <;> first | rfl | (simp only [lN, isX, Bool.false_and])
theorem zu (a : D) : eN (.tup [a]) = isX ([119, 105, 112, 101]) a := by
  cases a <;> rfl
theorem A9 {d : D} (h : gC d = true) (x : List Nat) : eqF d (.str x) = some (.bl (isX x d)) := by
  cases d <;> first | (cases h; done) | rfl
theorem BZ {d : D} (h : gC d = true) (x : List Nat) : neF d (.str x) = some (.bl (!isX x d)) := by
  cases d <;> first | (cases h; done) | rfl
theorem ik {n : Nat} {d : D} (h : good (n + 1) d = true) : gC d = true := by
  cases d <;> first | (simp [good] at h; done) | rfl
theorem vU {n : Nat} {d : D} (h : good (n + 1) d = true) : iq [d] = .ok (.bl (ze d)) := by
  cases d <;> first | (simp [good] at h; done) | rfl | skip
  rename_i x
  simp only [good, decide_eq_true_eq] at h
  have := bc
  exact if_pos (by omega)
theorem tT : ∀ ds : List D, ds.length = 1 -> B3 ds = .no \/ aK (fV iq (aN 1 ds)) = B3 ds := by
  have c1 : True := trivial
  have c2 : True := trivial
  have c3 : True := trivial
  have r1 : True := trivial
  have k1 : True := trivial
  have k3 : True := trivial
  intro ds hl
  unfold fV ol
  match ds, hl with
  | [d], _ =>
    cases d <;> first | exact Or.inl rfl | skip
    rename_i xs hl
    by_cases hg : good 3 (.tup xs) = true
    . refine Or.inr ?_
      have e2 : B3 [.tup xs] = .ok (.bl (fZ (.tup xs))) := if_pos hg
      rw [e2]
      show aK (aM _ _ [some (.val (.tup xs))]) = _
      clear hl e2 c1
      match xs, hg with
      | [], _ =>
        have q : (((0 : Nat) : Int) == 2) = false := rfl
        walk_at "run"
        all_goals rfl
      | [a], _ =>
        have q : (((1 : Nat) : Int) == 2) = false := rfl
        have e : fZ (.tup [a]) = false := by cases a <;> rfl
        walk_at "run"
      | a :: b :: c :: l, _ =>
        have q : (((l.length + 1 + 1 + 1 : Nat) : Int) == 2) = false := by simp; omega
        have e : fZ (.tup (a :: b :: c :: l)) = false := by cases a <;> cases b <;> rfl
        walk_at "run"
      | [a, b], hg =>
        simp only [good, List.all_cons, List.all_nil, Bool.and_true, Bool.and_eq_true] at hg
        have q : (((2 : Nat) : Int) == 2) = true := rfl
        have x0 : ixD (.tup [a, b]) (.int 0) = some a := rfl
        have x1 : ixD (.tup [a, b]) (.int 1) = some b := rfl
        have p1 := vU hg.2
        have ea := A9 (ik hg.1) ([115, 97, 121])
        rw [vJ]
        cases h1 : isX ([115, 97, 121]) a with
        | false =>
          walk_at "run"
          all_goals rfl
        | true =>
          cases h2 : ze b with
          | false =>
            walk_at "run"
            all_goals rfl
          | true =>
            cases b <;> first | (cases h2; done) | skip
            rename_i y
            simp only [Bh]
            have d3 : ∀ n : Nat, decide ((1 : Int) <= (n : Int)) = decide (1 <= n) := fun n => by by_cases h : 1 <= n <;> simp [h] <;> omega
            have d4 : ∀ n : Nat, decide ((n : Int) <= (40 : Int)) = decide (n <= 40) := fun n => by by_cases h : n <= 40 <;> simp [h] <;> omega
            clear hg
            cases h3 : decide (1 <= y.length) <;> cases h4 : decide (y.length <= 40)
            all_goals
              walk_at "run"
              try rfl
    . exact Or.inl (if_neg hg)
theorem wC : ∀ ds : List D, ds.length = 1 -> goF ds = .no \/ aK (ia uE (aN 1 ds)) = goF ds := by
  have c1 : True := trivial
  have c2 : True := trivial
  have c3 : True := trivial
  have r1 : True := trivial
  have k1 : True := trivial
  have k3 : True := trivial
  intro ds hl
  unfold ia qU qv
  match ds, hl with
  | [d], _ =>
    cases d <;> first | exact Or.inl rfl | skip
    rename_i xs hl
    by_cases hg : good 3 (.tup xs) = true
    . refine Or.inr ?_
      have e2 : goF [.tup xs] = .ok (.bl (lN (.tup xs))) := if_pos hg
      rw [e2]
      show aK (aM _ _ [some (.val (.tup xs))]) = _
      clear hl e2 c1
      match xs, hg with
      | [], _ =>
        have q : (((0 : Nat) : Int) == 3) = false := rfl
        walk_at "run"
        all_goals rfl
      | [a], _ =>
        have q : (((1 : Nat) : Int) == 3) = false := rfl
        have e : lN (.tup [a]) = false := by cases a <;> rfl
        walk_at "run"
      | [a, b], _ =>
        have q : (((2 : Nat) : Int) == 3) = false := rfl
        have e : lN (.tup [a, b]) = false := by cases a <;> rfl
        walk_at "run"
      | a :: b :: c :: d :: l, _ =>
        have q : (((l.length + 1 + 1 + 1 + 1 : Nat) : Int) == 3) = false := by simp; omega
        have e : lN (.tup (a :: b :: c :: d :: l)) = false := by cases a <;> rfl
        walk_at "run"
      | [a, b, c], hg =>
        simp only [good, List.all_cons, List.all_nil, Bool.and_true, Bool.and_eq_true] at hg
        have q : (((3 : Nat) : Int) == 3) = true := rfl
        have x0 : ixD (.tup [a, b, c]) (.int 0) = some a := rfl
        have x1 : ixD (.tup [a, b, c]) (.int 1) = some b := rfl
        have x2 : ixD (.tup [a, b, c]) (.int 2) = some c := rfl
        have ea := BZ (ik hg.1) ([103, 111])
        have p1 := cF (lo := 0) (hi := 11) (ik hg.2.1)
        have p2 := cF (lo := 0) (hi := 40) (ik hg.2.2)
        have m1 : (12 : Int) - 1 = 11 := rfl
        rw [DG]
        clear hg
        cases h1 : isX ([103, 111]) a with
        | false =>
          walk_at "run"
          all_goals rfl
        | true =>
          cases h2 : inB b 0 11 <;> cases h3 : inB c 0 40
          all_goals
            walk_at "run"
            try rfl
    . exact Or.inl (if_neg hg)
theorem Aa {xs : List D} (hg : good 3 (.tup xs) = true) : eqF (.tup xs) (.tup [.str [119, 105, 112, 101]]) = some (.bl (eN (.tup xs))) := by
  match xs, hg with
  | [], _ => rfl
  | [a], hg =>
    simp only [good, List.all_cons, List.all_nil, Bool.and_true] at hg
    rw [zu]
    have := ik hg
    cases a <;> first | (cases this; done) | skip
    all_goals simp [eqF, eqD, eqZ, isX]
  | a :: b :: l, hg =>
    simp only [good, List.all_cons, Bool.and_eq_true] at hg
    have := ik hg.1
    have e : eN (.tup (a :: b :: l)) = false := by cases a <;> rfl
    rw [e]
    cases a <;> first | (cases this; done) | skip
    all_goals simp [eqF, eqD, eqZ]
theorem oQ : ∀ ds : List D, ds.length = 1 -> tu ds = .no \/ aK (dU B3 goF (aN 1 ds)) = tu ds := by
  have c1 : True := trivial
  have c2 : True := trivial
  have c3 : True := trivial
  have r1 : True := trivial
  have k1 : True := trivial
  have k3 : True := trivial
  intro ds hl
  unfold dU kL kH
  match ds, hl with
  | [d], _ =>
    by_cases hg : good 3 d = true
    . refine Or.inr ?_
      have e2 : tu [d] = .ok (.bl (bU d)) := if_pos hg
      rw [e2]
      show aK (aM _ _ [some (.val d)]) = _
      clear hl e2 c1 c2
      cases d <;> first | (simp [good] at hg; done) | rfl | skip
      rename_i xs hl2
      clear hl2
      have y1 : dh (fun x => x == "tuple") (.tup xs) = .ok (.bl true) := rfl
      have s1 : B3 [.tup xs] = .ok (.bl (fZ (.tup xs))) := if_pos hg
      have s2 : goF [.tup xs] = .ok (.bl (lN (.tup xs))) := if_pos hg
      have s3 := Aa hg
      have k1 : ∀ x, mkT [x] = .ok (.tup [x]) := fun _ => m_t (by simp)
      unfold bU
      clear hg
      cases h1 : fZ (.tup xs) <;> cases h2 : lN (.tup xs)
      all_goals
        walk_at "run"
        try rfl
    . exact Or.inl (if_neg hg)
theorem kZ {C : Addr} : ∀ ds : List D, ds.length = 1 -> (fG C) ds = .no \/ aK (cL tu C (aN 1 ds)) = (fG C) ds := by
  have c1 : True := trivial
  have c2 : True := trivial
  have c3 : True := trivial
  have r1 : True := trivial
  have k1 : True := trivial
  have k3 : True := trivial
  intro ds hl
  unfold cL gv
  match ds, hl with
  | [d], _ =>
    by_cases hg : good 3 d = true
    . refine Or.inr ?_
      have e1 : tu [d] = .ok (.bl (bU d)) := if_pos hg
      have e2 : fG C [d] = if bU d = true then .ok .non else .ex C := if_pos hg
      rw [e2]
      show aK (aM _ _ [some (.val d)]) = _
      clear hl e2 c1 hg
      cases h1 : bU d
      all_goals
        walk_at "run"
        try rfl
    . exact Or.inl (if_neg hg)
def scr (wd : Nat) (rows : List (List Nat)) (r c : Nat) : D := .tup [.int (wd : Int), .tup (rows.map .str), .tup [.int (r : Int), .int (c : Int)]]
def iC : List D -> Option (List (List Nat))
  | [] => some []
  | .str x :: ds => (iC ds).map (x :: ·)
  | _ :: _ => none
theorem nr : ∀ rows : List (List Nat), iC (rows.map .str) = some rows
  | [] => rfl
  | x :: rows => by simp [iC, nr rows]
theorem qy : ∀ {ds : List D} {rows : List (List Nat)}, iC ds = some rows -> ds = rows.map .str
  | [], rows, h => by simp [iC] at h; subst h; rfl
  | d :: ds, rows, h => by
    cases d <;> first | (simp [iC] at h; done) | skip
    rename_i x
    cases q : iC ds with
    | none => simp [iC, q] at h
    | some ms => simp [iC, q] at h; subst h; rw [qy q]; rfl
def gA : D -> Option (Nat × List (List Nat) × Nat × Nat)
  | .tup [.int wd, .tup rows, .tup [.int r, .int c]] => (iC rows).bind fun rs => if (0 <= wd /\ wd <= 100) /\ 0 <= r /\ (0 <= c /\ c <= wd) /\ r.toNat < rs.length /\ rs.length <= 100 /\ (rs.all fun x => decide (x.length = wd.toNat)) = true then some (wd.toNat, rs, r.toNat, c.toNat) else none
  | _ => none
structure SOk (wd : Nat) (rows : List (List Nat)) (r c : Nat) : Prop where
  w : wd <= 100
  c : c <= wd
  r : r < rows.length
  m : rows.length <= 100
  l : ∀ x ∈ rows, x.length = wd
theorem qL {wd : Nat} {rows : List (List Nat)} {r c : Nat} (h : SOk wd rows r c) : gA (scr wd rows r c) = some (wd, rows, r, c) := by
  obtain ⟨h1, h2, h3, h4, h5⟩ := h
  have h6 : (rows.all fun x => decide (x.length = wd)) = true := by rw [List.all_eq_true]; intro x hx; simp [h5 x hx]
  simp only [gA, scr, nr, Option.bind_some, Int.toNat_natCast]
  rw [if_pos (by refine ⟨⟨by omega, by omega⟩, by omega, ⟨by omega, by omega⟩, h3, h4, h6⟩)]
theorem fC {d : D} {wd : Nat} {rows : List (List Nat)} {r c : Nat} (h : gA d = some (wd, rows, r, c)) : d = scr wd rows r c /\ SOk wd rows r c := by
  unfold gA at h
  split at h
  . rename_i w0 rs0 r0 c0
    cases q : iC rs0 with
    | none => rw [q] at h; cases h
    | some rs =>
      rw [q, Option.bind_some] at h
      split at h
      . rename_i hc
        cases h
        obtain ⟨⟨a1, a2⟩, a3, ⟨a4, a5⟩, a6, a7, a8⟩ := hc
        rw [qy q]
        refine ⟨?_, ⟨by omega, by omega, a6, a7, fun x hx => of_decide_eq_true (List.all_eq_true.1 a8 x hx)⟩⟩
        unfold scr
        rw [Int.toNat_of_nonneg a1, Int.toNat_of_nonneg a3, Int.toNat_of_nonneg a4]
      . cases h
  . cases h
theorem sX {wd : Nat} {rows : List (List Nat)} {r c : Nat} (h : SOk wd rows r c) : (rows.map D.str)[r]? = some (.str (rows.getD r [])) /\ (rows.getD r []).length = wd := by
  have g : rows[r]? = some (rows.getD r []) := by rw [List.getElem?_eq_getElem h.r]; simp [List.getD, h.r]
  refine ⟨by rw [List.getElem?_map, g]; rfl, h.l _ (List.mem_of_getElem? g)⟩
theorem qr (rows : List (List Nat)) (r : Nat) (x : List Nat) (h : r < rows.length) : (rows.map D.str).take r ++ [D.str x] ++ (rows.map D.str).drop (r + 1) = (rows.set r x).map D.str := by
  rw [List.set_eq_take_append_cons_drop, if_pos h]
  simp [List.map_take, List.map_drop]
def lm : List D -> R D
  | [d, .str x, .int col] => match gA d with
    | some (wd, rows, r, _) => if 0 <= col then .ok (scr wd (rows.set r x) r col.toNat) else .no
    | none => .no
  | _ => .no
theorem gf : ∀ ds : List D, ds.length = 3 -> lm ds = .no \/ aK (bK (aN 5 ds)) = lm ds := by
  have c1 : True := trivial
  have c2 : True := trivial
  have c3 : True := trivial
  have r1 : True := trivial
  have k1 : True := trivial
  have k3 : True := trivial
  intro ds hl
  unfold bK di df de
  match ds, hl with
  | [d, xd, cd], _ =>
    cases xd <;> first | exact Or.inl rfl | skip
    cases cd <;> first | exact Or.inl rfl | skip
    rename_i x col hl
    cases hu : gA d with
    | none => refine Or.inl ?_; simp only [lm, hu]
    | some q =>
      obtain ⟨wd, rows, r, c⟩ := q
      by_cases hc : 0 <= col
      . refine Or.inr ?_
        have e2 : lm [d, .str x, .int col] = .ok (scr wd (rows.set r x) r col.toNat) := by simp only [lm, hu]; rw [if_pos hc]
        rw [e2]
        obtain ⟨rfl, ok⟩ := fC hu
        obtain ⟨j, rfl⟩ := Int.eq_ofNat_of_zero_le hc
        rw [Int.toNat_natCast]
        show aK (aM _ _ [some (.val (scr wd rows r c)), some (.val (.str x)), some (.val (.int (j : Int))), none, none]) = _
        have x0 : ixD (scr wd rows r c) (.int 0) = some (.int (wd : Int)) := rfl
        have x1 : ixD (scr wd rows r c) (.int 1) = some (.tup (rows.map .str)) := rfl
        have x2 : ixD (scr wd rows r c) (.int 2) = some (.tup [.int (r : Int), .int (c : Int)]) := rfl
        have x3 : ixD (.tup [.int (r : Int), .int (c : Int)]) (.int 0) = some (.int (r : Int)) := rfl
        have c1 := jl (rows.map D.str) r
        have c2 : ii (rows.map D.str) (some ((r : Int) + 1)) none = (rows.map D.str).drop (r + 1) := dA _ (r + 1)
        have k1 : ∀ x, mkT [x] = .ok (.tup [x]) := fun _ => m_t (by simp)
        have k2 : ∀ x y, mkT [x, y] = .ok (.tup [x, y]) := fun _ _ => m_t (by simp)
        have k3 : ∀ x y z, mkT [x, y, z] = .ok (.tup [x, y, z]) := fun _ _ _ => m_t (by simp)
        have a1 : bw (.tup ((rows.map D.str).take r)) (.tup [.str x]) = some (.tup ((rows.map D.str).take r ++ [.str x])) := mS (by have := bc; have := ok.m; simp; omega)
        have a2 : bw (.tup ((rows.map D.str).take r ++ [.str x])) (.tup ((rows.map D.str).drop (r + 1))) = some (.tup ((rows.set r x).map D.str)) := by
          rw [<- qr rows r x ok.r]; exact mS (by have := bc; have := ok.m; simp; omega)
        clear hu hc e2 ok
        walk_at "run"
        all_goals rfl
      . refine Or.inl ?_; simp only [lm, hu]; rw [if_neg hc]
def fL (C : Addr) : List D -> R D
  | [d, .str x] => match gA d with
    | some (wd, rows, r, c) => if x.length <= 900 then (if wd < c + x.length then .ex C else .ok (scr wd (rows.set r ((rows.getD r []).take c ++ x ++ (rows.getD r []).drop (c + x.length))) r (c + x.length))) else .no
    | none => .no
  | _ => .no
theorem qW {wd : Nat} {rows : List (List Nat)} {r c j : Nat} {x : List Nat} (ok : SOk wd rows r c) : lm [scr wd rows r c, .str x, .int (j : Int)] = .ok (scr wd (rows.set r x) r j) := by
  simp only [lm, qL ok, Int.toNat_natCast]
  rw [if_pos (by omega)]
theorem oH {C : Addr} : ∀ ds : List D, ds.length = 2 -> (fL C) ds = .no \/ aK (dt lm C (aN 5 ds)) = (fL C) ds := by
  have c1 : True := trivial
  have c2 : True := trivial
  have c3 : True := trivial
  have r1 : True := trivial
  have k1 : True := trivial
  have k3 : True := trivial
  intro ds hl
  unfold dt iR ja iL iI iP
  match ds, hl with
  | [d, xd], _ =>
    cases xd <;> first | exact Or.inl rfl | skip
    rename_i x hl
    cases hu : gA d with
    | none => refine Or.inl ?_; simp only [fL, hu]
    | some q =>
      obtain ⟨wd, rows, r, c⟩ := q
      by_cases hc : x.length <= 900
      . refine Or.inr ?_
        have e2 : fL C [d, .str x] = if wd < c + x.length then .ex C else .ok (scr wd (rows.set r ((rows.getD r []).take c ++ x ++ (rows.getD r []).drop (c + x.length))) r (c + x.length)) := by simp only [fL, hu]; rw [if_pos hc]
        rw [e2]
        obtain ⟨rfl, ok⟩ := fC hu
        show aK (aM _ _ [some (.val (scr wd rows r c)), some (.val (.str x)), none, none, none]) = _
        obtain ⟨g1, g2⟩ := sX ok
        have x0 : ixD (scr wd rows r c) (.int 0) = some (.int (wd : Int)) := rfl
        have x1 : ixD (scr wd rows r c) (.int 1) = some (.tup (rows.map .str)) := rfl
        have x2 : ixD (scr wd rows r c) (.int 2) = some (.tup [.int (r : Int), .int (c : Int)]) := rfl
        have x3 : ixD (.tup [.int (r : Int), .int (c : Int)]) (.int 0) = some (.int (r : Int)) := rfl
        have x4 : ixD (.tup [.int (r : Int), .int (c : Int)]) (.int 1) = some (.int (c : Int)) := rfl
        have x5 : ixD (.tup (rows.map .str)) (.int (r : Int)) = some (.str (rows.getD r [])) := pX g1
        have n1 : (c : Int) + (x.length : Int) = ((c + x.length : Nat) : Int) := by omega
        have hw := ok.w
        generalize hrow : rows.getD r [] = row at x5 g2
        have c1 := jl row c
        have c2 := dA row (c + x.length)
        have a1 : bw (.str (row.take c)) (.str x) = some (.str (row.take c ++ x)) := lj (by have := bc; simp; omega)
        have a2 : bw (.str (row.take c ++ x)) (.str (row.drop (c + x.length))) = some (.str (row.take c ++ x ++ row.drop (c + x.length))) := lj (by have := bc; simp; omega)
        have w1 := qW ok (x := row.take c ++ x ++ row.drop (c + x.length)) (j := c + x.length)
        by_cases hn : wd < c + x.length
        . have d1 : decide ((wd : Int) < ((c + x.length : Nat) : Int)) = true := by simp; omega
          rw [if_pos hn]
          clear hu hc e2 ok g1 g2 hrow hn hw r1 c1
          walk_at "run"
        . have d1 : decide ((wd : Int) < ((c + x.length : Nat) : Int)) = false := by simp; omega
          rw [if_neg hn]
          clear hu hc e2 ok g1 g2 hrow hn hw r1
          walk_at "run"
      . refine Or.inl ?_; simp only [fL, hu]; rw [if_neg hc]
def fy (C : Addr) : List D -> R D
  | [d, .int n, .int col] => match gA d with
    | some (wd, rows, _, _) => if 0 <= n /\ 0 <= col then (if (rows.length : Int) <= n \/ (wd : Int) < col then .ex C else .ok (scr wd rows n.toNat col.toNat)) else .no
    | none => .no
  | _ => .no
def dC : List D -> R D
  | [d] => match gA d with
    | some (wd, rows, r, c) => .ok (scr wd (rows.set r ((rows.getD r []).take c ++ List.replicate (wd - c) 32)) r c)
    | none => .no
  | _ => .no
theorem pJ {C : Addr} : ∀ ds : List D, ds.length = 3 -> (fy C) ds = .no \/ aK (dR C (aN 3 ds)) = (fy C) ds := by
  have c1 : True := trivial
  have c2 : True := trivial
  have c3 : True := trivial
  have r1 : True := trivial
  have k1 : True := trivial
  have k3 : True := trivial
  intro ds hl
  unfold dR kz jR
  match ds, hl with
  | [d, nd, cd], _ =>
    cases nd <;> first | exact Or.inl rfl | skip
    cases cd <;> first | exact Or.inl rfl | skip
    rename_i n col hl
    cases hu : gA d with
    | none => refine Or.inl ?_; simp only [fy, hu]
    | some q =>
      obtain ⟨wd, rows, r, c⟩ := q
      by_cases hc : 0 <= n /\ 0 <= col
      . refine Or.inr ?_
        have e2 : fy C [d, .int n, .int col] = if (rows.length : Int) <= n \/ (wd : Int) < col then .ex C else .ok (scr wd rows n.toNat col.toNat) := by simp only [fy, hu]; rw [if_pos hc]
        rw [e2]
        obtain ⟨rfl, ok⟩ := fC hu
        obtain ⟨hn, hc⟩ := hc
        obtain ⟨n, rfl⟩ := Int.eq_ofNat_of_zero_le hn
        obtain ⟨col, rfl⟩ := Int.eq_ofNat_of_zero_le hc
        rw [Int.toNat_natCast, Int.toNat_natCast]
        show aK (aM _ _ [some (.val (scr wd rows r c)), some (.val (.int (n : Int))), some (.val (.int (col : Int)))]) = _
        have x0 : ixD (scr wd rows r c) (.int 0) = some (.int (wd : Int)) := rfl
        have x1 : ixD (scr wd rows r c) (.int 1) = some (.tup (rows.map .str)) := rfl
        have l1 : (rows.map D.str).length = rows.length := by simp
        have k2 : ∀ x y, mkT [x, y] = .ok (.tup [x, y]) := fun _ _ => m_t (by simp)
        have k3 : ∀ x y z, mkT [x, y, z] = .ok (.tup [x, y, z]) := fun _ _ _ => m_t (by simp)
        clear hu hn hc e2 ok r1
        by_cases h1 : (rows.length : Int) <= (n : Int)
        . have d1 : decide ((rows.length : Int) <= (n : Int)) = true := by simp only [h1, decide_true]
          rw [if_pos (Or.inl h1)]
          clear h1
          walk_at "run"
        . have d1 : decide ((rows.length : Int) <= (n : Int)) = false := by simp only [h1, decide_false]
          by_cases h2 : (wd : Int) < (col : Int)
          . have d2 : decide ((wd : Int) < (col : Int)) = true := by simp only [h2, decide_true]
            rw [if_pos (Or.inr h2)]
            clear h1 h2
            walk_at "run"
          . have d2 : decide ((wd : Int) < (col : Int)) = false := by simp only [h2, decide_false]
            rw [if_neg (fun q => q.elim h1 h2)]
            clear h1 h2
            walk_at "run"
            all_goals rfl
      . refine Or.inl ?_; simp only [fy, hu]; rw [if_neg hc]
theorem mk : ∀ ds : List D, ds.length = 1 -> dC ds = .no \/ aK (cW lm (aN 3 ds)) = dC ds := by
  have c1 : True := trivial
  have c2 : True := trivial
  have c3 : True := trivial
  have r1 : True := trivial
  have k1 : True := trivial
  have k3 : True := trivial
  intro ds hl
  unfold cW gL gR gU
  match ds, hl with
  | [d], _ =>
    cases hu : gA d with
    | none => refine Or.inl ?_; simp only [dC, hu]
    | some q =>
      obtain ⟨wd, rows, r, c⟩ := q
      refine Or.inr ?_
      have e2 : dC [d] = .ok (scr wd (rows.set r ((rows.getD r []).take c ++ List.replicate (wd - c) 32)) r c) := by simp only [dC, hu]
      rw [e2]
      obtain ⟨rfl, ok⟩ := fC hu
      show aK (aM _ _ [some (.val (scr wd rows r c)), none, none]) = _
      obtain ⟨g1, g2⟩ := sX ok
      have x0 : ixD (scr wd rows r c) (.int 0) = some (.int (wd : Int)) := rfl
      have x1 : ixD (scr wd rows r c) (.int 1) = some (.tup (rows.map .str)) := rfl
      have x2 : ixD (scr wd rows r c) (.int 2) = some (.tup [.int (r : Int), .int (c : Int)]) := rfl
      have x3 : ixD (.tup [.int (r : Int), .int (c : Int)]) (.int 0) = some (.int (r : Int)) := rfl
      have x4 : ixD (.tup [.int (r : Int), .int (c : Int)]) (.int 1) = some (.int (c : Int)) := rfl
      have x5 : ixD (.tup (rows.map .str)) (.int (r : Int)) = some (.str (rows.getD r [])) := pX g1
      have hw := ok.w
      have hcw := ok.c
      generalize hrow : rows.getD r [] = row at x5 g2
      have c1 := jl row c
      have lt : (row.take c).length = c := by simp; omega
      have j1 : lR (.str (row.take c)) [.int (wd : Int)] = some (.str (row.take c ++ List.replicate (wd - c) 32)) := by
        simp only [lR, lt, Int.toNat_natCast]; rw [if_pos (by omega)]
      have kd : ∀ x, jc "str" (.str x) = true := fun _ => rfl
      have w1 := qW ok (x := row.take c ++ List.replicate (wd - c) 32) (j := c)
      clear hu e2 ok g1 g2 hrow hw hcw lt
      walk_at "run"
def dS (C : Addr) : List D -> R D
  | [d, .tup (.str h :: l)] => if h = [115, 97, 121] then (match l with | x :: _ => fL C [d, x] | _ => .no) else if h = [103, 111] then (match l with | n :: c :: _ => fy C [d, n, c] | _ => .no) else dC [d]
  | _ => .no
theorem la {C : Addr} : ∀ ds : List D, ds.length = 2 -> (dS C) ds = .no \/ aK (cH (fL C) (fy C) dC (aN 2 ds)) = (dS C) ds := by
  have c1 : True := trivial
  have c2 : True := trivial
  have c3 : True := trivial
  have r1 : True := trivial
  have k1 : True := trivial
  have k3 : True := trivial
  intro ds hl
  unfold cH gj gz gq
  match ds, hl with
  | [d, od], _ =>
    cases od <;> first | exact Or.inl rfl | skip
    rename_i xs hl
    cases xs with
    | nil => exact Or.inl rfl
    | cons a l =>
      cases a <;> first | exact Or.inl rfl | skip
      rename_i hl2 h
      have x0 : ixD (.tup (.str h :: l)) (.int 0) = some (.str h) := pX (k := 0) rfl
      clear hl hl2 c1 c2 c3
      by_cases h1 : h = [115, 97, 121]
      . cases l with
        | nil => refine Or.inl ?_; simp only [dS, h1, if_true]
        | cons x l =>
          refine Or.inr ?_
          have e2 : dS C [d, .tup (.str h :: x :: l)] = fL C [d, x] := by simp only [dS, h1, if_true]
          rw [e2]
          show aK (aM _ _ [some (.val d), some (.val (.tup (.str h :: x :: l)))]) = _
          have x1 : ixD (.tup (.str h :: x :: l)) (.int 1) = some x := pX (k := 1) rfl
          have q1 : (h == [115, 97, 121]) = true := by rw [h1]; exact beq_self_eq_true _
          clear h1 e2
          walk_at "run"
          cases fL C [d, x] <;> rfl
      . have q1 : (h == [115, 97, 121]) = false := beq_eq_false_iff_ne.2 h1
        by_cases h2 : h = [103, 111]
        . match l with
          | [] => refine Or.inl ?_; simp only [dS, h1, h2, if_true, if_false]; rw [if_neg (by rw [<- h2]; exact h1)]
          | [x] => refine Or.inl ?_; simp only [dS, h1, h2, if_true, if_false]; rw [if_neg (by rw [<- h2]; exact h1)]
          | x :: y :: l =>
            refine Or.inr ?_
            have e2 : dS C [d, .tup (.str h :: x :: y :: l)] = fy C [d, x, y] := by simp only [dS]; rw [if_neg h1, if_pos h2]
            rw [e2]
            show aK (aM _ _ [some (.val d), some (.val (.tup (.str h :: x :: y :: l)))]) = _
            have x1 : ixD (.tup (.str h :: x :: y :: l)) (.int 1) = some x := pX (k := 1) rfl
            have x2 : ixD (.tup (.str h :: x :: y :: l)) (.int 2) = some y := pX (k := 2) rfl
            have q2 : (h == [103, 111]) = true := by rw [h2]; exact beq_self_eq_true _
            clear h1 h2 e2
            walk_at "run"
            cases fy C [d, x, y] <;> rfl
        . have q2 : (h == [103, 111]) = false := beq_eq_false_iff_ne.2 h2
          refine Or.inr ?_
          have e2 : dS C [d, .tup (.str h :: l)] = dC [d] := by simp only [dS]; rw [if_neg h1, if_neg h2]
          rw [e2]
          show aK (aM _ _ [some (.val d), some (.val (.tup (.str h :: l)))]) = _
          clear h1 h2 e2
          walk_at "run"
          cases dC [d] <;> rfl
def lV (Cs Co Cr : Addr) : List D -> R D
  | [d, o] => if good 4 d = true /\ good 3 o = true then (if screen d = true then (if bU o = true then dS Cr [d, o] else .ex Co) else .ex Cs) else .no
  | _ => .no
theorem Ao {Cs Co Cr : Addr} : ∀ ds : List D, ds.length = 2 -> (lV Cs Co Cr) ds = .no \/ aK (jo (iH Cs) (fG Co) (dS Cr) (aN 2 ds)) = (lV Cs Co Cr) ds := by
  have c1 : True := trivial
  have c2 : True := trivial
  have c3 : True := trivial
  have r1 : True := trivial
  have k1 : True := trivial
  have k3 : True := trivial
  intro ds hl
  unfold jo tZ uA uz
  match ds, hl with
  | [d, o], _ =>
    by_cases hg : good 4 d = true /\ good 3 o = true
    . refine Or.inr ?_
      have e2 : lV Cs Co Cr [d, o] = if screen d = true then (if bU o = true then dS Cr [d, o] else .ex Co) else .ex Cs := if_pos hg
      rw [e2]
      show aK (aM _ _ [some (.val d), some (.val o)]) = _
      have s1 : iH Cs [d] = if screen d = true then .ok .non else .ex Cs := if_pos (jK hg.1)
      have s2 : fG Co [o] = if bU o = true then .ok .non else .ex Co := if_pos hg.2
      clear hl c1 c2 c3 e2 hg
      cases h1 : screen d with
      | false =>
        rw [h1] at s1
        walk_at "run"
      | true =>
        rw [h1] at s1
        cases h2 : bU o with
        | false =>
          rw [h2] at s2
          walk_at "run"
        | true =>
          rw [h2] at s2
          walk_at "run"
          cases dS Cr [d, o] <;> rfl
    . exact Or.inl (if_neg hg)
def AO : List D -> Bool
  | [b] => ze b && Bh b
  | _ => false
def goT : List D -> Bool
  | [b, c] => inB b 0 11 && inB c 0 40
  | _ => false
theorem AI (l : List D) : bU (.tup (.str ([115, 97, 121]) :: l)) = AO l := by
  have h1 : (([115, 97, 121]) == [103, 111]) = false := by decide
  have h2 : (([115, 97, 121]) == [119, 105, 112, 101]) = false := by decide
  match l with
  | [] => simp [bU, fZ, lN, eN, AO, h2]
  | [b] => rw [bU, vJ]; simp [isX, lN, eN, AO]
  | [b, c] => simp [bU, fZ, lN, eN, AO, h1]
  | b :: c :: d :: l => simp [bU, fZ, lN, eN, AO]
theorem BS (l : List D) : bU (.tup (.str ([103, 111]) :: l)) = goT l := by
  have h1 : (([103, 111]) == [115, 97, 121]) = false := by decide
  have h2 : (([103, 111]) == [119, 105, 112, 101]) = false := by decide
  match l with
  | [] => simp [bU, fZ, lN, eN, goT, h2]
  | [b] => rw [bU, vJ]; simp [isX, lN, eN, goT, h1]
  | [b, c] => simp [bU, fZ, lN, eN, goT]
  | b :: c :: d :: l => simp [bU, fZ, lN, eN, goT]
def cv : List D -> R D := fun ds => match dS 0 ds with
  | .ok r => .ok r
  | .ex _ => .ok ((D.str [110, 111, 32, 114, 111, 111, 109]))
  | .no => .no
theorem vW {C : Addr} {d : D} (hu : gA d = none) (o : D) : dS C [d, o] = .no := by
  cases o <;> first | rfl | skip
  rename_i xs
  cases xs with
  | nil => rfl
  | cons a l =>
    cases a <;> first | rfl | skip
    rename_i h
    simp only [dS]
    split
    . cases l with
      | nil => rfl
      | cons x l => cases x <;> first | rfl | (simp only [fL, hu])
    . split
      . match l with
        | [] => rfl
        | [_] => rfl
        | n :: c :: l => cases n <;> first | rfl | skip
                         cases c <;> first | rfl | (simp only [fy, hu])
      . simp only [dC, hu]
theorem pQ : ∀ ds : List D, ds.length = 2 -> cv ds = .no \/ aK (ee (aN 10 ds)) = cv ds := by
  have c1 : True := trivial
  have c2 : True := trivial
  have c3 : True := trivial
  have r1 : True := trivial
  have k1 : True := trivial
  have k3 : True := trivial
  intro ds hl
  unfold ee kn kf kI kU kh km ky jH jG
  match ds, hl with
  | [d, o], _ =>
    cases hu : gA d with
    | none => refine Or.inl ?_; simp only [cv, vW hu]
    | some q =>
      obtain ⟨wd, rows, r, c⟩ := q
      obtain ⟨rfl, ok⟩ := fC hu
      cases o <;> first | exact Or.inl rfl | skip
      rename_i xs hl2
      cases xs with
      | nil => exact Or.inl rfl
      | cons a l =>
        cases a <;> first | exact Or.inl rfl | skip
        rename_i h
        obtain ⟨g1, g2⟩ := sX ok
        have hw := ok.w
        have hcw := ok.c
        have hrr := ok.r
        have hmm := ok.m
        have o0 : ixD (.tup (.str h :: l)) (.int 0) = some (.str h) := pX (k := 0) rfl
        have x3 : ixD (.tup [.int (r : Int), .int (c : Int)]) (.int 0) = some (.int (r : Int)) := rfl
        have x4 : ixD (.tup [.int (r : Int), .int (c : Int)]) (.int 1) = some (.int (c : Int)) := rfl
        have x5 : ixD (.tup (rows.map .str)) (.int (r : Int)) = some (.str (rows.getD r [])) := pX g1
        have l1 : (rows.map D.str).length = rows.length := by simp
        have k1 : ∀ x, mkT [x] = .ok (.tup [x]) := fun _ => m_t (by simp)
        have k2 : ∀ x y, mkT [x, y] = .ok (.tup [x, y]) := fun _ _ => m_t (by simp)
        have k3 : ∀ x y z, mkT [x, y, z] = .ok (.tup [x, y, z]) := fun _ _ _ => m_t (by simp)
        have c5 := jl (rows.map D.str) r
        have c6 : ii (rows.map D.str) (some ((r : Int) + 1)) none = (rows.map D.str).drop (r + 1) := dA _ (r + 1)
        have s1 : ∀ o : D, yo [2, 3, 4] (scr wd rows r c) [some (.val (scr wd rows r c)), some (.val o), none, none, none, none, none, none, none, none] = .ok [some (.val (scr wd rows r c)), some (.val o), some (.val (.int (wd : Int))), some (.val (.tup (rows.map .str))), some (.val (.tup [.int (r : Int), .int (c : Int)])), none, none, none, none, none] := fun _ => rfl
        have b7 : ∀ y : List Nat, bw (.tup ((rows.map D.str).take r)) (.tup [.str y]) = some (.tup ((rows.map D.str).take r ++ [.str y])) := fun y => mS (by have := bc; simp; omega)
        have b8 : ∀ y : List Nat, bw (.tup ((rows.map D.str).take r ++ [.str y])) (.tup ((rows.map D.str).drop (r + 1))) = some (.tup ((rows.set r y).map D.str)) := fun y => by
          rw [<- qr rows r y hrr]; exact mS (by have := bc; simp; omega)
        clear hl hl2
        by_cases hs : h = [115, 97, 121]
        . have q1 : (h == [115, 97, 121]) = true := by rw [hs]; exact beq_self_eq_true _
          have q2 : (h == [103, 111]) = false := by rw [hs]; decide
          cases l with
          | nil => refine Or.inl ?_; simp only [cv, dS, hs, if_true]
          | cons x l =>
            have e0 : dS 0 [scr wd rows r c, .tup (.str h :: x :: l)] = fL 0 [scr wd rows r c, x] := by simp only [dS, hs, if_true]
            cases x <;> first | (refine Or.inl ?_; simp only [cv, e0]; rfl) | skip
            rename_i x
            by_cases hx : x.length <= 900
            . refine Or.inr ?_
              have o1 : ixD (.tup (.str h :: .str x :: l)) (.int 1) = some (.str x) := pX (k := 1) rfl
              have e1 : fL 0 [scr wd rows r c, .str x] = if wd < c + x.length then .ex 0 else .ok (scr wd (rows.set r ((rows.getD r []).take c ++ x ++ (rows.getD r []).drop (c + x.length))) r (c + x.length)) := by simp only [fL, hu]; rw [if_pos hx]
              have n1 : (c : Int) + (x.length : Int) = ((c + x.length : Nat) : Int) := by omega
              show aK (aM _ _ [some (.val (scr wd rows r c)), some (.val (.tup (.str h :: .str x :: l))), none, none, none, none, none, none, none, none]) = _
              generalize hrow : rows.getD r [] = row at x5 g2 e1
              have c1 := jl row c
              have c2 := dA row (c + x.length)
              have a1 : bw (.str (row.take c)) (.str x) = some (.str (row.take c ++ x)) := lj (by have := bc; simp; omega)
              have a2 : bw (.str (row.take c ++ x)) (.str (row.drop (c + x.length))) = some (.str (row.take c ++ x ++ row.drop (c + x.length))) := lj (by have := bc; simp; omega)
              by_cases hn : wd < c + x.length
              . have d1 : decide ((wd : Int) < ((c + x.length : Nat) : Int)) = true := by simp; omega
                have e3 : cv [scr wd rows r c, .tup (.str h :: .str x :: l)] = .ok ((D.str [110, 111, 32, 114, 111, 111, 109])) := by simp only [cv, e0, e1]; rw [if_pos hn]
                rw [e3]
                clear hu hx e0 e1 e3 g1 g2 hrow hn hw hcw hrr hmm hs ok
                walk_at "run"
                all_goals rfl
              . have d1 : decide ((wd : Int) < ((c + x.length : Nat) : Int)) = false := by simp; omega
                have e3 : cv [scr wd rows r c, .tup (.str h :: .str x :: l)] = .ok (scr wd (rows.set r (row.take c ++ x ++ row.drop (c + x.length))) r (c + x.length)) := by simp only [cv, e0, e1]; rw [if_neg hn]
                rw [e3]
                clear hu hx e0 e1 e3 g1 g2 hrow hn hw hcw hrr hmm hs ok
                walk_at "run"
                all_goals rfl
            . refine Or.inl ?_; simp only [cv, e0, fL, hu]; rw [if_neg hx]
        . have q1 : (h == [115, 97, 121]) = false := beq_eq_false_iff_ne.2 hs
          by_cases hgo : h = [103, 111]
          . have q2 : (h == [103, 111]) = true := by rw [hgo]; exact beq_self_eq_true _
            match l with
            | [] => refine Or.inl ?_; simp only [cv, dS]; rw [if_neg hs, if_pos hgo]
            | [x] => refine Or.inl ?_; simp only [cv, dS]; rw [if_neg hs, if_pos hgo]
            | x :: y :: l =>
              have e0 : dS 0 [scr wd rows r c, .tup (.str h :: x :: y :: l)] = fy 0 [scr wd rows r c, x, y] := by simp only [dS]; rw [if_neg hs, if_pos hgo]
              cases x <;> first | (refine Or.inl ?_; simp only [cv, e0]; rfl) | skip
              cases y <;> first | (refine Or.inl ?_; simp only [cv, e0]; rfl) | skip
              rename_i n col
              by_cases hc : 0 <= n /\ 0 <= col
              . refine Or.inr ?_
                have e1 : fy 0 [scr wd rows r c, .int n, .int col] = if (rows.length : Int) <= n \/ (wd : Int) < col then .ex 0 else .ok (scr wd rows n.toNat col.toNat) := by simp only [fy, hu]; rw [if_pos hc]
                obtain ⟨hn0, hc0⟩ := hc
                obtain ⟨n, rfl⟩ := Int.eq_ofNat_of_zero_le hn0
                obtain ⟨col, rfl⟩ := Int.eq_ofNat_of_zero_le hc0
                rw [Int.toNat_natCast, Int.toNat_natCast] at e1
                have o1 : ixD (.tup (.str h :: .int (n : Int) :: .int (col : Int) :: l)) (.int 1) = some (.int (n : Int)) := pX (k := 1) rfl
                have o2 : ixD (.tup (.str h :: .int (n : Int) :: .int (col : Int) :: l)) (.int 2) = some (.int (col : Int)) := pX (k := 2) rfl
                show aK (aM _ _ [some (.val (scr wd rows r c)), some (.val (.tup (.str h :: .int (n : Int) :: .int (col : Int) :: l))), none, none, none, none, none, none, none, none]) = _
                by_cases h1 : (n : Int) < (rows.length : Int)
                . have d1 : decide ((n : Int) < (rows.length : Int)) = true := by simp only [h1, decide_true]
                  by_cases h2 : (col : Int) <= (wd : Int)
                  . have d2 : decide ((col : Int) <= (wd : Int)) = true := by simp only [h2, decide_true]
                    have e3 : cv [scr wd rows r c, .tup (.str h :: .int (n : Int) :: .int (col : Int) :: l)] = .ok (scr wd rows n col) := by simp only [cv, e0, e1]; rw [if_neg (by omega)]
                    rw [e3]
                    clear hu e0 e1 e3 g1 g2 hw hcw hrr hmm hs hgo ok h1 h2 hn0 hc0
                    walk_at "run"
                    all_goals rfl
                  . have d2 : decide ((col : Int) <= (wd : Int)) = false := by simp only [h2, decide_false]
                    have e3 : cv [scr wd rows r c, .tup (.str h :: .int (n : Int) :: .int (col : Int) :: l)] = .ok ((D.str [110, 111, 32, 114, 111, 111, 109])) := by simp only [cv, e0, e1]; rw [if_pos (by omega)]
                    rw [e3]
                    clear hu e0 e1 e3 g1 g2 hw hcw hrr hmm hs hgo ok h1 h2 hn0 hc0
                    walk_at "run"
                    all_goals rfl
                . have d1 : decide ((n : Int) < (rows.length : Int)) = false := by simp only [h1, decide_false]
                  have e3 : cv [scr wd rows r c, .tup (.str h :: .int (n : Int) :: .int (col : Int) :: l)] = .ok ((D.str [110, 111, 32, 114, 111, 111, 109])) := by simp only [cv, e0, e1]; rw [if_pos (by omega)]
                  rw [e3]
                  clear hu e0 e1 e3 g1 g2 hw hcw hrr hmm hs hgo ok h1 hn0 hc0
                  walk_at "run"
                  all_goals rfl
              . refine Or.inl ?_; simp only [cv, e0, fy, hu]; rw [if_neg hc]
          . have q2 : (h == [103, 111]) = false := beq_eq_false_iff_ne.2 hgo
            refine Or.inr ?_
            have e0 : dS 0 [scr wd rows r c, .tup (.str h :: l)] = dC [scr wd rows r c] := by simp only [dS]; rw [if_neg hs, if_neg hgo]
            have e1 : dC [scr wd rows r c] = .ok (scr wd (rows.set r ((rows.getD r []).take c ++ List.replicate (wd - c) 32)) r c) := by simp only [dC, hu]
            generalize hrow : rows.getD r [] = row at x5 g2 e1
            have e3 : cv [scr wd rows r c, .tup (.str h :: l)] = .ok (scr wd (rows.set r (row.take c ++ List.replicate (wd - c) 32)) r c) := by simp only [cv, e0, e1]
            rw [e3]
            show aK (aM _ _ [some (.val (scr wd rows r c)), some (.val (.tup (.str h :: l))), none, none, none, none, none, none, none, none]) = _
            have n0 : (wd : Int) - (c : Int) = ((wd - c : Nat) : Int) := by omega
            have r1 : gn (.str [32]) (.int ((wd - c : Nat) : Int)) = some (.str (List.replicate (wd - c) 32)) := D7 (by omega)
            have lr : (List.replicate (wd - c) 32).length = wd - c := by simp
            have n1 : (c : Int) + ((wd - c : Nat) : Int) = (wd : Int) := by omega
            have d1 : decide ((wd : Int) < (wd : Int)) = false := by simp
            have c1 := jl row c
            have c2 : ii row (some (wd : Int)) none = [] := by rw [dA row wd]; exact List.drop_of_length_le (by omega)
            have a1 : bw (.str (row.take c)) (.str (List.replicate (wd - c) 32)) = some (.str (row.take c ++ List.replicate (wd - c) 32)) := lj (by have := bc; simp; omega)
            have a2 : bw (.str (row.take c ++ List.replicate (wd - c) 32)) (.str []) = some (.str (row.take c ++ List.replicate (wd - c) 32)) := by rw [lj (by have := bc; simp; omega), List.append_nil]
            clear hu e0 e1 e3 g1 g2 hrow hw hcw hrr hmm hs hgo ok
            walk_at "run"
            all_goals rfl
end Q
namespace Q
open L2
open PySem (sizeLine Addr)
noncomputable def fI (aP : List D -> R D) (ae : Addr) : Ev -> O := (oIf (gBn (aI fw (aI (dh (· == "list")) (fun ρ => rdV ρ 0)))) (aM (gM ae (ac (fun _ => R.ok (D.str [116, 104, 105, 115, 32, 105, 115, 32, 110, 111, 32, 108, 105, 115, 116, 32, 111, 102, 32, 111, 114, 100, 101, 114, 115])) (fun _ => R.ok []))) oNx) oNx)
noncomputable def bC (aP : List D -> R D) (ae : Addr) : Ev -> O := (aM (ln (aR 1 aP (ac (fun ρ => rdV ρ 1) (fun _ => R.ok [])))) oNx)
noncomputable def fS (aP : List D -> R D) (ae : Addr) : Ev -> O := (oM (gH 1) (aI bH (fun ρ => rdV ρ 0)) (bC aP ae))
noncomputable def db (aP : List D -> R D) (ae : Addr) : Ev -> O := (aM (fI aP ae) (aM (fS aP ae) oNx))
noncomputable def jz (aE au aG : List D -> R D) : Ev -> O := (ln (aR 1 aE (ac (fun ρ => rdV ρ 0) (fun _ => R.ok []))))
noncomputable def jX (aE au aG : List D -> R D) : Ev -> O := (ln (aR 1 au (ac (fun ρ => rdV ρ 1) (fun _ => R.ok []))))
noncomputable def jP (aE au aG : List D -> R D) : Ev -> O := (cP 2 (fun ρ => rdV ρ 0))
noncomputable def cD (aE au aG : List D -> R D) : Ev -> O := (aM (cP 2 (aR 2 aG (ac (fun ρ => rdV ρ 2) (ac (fun ρ => rdV ρ 3) (fun _ => R.ok []))))) oNx)
noncomputable def kw (aE au aG : List D -> R D) : Ev -> O := (oM (gH 3) (aI bH (fun ρ => rdV ρ 1)) (cD aE au aG))
noncomputable def kF (aE au aG : List D -> R D) : Ev -> O := (bO (fun ρ => rdV ρ 2))
noncomputable def fF (aE au aG : List D -> R D) : Ev -> O := (aM (jz aE au aG) (aM (jX aE au aG) (aM (jP aE au aG) (aM (kw aE au aG) (aM (kF aE au aG) oNx)))))
noncomputable def gI : Ev -> O := (oIf (gB2 eqF (g2 ixD (fun ρ => rdV ρ 0) (fun _ => R.ok (D.int 0))) (fun _ => R.ok (D.str [115, 97, 121]))) (aM (bO (gOf dw (ac (g2 ixD (fun ρ => rdV ρ 0) (fun _ => R.ok (D.int 1))) (fun _ => R.ok [])))) oNx) oNx)
noncomputable def hW : Ev -> O := (oIf (gB2 eqF (g2 ixD (fun ρ => rdV ρ 0) (fun _ => R.ok (D.int 0))) (fun _ => R.ok (D.str [103, 111]))) (aM (bO (fun _ => R.ok (D.int 2))) oNx) oNx)
noncomputable def gO : Ev -> O := (bO (fun _ => R.ok (D.int 1)))
noncomputable def eu : Ev -> O := (aM gI (aM hW (aM gO oNx)))
noncomputable def vN (au bG : List D -> R D) : Ev -> O := (ln (aR 1 au (ac (fun ρ => rdV ρ 0) (fun _ => R.ok []))))
noncomputable def uw (au bG : List D -> R D) : Ev -> O := (bO (gOf zT (ac (bx (eM (aI bH (fun ρ => rdV ρ 0)) [] (fun _ => R.ok true) (aR 1 bG (ac (fun ρ => rdV ρ 0) (fun _ => R.ok []))))) (fun _ => R.ok []))))
noncomputable def my (au bG : List D -> R D) : Ev -> O := (aM (vN au bG) (aM (uw au bG) oNx))
noncomputable def eD : Ev -> O := (oIf (gB2 neF (g2 ixD (fun ρ => rdV ρ 0) (fun _ => R.ok (D.int 0))) (g2 ixD (fun ρ => rdV ρ 1) (fun _ => R.ok (D.int 0)))) (aM (bO (fun _ => R.ok D.non)) oNx) oNx)
noncomputable def eG : Ev -> O := (oIf (gB2 neF (g2 ixD (fun ρ => rdV ρ 0) (fun _ => R.ok (D.int 0))) (fun _ => R.ok (D.str [115, 97, 121]))) (aM (bO (fun ρ => rdV ρ 1)) oNx) oNx)
noncomputable def eE : Ev -> O := (cP 2 (g2 bw (g2 ixD (fun ρ => rdV ρ 0) (fun _ => R.ok (D.int 1))) (g2 ixD (fun ρ => rdV ρ 1) (fun _ => R.ok (D.int 1)))))
noncomputable def eL : Ev -> O := (bO (gIf (gB2 leD (gOf dw (ac (fun ρ => rdV ρ 2) (fun _ => R.ok []))) (fun _ => R.ok (D.int 40))) (aI mkT (ac (fun _ => R.ok (D.str [115, 97, 121])) (ac (fun ρ => rdV ρ 2) (fun _ => R.ok [])))) (fun _ => R.ok D.non)))
noncomputable def cO : Ev -> O := (aM eD (aM eG (aM eE (aM eL oNx))))
noncomputable def iO (au aU : List D -> R D) : Ev -> O := (ln (aR 1 au (ac (fun ρ => rdV ρ 0) (fun _ => R.ok []))))
noncomputable def iZ (au aU : List D -> R D) : Ev -> O := (rP 1 (iW (fun _ => R.ok [])))
noncomputable def eh (au aU : List D -> R D) : Ev -> O := (aM (xz 1 3 (gIf (gB2 gtD (gOf dw (ac (fun ρ => rdV ρ 1) (fun _ => R.ok []))) (fun _ => R.ok (D.int 0))) (aR 2 aU (ac (g2 ixD (fun ρ => rdV ρ 1) (aI yw (fun _ => R.ok (D.int 1)))) (ac (fun ρ => rdV ρ 2) (fun _ => R.ok [])))) (fun _ => R.ok D.non))) (aM (oIf (gB2 isF (fun ρ => rdV ρ 3) (fun _ => R.ok D.non)) (aM (CH 1 (fun ρ => rdV ρ 2)) oNx) (aM (wb 1 (aI yw (fun _ => R.ok (D.int 1))) (fun ρ => rdV ρ 3)) oNx)) oNx))
noncomputable def iU (au aU : List D -> R D) : Ev -> O := (oM (gH 2) (aI bH (fun ρ => rdV ρ 0)) (eh au aU))
noncomputable def iG (au aU : List D -> R D) : Ev -> O := (bO (fun ρ => rdV ρ 1))
noncomputable def eS (au aU : List D -> R D) : Ev -> O := (aM (iO au aU) (aM (iZ au aU) (aM (iU au aU) (vQ 1 (aM (iG au aU) oNx)))))
noncomputable def kC : Ev -> O := (cP 1 (fun _ => R.ok (D.int 0)))
noncomputable def eV : Ev -> O := (aM (cP 1 (g2 bw (fun ρ => rdV ρ 1) (gIf (gB2 eqF (g2 ixD (fun ρ => rdV ρ 2) (fun _ => R.ok (D.int 0))) (fun _ => R.ok (D.str [115, 97, 121]))) (gOf dw (ac (g2 ixD (fun ρ => rdV ρ 2) (fun _ => R.ok (D.int 1))) (fun _ => R.ok []))) (g2 bw (fun _ => R.ok (D.int 1)) (gOf nV (ac (g2 eqF (g2 ixD (fun ρ => rdV ρ 2) (fun _ => R.ok (D.int 0))) (fun _ => R.ok (D.str [103, 111]))) (fun _ => R.ok []))))))) oNx)
noncomputable def jt : Ev -> O := (oM (gH 2) (aI bH (fun ρ => rdV ρ 0)) eV)
noncomputable def jy : Ev -> O := (bO (fun ρ => rdV ρ 1))
noncomputable def fR : Ev -> O := (aM kC (aM jt (aM jy oNx)))
inductive Od where
  | say (x : List Nat)
  | go (r c : Nat)
  | wipe
def oD : Od -> D
  | .say x => .tup [.str [115, 97, 121], .str x]
  | .go r c => .tup [.str [103, 111], .int (r : Int), .int (c : Int)]
  | .wipe => .tup [.str [119, 105, 112, 101]]
def okO : Od -> Bool
  | .say x => plain x && (decide (1 <= x.length) && decide (x.length <= 40))
  | .go r c => decide (r <= 11) && decide (c <= 40)
  | .wipe => true
def odD : D -> Option Od
  | .tup [.str h, .str x] => if h = [115, 97, 121] then some (.say x) else none
  | .tup [.str h, .int r, .int c] => if h = [103, 111] /\ 0 <= r /\ 0 <= c then some (.go r.toNat c.toNat) else none
  | .tup [.str h] => if h = [119, 105, 112, 101] then some .wipe else none
  | _ => none
theorem nA (o : Od) : odD (oD o) = some o := by
  cases o <;> simp [oD, odD]
theorem qB {d : D} {o : Od} (h : odD d = some o) : d = oD o := by
  unfold odD at h
  split at h
  . split at h
    . rename_i e; cases h; subst e; rfl
    . cases h
  . split at h
    . rename_i e
      cases h
      obtain ⟨rfl, e1, e2⟩ := e
      simp only [oD]
      rw [Int.toNat_of_nonneg e1, Int.toNat_of_nonneg e2]
    . cases h
  . split at h
    . rename_i e; cases h; subst e; rfl
    . cases h
  . cases h
def oP : List D -> Option (List Od)
  | [] => some []
  | d :: ds => (odD d).bind fun o => (oP ds).map (o :: ·)
theorem fT : ∀ os : List Od, oP (os.map oD) = some os
  | [] => rfl
  | o :: os => by simp [oP, nA, fT os]
theorem tR : ∀ {ds : List D} {os : List Od}, oP ds = some os -> ds = os.map oD
  | [], os, h => by cases h; rfl
  | d :: ds, os, h => by
    unfold oP at h
    cases q : odD d with
    | none => rw [q] at h; cases h
    | some o =>
      rw [q, Option.bind_some] at h
      cases q2 : oP ds with
      | none => rw [q2] at h; cases h
      | some ms => rw [q2] at h; cases h; rw [List.map_cons, qB q, <- tR q2]
theorem me (o : Od) : bU (oD o) = okO o := by
  cases o with
  | say x => simp only [oD]; rw [AI]; simp [AO, ze, Bh, okO]
  | go r c =>
    simp only [oD]; rw [BS]
    simp only [goT, inB, okO]
    have a1 : decide ((0 : Int) <= (r : Int)) = true := by simp
    have a2 : decide ((0 : Int) <= (c : Int)) = true := by simp
    have a3 : decide ((r : Int) <= 11) = decide (r <= 11) := by by_cases h : r <= 11 <;> simp [h] <;> omega
    have a4 : decide ((c : Int) <= 40) = decide (c <= 40) := by by_cases h : c <= 40 <;> simp [h] <;> omega
    rw [a1, a2, a3, a4, Bool.true_and, Bool.true_and]
  | wipe => decide
theorem DX {o : D} (h : lN o = true) : ∃ n c : Nat, o = .tup [.str [103, 111], .int (n : Int), .int (c : Int)] := by
  unfold lN at h
  split at h
  . rename_i x b c
    simp only [Bool.and_eq_true, beq_iff_eq] at h
    obtain ⟨rfl, h1, h2⟩ := h
    cases b <;> first | (cases h1; done) | skip
    cases c <;> first | (cases h2; done) | skip
    rename_i i j
    simp only [inB, Bool.and_eq_true, decide_eq_true_eq] at h1 h2
    obtain ⟨i, rfl⟩ := Int.eq_ofNat_of_zero_le h1.1
    obtain ⟨j, rfl⟩ := Int.eq_ofNat_of_zero_le h2.1
    exact ⟨i, j, rfl⟩
  . cases h
theorem wW {d : D} (h : bU d = true) : ∃ o, d = oD o := by
  unfold bU at h
  rcases Bool.or_eq_true_iff.mp h with h | h
  . unfold fZ at h
    split at h
    . simp only [Bool.and_eq_true, beq_iff_eq] at h
      obtain ⟨rfl, _⟩ := h
      exact ⟨.say _, rfl⟩
    . cases h
  . rcases Bool.or_eq_true_iff.mp h with h | h
    . obtain ⟨n, c, rfl⟩ := DX h
      exact ⟨.go n c, rfl⟩
    . unfold eN at h
      split at h
      . rw [beq_iff_eq] at h; subst h; exact ⟨.wipe, rfl⟩
      . cases h
theorem pB : ∀ {ds : List D}, ds.all bU = true -> ∃ os : List Od, ds = os.map oD /\ ∀ o ∈ os, okO o = true
  | [], _ => ⟨[], rfl, fun _ h => by cases h⟩
  | d :: ds, h => by
    rw [List.all_cons, Bool.and_eq_true] at h
    obtain ⟨o, rfl⟩ := wW h.1
    obtain ⟨os, rfl, hh⟩ := pB h.2
    have h1 := h.1
    rw [me] at h1
    refine ⟨o :: os, rfl, fun x hx => ?_⟩
    rcases List.mem_cons.1 hx with rfl | hx
    . exact h1
    . exact hh x hx
theorem xS {os : List Od} (h : ∀ o ∈ os, okO o = true) : (os.map oD).all bU = true := by
  rw [List.all_eq_true]
  intro d hd
  obtain ⟨o, ho, rfl⟩ := List.mem_map.1 hd
  rw [me]; exact h o ho
theorem uR {o : Od} (h : okO o = true) : good 3 (oD o) = true := by
  cases o with
  | say x =>
    simp only [okO, Bool.and_eq_true, decide_eq_true_eq] at h
    have h2 := h.2.2
    simp only [oD, good, List.all_cons, List.all_nil, Bool.and_true, Bool.and_eq_true, decide_eq_true_eq]
    exact ⟨by decide, by omega⟩
  | go r c => rfl
  | wipe => rfl
def tgD : D -> Bool
  | .exc _ => false
  | .lst _ ds => ds.all (good 3) && decide (ds.length <= 1000)
  | _ => true
def dl : D -> Bool
  | .lst _ ds => ds.all bU
  | _ => false
theorem xc {f : Bool} {os : List Od} (h : ∀ o ∈ os, okO o = true) (hl : os.length <= 1000) : tgD (.lst f (os.map oD)) = true /\ dl (.lst f (os.map oD)) = true := by
  refine ⟨?_, xS h⟩
  simp only [tgD, Bool.and_eq_true, decide_eq_true_eq, List.length_map, List.all_eq_true]
  refine ⟨fun d hd => ?_, hl⟩
  obtain ⟨o, ho, rfl⟩ := List.mem_map.1 hd
  exact uR (h o ho)
theorem sZ {asg : D -> Ev -> R Ev} {g : Ev -> O} {d : D} {ds : List D} {ρ ρ1 ρ2 : Ev} {C : Addr} (h1 : asg d ρ = .ok ρ1) (h2 : g ρ1 = .ex C ρ2) : ci asg g (d :: ds) ρ = .ex C ρ2 := by
  simp only [ci, h1, R.ok_out, h2]
def lsD : D -> List D
  | .lst _ ds => ds
  | _ => []
def vo (C : Addr) : List D -> R D
  | [t] => if tgD t = true then (if dl t = true then .ok .non else .ex C) else .no
  | _ => .no
theorem qK {C : Addr} (x0 : Option Sl) : ∀ (ds : List D) (x1 : Option Sl), ds.all (good 3) = true -> (ds.all bU = true -> ∃ y1, ci (gH 1) (bC (fG C) C) ds [x0, x1] = .nx [x0, y1]) /\ (ds.all bU = false -> ∃ ρ, ci (gH 1) (bC (fG C) C) ds [x0, x1] = .ex C ρ)
  | [], x1, _ => ⟨fun _ => ⟨x1, rfl⟩, fun h => by cases h⟩
  | d :: ds, x1, h => by
    rw [List.all_cons, Bool.and_eq_true] at h
    have e1 : fG C [d] = if bU d = true then .ok .non else .ex C := if_pos h.1
    obtain ⟨i1, i2⟩ := qK (C := C) x0 ds (some (.val d)) h.2
    cases hd : bU d with
    | true =>
      rw [hd, if_pos rfl] at e1
      have hB : bC (fG C) C [x0, some (.val d)] = .nx [x0, some (.val d)] := by
        unfold bC
        clear h hd i1 i2
        walk_at "run"
      refine ⟨fun ha => ?_, fun ha => ?_⟩
      . rw [List.all_cons, hd, Bool.true_and] at ha
        obtain ⟨y, hy⟩ := i1 ha
        exact ⟨y, by rw [eB (ρ1 := [x0, some (.val d)]) rfl hB, hy]⟩
      . rw [List.all_cons, hd, Bool.true_and] at ha
        obtain ⟨y, hy⟩ := i2 ha
        exact ⟨y, by rw [eB (ρ1 := [x0, some (.val d)]) rfl hB, hy]⟩
    | false =>
      rw [hd, if_neg (by decide)] at e1
      have hB : bC (fG C) C [x0, some (.val d)] = .ex C [x0, some (.val d)] := by
        unfold bC
        clear h hd i1 i2
        walk_at "run"
      refine ⟨fun ha => ?_, fun _ => ⟨[x0, some (.val d)], ?_⟩⟩
      . rw [List.all_cons, hd, Bool.false_and] at ha; cases ha
      . exact sZ (ρ1 := [x0, some (.val d)]) rfl hB
theorem kS {C : Addr} : ∀ ds : List D, ds.length = 1 -> vo C ds = .no \/ aK (db (fG C) C (aN 2 ds)) = vo C ds := by
  intro ds hl
  match ds, hl with
  | [t], _ =>
    by_cases hd : tgD t = true
    . refine Or.inr ?_
      have e0 : vo C [t] = if dl t = true then .ok .non else .ex C := if_pos hd
      rw [e0]
      show aK (aM _ _ [some (.val t), none]) = _
      unfold fI fS
      have tb : ∀ b : Bool, fw (.bl b) = .ok b := fun _ => rfl
      cases t <;> first | (cases hd; done) | rfl | skip
      rename_i f ts hl2
      simp only [tgD, Bool.and_eq_true, decide_eq_true_eq] at hd
      have y1 : dh (fun x => x == "list") (.lst f ts) = .ok (.bl true) := rfl
      have il : bH (.lst f ts) = .ok ts := rfl
      have eo : dl (.lst f ts) = ts.all bU := rfl
      rw [eo]
      obtain ⟨i1, i2⟩ := qK (C := C) (some (.val (.lst f ts))) ts none hd.1
      cases ha : ts.all bU with
      | true =>
        obtain ⟨y, hy⟩ := i1 ha
        rw [if_pos rfl]
        clear hl hl2 e0 hd i1 i2 ha eo
        walk_at "run"
      | false =>
        obtain ⟨y, hy⟩ := i2 ha
        rw [if_neg (by decide)]
        clear hl hl2 e0 hd i1 i2 ha eo
        walk_at "run"
    . exact Or.inl (if_neg hd)
def mI (C : Addr) : D -> List D -> R D
  | d, [] => .ok d
  | d, o :: os => match dS C [d, o] with
    | .ok d' => mI C d' os
    | .ex C => .ex C
    | .no => .no
def adF (Cs Co Cr : Addr) : List D -> R D
  | [d, t] => if good 4 d = true /\ tgD t = true then (if screen d = true then (if dl t = true then mI Cr d (lsD t) else .ex Co) else .ex Cs) else .no
  | _ => .no
theorem qz {F1 F2 : List D -> R D} {C : Addr} (x0 x1 : Option Sl) : ∀ (os : List D) (d : D) (x3 : Option Sl), (∀ r, mI C d os = .ok r -> ∃ y3, ci (gH 3) (cD F1 F2 (dS C)) os [x0, x1, some (.val d), x3] = .nx [x0, x1, some (.val r), y3]) /\ (∀ C', mI C d os = .ex C' -> ∃ ρ, ci (gH 3) (cD F1 F2 (dS C)) os [x0, x1, some (.val d), x3] = .ex C' ρ)
  | [], d, x3 => ⟨fun r h => (by cases h; exact ⟨x3, rfl⟩), fun C' h => (by cases h)⟩
  | o :: os, d, x3 => by
    cases q : dS C [d, o] with
    | ok d' =>
      obtain ⟨i1, i2⟩ := qz (F1 := F1) (F2 := F2) (C := C) x0 x1 os d' (some (.val o))
      have e : mI C d (o :: os) = mI C d' os := by simp only [mI, q]
      have hB : cD F1 F2 (dS C) [x0, x1, some (.val d), some (.val o)] = .nx [x0, x1, some (.val d'), some (.val o)] := by
        unfold cD
        clear i1 i2 e
        walk_at "run"
      refine ⟨fun r h => ?_, fun C' h => ?_⟩
      . obtain ⟨y, hy⟩ := i1 r (by rw [<- e]; exact h)
        exact ⟨y, by rw [eB (ρ1 := [x0, x1, some (.val d), some (.val o)]) rfl hB, hy]⟩
      . obtain ⟨y, hy⟩ := i2 C' (by rw [<- e]; exact h)
        exact ⟨y, by rw [eB (ρ1 := [x0, x1, some (.val d), some (.val o)]) rfl hB, hy]⟩
    | ex C2 =>
      have e : mI C d (o :: os) = .ex C2 := by simp only [mI, q]
      have hB : cD F1 F2 (dS C) [x0, x1, some (.val d), some (.val o)] = .ex C2 [x0, x1, some (.val d), some (.val o)] := by
        unfold cD
        clear e
        walk_at "run"
      refine ⟨fun r h => (by rw [e] at h; cases h), fun C' h => ?_⟩
      rw [e] at h
      cases h
      refine ⟨[x0, x1, some (.val d), some (.val o)], ?_⟩
      exact sZ (ρ1 := [x0, x1, some (.val d), some (.val o)]) rfl hB
    | no =>
      have e : mI C d (o :: os) = .no := by simp only [mI, q]
      exact ⟨fun r h => (by rw [e] at h; cases h), fun C' h => (by rw [e] at h; cases h)⟩
theorem pT {Cs Co Cr : Addr} : ∀ ds : List D, ds.length = 2 -> adF Cs Co Cr ds = .no \/ aK (fF (iH Cs) (vo Co) (dS Cr) (aN 4 ds)) = adF Cs Co Cr ds := by
  intro ds hl
  match ds, hl with
  | [d, t], _ =>
    by_cases hd : good 4 d = true /\ tgD t = true
    . have e0 : adF Cs Co Cr [d, t] = if screen d = true then (if dl t = true then mI Cr d (lsD t) else .ex Co) else .ex Cs := if_pos hd
      rw [e0]
      have s1 : iH Cs [d] = if screen d = true then .ok .non else .ex Cs := if_pos (jK hd.1)
      have s2 : vo Co [t] = if dl t = true then .ok .non else .ex Co := if_pos hd.2
      show _ \/ aK (aM _ _ [some (.val d), some (.val t), none, none]) = _
      unfold jz jX jP kw kF
      by_cases h1 : screen d = true
      . rw [if_pos h1] at s1 ⊢
        by_cases h2 : dl t = true
        . rw [if_pos h2] at s2 ⊢
          cases t <;> first | (cases h2; done) | skip
          rename_i f ts hl2
          have il : bH (.lst f ts) = .ok ts := rfl
          have el : lsD (.lst f ts) = ts := rfl
          rw [el]
          obtain ⟨i1, i2⟩ := qz (F1 := iH Cs) (F2 := vo Co) (C := Cr) (some (.val d)) (some (.val (.lst f ts))) ts d none
          cases q : mI Cr d ts with
          | no => exact Or.inl rfl
          | ok r =>
            refine Or.inr ?_
            obtain ⟨y, hy⟩ := i1 r q
            clear hl hl2 e0 hd i1 i2 h1 h2 el
            walk_at "run"
          | ex C =>
            refine Or.inr ?_
            obtain ⟨y, hy⟩ := i2 C q
            clear hl hl2 e0 hd i1 i2 h1 h2 el
            walk_at "run"
        . rw [if_neg h2] at s2 ⊢
          refine Or.inr ?_
          clear hl e0 hd h1 h2
          walk_at "run"
      . rw [if_neg h1] at s1 ⊢
        refine Or.inr ?_
        clear hl e0 hd h1 s2
        walk_at "run"
    . exact Or.inl (if_neg hd)
def bJ : Od -> Nat
  | .say x => x.length
  | .go _ _ => 2
  | .wipe => 1
def ocF : List D -> R D
  | [d] => match odD d with
    | some o => .ok (.int (bJ o : Int))
    | none => .no
  | _ => .no
theorem mq : ∀ ds : List D, ds.length = 1 -> ocF ds = .no \/ aK (eu (aN 1 ds)) = ocF ds := by
  intro ds hl
  match ds, hl with
  | [d], _ =>
    cases q : odD d with
    | none => exact Or.inl (by simp only [ocF, q])
    | some o =>
      refine Or.inr ?_
      have e0 : ocF [d] = .ok (.int (bJ o : Int)) := by simp only [ocF, q]
      rw [e0]
      have := qB q
      subst this
      show aK (aM _ _ [some (.val (oD o))]) = _
      unfold gI hW gO
      clear q e0 hl
      cases o <;> rfl
def coF (C : Addr) : List D -> R D
  | [t] => if tgD t = true then (if dl t = true then (match oP (lsD t) with
      | some os => .ok (.int ((os.map bJ).sum : Nat))
      | none => .no) else .ex C) else .no
  | _ => .no
theorem zk {C : Addr} : ∀ ds : List D, ds.length = 1 -> coF C ds = .no \/ aK (my (vo C) ocF (aN 1 ds)) = coF C ds := by
  intro ds hl
  match ds, hl with
  | [t], _ =>
    by_cases hd : tgD t = true
    . refine Or.inr ?_
      have s2 : vo C [t] = if dl t = true then .ok .non else .ex C := if_pos hd
      show aK (aM _ _ [some (.val t)]) = _
      unfold vN uw
      by_cases h2 : dl t = true
      . rw [if_pos h2] at s2
        cases t <;> first | (cases h2; done) | skip
        rename_i f ts hl2
        obtain ⟨os, rfl, hok⟩ := pB (ds := ts) h2
        have e0 : coF C [.lst f (os.map oD)] = .ok (.int ((os.map bJ).sum : Nat)) := by
          show (if _ then (if _ then _ else _) else _) = _
          rw [if_pos hd, if_pos h2]
          show (match oP (os.map oD) with | some os => R.ok (D.int ((os.map bJ).sum : Nat)) | none => .no) = _
          rw [fT]
        rw [e0]
        have il : bH (.lst f (os.map oD)) = .ok (os.map oD) := rfl
        have hn : os.length <= 1000 := by
          simp only [tgD, Bool.and_eq_true, decide_eq_true_eq, List.length_map] at hd; exact hd.2
        have e : fv (fun _ => R.ok true) (aR 1 ocF (ac (fun ρ => rdV ρ 0) (fun _ => R.ok []))) (os.map oD) [none] = .ok (os.map fun o => .int (bJ o : Int)) := by
          have := dH (gt := fun _ => R.ok true) (ge := aR 1 ocF (ac (fun ρ => rdV ρ 0) (fun _ => R.ok []))) (fun d => match odD d with | some o => .int (bJ o : Int) | none => .non) [] (os.map oD) none fun d hd => ⟨rfl, by
            obtain ⟨o, _, rfl⟩ := List.mem_map.1 hd
            have e1 : ocF [oD o] = .ok (.int (bJ o : Int)) := by simp only [ocF, nA]
            rw [nA]
            clear hd hl hl2 h2 hok s2 e0 il hn
            walk_at "run"⟩
          rw [this, List.map_map]
          refine congrArg R.ok (List.map_congr_left fun o _ => ?_)
          show (match odD (oD o) with | some o => D.int (bJ o : Int) | none => .non) = _
          rw [nA]
        have z : (os.map fun o => D.int (bJ o : Int)).length <= sizeLine := by have := bc; simp; omega
        have sm : zT [.lst false (os.map fun o => D.int (bJ o : Int))] = some (.int ((os.map bJ).sum : Nat)) := by
          have key : ∀ l : List Od, lZ (l.map fun o => D.int (bJ o : Int)) = some (l.map fun o => (bJ o : Int)) := by
            intro l
            induction l with
            | nil => rfl
            | cons o l ih => rw [List.map_cons, lZ, ih]; rfl
          have key2 : ∀ l : List Od, (l.map fun o => (bJ o : Int)).sum = ((l.map bJ).sum : Nat) := by
            intro l
            induction l with
            | nil => rfl
            | cons o l ih => rw [List.map_cons, List.sum_cons, ih, List.map_cons, List.sum_cons, Int.natCast_add]
          simp only [zT, key, Option.map_some, key2]
        have i0 : ∀ x : Option Sl, ib [] [x] = [none] := fun _ => rfl
        clear hl hl2 e0 hd h2 hok hn
        walk_at "run"
      . rw [if_neg h2] at s2
        have e0 : coF C [t] = .ex C := by
          show (if _ then (if _ then _ else _) else _) = _
          rw [if_pos hd, if_neg h2]
        rw [e0]
        clear hl e0 hd h2
        walk_at "run"
    . exact Or.inl (if_neg hd)
def bQ : Od -> Od -> Option Od
  | .say x, .say y => if x.length + y.length <= 40 then some (.say (x ++ y)) else none
  | .go _ _, .go r c => some (.go r c)
  | .wipe, .wipe => some .wipe
  | _, _ => none
def iy : Od -> Nat
  | .say x => x.length
  | _ => 0
def jD : Option Od -> D
  | some o => oD o
  | none => .non
def jnF : List D -> R D
  | [a, b] => match odD a, odD b with
    | some o, some o' => if iy o + iy o' <= 1000 then .ok (jD (bQ o o')) else .no
    | _, _ => .no
  | _ => .no
theorem ip : ∀ ds : List D, ds.length = 2 -> jnF ds = .no \/ aK (cO (aN 3 ds)) = jnF ds := by
  intro ds hl
  match ds, hl with
  | [a, b], _ =>
    cases qa : odD a with
    | none => exact Or.inl (by simp only [jnF, qa])
    | some o =>
      cases qb : odD b with
      | none => exact Or.inl (by simp only [jnF, qa, qb])
      | some o' =>
        by_cases hn : iy o + iy o' <= 1000
        . refine Or.inr ?_
          have e0 : jnF [a, b] = .ok (jD (bQ o o')) := by simp only [jnF, qa, qb]; rw [if_pos hn]
          rw [e0]
          have := qB qa
          subst this
          have := qB qb
          subst this
          show aK (aM _ _ [some (.val (oD o)), some (.val (oD o')), none]) = _
          unfold eD eG eE eL
          clear qa qb e0 hl
          cases o with
          | say x =>
            cases o' with
            | say y =>
              simp only [iy] at hn
              have lb := bc
              have a1 : bw (.str x) (.str y) = some (.str (x ++ y)) := lj (by omega)
              have x0 : ∀ z : List Nat, ixD (oD (.say z)) (.int 0) = some (.str [115, 97, 121]) := fun _ => rfl
              have x1 : ∀ z : List Nat, ixD (oD (.say z)) (.int 1) = some (.str z) := fun _ => rfl
              have q0 : ([115, 97, 121] == ([115, 97, 121] : List Nat)) = true := by decide
              have m2 : ∀ u v : D, mkT [u, v] = .ok (.tup [u, v]) := fun _ _ => m_t (by simp)
              by_cases h : x.length + y.length <= 40
              . have d1 : decide (((x ++ y).length : Int) <= 40) = true := by simp; omega
                have ej : bQ (.say x) (.say y) = some (.say (x ++ y)) := if_pos h
                have e9 : jD (some (.say (x ++ y))) = .tup [.str [115, 97, 121], .str (x ++ y)] := rfl
                rw [ej, e9]
                clear hn lb h ej e9
                walk_at "run"
              . have d1 : decide (((x ++ y).length : Int) <= 40) = false := by simp; omega
                have ej : bQ (.say x) (.say y) = none := if_neg h
                have e9 : jD none = .non := rfl
                rw [ej, e9]
                clear hn lb h ej e9
                walk_at "run"
            | go r c => rfl
            | wipe => rfl
          | go r c => cases o' <;> rfl
          | wipe => cases o' <;> rfl
        . exact Or.inl (by simp only [jnF, qa, qb]; rw [if_neg hn])
def cG (acc : List Od) (o : Od) : List Od := match acc.getLast? with
  | none => [o]
  | some l => match bQ l o with
    | some j => acc.dropLast ++ [j]
    | none => acc ++ [o]
theorem gJ (o : Od) : cG [] o = [o] := rfl
theorem eJ {acc : List Od} {l o j : Od} (h : bQ l o = some j) : cG (acc ++ [l]) o = acc ++ [j] := by simp [cG, h]
theorem eF {acc : List Od} {l o : Od} (h : bQ l o = none) : cG (acc ++ [l]) o = acc ++ [l] ++ [o] := by simp [cG, h]
def shO (os : List Od) : List Od := os.foldl cG []
theorem oF (l : List Od) : l = [] \/ ∃ l' b, l = l' ++ [b] := by
  rcases List.eq_nil_or_concat l with h | ⟨l', b, h⟩
  . exact .inl h
  . exact .inr ⟨l', b, by rw [h, List.concat_eq_append]⟩
theorem Bw (o : Od) : fl 10 (oD o) = true := by cases o <;> rfl
theorem rF {F : List D -> R D} (x0 x3 : Option Sl) (acc : List Od) (o : Od) (hs : ∀ p ∈ acc, iy p + iy o <= 1000) (ha : acc.length < 1000) : ∃ y3, eh F jnF [x0, some (.own (acc.map oD)), some (.val (oD o)), x3] = .nx [x0, some (.own ((cG acc o).map oD)), some (.val (oD o)), y3] := by
  have lb := bc
  have z : (acc.map oD).length < sizeLine := by simp; omega
  have f1 : ∀ (a0 a2 a3 : Option Sl) (ds : List D), frz 1 [a0, some (.own ds), a2, a3] = [a0, some (.val (.lst false ds)), a2, a3] := fun _ _ _ _ => rfl
  have o1 : ∀ (a0 a2 a3 : Option Sl) (ds : List D), ownAt [a0, some (.own ds), a2, a3] 1 = .ok ds := fun _ _ _ _ => rfl
  have ng1 : yw (.int 1) = .ok (.int (-1)) := rfl
  have i1 : isF .non .non = some (.bl true) := rfl
  have i2 : ∀ o : Od, isF (oD o) .non = some (.bl false) := fun o => by cases o <;> rfl
  have tb : ∀ b : Bool, fw (.bl b) = .ok b := fun _ => rfl
  have fl1 := Bw
  have fl2 : fl 10 .non = true := rfl
  have e8 : ∀ i : Int, asI (.int i) = .ok i := fun _ => rfl
  unfold eh
  rcases oF acc with rfl | ⟨a, l, rfl⟩
  . refine ⟨some (.val .non), ?_⟩
    have q1 : decide ((0 : Int) > 0) = false := by decide
    have q1' : decide ((0 : Int) < 0) = false := by decide
    have q0 : ((0 : Nat) : Int) = 0 := rfl
    rw [gJ]
    simp only [List.map_nil, List.map_cons] at z ⊢
    clear ha lb hs
    walk_at "run"
    all_goals rfl
  . have em : (a ++ [l]).map oD = a.map oD ++ [oD l] := by simp
    have hsl := hs l (by simp)
    have ej : jnF [oD l, oD o] = .ok (jD (bQ l o)) := by simp only [jnF, nA]; rw [if_pos hsl]
    rw [em] at z ⊢
    have q1 : decide (((a.map oD ++ [oD l]).length : Int) > 0) = true := by simp <;> omega
    have q1' : decide ((0 : Int) < ((a.map oD ++ [oD l]).length : Int)) = true := by simp <;> omega
    have l1 : ixD (.lst false (a.map oD ++ [oD l])) (.int (-1)) = some (oD l) := by
      show atI (a.map oD ++ [oD l]) (-1) = some (oD l)
      unfold atI ixN
      rw [if_neg (by omega), if_pos (by simp; omega)]
      have : ((-1 : Int) + ((a.map oD ++ [oD l]).length : Nat)).toNat = (a.map oD).length := by simp; omega
      rw [this]; simp
    cases hj : bQ l o with
    | none =>
      refine ⟨some (.val .non), ?_⟩
      rw [hj] at ej
      have e9 : jD none = .non := rfl
      rw [e9] at ej
      have ep : (cG (a ++ [l]) o).map oD = a.map oD ++ [oD l] ++ [oD o] := by rw [eF hj]; simp
      rw [ep]
      clear ha lb hs em hsl hj e9 ep
      walk_at "run"
    | some j =>
      refine ⟨some (.val (oD j)), ?_⟩
      rw [hj] at ej
      have e9 : jD (some j) = oD j := rfl
      rw [e9] at ej
      have ep : (cG (a ++ [l]) o).map oD = a.map oD ++ [oD j] := by rw [eJ hj]; simp
      have ixl : ixN (a.map oD ++ [oD l]).length (-1) = some (a.map oD).length := by
        unfold ixN
        rw [if_neg (by omega), if_pos (by simp; omega)]
        congr 1; simp; omega
      have sl : (a.map oD ++ [oD l]).set (a.map oD).length (oD j) = a.map oD ++ [oD j] := by simp
      rw [ep]
      clear ha lb hs em hsl hj e9 ep
      walk_at "run"
def dv (os : List Od) : Nat := (os.map iy).sum
theorem wS (a b : List Od) : dv (a ++ b) = dv a + dv b := by simp [dv]
theorem zz {os : List Od} {o : Od} (h : o ∈ os) : iy o <= dv os := by
  induction os with
  | nil => cases h
  | cons p os ih =>
    have e : dv (p :: os) = iy p + dv os := by simp [dv]
    rcases List.mem_cons.1 h with rfl | h
    . omega
    . have := ih h; omega
theorem xw {l o j : Od} (h : bQ l o = some j) : iy j = iy l + iy o /\ bJ j <= bJ l + bJ o := by
  cases l <;> cases o <;> simp [bQ] at h
  . obtain ⟨_, rfl⟩ := h; simp [iy, bJ]
  . subst h; simp [iy, bJ]
  . subst h; simp [iy, bJ]
theorem qI (acc : List Od) (o : Od) : dv (cG acc o) = dv acc + iy o /\ (cG acc o).length <= acc.length + 1 /\ ((cG acc o).map bJ).sum <= (acc.map bJ).sum + bJ o := by
  rcases oF acc with rfl | ⟨a, l, rfl⟩
  . rw [gJ]; simp [dv]
  . cases hj : bQ l o with
    | none => rw [eF hj]; simp [dv, List.sum_append]; omega
    | some j =>
      obtain ⟨h1, h2⟩ := xw hj
      rw [eJ hj]
      simp [dv, List.sum_append]
      omega
theorem lJ {F : List D -> R D} (x0 : Option Sl) : ∀ (os acc : List Od) (x2 x3 : Option Sl), dv acc + dv os <= 1000 -> acc.length + os.length <= 1000 -> ∃ y2 y3, ci (gH 2) (eh F jnF) (os.map oD) [x0, some (.own (acc.map oD)), x2, x3] = .nx [x0, some (.own ((os.foldl cG acc).map oD)), y2, y3]
  | [], acc, x2, x3, _, _ => ⟨x2, x3, rfl⟩
  | o :: os, acc, x2, x3, h1, h2 => by
    have e : dv (o :: os) = iy o + dv os := by simp [dv]
    simp only [List.length_cons] at h2
    obtain ⟨p1, p2, _⟩ := qI acc o
    obtain ⟨z3, hB⟩ := rF (F := F) x0 x3 acc o (fun p hp => by have := zz hp; omega) (by omega)
    obtain ⟨y2, y3, ih⟩ := lJ (F := F) x0 os (cG acc o) (some (.val (oD o))) z3 (by omega) (by omega)
    exact ⟨y2, y3, by rw [List.map_cons, eB (ρ1 := [x0, some (.own (acc.map oD)), some (.val (oD o)), x3]) rfl hB, ih]; rfl⟩
def shF (C : Addr) : List D -> R D
  | [t] => if tgD t = true then (if dl t = true then (match oP (lsD t) with
      | some os => if dv os <= 1000 then .ok (.lst false ((shO os).map oD)) else .no
      | none => .no) else .ex C) else .no
  | _ => .no
theorem ou {C : Addr} : ∀ ds : List D, ds.length = 1 -> shF C ds = .no \/ aK (eS (vo C) jnF (aN 4 ds)) = shF C ds := by
  intro ds hl
  match ds, hl with
  | [t], _ =>
    by_cases hd : tgD t = true
    . have s2 : vo C [t] = if dl t = true then .ok .non else .ex C := if_pos hd
      show _ \/ aK (aM _ _ [some (.val t), none, none, none]) = _
      unfold iO iZ iU iG
      by_cases h2 : dl t = true
      . rw [if_pos h2] at s2
        cases t <;> first | (cases h2; done) | skip
        rename_i f ts hl2
        obtain ⟨os, rfl, hok⟩ := pB (ds := ts) h2
        have e0 : shF C [.lst f (os.map oD)] = if dv os <= 1000 then .ok (.lst false ((shO os).map oD)) else .no := by
          show (if _ then (if _ then _ else _) else _) = _
          rw [if_pos hd, if_pos h2]
          show (match oP (os.map oD) with | some os => (if dv os <= 1000 then R.ok (D.lst false ((shO os).map oD)) else .no) | none => .no) = _
          rw [fT]
        rw [e0]
        by_cases hn : dv os <= 1000
        . rw [if_pos hn]
          refine Or.inr ?_
          have hnl : os.length <= 1000 := by
            simp only [tgD, Bool.and_eq_true, decide_eq_true_eq, List.length_map] at hd; exact hd.2
          have il : bH (.lst f (os.map oD)) = .ok (os.map oD) := rfl
          obtain ⟨y2, y3, hL⟩ := lJ (F := vo C) (some (.val (.lst f (os.map oD)))) os [] none none (by simpa [dv] using hn) (by simpa using hnl)
          have es : os.foldl cG [] = shO os := rfl
          rw [es, List.map_nil] at hL
          have f1 : ∀ (a0 a2 a3 : Option Sl) (ds : List D), frz 1 [a0, some (.own ds), a2, a3] = [a0, some (.val (.lst false ds)), a2, a3] := fun _ _ _ _ => rfl
          have z0 : (0 : Nat) <= sizeLine := Nat.zero_le _
          clear hl hl2 e0 hd h2 hok hn hnl es
          walk_at "run"
        . rw [if_neg hn]; exact Or.inl rfl
      . rw [if_neg h2] at s2
        refine Or.inr ?_
        have e0 : shF C [t] = .ex C := by
          show (if _ then (if _ then _ else _) else _) = _
          rw [if_pos hd, if_neg h2]
        rw [e0]
        clear hl e0 hd h2
        walk_at "run"
    . exact Or.inl (if_neg hd)
def lcF : List D -> R D
  | [.lst _ ds] => match oP ds with
    | some os => .ok (.int ((os.map bJ).sum : Nat))
    | none => .no
  | _ => .no
theorem lG (x0 : Option Sl) : ∀ (os : List Od) (n : Nat) (x2 : Option Sl), ∃ y2, ci (gH 2) eV (os.map oD) [x0, some (.val (.int (n : Int))), x2] = .nx [x0, some (.val (.int ((n + (os.map bJ).sum : Nat) : Int))), y2]
  | [], n, x2 => ⟨x2, by simp [ci]⟩
  | o :: os, n, x2 => by
    obtain ⟨y2, ih⟩ := lG x0 os (n + bJ o) (some (.val (oD o)))
    refine ⟨y2, ?_⟩
    have hB : eV [x0, some (.val (.int (n : Int))), some (.val (oD o))] = .nx [x0, some (.val (.int ((n + bJ o : Nat) : Int))), some (.val (oD o))] := by
      unfold eV
      cases o with
      | say x =>
        have x0' : ixD (oD (.say x)) (.int 0) = some (.str [115, 97, 121]) := rfl
        have x1 : ixD (oD (.say x)) (.int 1) = some (.str x) := rfl
        have q0 : ([115, 97, 121] == ([115, 97, 121] : List Nat)) = true := by decide
        have k : (n : Int) + (x.length : Int) = ((n + x.length : Nat) : Int) := by omega
        have ec : bJ (.say x) = x.length := rfl
        rw [ec]
        clear ih ec
        walk_at "run"
      | go r c =>
        have k : ((n + 2 : Nat) : Int) = (n : Int) + 2 := by omega
        show _ = O.nx [x0, some (.val (.int ((n + 2 : Nat) : Int))), _]
        rw [k]; rfl
      | wipe =>
        have k : ((n + 1 : Nat) : Int) = (n : Int) + 1 := by omega
        show _ = O.nx [x0, some (.val (.int ((n + 1 : Nat) : Int))), _]
        rw [k]; rfl
    rw [List.map_cons, eB (ρ1 := [x0, some (.val (.int (n : Int))), some (.val (oD o))]) rfl hB, ih, List.map_cons, List.sum_cons, Nat.add_assoc]
theorem pK : ∀ ds : List D, ds.length = 1 -> lcF ds = .no \/ aK (fR (aN 3 ds)) = lcF ds := by
  intro ds hl
  match ds, hl with
  | [t], _ =>
    cases t <;> first | exact Or.inl rfl | skip
    rename_i f ts hl2
    cases q : oP ts with
    | none => exact Or.inl (by simp only [lcF, q])
    | some os =>
      refine Or.inr ?_
      have e0 : lcF [.lst f ts] = .ok (.int ((os.map bJ).sum : Nat)) := by simp only [lcF, q]
      rw [e0]
      have := tR q
      subst this
      show aK (aM _ _ [some (.val (.lst f (os.map oD))), none, none]) = _
      obtain ⟨y2, hL⟩ := lG (some (.val (.lst f (os.map oD)))) os 0 none
      rw [Nat.zero_add] at hL
      have k0 : ((0 : Nat) : Int) = 0 := rfl
      rw [k0] at hL
      have il : bH (.lst f (os.map oD)) = .ok (os.map oD) := rfl
      unfold kC jt jy
      clear q e0 hl hl2 k0
      walk_at "run"
end Q
namespace Q11
open L2 Q
open PySem (sizeLine Addr)
noncomputable def kB (ah ae : Addr) (al ar : Addr) (af az aA : Addr) (rs : List Addr) : Ev -> O := (rP 1 (iW (ac (aI (mw (rK rs al)) (fun ρ => rdV ρ 0)) (ac (aI (mw (rK rs ae)) (fun ρ => rdV ρ 0)) (ac (aI (mw (rK rs ah)) (fun ρ => rdV ρ 0)) (fun _ => R.ok []))))))
noncomputable def jZ (ah ae : Addr) (al ar : Addr) (af az aA : Addr) (rs : List Addr) : Ev -> O := (zS 1 (bx (iW (ac (aI (mw (rK rs af)) (fun ρ => rdV ρ 0)) (ac (aI (mw (rK rs ar)) (fun ρ => rdV ρ 0)) (fun _ => R.ok []))))))
noncomputable def jE (ah ae : Addr) (al ar : Addr) (af az aA : Addr) (rs : List Addr) : Ev -> O := (zS 1 (bx (iW (ac (aI (mw (rK rs aA)) (fun ρ => rdV ρ 0)) (ac (aI (mw (rK rs az)) (fun ρ => rdV ρ 0)) (fun _ => R.ok []))))))
noncomputable def jO (ah ae : Addr) (al ar : Addr) (af az aA : Addr) (rs : List Addr) : Ev -> O := (oIf (ig (gB2 neF (mv "list" lI (fun ρ => rdV ρ 1) (ac (fun _ => R.ok (D.bl true)) (fun _ => R.ok []))) (fun _ => R.ok (D.int 1))) (gBn (aI fw (aI (mw (rR rs)) (fun ρ => rdV ρ 0))))) (aM (bO (fun _ => R.ok (D.str [119, 114, 111, 110, 103]))) oNx) oNx)
noncomputable def kQ (ah ae : Addr) (al ar : Addr) (af az aA : Addr) (rs : List Addr) : Ev -> O := (bO (g2 ixD (bx (iW (ac (fun _ => R.ok (D.str [110, 111, 32, 110, 117, 109, 98, 101, 114])) (ac (fun _ => R.ok (D.str [110, 111, 32, 111, 114, 100, 101, 114])) (ac (fun _ => R.ok (D.str [110, 111, 32, 114, 111, 111, 109])) (ac (fun _ => R.ok (D.str [110, 111, 32, 115, 99, 114, 101, 101, 110])) (ac (fun _ => R.ok (D.str [110, 111, 32, 116, 97, 98, 108, 101])) (ac (fun _ => R.ok (D.str [110, 111, 32, 116, 97, 115, 107])) (ac (fun _ => R.ok (D.str [110, 111, 32, 116, 101, 120, 116])) (fun _ => R.ok [])))))))))) (mv "list" lD (fun ρ => rdV ρ 1) (ac (fun _ => R.ok (D.bl true)) (fun _ => R.ok [])))))
noncomputable def cY (ah ae : Addr) (al ar : Addr) (af az aA : Addr) (rs : List Addr) : Ev -> O := (aM (kB ah ae al ar af az aA rs) (aM (jZ ah ae al ar af az aA rs) (aM (jE ah ae al ar af az aA rs) (vQ 1 (aM (jO ah ae al ar af az aA rs) (aM (kQ ah ae al ar af az aA rs) oNx))))))
noncomputable def kE (ay aV : List D -> R D) (av bj : List D -> R D) (rs : List Addr) : Ev -> O := (cP 3 (fun _ => R.ok D.non))
noncomputable def jT (ay aV : List D -> R D) (av bj : List D -> R D) (rs : List Addr) : Ev -> O := (cP 4 (fun _ => R.ok D.non))
noncomputable def fM (ay aV : List D -> R D) (av bj : List D -> R D) (rs : List Addr) : Ev -> O := (wr (aM (cP 4 (gIf (gB2 eqF (fun ρ => rdV ρ 0) (fun _ => R.ok (D.int 0))) (aR 2 ay (ac (fun ρ => rdV ρ 1) (ac (fun ρ => rdV ρ 2) (fun _ => R.ok [])))) (uv [aR 1 aV (ac (fun ρ => rdV ρ 2) (fun _ => R.ok [])), aR 1 av (ac (fun ρ => rdV ρ 2) (fun _ => R.ok []))] (g2 oO (fun ρ => rdV ρ 0) (fun _ => R.ok (D.int 1)))))) oNx) (aM (cP 3 (fun ρ => rdV ρ 5)) oNx) (rR rs) 5)
noncomputable def ka (ay aV : List D -> R D) (av bj : List D -> R D) (rs : List Addr) : Ev -> O := (oIf (gB2 isF (fun ρ => rdV ρ 3) (fun _ => R.ok D.non)) (aM (bO (fun ρ => rdV ρ 4)) oNx) oNx)
noncomputable def jx (ay aV : List D -> R D) (av bj : List D -> R D) (rs : List Addr) : Ev -> O := (bO (aR 1 bj (ac (fun ρ => rdV ρ 3) (fun _ => R.ok []))))
noncomputable def iB (ay aV : List D -> R D) (av bj : List D -> R D) (rs : List Addr) : Ev -> O := (aM (kE ay aV av bj rs) (aM (jT ay aV av bj rs) (aM (fM ay aV av bj rs) (aM (ka ay aV av bj rs) (aM (jx ay aV av bj rs) oNx)))))
noncomputable def yx (ag ax : List D -> R D) (aD aH : List D -> R D) (aC aV : List D -> R D) (av ay : List D -> R D) (bh ak am : List D -> R D) : Ev -> O := (CI 1 2 (ac (g2 bw (fun _ => R.ok (D.int 2)) (aR 3 ag (ac (fun ρ => rdV ρ 0) (ac (fun _ => R.ok (D.int 0)) (ac (fun _ => R.ok (D.int 9)) (fun _ => R.ok [])))))) (ac (g2 bw (fun _ => R.ok (D.int 1)) (aR 3 ag (ac (fun ρ => rdV ρ 0) (ac (fun _ => R.ok (D.int 1)) (ac (fun _ => R.ok (D.int 3)) (fun _ => R.ok [])))))) (fun _ => R.ok []))))
noncomputable def yf (ag ax : List D -> R D) (aD aH : List D -> R D) (aC aV : List D -> R D) (av ay : List D -> R D) (bh ak am : List D -> R D) : Ev -> O := (cP 3 (aR 4 ax (ac (fun ρ => rdV ρ 0) (ac (fun _ => R.ok (D.int 10)) (ac (fun ρ => rdV ρ 1) (ac (fun ρ => rdV ρ 2) (fun _ => R.ok [])))))))
noncomputable def ye (ag ax : List D -> R D) (aD aH : List D -> R D) (aC aV : List D -> R D) (av ay : List D -> R D) (bh ak am : List D -> R D) : Ev -> O := (rP 4 (iW (fun _ => R.ok [])))
noncomputable def qw (ag ax : List D -> R D) (aD aH : List D -> R D) (aC aV : List D -> R D) (av ay : List D -> R D) (bh ak am : List D -> R D) : Ev -> O := (aM (rP 6 (iW (ac (aI mkT (ac (fun _ => R.ok (D.str [115, 97, 121])) (ac (gSl (fun _ => R.ok (D.str [97, 98, 35])) (fun _ => R.ok none) (da (g2 bw (fun _ => R.ok (D.int 1)) (aR 3 ag (ac (fun ρ => rdV ρ 0) (ac (g2 bw (fun _ => R.ok (D.int 500)) (fun ρ => rdV ρ 5)) (ac (fun _ => R.ok (D.int 3)) (fun _ => R.ok [])))))))) (fun _ => R.ok [])))) (ac (aI mkT (ac (fun _ => R.ok (D.str [119, 105, 112, 101])) (fun _ => R.ok []))) (ac (aI mkT (ac (fun _ => R.ok (D.str [119, 105, 112, 101])) (fun _ => R.ok []))) (fun _ => R.ok [])))))) (aM (zS 6 (g2 gn (bx (iW (ac (aI mkT (ac (fun _ => R.ok (D.str [103, 111])) (ac (aR 3 ag (ac (fun ρ => rdV ρ 0) (ac (g2 bw (fun _ => R.ok (D.int 510)) (fun ρ => rdV ρ 5)) (ac (fun ρ => rdV ρ 2) (fun _ => R.ok []))))) (ac (aR 3 ag (ac (fun ρ => rdV ρ 0) (ac (g2 bw (fun _ => R.ok (D.int 520)) (fun ρ => rdV ρ 5)) (ac (g2 bw (fun ρ => rdV ρ 1) (fun _ => R.ok (D.int 1))) (fun _ => R.ok []))))) (fun _ => R.ok []))))) (fun _ => R.ok [])))) (fun _ => R.ok (D.int 2)))) (aM (wk 6 4 (g2 ixD (fun ρ => rdV ρ 6) (aR 3 ag (ac (fun ρ => rdV ρ 0) (ac (g2 bw (fun _ => R.ok (D.int 530)) (fun ρ => rdV ρ 5)) (ac (fun _ => R.ok (D.int 5)) (fun _ => R.ok []))))))) oNx)))
noncomputable def yg (ag ax : List D -> R D) (aD aH : List D -> R D) (aC aV : List D -> R D) (av ay : List D -> R D) (bh ak am : List D -> R D) : Ev -> O := (oM (gH 5) (aI bE (ac (aR 3 ag (ac (fun ρ => rdV ρ 0) (ac (fun _ => R.ok (D.int 2)) (ac (fun _ => R.ok (D.int 9)) (fun _ => R.ok []))))) (fun _ => R.ok []))) (qw ag ax aD aH aC aV av ay bh ak am))
noncomputable def yv (ag ax : List D -> R D) (aD aH : List D -> R D) (aC aV : List D -> R D) (av ay : List D -> R D) (bh ak am : List D -> R D) : Ev -> O := (cP 7 (fun ρ => rdV ρ 3))
noncomputable def qV (ag ax : List D -> R D) (aD aH : List D -> R D) (aC aV : List D -> R D) (av ay : List D -> R D) (bh ak am : List D -> R D) : Ev -> O := (aM (cP 7 (gIf (gB2 neF (fun ρ => rdV ρ 7) (fun _ => R.ok (D.str [110, 111, 32, 114, 111, 111, 109]))) (aR 2 aD (ac (fun ρ => rdV ρ 7) (ac (fun ρ => rdV ρ 8) (fun _ => R.ok [])))) (fun ρ => rdV ρ 7))) oNx)
noncomputable def yn (ag ax : List D -> R D) (aD aH : List D -> R D) (aC aV : List D -> R D) (av ay : List D -> R D) (bh ak am : List D -> R D) : Ev -> O := (oM (gH 8) (aI bH (fun ρ => rdV ρ 4)) (qV ag ax aD aH aC aV av ay bh ak am))
noncomputable def yk (ag ax : List D -> R D) (aD aH : List D -> R D) (aC aV : List D -> R D) (av ay : List D -> R D) (bh ak am : List D -> R D) : Ev -> O := (oIf (ig (gB2 neF (aR 3 aH (ac (fun _ => R.ok (D.int 0)) (ac (fun ρ => rdV ρ 3) (ac (fun ρ => rdV ρ 4) (fun _ => R.ok []))))) (fun ρ => rdV ρ 7)) (gB2 neF (aR 3 aH (ac (fun _ => R.ok (D.int 1)) (ac (fun _ => R.ok D.non) (ac (fun ρ => rdV ρ 4) (fun _ => R.ok []))))) (aR 1 aC (ac (fun ρ => rdV ρ 4) (fun _ => R.ok []))))) (aM (bO (fun _ => R.ok (D.bl false))) oNx) oNx)
noncomputable def vI (ag ax : List D -> R D) (aD aH : List D -> R D) (aC aV : List D -> R D) (av ay : List D -> R D) (bh ak am : List D -> R D) : Ev -> O := (cP 9 (aR 3 aH (ac (fun _ => R.ok (D.int 2)) (ac (fun _ => R.ok D.non) (ac (fun ρ => rdV ρ 4) (fun _ => R.ok []))))))
noncomputable def pw (ag ax : List D -> R D) (aD aH : List D -> R D) (aC aV : List D -> R D) (av ay : List D -> R D) (bh ak am : List D -> R D) : Ev -> O := (oIf (ig (gB2 gtD (aR 1 aV (ac (fun ρ => rdV ρ 9) (fun _ => R.ok []))) (aR 1 aV (ac (fun ρ => rdV ρ 4) (fun _ => R.ok [])))) (ig (gB2 neF (aR 1 av (ac (fun ρ => rdV ρ 9) (fun _ => R.ok []))) (fun ρ => rdV ρ 9)) (pS (gB2 neF (fun ρ => rdV ρ 7) (fun _ => R.ok (D.str [110, 111, 32, 114, 111, 111, 109]))) (gB2 neF (aR 2 ay (ac (fun ρ => rdV ρ 3) (ac (fun ρ => rdV ρ 9) (fun _ => R.ok [])))) (fun ρ => rdV ρ 7))))) (aM (bO (fun _ => R.ok (D.bl false))) oNx) oNx)
noncomputable def uB (ag ax : List D -> R D) (aD aH : List D -> R D) (aC aV : List D -> R D) (av ay : List D -> R D) (bh ak am : List D -> R D) : Ev -> O := (rP 10 (eM (aI bE (ac (g2 oO (gOf dw (ac (fun ρ => rdV ρ 9) (fun _ => R.ok []))) (fun _ => R.ok (D.int 1))) (fun _ => R.ok []))) [9] (fun _ => R.ok true) (aI mkT (ac (g2 ixD (g2 ixD (fun ρ => rdV ρ 1) (fun ρ => rdV ρ 0)) (fun _ => R.ok (D.int 0))) (ac (g2 ixD (g2 ixD (fun ρ => rdV ρ 1) (g2 bw (fun ρ => rdV ρ 0) (fun _ => R.ok (D.int 1)))) (fun _ => R.ok (D.int 0))) (fun _ => R.ok []))))))
noncomputable def ul (ag ax : List D -> R D) (aD aH : List D -> R D) (aC aV : List D -> R D) (av ay : List D -> R D) (bh ak am : List D -> R D) : Ev -> O := (oIf (ig (gB2 inF (aI mkT (ac (fun _ => R.ok (D.str [103, 111])) (ac (fun _ => R.ok (D.str [103, 111])) (fun _ => R.ok [])))) (fun ρ => rdV ρ 10)) (ig (gB2 inF (aI mkT (ac (fun _ => R.ok (D.str [119, 105, 112, 101])) (ac (fun _ => R.ok (D.str [119, 105, 112, 101])) (fun _ => R.ok [])))) (fun ρ => rdV ρ 10)) (gB2 inF (aI mkT (ac (fun _ => R.ok (D.str [115, 97, 121])) (ac (fun _ => R.ok (D.str [115, 97, 121])) (fun _ => R.ok [])))) (fun ρ => rdV ρ 10)))) (aM (bO (fun _ => R.ok (D.bl false))) oNx) oNx)
noncomputable def pD (ag ax : List D -> R D) (aD aH : List D -> R D) (aC aV : List D -> R D) (av ay : List D -> R D) (bh ak am : List D -> R D) : Ev -> O := (oIf (pS (gB2 neF (fun ρ => rdV ρ 4) (bx (iW (fun _ => R.ok [])))) (pS (gB2 neF (fun ρ => rdV ρ 7) (fun _ => R.ok (D.str [110, 111, 32, 114, 111, 111, 109]))) (gB2 neF (aR 2 ay (ac (aR 2 bh (ac (fun ρ => rdV ρ 3) (ac (g2 ixD (fun ρ => rdV ρ 4) (fun _ => R.ok (D.int 0))) (fun _ => R.ok [])))) (ac (gSl (fun ρ => rdV ρ 4) (da (fun _ => R.ok (D.int 1))) (fun _ => R.ok none)) (fun _ => R.ok [])))) (fun ρ => rdV ρ 7)))) (aM (bO (fun _ => R.ok (D.bl false))) oNx) oNx)
noncomputable def sT (ag ax : List D -> R D) (aD aH : List D -> R D) (aC aV : List D -> R D) (av ay : List D -> R D) (bh ak am : List D -> R D) : Ev -> O := (cP 11 (g2 bw (fun ρ => rdV ρ 4) (bx (iW (ac (aI mkT (ac (fun _ => R.ok (D.str [103, 111])) (ac (fun _ => R.ok (D.int 0)) (ac (fun _ => R.ok (D.int 99)) (fun _ => R.ok []))))) (fun _ => R.ok []))))))
noncomputable def uk (ag ax : List D -> R D) (aD aH : List D -> R D) (aC aV : List D -> R D) (av ay : List D -> R D) (bh ak am : List D -> R D) : Ev -> O := (rP 12 (eM (aI bE (ac (fun _ => R.ok (D.int 3)) (fun _ => R.ok []))) [3, 11] (fun _ => R.ok true) (aR 3 aH (ac (fun ρ => rdV ρ 0) (ac (fun ρ => rdV ρ 1) (ac (fun ρ => rdV ρ 2) (fun _ => R.ok [])))))))
noncomputable def uO (ag ax : List D -> R D) (aD aH : List D -> R D) (aC aV : List D -> R D) (av ay : List D -> R D) (bh ak am : List D -> R D) : Ev -> O := (oIf (gB2 neF (g2 bw (fun ρ => rdV ρ 12) (bx (iW (ac (aR 3 aH (ac (fun _ => R.ok (D.int 0)) (ac (fun ρ => rdV ρ 3) (ac (bx (iW (ac (aI mkT (ac (fun _ => R.ok (D.str [103, 111])) (ac (fun _ => R.ok (D.int 11)) (ac (fun _ => R.ok (D.int 40)) (fun _ => R.ok []))))) (ac (fun _ => R.ok D.non) (fun _ => R.ok []))))) (fun _ => R.ok []))))) (fun _ => R.ok []))))) (g2 gn (bx (iW (ac (fun _ => R.ok (D.str [110, 111, 32, 111, 114, 100, 101, 114])) (fun _ => R.ok [])))) (fun _ => R.ok (D.int 4)))) (aM (bO (fun _ => R.ok (D.bl false))) oNx) oNx)
noncomputable def ug (ag ax : List D -> R D) (aD aH : List D -> R D) (aC aV : List D -> R D) (av ay : List D -> R D) (bh ak am : List D -> R D) : Ev -> O := (cP 13 (aR 3 ak (ac (fun ρ => rdV ρ 0) (ac (fun _ => R.ok (D.int 560)) (ac (fun ρ => rdV ρ 3) (fun _ => R.ok []))))))
noncomputable def vD (ag ax : List D -> R D) (aD aH : List D -> R D) (aC aV : List D -> R D) (av ay : List D -> R D) (bh ak am : List D -> R D) : Ev -> O := (bO (gOr (aR 1 am (ac (fun ρ => rdV ρ 13) (fun _ => R.ok []))) (g2 eqF (aR 3 aH (ac (fun _ => R.ok (D.int 0)) (ac (fun ρ => rdV ρ 13) (ac (fun ρ => rdV ρ 11) (fun _ => R.ok []))))) (fun _ => R.ok (D.str [110, 111, 32, 115, 99, 114, 101, 101, 110])))))
noncomputable def oT (ag ax : List D -> R D) (aD aH : List D -> R D) (aC aV : List D -> R D) (av ay : List D -> R D) (bh ak am : List D -> R D) : Ev -> O := (aM (yx ag ax aD aH aC aV av ay bh ak am) (aM (yf ag ax aD aH aC aV av ay bh ak am) (aM (ye ag ax aD aH aC aV av ay bh ak am) (aM (yg ag ax aD aH aC aV av ay bh ak am) (aM (yv ag ax aD aH aC aV av ay bh ak am) (vQ 4 (aM (yn ag ax aD aH aC aV av ay bh ak am) (aM (yk ag ax aD aH aC aV av ay bh ak am) (aM (vI ag ax aD aH aC aV av ay bh ak am) (aM (pw ag ax aD aH aC aV av ay bh ak am) (aM (uB ag ax aD aH aC aV av ay bh ak am) (vQ 10 (aM (ul ag ax aD aH aC aV av ay bh ak am) (aM (pD ag ax aD aH aC aV av ay bh ak am) (aM (sT ag ax aD aH aC aV av ay bh ak am) (aM (uk ag ax aD aH aC aV av ay bh ak am) (vQ 12 (aM (uO ag ax aD aH aC aV av ay bh ak am) (aM (ug ag ax aD aH aC aV av ay bh ak am) (aM (vD ag ax aD aH aC aV av ay bh ak am) oNx))))))))))))))))))))
def wordsL : List D := [.str [110, 111, 32, 110, 117, 109, 98, 101, 114], .str [110, 111, 32, 111, 114, 100, 101, 114], .str [110, 111, 32, 114, 111, 111, 109], .str [110, 111, 32, 115, 99, 114, 101, 101, 110], .str [110, 111, 32, 116, 97, 98, 108, 101], .str [110, 111, 32, 116, 97, 115, 107], .str [110, 111, 32, 116, 101, 120, 116]]
def lf (rs : List Addr) (cs : List Addr) : List D -> R D
  | [.exc C] => if C ∈ rs /\ C ∈ cs then .ok (wordsL.getD (cs.idxOf C) .non) else .no
  | _ => .no
theorem E9 {C c1 c2 c3 c4 c5 c6 c7 : Nat} (nd : [c1, c2, c3, c4, c5, c6, c7].Nodup) (h : C ∈ [c1, c2, c3, c4, c5, c6, c7]) : ∃ i : Nat, i < 7 /\ [c1, c2, c3, c4, c5, c6, c7].idxOf C = i /\ (C == c1) = (0 == i) /\ (C == c2) = (1 == i) /\ (C == c3) = (2 == i) /\ (C == c4) = (3 == i) /\ (C == c5) = (4 == i) /\ (C == c6) = (5 == i) /\ (C == c7) = (6 == i) := by
  simp only [List.mem_cons, List.mem_nil_iff, or_false] at h
  simp only [List.nodup_cons, List.mem_cons, List.mem_nil_iff, or_false, not_or] at nd
  obtain ⟨⟨n12, n13, n14, n15, n16, n17⟩, ⟨n23, n24, n25, n26, n27⟩, ⟨n34, n35, n36, n37⟩, ⟨n45, n46, n47⟩, ⟨n56, n57⟩, n67, _⟩ := nd
  rcases h with rfl | rfl | rfl | rfl | rfl | rfl | rfl
  . exact ⟨0, by decide, by simp [List.idxOf_cons], by simp, by simp [n12], by simp [n13], by simp [n14], by simp [n15], by simp [n16], by simp [n17]⟩
  . exact ⟨1, by decide, by simp [List.idxOf_cons, beq_eq_false_iff_ne.2 n12], by simp [Ne.symm n12], by simp, by simp [n23], by simp [n24], by simp [n25], by simp [n26], by simp [n27]⟩
  . exact ⟨2, by decide, by simp [List.idxOf_cons, beq_eq_false_iff_ne.2 n13, beq_eq_false_iff_ne.2 n23], by simp [Ne.symm n13], by simp [Ne.symm n23], by simp, by simp [n34], by simp [n35], by simp [n36], by simp [n37]⟩
  . exact ⟨3, by decide, by simp [List.idxOf_cons, beq_eq_false_iff_ne.2 n14, beq_eq_false_iff_ne.2 n24, beq_eq_false_iff_ne.2 n34], by simp [Ne.symm n14], by simp [Ne.symm n24], by simp [Ne.symm n34], by simp, by simp [n45], by simp [n46], by simp [n47]⟩
  . exact ⟨4, by decide, by simp [List.idxOf_cons, beq_eq_false_iff_ne.2 n15, beq_eq_false_iff_ne.2 n25, beq_eq_false_iff_ne.2 n35, beq_eq_false_iff_ne.2 n45], by simp [Ne.symm n15], by simp [Ne.symm n25], by simp [Ne.symm n35], by simp [Ne.symm n45], by simp, by simp [n56], by simp [n57]⟩
  . exact ⟨5, by decide, by simp [List.idxOf_cons, beq_eq_false_iff_ne.2 n16, beq_eq_false_iff_ne.2 n26, beq_eq_false_iff_ne.2 n36, beq_eq_false_iff_ne.2 n46, beq_eq_false_iff_ne.2 n56], by simp [Ne.symm n16], by simp [Ne.symm n26], by simp [Ne.symm n36], by simp [Ne.symm n46], by simp [Ne.symm n56], by simp, by simp [n67]⟩
  . exact ⟨6, by decide, by simp [List.idxOf_cons, beq_eq_false_iff_ne.2 n17, beq_eq_false_iff_ne.2 n27, beq_eq_false_iff_ne.2 n37, beq_eq_false_iff_ne.2 n47, beq_eq_false_iff_ne.2 n57, beq_eq_false_iff_ne.2 n67], by simp [Ne.symm n17], by simp [Ne.symm n27], by simp [Ne.symm n37], by simp [Ne.symm n47], by simp [Ne.symm n57], by simp [Ne.symm n67], by simp⟩
theorem nY {rs : List Addr} {c1 c2 c3 c4 c5 c6 c7 : Addr} (nd : [c1, c2, c3, c4, c5, c6, c7].Nodup) : ∀ ds : List D, ds.length = 1 -> lf rs [c1, c2, c3, c4, c5, c6, c7] ds = .no \/ aK (cY c3 c2 c1 c5 c4 c7 c6 rs (aN 2 ds)) = lf rs [c1, c2, c3, c4, c5, c6, c7] ds := by
  have r1 : True := trivial
  have k1 : True := trivial
  have k3 : True := trivial
  intro ds hl
  unfold cY kQ jO jE jZ kB
  match ds, hl with
  | [d], _ =>
    cases d <;> first | exact Or.inl rfl | skip
    rename_i C hl
    by_cases hC : C ∈ rs /\ C ∈ [c1, c2, c3, c4, c5, c6, c7]
    . refine Or.inr ?_
      have e2 : lf rs [c1, c2, c3, c4, c5, c6, c7] [.exc C] = .ok (wordsL.getD ([c1, c2, c3, c4, c5, c6, c7].idxOf C) .non) := if_pos hC
      rw [e2]
      show aK (aM _ _ [some (.val (.exc C)), none]) = _
      have y1 : ∀ T, mw (rK rs T) (.exc C) = .ok (.bl (C == T)) := fun T => by simp only [mw, rK, hC.1, if_true]; rfl
      have y2 : mw (rR rs) (.exc C) = .ok (.bl true) := by simp only [mw, rR, hC.1, if_true]; rfl
      obtain ⟨i, hi, ei, f1, f2, f3, f4, f5, f6, f7⟩ := E9 nd hC.2
      rw [ei]
      have z3 : 3 <= sizeLine := by decide
      have z2 : 2 <= sizeLine := by decide
      have z5 : 3 + 2 <= sizeLine := by decide
      have z7 : 5 + 2 <= sizeLine := by decide
      have z8 : 7 <= sizeLine := by decide
      have kd : ∀ x, jc "list" (.lst false x) = true := fun _ => rfl
      clear nd e2 hl hC ei
      have : i = 0 \/ i = 1 \/ i = 2 \/ i = 3 \/ i = 4 \/ i = 5 \/ i = 6 := by omega
      rcases this with rfl | rfl | rfl | rfl | rfl | rfl | rfl
      all_goals
        walk_at "run"
        all_goals rfl
    . exact Or.inl (if_neg hC)
def FA (rs cs : List Addr) : R D -> R D
  | .ok d => .ok d
  | .ex C => if C ∈ rs then lf rs cs [.exc C] else .no
  | .no => .no
theorem Cb {gb gs : Ev -> O} {f : Addr -> Option Bool} {i : Nat} {ρ ρ' : Ev} (h : gb ρ = .nx ρ') : wr gb gs f i ρ = .nx ρ' := by
  unfold wr; rw [h]
theorem Cg {gb gs : Ev -> O} {f : Addr -> Option Bool} {i : Nat} {ρ ρ' ρ'' : Ev} {C : Addr} (h : gb ρ = .ex C ρ') (hf : f C = some true) (hs : gs (ρ'.set i (some (.val (.exc C)))) = .nx ρ'') : wr gb gs f i ρ = .nx (ρ''.set i none) := by
  unfold wr; rw [h]; dsimp only; rw [hf]; dsimp only; rw [hs]
section
variable {a1 a2 a3 a4 a5 a6 a7 : Addr} (nd : [a1, a2, a3, a4, a5, a6, a7].Nodup)
include nd
theorem pe (i : Nat) (C : Addr) (hr : C ∈ [a2, a3, a4]) (hi : [a1, a2, a3, a4, a5, a6, a7][i]? = some C) : lf [a2, a3, a4] [a1, a2, a3, a4, a5, a6, a7] [.exc C] = .ok (wordsL.getD i .non) := by
  have hm := List.mem_of_getElem? hi
  have e : lf [a2, a3, a4] [a1, a2, a3, a4, a5, a6, a7] [.exc C] = .ok (wordsL.getD ([a1, a2, a3, a4, a5, a6, a7].idxOf C) .non) := if_pos ⟨hr, hm⟩
  have ei : ([a1, a2, a3, a4, a5, a6, a7] : List Addr).idxOf C = i := by
    have hlt := (List.getElem?_eq_some_iff.mp hi).1
    have hg := (List.getElem?_eq_some_iff.mp hi).2
    rw [<- hg]
    exact List.Nodup.idxOf_getElem nd i hlt
  rw [e, ei]
end
theorem mO {s o r n b k x : Addr} (nd : [s, o, r, n, b, k, x].Nodup) : [n, o, r, s, b, k, x].Nodup := by
  simp only [List.nodup_cons, List.mem_cons, List.mem_nil_iff, or_false, not_or] at nd ⊢
  obtain ⟨⟨n12, n13, n14, n15, n16, n17⟩, ⟨n23, n24, n25, n26, n27⟩, ⟨n34, n35, n36, n37⟩, ⟨n45, n46, n47⟩, ⟨n56, n57⟩, n67, h⟩ := nd
  exact ⟨⟨Ne.symm n24, Ne.symm n34, Ne.symm n14, n45, n46, n47⟩, ⟨n23, Ne.symm n12, n25, n26, n27⟩, ⟨Ne.symm n13, n35, n36, n37⟩, ⟨n15, n16, n17⟩, ⟨n56, n57⟩, n67, h⟩
theorem oU {af ae ah al ar aA az : Addr} (nd : [af, ae, ah, al, ar, aA, az].Nodup) : ∀ ds : List D, ds.length = 1 -> lf [ae, ah, af] [al, ae, ah, af, ar, aA, az] ds = .no \/ aK (cY ah ae al ar af az aA [ae, ah, af] (aN 2 ds)) = lf [ae, ah, af] [al, ae, ah, af, ar, aA, az] ds := nY (mO nd)
abbrev wF (af ae ah al ar aA az : Addr) : List D -> R D := lf [ae, ah, af] [al, ae, ah, af, ar, aA, az]
def dF (Cs Co Cr : Addr) (d t : D) : D -> R D
  | .int i => if i == 0 then adF Cs Co Cr [d, t] else if i == 1 then coF Co [t] else if i == 2 then shF Co [t] else .no
  | _ => .no
def doY (af ae ah al ar aA az : Addr) : List D -> R D
  | [w, d, t] => match dF af ae ah d t w with
    | .ok x => .ok x
    | .ex C => wF af ae ah al ar aA az [.exc C]
    | .no => .no
  | _ => .no
theorem tM {af ae ah al ar aA az : Addr} (nd : [af, ae, ah, al, ar, aA, az].Nodup) : ∀ ds : List D, ds.length = 3 -> doY af ae ah al ar aA az ds = .no \/ aK (iB (adF af ae ah) (coF ae) (shF ae) (wF af ae ah al ar aA az) [ae, ah, af] (aN 6 ds)) = doY af ae ah al ar aA az ds := by
  intro ds hl
  clear nd
  match ds, hl with
  | [w, d, t], _ =>
    cases w <;> first | exact Or.inl rfl | skip
    rename_i i hl
    have i1 : isF .non .non = some (.bl true) := rfl
    have i2 : ∀ C, isF (.exc C) .non = some (.bl false) := fun _ => rfl
    show _ \/ aK (aM _ _ [some (.val (.int i)), some (.val d), some (.val t), none, none, none]) = _
    have eg : dF af ae ah d t (.int i) = .no \/ ∀ ρ3 ρ4 ρ5 : Option Sl, (gIf (gB2 eqF (fun ρ => rdV ρ 0) (fun _ => R.ok (D.int 0))) (aR 2 (adF af ae ah) (ac (fun ρ => rdV ρ 1) (ac (fun ρ => rdV ρ 2) (fun _ => R.ok [])))) (uv [aR 1 (coF ae) (ac (fun ρ => rdV ρ 2) (fun _ => R.ok [])), aR 1 (shF ae) (ac (fun ρ => rdV ρ 2) (fun _ => R.ok []))] (g2 oO (fun ρ => rdV ρ 0) (fun _ => R.ok (D.int 1))))) [some (.val (.int i)), some (.val d), some (.val t), ρ3, ρ4, ρ5] = dF af ae ah d t (.int i) := by
      by_cases h0 : i = 0
      . subst h0
        refine Or.inr fun ρ3 ρ4 ρ5 => ?_
        have e9 : dF af ae ah d t (.int 0) = adF af ae ah [d, t] := rfl
        rw [e9]
        have q : ((0 : Int) == 0) = true := rfl
        clear hl e9
        walk_at "run"
      . by_cases h1 : i = 1
        . subst h1
          refine Or.inr fun ρ3 ρ4 ρ5 => ?_
          have e9 : dF af ae ah d t (.int 1) = coF ae [t] := rfl
          rw [e9]
          have q : ((1 : Int) == 0) = false := rfl
          have q2 : (1 : Int) - 1 = 0 := rfl
          clear hl e9 h0
          walk_at "run"
        . by_cases h2 : i = 2
          . subst h2
            refine Or.inr fun ρ3 ρ4 ρ5 => ?_
            have e9 : dF af ae ah d t (.int 2) = shF ae [t] := rfl
            rw [e9]
            have q : ((2 : Int) == 0) = false := rfl
            have q2 : (2 : Int) - 1 = 1 := rfl
            clear hl e9 h0 h1
            walk_at "run"
          . refine Or.inl ?_
            have a0 : (i == 0) = false := by simp [h0]
            have a1 : (i == 1) = false := by simp [h1]
            have a2 : (i == 2) = false := by simp [h2]
            simp only [dF, a0, a1, a2]; rfl
    rcases eg with eg | eg
    . exact Or.inl (by simp only [doY, eg])
    cases h1 : dF af ae ah d t (.int i) with
    | no => exact Or.inl (by simp only [doY, h1])
    | ok x =>
      refine Or.inr ?_
      have e1 : doY af ae ah al ar aA az [.int i, d, t] = .ok x := by simp only [doY, h1]
      rw [e1]
      generalize wF af ae ah al ar aA az = W
      have t : fM (adF af ae ah) (coF ae) (shF ae) W [ae, ah, af] [some (.val (.int i)), some (.val d), some (.val t), some (.val .non), some (.val .non), none] = .nx [some (.val (.int i)), some (.val d), some (.val t), some (.val .non), some (.val x), none] := by
        unfold fM
        refine Cb ?_
        rw [kA, wA, eg, h1]
        rfl
      unfold kE jT ka jx
      clear hl e1 eg h1
      walk_at "run"
      all_goals rfl
    | ex C =>
      have e1 : doY af ae ah al ar aA az [.int i, d, t] = wF af ae ah al ar aA az [.exc C] := by simp only [doY, h1]
      rw [e1]
      by_cases hC : C ∈ [ae, ah, af]
      . cases h2 : wF af ae ah al ar aA az [.exc C] with
        | no => exact Or.inl rfl
        | ex C' => simp only [wF, lf] at h2; split at h2 <;> cases h2
        | ok x =>
          refine Or.inr ?_
          generalize wF af ae ah al ar aA az = W at h2
          have t : fM (adF af ae ah) (coF ae) (shF ae) W [ae, ah, af] [some (.val (.int i)), some (.val d), some (.val t), some (.val .non), some (.val .non), none] = .nx [some (.val (.int i)), some (.val d), some (.val t), some (.val (.exc C)), some (.val .non), none] := by
            unfold fM
            have hf : rR [ae, ah, af] C = some true := if_pos hC
            refine Cg (C := C) (ρ' := [some (.val (.int i)), some (.val d), some (.val t), some (.val .non), some (.val .non), none]) (ρ'' := [some (.val (.int i)), some (.val d), some (.val t), some (.val (.exc C)), some (.val .non), some (.val (.exc C))]) ?_ hf ?_
            . rw [kA, wA, eg, h1]
              rfl
            . clear hl e1 hf hC eg h1 h2
              walk_at "run"
          unfold kE jT ka jx
          clear hl e1 hC eg h1
          walk_at "run"
          all_goals rfl
      . refine Or.inl ?_
        exact if_neg fun z => hC z.1
abbrev St := Nat × List (List Nat) × Nat × Nat
def sD (s : St) : D := scr s.1 s.2.1 s.2.2.1 s.2.2.2
def bV : St -> Od -> Option St
  | (wd, rows, r, c), .say x => if wd < c + x.length then none else some (wd, rows.set r ((rows.getD r []).take c ++ x ++ (rows.getD r []).drop (c + x.length)), r, c + x.length)
  | (wd, rows, r, c), .go n k => if rows.length <= n \/ wd < k then none else some (wd, rows, n, k)
  | (wd, rows, r, c), .wipe => some (wd, rows.set r ((rows.getD r []).take c ++ List.replicate (wd - c) 32), r, c)
structure GS (s : St) : Prop where
  w1 : 1 <= s.1
  w2 : s.1 <= 40
  m : s.2.1.length <= 12
  r : s.2.2.1 < s.2.1.length
  c : s.2.2.2 <= s.1
  l : ∀ x ∈ s.2.1, x.length = s.1 /\ plain x = true
theorem GS.ok {s : St} (h : GS s) : SOk s.1 s.2.1 s.2.2.1 s.2.2.2 := ⟨by have := h.w2; omega, h.c, h.r, by have := h.m; omega, fun x hx => (h.l x hx).1⟩
theorem GS.un {s : St} (h : GS s) : gA (sD s) = some s := qL h.ok
theorem GS.screen {s : St} (h : GS s) : screen (sD s) = true := by
  obtain ⟨wd, rows, r, c⟩ := s
  have h1 := h.w1
  have h2 := h.w2
  have h3 := h.m
  have h4 := h.r
  have h5 := h.c
  have h6 := h.l
  dsimp only at h1 h2 h3 h4 h5 h6
  have hf : qG (.tup (rows.map .str)) (wd : Int) = true := by
    simp only [qG, List.length_map, Bool.and_eq_true, decide_eq_true_eq, List.all_eq_true]
    refine ⟨⟨by omega, by omega⟩, fun d hd => ?_⟩
    obtain ⟨x, hx, rfl⟩ := List.mem_map.1 hd
    obtain ⟨q1, q2⟩ := h6 x hx
    simp [nv, q1, q2]
  simp only [sD, scr, Q.screen, hf, oA, inB, List.length_map, Bool.and_eq_true, decide_eq_true_eq]
  refine ⟨⟨⟨by omega, by omega⟩, trivial⟩, ?_⟩
  omega
theorem GS.good {s : St} (h : GS s) : good 4 (sD s) = true := by
  obtain ⟨wd, rows, r, c⟩ := s
  have h2 := h.w2
  have h6 := h.l
  dsimp only at h2 h6
  have : (rows.map D.str).all (Q.good 2) = true := by
    rw [List.all_eq_true]
    intro d hd
    obtain ⟨x, hx, rfl⟩ := List.mem_map.1 hd
    have := (h6 x hx).1
    simp only [Q.good, decide_eq_true_eq]; omega
  simp only [sD, scr, Q.good, List.all_cons, List.all_nil, this, Bool.and_true]
theorem yP (s : St) : cl 10 (sD s) = true := by
  have : (s.2.1.map D.str).all (cl 8) = true := by
    rw [List.all_eq_true]; intro d hd; obtain ⟨x, _, rfl⟩ := List.mem_map.1 hd; rfl
  simp only [sD, scr, cl, List.all_cons, List.all_nil, this, Bool.and_true, Bool.and_self]
def dJ : Option St -> D
  | some s => sD s
  | none => .str [110, 111, 32, 114, 111, 111, 109]
def CJ (C : Addr) : Option St -> R D
  | some s => .ok (sD s)
  | none => .ex C
theorem vK {C : Addr} {s : St} {o : Od} (h : GS s) (ho : okO o = true) : dS C [sD s, oD o] = CJ C (bV s o) := by
  have hu := h.un
  obtain ⟨wd, rows, r, c⟩ := s
  have n1 : ¬ ([103, 111] : List Nat) = [115, 97, 121] := by decide
  have n2 : ¬ ([119, 105, 112, 101] : List Nat) = [115, 97, 121] := by decide
  have n3 : ¬ ([119, 105, 112, 101] : List Nat) = [103, 111] := by decide
  cases o with
  | say x =>
    simp only [okO, Bool.and_eq_true, decide_eq_true_eq] at ho
    have e : dS C [sD (wd, rows, r, c), oD (.say x)] = fL C [sD (wd, rows, r, c), .str x] := by simp only [oD, dS, if_true]
    rw [e]
    simp only [fL, hu]
    rw [if_pos (by omega)]
    by_cases hn : wd < c + x.length
    . rw [if_pos hn]; simp only [bV, hn, if_true]; rfl
    . rw [if_neg hn]; simp only [bV, hn, if_false]; rfl
  | go n k =>
    have e : dS C [sD (wd, rows, r, c), oD (.go n k)] = fy C [sD (wd, rows, r, c), .int (n : Int), .int (k : Int)] := by simp only [oD, dS]; rw [if_neg n1, if_pos trivial]
    rw [e]
    simp only [fy, hu, Int.toNat_natCast]
    rw [if_pos (by omega)]
    by_cases hn : rows.length <= n \/ wd < k
    . rw [if_pos (by omega)]; simp only [bV, hn, if_true]; rfl
    . rw [if_neg (by omega)]; simp only [bV, hn, if_false]; rfl
  | wipe =>
    have e : dS C [sD (wd, rows, r, c), oD .wipe] = dC [sD (wd, rows, r, c)] := by simp only [oD, dS]; rw [if_neg n2, if_neg n3]
    rw [e]
    simp only [dC, hu]
    rfl
theorem fW {x y : List Nat} (h1 : plain x = true) (h2 : plain y = true) : plain (x ++ y) = true := by
  simp only [plain, List.all_append, Bool.and_eq_true] at *; exact ⟨h1, h2⟩
theorem ke {x y : List Nat} (h : plain x = true) (hs : ∀ c ∈ y, c ∈ x) : plain y = true := by
  simp only [plain, List.all_eq_true] at h ⊢; exact fun c hc => h c (hs c hc)
theorem qp {α : Type} {l : List α} {i : Nat} {a x : α} (h : x ∈ l.set i a) : x = a \/ x ∈ l := by
  rcases List.mem_or_eq_of_mem_set h with h | h
  . exact .inr h
  . exact .inl h
theorem qA {rows : List (List Nat)} {r : Nat} (h : r < rows.length) : rows.getD r [] ∈ rows := by
  rw [List.getD_eq_getElem?_getD, List.getElem?_eq_getElem h]; exact List.getElem_mem h
theorem mZ {s s' : St} {o : Od} (h : GS s) (ho : okO o = true) (e : bV s o = some s') : GS s' := by
  obtain ⟨wd, rows, r, c⟩ := s
  have h1 := h.w1
  have h2 := h.w2
  have h3 := h.m
  have h4 := h.r
  have h5 := h.c
  have h6 := h.l
  dsimp only at h1 h2 h3 h4 h5 h6
  obtain ⟨g1, g2⟩ := h6 _ (qA h4)
  cases o with
  | say x =>
    simp only [okO, Bool.and_eq_true, decide_eq_true_eq] at ho
    by_cases hn : wd < c + x.length
    . simp only [bV, hn, if_true] at e; cases e
    . simp only [bV, hn, if_false] at e
      cases e
      refine ⟨h1, h2, by simpa using h3, by simpa using h4, by dsimp only; omega, fun y hy => ?_⟩
      rcases qp hy with rfl | hy
      . refine ⟨by simp only [List.length_append, List.length_take, List.length_drop, List.length_replicate]; omega, fW (fW (ke g2 fun c hc => List.mem_of_mem_take hc) ho.1) (ke g2 fun c hc => List.mem_of_mem_drop hc)⟩
      . exact h6 y hy
  | go n k =>
    by_cases hn : rows.length <= n \/ wd < k
    . simp only [bV, hn, if_true] at e; cases e
    . simp only [bV, hn, if_false] at e
      cases e
      exact ⟨h1, h2, h3, by dsimp only; omega, by dsimp only; omega, h6⟩
  | wipe =>
    simp only [bV] at e
    cases e
    refine ⟨h1, h2, by simpa using h3, by simpa using h4, h5, fun y hy => ?_⟩
    rcases qp hy with rfl | hy
    . refine ⟨by simp only [List.length_append, List.length_take, List.length_drop, List.length_replicate]; omega, fW (ke g2 fun c hc => List.mem_of_mem_take hc) ?_⟩
      simp only [plain, List.all_eq_true]
      intro z hz
      rw [(List.mem_replicate.1 hz).2]; decide
    . exact h6 y hy
def rn (a : Option St) (os : List Od) : Option St := os.foldl (fun a o => a.bind fun s => bV s o) a
theorem lX (a : Option St) (o : Od) (os : List Od) : rn a (o :: os) = rn (a.bind fun s => bV s o) os := rfl
theorem nT (a : Option St) (os ps : List Od) : rn a (os ++ ps) = rn (rn a os) ps := List.foldl_append ..
theorem fB : ∀ os : List Od, rn none os = none
  | [] => rfl
  | _ :: os => fB os
theorem Cw : ∀ (os : List Od) {s s' : St}, GS s -> (∀ o ∈ os, okO o = true) -> rn (some s) os = some s' -> GS s'
  | [], s, s', h, _, e => by cases e; exact h
  | o :: os, s, s', h, ho, e => by
    rw [lX, Option.bind_some] at e
    cases q : bV s o with
    | none => rw [q, fB] at e; cases e
    | some s1 =>
      rw [q] at e
      exact Cw os (mZ h (ho o (List.mem_cons_self ..)) q) (fun p hp => ho p (List.mem_cons_of_mem _ hp)) e
theorem yA {C : Addr} : ∀ (os : List Od) {s : St}, GS s -> (∀ o ∈ os, okO o = true) -> mI C (sD s) (os.map oD) = CJ C (rn (some s) os)
  | [], s, _, _ => rfl
  | o :: os, s, h, ho => by
    have ha := vK (C := C) h (ho o (List.mem_cons_self ..))
    rw [lX, Option.bind_some, List.map_cons]
    cases q : bV s o with
    | none =>
      rw [q] at ha
      have ha : dS C [sD s, oD o] = .ex C := ha
      simp only [mI, ha, fB]; rfl
    | some s1 =>
      rw [q] at ha
      have ha : dS C [sD s, oD o] = .ok (sD s1) := ha
      simp only [mI, ha]
      exact yA os (mZ h (ho o (List.mem_cons_self ..)) q) fun p hp => ho p (List.mem_cons_of_mem _ hp)
theorem rl {rows : List (List Nat)} {r : Nat} {x : List Nat} (h : r < rows.length) : (rows.set r x).getD r [] = x := by
  rw [List.getD_eq_getElem?_getD, List.getElem?_set_self h]; rfl
theorem wP {s s1 s2 : St} {l o j : Od} (h : GS s) (hj : bQ l o = some j) (e1 : bV s l = some s1) (e2 : bV s1 o = some s2) : bV s j = some s2 := by
  obtain ⟨wd, rows, r, c⟩ := s
  have h4 := h.r
  have h5 := h.c
  have h6 := h.l
  dsimp only at h4 h5 h6
  obtain ⟨g1, _⟩ := h6 _ (qA h4)
  cases l <;> cases o <;> first | (simp [bQ] at hj; done) | skip
  . rename_i x y
    simp only [bQ] at hj
    split at hj
    . cases hj
      by_cases hn : wd < c + x.length
      . simp only [bV, hn, if_true] at e1; cases e1
      . simp only [bV, hn, if_false] at e1
        cases e1
        by_cases hm : wd < c + x.length + y.length
        . simp only [bV, hm, if_true] at e2; cases e2
        . simp only [bV, hm, if_false] at e2
          cases e2
          have hk : ¬ wd < c + (x ++ y).length := by simp; omega
          simp only [bV, rl h4, List.set_set, List.length_append]
          have t1 : ((rows.getD r []).take c).length = c := by rw [List.length_take]; omega
          have t2 : ((rows.getD r []).take c ++ x).length = c + x.length := by rw [List.length_append, t1]
          have a1 : ((rows.getD r []).take c ++ x ++ (rows.getD r []).drop (c + x.length)).take (c + x.length) = (rows.getD r []).take c ++ x := by
            rw [List.take_append_of_le_length (by omega), <- t2, List.take_length]
          have a2 : ((rows.getD r []).take c ++ x ++ (rows.getD r []).drop (c + x.length)).drop (c + x.length + y.length) = (rows.getD r []).drop (c + (x.length + y.length)) := by
            rw [<- t2, List.drop_append, List.drop_of_length_le (by omega), List.nil_append, t2, List.drop_drop]
            congr 1; omega
          have hk2 : ¬ wd < c + (x.length + y.length) := by omega
          rw [a1, a2, if_neg hk2]
          simp [Nat.add_assoc]
    . cases hj
  . rename_i r1 c1 r2 c2
    simp only [bQ, Option.some.injEq] at hj
    subst hj
    by_cases hn : rows.length <= r1 \/ wd < c1
    . simp only [bV, hn, if_true] at e1; cases e1
    . simp only [bV, hn, if_false] at e1
      cases e1
      exact e2
  . simp only [bQ, Option.some.injEq] at hj
    subst hj
    simp only [bV, Option.some.injEq] at e1
    subst e1
    simp only [bV, rl h4, List.set_set, Option.some.injEq] at e2
    subst e2
    have t1 : ((rows.getD r []).take c).length = c := by rw [List.length_take]; omega
    have a1 : ((rows.getD r []).take c ++ List.replicate (wd - c) 32).take c = (rows.getD r []).take c := by
      rw [List.take_append_of_le_length (by omega)]
      exact List.take_of_length_le (by omega)
    simp only [bV]
    rw [a1]
theorem yB {l o j : Od} (h : bQ l o = some j) (h1 : okO l = true) (h2 : okO o = true) : okO j = true := by
  cases l <;> cases o <;> first | (simp [bQ] at h; done) | skip
  . simp only [bQ] at h
    split at h
    . cases h
      simp only [okO, Bool.and_eq_true, decide_eq_true_eq] at *
      exact ⟨fW h1.1 h2.1, by simp; omega, by simp; omega⟩
    . cases h
  . simp only [bQ, Option.some.injEq] at h; subst h; exact h2
  . simp only [bQ, Option.some.injEq] at h; subst h; exact h2
theorem uQ {acc : List Od} {o : Od} (h1 : ∀ p ∈ acc, okO p = true) (h2 : okO o = true) : ∀ p ∈ cG acc o, okO p = true := by
  rcases oF acc with rfl | ⟨a, l, rfl⟩
  . intro p hp
    rw [gJ] at hp
    rw [List.mem_singleton.1 hp]; exact h2
  . cases hj : bQ l o with
    | none =>
      intro p hp
      rw [eF hj] at hp
      rcases List.mem_append.1 hp with hp | hp
      . exact h1 p hp
      . rw [List.mem_singleton.1 hp]; exact h2
    | some j =>
      intro p hp
      rw [eJ hj] at hp
      rcases List.mem_append.1 hp with hp | hp
      . exact h1 p (List.mem_append_left _ hp)
      . rw [List.mem_singleton.1 hp]; exact yB hj (h1 l (by simp)) h2
theorem uF : ∀ (os acc : List Od), (∀ p ∈ acc, okO p = true) -> (∀ p ∈ os, okO p = true) -> ∀ p ∈ os.foldl cG acc, okO p = true
  | [], acc, h, _ => h
  | o :: os, acc, h1, h2 => uF os (cG acc o) (uQ h1 (h2 o (List.mem_cons_self ..))) fun p hp => h2 p (List.mem_cons_of_mem _ hp)
theorem xf {s s' : St} {acc : List Od} {o : Od} (h : GS s) (hk : ∀ p ∈ acc, okO p = true) (e : rn (some s) (acc ++ [o]) = some s') : rn (some s) (cG acc o) = some s' := by
  rcases oF acc with rfl | ⟨a, l, rfl⟩
  . exact e
  . cases hj : bQ l o with
    | none => rw [eF hj]; exact e
    | some j =>
      rw [eJ hj]
      rw [nT, nT] at e
      rw [nT]
      cases q : rn (some s) a with
      | none => rw [q, fB, fB] at e; cases e
      | some s1 =>
        rw [q] at e
        have h1 := Cw a h (fun p hp => hk p (List.mem_append_left _ hp)) q
        have e1 : rn (some s1) [l] = bV s1 l := rfl
        rw [e1] at e
        cases q2 : bV s1 l with
        | none => rw [q2, fB] at e; cases e
        | some s2 =>
          rw [q2] at e
          have e2 : bV s2 o = some s' := e
          exact wP h1 hj q2 e2
theorem rg {s s' : St} (h : GS s) : ∀ (os acc : List Od), (∀ p ∈ acc, okO p = true) -> (∀ p ∈ os, okO p = true) -> rn (some s) (acc ++ os) = some s' -> rn (some s) (os.foldl cG acc) = some s'
  | [], acc, _, _, e => by rw [List.append_nil] at e; exact e
  | o :: os, acc, h1, h2, e => by
    refine rg h os (cG acc o) (uQ h1 (h2 o (List.mem_cons_self ..))) (fun p hp => h2 p (List.mem_cons_of_mem _ hp)) ?_
    rw [show acc ++ o :: os = acc ++ [o] ++ os by simp, nT] at e
    rw [nT]
    cases q : rn (some s) (acc ++ [o]) with
    | none => rw [q, fB] at e; cases e
    | some s1 => rw [xf h h1 q, <- q]; exact e
def Alt (os : List Od) : Prop := ∀ (a : List Od) (p q : Od) (b : List Od), os = a ++ p :: q :: b -> bQ p q = none
theorem tV {p l o j : Od} (h1 : bQ p l = none) (h2 : bQ l o = some j) : bQ p j = none := by
  cases l <;> cases o <;> first | (simp [bQ] at h2; done) | skip
  . rename_i x y
    simp only [bQ] at h2
    split at h2
    . cases h2
      cases p <;> first | rfl | skip
      rename_i z
      simp only [bQ] at h1 ⊢
      split at h1
      . cases h1
      . rw [if_neg (by simp; omega)]
    . cases h2
  . simp only [bQ, Option.some.injEq] at h2
    subst h2
    cases p <;> first | rfl | (simp [bQ] at h1)
  . simp only [bQ, Option.some.injEq] at h2
    subst h2
    cases p <;> first | rfl | (simp [bQ] at h1)
theorem vZ {acc : List Od} {o : Od} (h : Alt acc) : Alt (cG acc o) := by
  rcases oF acc with rfl | ⟨c, l, rfl⟩
  . intro a p q b e
    rw [gJ] at e
    have := congrArg List.length e
    simp at this
    omega
  . cases hj : bQ l o with
    | none =>
      intro a p q b e
      rw [eF hj] at e
      rcases oF b with rfl | ⟨b', z, rfl⟩
      . have e' : c ++ [l] ++ [o] = (a ++ [p]) ++ [q] := by rw [e]; simp
        obtain ⟨e1, e2⟩ := List.append_inj' e' rfl
        obtain ⟨_, e3⟩ := List.append_inj' e1 rfl
        cases e2; cases e3
        exact hj
      . have e' : c ++ [l] ++ [o] = (a ++ p :: q :: b') ++ [z] := by rw [e]; simp
        obtain ⟨e1, _⟩ := List.append_inj' e' rfl
        exact h a p q b' e1
    | some j =>
      intro a p q b e
      rw [eJ hj] at e
      rcases oF b with rfl | ⟨b', z, rfl⟩
      . have e' : c ++ [j] = (a ++ [p]) ++ [q] := by rw [e]; simp
        obtain ⟨e1, e2⟩ := List.append_inj' e' rfl
        cases e2
        refine tV (h a p l [] ?_) hj
        rw [e1]; simp
      . have e' : c ++ [j] = (a ++ p :: q :: b') ++ [z] := by rw [e]; simp
        obtain ⟨e1, _⟩ := List.append_inj' e' rfl
        refine h a p q (b' ++ [l]) ?_
        rw [e1]; simp
theorem qQ : ∀ (os acc : List Od), Alt acc -> Alt (os.foldl cG acc)
  | [], _, h => h
  | o :: os, acc, h => qQ os (cG acc o) (vZ h)
theorem uL : ∀ (os acc : List Od), Alt (acc ++ os) -> os.foldl cG acc = acc ++ os
  | [], acc, _ => by simp
  | o :: os, acc, h => by
    have e : cG acc o = acc ++ [o] := by
      rcases oF acc with rfl | ⟨a, l, rfl⟩
      . rfl
      . exact eF (h a l o os (by simp))
    rw [List.foldl_cons, e, uL os (acc ++ [o]) (by rw [show acc ++ [o] ++ os = acc ++ o :: os by simp]; exact h)]
    simp
theorem zj : Alt [] := by
  intro a p q b e
  have := congrArg List.length e
  simp at this
theorem xV (os : List Od) : Alt (shO os) := qQ os [] zj
theorem De (os : List Od) : shO (shO os) = shO os := uL (shO os) [] (xV os)
theorem qM : ∀ (os acc : List Od), dv (os.foldl cG acc) = dv acc + dv os /\ (os.foldl cG acc).length <= acc.length + os.length /\ ((os.foldl cG acc).map bJ).sum <= (acc.map bJ).sum + (os.map bJ).sum
  | [], acc => by simp [dv]
  | o :: os, acc => by
    obtain ⟨a1, a2, a3⟩ := qI acc o
    obtain ⟨b1, b2, b3⟩ := qM os (cG acc o)
    have e : dv (o :: os) = iy o + dv os := by simp [dv]
    simp only [List.foldl_cons, List.length_cons, List.map_cons, List.sum_cons]
    omega
def lvl (ns : List Int) (many wd k : Nat) : Od :=
  if bF ns (530 + k) 5 = 0 then .say (([97, 98, 35] : List Nat).take (1 + (bF ns (500 + k) 3).toNat))
  else if bF ns (530 + k) 5 < 3 then .wipe
  else .go (bF ns (510 + k) many).toNat (bF ns (520 + k) (wd + 1)).toNat
theorem xW (ns : List Int) {many wd : Nat} (k : Nat) (hm : 1 <= many) (hm2 : many <= 12) (hw : wd <= 40) : okO (lvl ns many wd k) = true /\ iy (lvl ns many wd k) <= 3 := by
  have h1 := bf ns (500 + k) (m := 3) (by decide)
  have h2 := bf ns (510 + k) (m := (many : Int)) (by omega)
  have h3 := bf ns (520 + k) (m := (wd : Int) + 1) (by omega)
  unfold lvl
  split
  . generalize hj : 1 + (bF ns (500 + k) 3).toNat = j
    have : j = 1 \/ j = 2 \/ j = 3 := by omega
    rcases this with rfl | rfl | rfl <;> decide
  . split
    . decide
    . simp only [okO, iy, Bool.and_eq_true, decide_eq_true_eq]; omega
section
variable {F2 F3 F4 F5 F6 F7 F8 F9 F10 F11 : List D -> R D}
theorem vp (ns : List Int) (fz : Bool) {many wd : Nat} (hm : 1 <= many) (hm2 : many <= 12) (hw : wd <= 40) (x3 x6 x7 x8 x9 x10 x11 x12 x13 : Option Sl) (acc : List D) (k : Nat) (ha : acc.length < 1000) : ∃ y6, qw bI F2 F3 F4 F5 F6 F7 F8 F9 F10 F11 [some (.val (.lst fz (ns.map .int))), some (.val (.int (wd : Int))), some (.val (.int (many : Int))), x3, some (.own acc), some (.val (.int (k : Int))), x6, x7, x8, x9, x10, x11, x12, x13]
    = .nx [some (.val (.lst fz (ns.map .int))), some (.val (.int (wd : Int))), some (.val (.int (many : Int))), x3, some (.own (acc ++ [oD (lvl ns many wd k)])), some (.val (.int (k : Int))), y6, x7, x8, x9, x10, x11, x12, x13] := by
  have lb := bc
  have h1 := bf ns (500 + k) (m := 3) (by decide)
  have h2 := bf ns (510 + k) (m := (many : Int)) (by omega)
  have h3 := bf ns (520 + k) (m := (wd : Int) + 1) (by omega)
  have h4 := bf ns (530 + k) (m := 5) (by decide)
  obtain ⟨j, ej⟩ : ∃ j : Nat, bF ns (500 + k) 3 = (j : Int) := ⟨_, (Int.toNat_of_nonneg h1.1).symm⟩
  obtain ⟨r, er⟩ : ∃ r : Nat, bF ns (510 + k) (many : Int) = (r : Int) := ⟨_, (Int.toNat_of_nonneg h2.1).symm⟩
  obtain ⟨c, ec⟩ : ∃ c : Nat, bF ns (520 + k) ((wd : Int) + 1) = (c : Int) := ⟨_, (Int.toNat_of_nonneg h3.1).symm⟩
  obtain ⟨v, ev⟩ : ∃ v : Nat, bF ns (530 + k) 5 = (v : Int) := ⟨_, (Int.toNat_of_nonneg h4.1).symm⟩
  have k1 : (500 : Int) + (k : Int) = ((500 + k : Nat) : Int) := by omega
  have k2 : (510 : Int) + (k : Int) = ((510 + k : Nat) : Int) := by omega
  have k3 : (520 : Int) + (k : Int) = ((520 + k : Nat) : Int) := by omega
  have k4 : (530 : Int) + (k : Int) = ((530 + k : Nat) : Int) := by omega
  have p1 : bI [.lst fz (ns.map .int), .int ((500 + k : Nat) : Int), .int 3] = .ok (.int (j : Int)) := by rw [<- ej]; exact bz (by decide)
  have p2 : bI [.lst fz (ns.map .int), .int ((510 + k : Nat) : Int), .int (many : Int)] = .ok (.int (r : Int)) := by rw [<- er]; exact bz (by omega)
  have p3 : bI [.lst fz (ns.map .int), .int ((520 + k : Nat) : Int), .int ((wd : Int) + 1)] = .ok (.int (c : Int)) := by rw [<- ec]; exact bz (by omega)
  have p4 : bI [.lst fz (ns.map .int), .int ((530 + k : Nat) : Int), .int 5] = .ok (.int (v : Int)) := by rw [<- ev]; exact bz (by decide)
  have el : lvl ns many wd k = if v = 0 then .say (([97, 98, 35] : List Nat).take (1 + j)) else if v < 3 then .wipe else .go r c := by
    unfold lvl
    rw [ej, er, ec, ev]
    have a1 : ((v : Int) = 0) = (v = 0) := by simp
    have a2 : ((v : Int) < 3) = (v < 3) := by simp; omega
    simp only [a1, a2, Int.toNat_natCast]
  have ct : ii ([97, 98, 35] : List Nat) none (some (1 + (j : Int))) = ([97, 98, 35] : List Nat).take (1 + j) := by
    have e : (1 : Int) + (j : Int) = ((1 + j : Nat) : Int) := by omega
    rw [e]; exact jl _ _
  have m1 : ∀ x, mkT [x] = .ok (.tup [x]) := fun _ => m_t (by simp)
  have m2 : ∀ x y, mkT [x, y] = .ok (.tup [x, y]) := fun _ _ => m_t (by simp)
  have m3 : ∀ x y z, mkT [x, y, z] = .ok (.tup [x, y, z]) := fun _ _ _ => m_t (by simp)
  have rp : gn (.lst false [.tup [.str [103, 111], .int (r : Int), .int (c : Int)]]) (.int 2) = some (.lst false [.tup [.str [103, 111], .int (r : Int), .int (c : Int)], .tup [.str [103, 111], .int (r : Int), .int (c : Int)]]) := Cn (n := 2) (by decide)
  have o4 : ∀ (a0 a1 a2 a3 a5 a6 a7 a8 a9 a10 a11 a12 a13 : Option Sl) (ds : List D), ownAt [a0, a1, a2, a3, some (.own ds), a5, a6, a7, a8, a9, a10, a11, a12, a13] 4 = .ok ds := fun _ _ _ _ _ _ _ _ _ _ _ _ _ _ => rfl
  have o6 : ∀ (a0 a1 a2 a3 a4 a5 a7 a8 a9 a10 a11 a12 a13 : Option Sl) (ds : List D), ownAt [a0, a1, a2, a3, a4, a5, some (.own ds), a7, a8, a9, a10, a11, a12, a13] 6 = .ok ds := fun _ _ _ _ _ _ _ _ _ _ _ _ _ _ => rfl
  have f6 : ∀ (a0 a1 a2 a3 a4 a5 a7 a8 a9 a10 a11 a12 a13 : Option Sl) (ds : List D), frz 6 [a0, a1, a2, a3, a4, a5, some (.own ds), a7, a8, a9, a10, a11, a12, a13] = [a0, a1, a2, a3, a4, a5, some (.val (.lst false ds)), a7, a8, a9, a10, a11, a12, a13] := fun _ _ _ _ _ _ _ _ _ _ _ _ _ _ => rfl
  have z1 : (1 : Nat) <= sizeLine := by omega
  have z3 : (3 : Nat) <= sizeLine := by omega
  have z5 : (3 : Nat) + 2 <= sizeLine := by omega
  have z5b : (5 : Nat) <= sizeLine := by omega
  have z : acc.length < sizeLine := by omega
  have ix : ixD (.lst false [.tup [.str [115, 97, 121], .str (([97, 98, 35] : List Nat).take (1 + j))], .tup [.str [119, 105, 112, 101]], .tup [.str [119, 105, 112, 101]], .tup [.str [103, 111], .int (r : Int), .int (c : Int)], .tup [.str [103, 111], .int (r : Int), .int (c : Int)]]) (.int (v : Int)) = some (oD (lvl ns many wd k)) := by
    rw [el]
    have : v = 0 \/ v = 1 \/ v = 2 \/ v = 3 \/ v = 4 := by omega
    rcases this with rfl | rfl | rfl | rfl | rfl <;> rfl
  have fl1 := Bw (lvl ns many wd k)
  generalize oD (lvl ns many wd k) = O at *
  refine ⟨some (.own [.tup [.str [115, 97, 121], .str (([97, 98, 35] : List Nat).take (1 + j))], .tup [.str [119, 105, 112, 101]], .tup [.str [119, 105, 112, 101]], .tup [.str [103, 111], .int (r : Int), .int (c : Int)], .tup [.str [103, 111], .int (r : Int), .int (c : Int)]]), ?_⟩
  unfold qw
  clear h1 h2 h3 h4 ej er ec ev el lb hm hm2 hw ha
  walk_at "run"
theorem oJ (ns : List Int) (fz : Bool) {many wd : Nat} (hm : 1 <= many) (hm2 : many <= 12) (hw : wd <= 40) (x3 x7 x8 x9 x10 x11 x12 x13 : Option Sl) : ∀ (ks : List Nat) (acc : List Od) (x5 x6 : Option Sl), acc.length + ks.length <= 900 -> ∃ y5 y6, ci (gH 5) (qw bI F2 F3 F4 F5 F6 F7 F8 F9 F10 F11) (ks.map fun (i : Nat) => D.int (i : Int)) [some (.val (.lst fz (ns.map .int))), some (.val (.int (wd : Int))), some (.val (.int (many : Int))), x3, some (.own (acc.map oD)), x5, x6, x7, x8, x9, x10, x11, x12, x13]
    = .nx [some (.val (.lst fz (ns.map .int))), some (.val (.int (wd : Int))), some (.val (.int (many : Int))), x3, some (.own ((acc ++ ks.map (lvl ns many wd)).map oD)), y5, y6, x7, x8, x9, x10, x11, x12, x13]
  | [], acc, x5, x6, _ => ⟨x5, x6, by simp [ci]⟩
  | k :: ks, acc, x5, x6, h => by
    simp only [List.length_cons] at h
    obtain ⟨z6, hB⟩ := vp (F2 := F2) (F3 := F3) (F4 := F4) (F5 := F5) (F6 := F6) (F7 := F7) (F8 := F8) (F9 := F9) (F10 := F10) (F11 := F11) ns fz hm hm2 hw x3 x6 x7 x8 x9 x10 x11 x12 x13 (acc.map oD) k (by simp; omega)
    obtain ⟨y5, y6, ih⟩ := oJ ns fz hm hm2 hw x3 x7 x8 x9 x10 x11 x12 x13 ks (acc ++ [lvl ns many wd k]) (some (.val (.int (k : Int)))) z6 (by simp; omega)
    refine ⟨y5, y6, ?_⟩
    rw [List.map_cons, eB (ρ1 := [some (.val (.lst fz (ns.map .int))), some (.val (.int (wd : Int))), some (.val (.int (many : Int))), x3, some (.own (acc.map oD)), some (.val (.int (k : Int))), x6, x7, x8, x9, x10, x11, x12, x13]) rfl hB]
    have e : acc.map oD ++ [oD (lvl ns many wd k)] = (acc ++ [lvl ns many wd k]).map oD := by simp
    rw [e, ih]
    simp
theorem pp (s : St) : neF (sD s) (.str [110, 111, 32, 114, 111, 111, 109]) = some (.bl true) := rfl
theorem yR {s : St} {o : Od} (h : GS s) (ho : okO o = true) : cv [sD s, oD o] = .ok (dJ (bV s o)) := by
  have := vK (C := 0) h ho
  simp only [cv, this]
  cases bV s o <;> rfl
theorem fK (x0 x1 x2 x3 x4 x5 x6 x9 x10 x11 x12 x13 : Option Sl) : ∀ (os : List Od) (a : Option St) (x8 : Option Sl), (∀ s, a = some s -> GS s) -> (∀ o ∈ os, okO o = true) -> ∃ y8, ci (gH 8) (qV bI F2 cv F4 F5 F6 F7 F8 F9 F10 F11) (os.map oD) [x0, x1, x2, x3, x4, x5, x6, some (.val (dJ a)), x8, x9, x10, x11, x12, x13] = .nx [x0, x1, x2, x3, x4, x5, x6, some (.val (dJ (rn a os))), y8, x9, x10, x11, x12, x13]
  | [], a, x8, _, _ => ⟨x8, rfl⟩
  | o :: os, a, x8, h, ho => by
    have ho1 := ho o (List.mem_cons_self ..)
    have hB : qV bI F2 cv F4 F5 F6 F7 F8 F9 F10 F11 [x0, x1, x2, x3, x4, x5, x6, some (.val (dJ a)), some (.val (oD o)), x9, x10, x11, x12, x13] = .nx [x0, x1, x2, x3, x4, x5, x6, some (.val (dJ (a.bind fun s => bV s o))), some (.val (oD o)), x9, x10, x11, x12, x13] := by
      unfold qV
      cases a with
      | none =>
        have e : dJ none = .str [110, 111, 32, 114, 111, 111, 109] := rfl
        have q : neF (.str [110, 111, 32, 114, 111, 111, 109]) (.str [110, 111, 32, 114, 111, 111, 109]) = some (.bl false) := rfl
        rw [Option.bind_none, e]
        clear h ho ho1 e
        walk_at "run"
      | some s =>
        have e : dJ (some s) = sD s := rfl
        have q := pp s
        have st := yR (h s rfl) ho1
        rw [Option.bind_some, e]
        clear h ho ho1 e
        walk_at "run"
    have ha : ∀ s, (a.bind fun s => bV s o) = some s -> GS s := by
      intro s e
      cases a with
      | none => cases e
      | some s0 => exact mZ (h s0 rfl) ho1 e
    obtain ⟨y8, ih⟩ := fK x0 x1 x2 x3 x4 x5 x6 x9 x10 x11 x12 x13 os (a.bind fun s => bV s o) (some (.val (oD o))) ha fun p hp => ho p (List.mem_cons_of_mem _ hp)
    refine ⟨y8, ?_⟩
    rw [List.map_cons, eB (ρ1 := [x0, x1, x2, x3, x4, x5, x6, some (.val (dJ a)), some (.val (oD o)), x9, x10, x11, x12, x13]) rfl hB, ih, lX]
end
theorem hJ {x : D} : ∀ ys : List D, (∀ y ∈ ys, eqD 40 y x = some false) -> inD x ys = some false
  | [], _ => rfl
  | y :: ys, h => by
    rw [inD, h y (List.mem_cons_self ..), Option.bind_some, if_neg (by decide)]
    exact hJ ys fun z hz => h z (List.mem_cons_of_mem _ hz)
def kD : Od -> D
  | .say _ => .str [115, 97, 121]
  | .go _ _ => .str [103, 111]
  | .wipe => .str [119, 105, 112, 101]
theorem CF (o : Od) : ixD (oD o) (.int 0) = some (kD o) := by cases o <;> rfl
def hV (os : List Od) : List D := (List.range (os.length - 1)).map fun k => .tup [kD (os.getD k .wipe), kD (os.getD (k + 1) .wipe)]
theorem rM {os : List Od} {k : Nat} (h : k + 1 < os.length) : os = os.take k ++ os.getD k .wipe :: os.getD (k + 1) .wipe :: os.drop (k + 2) := by
  have e1 : os.drop k = os.getD k .wipe :: os.drop (k + 1) := by
    rw [List.drop_eq_getElem_cons (by omega), List.getD_eq_getElem?_getD, List.getElem?_eq_getElem (by omega)]; rfl
  have e2 : os.drop (k + 1) = os.getD (k + 1) .wipe :: os.drop (k + 2) := by
    rw [List.drop_eq_getElem_cons h, List.getD_eq_getElem?_getD, List.getElem?_eq_getElem h]; rfl
  rw [<- e2, <- e1, List.take_append_drop]
theorem vT {os : List Od} (ha : Alt os) (ht : dv os <= 40) : inD (.tup [.str [103, 111], .str [103, 111]]) (hV os) = some false /\ inD (.tup [.str [119, 105, 112, 101], .str [119, 105, 112, 101]]) (hV os) = some false /\ inD (.tup [.str [115, 97, 121], .str [115, 97, 121]]) (hV os) = some false := by
  have key : ∀ y ∈ hV os, ∃ p q : Od, y = .tup [kD p, kD q] /\ bQ p q = none /\ iy p + iy q <= 40 := by
    intro y hy
    obtain ⟨k, hk, rfl⟩ := List.mem_map.1 hy
    rw [List.mem_range] at hk
    have hs := rM (os := os) (k := k) (by omega)
    refine ⟨_, _, rfl, ha _ _ _ _ hs, ?_⟩
    have e := congrArg dv hs
    rw [wS] at e
    have e2 : dv (os.getD k .wipe :: os.getD (k + 1) .wipe :: os.drop (k + 2)) = iy (os.getD k .wipe) + (iy (os.getD (k + 1) .wipe) + dv (os.drop (k + 2))) := by simp [dv]
    rw [e2] at e
    omega
  refine ⟨hJ _ fun y hy => ?_, hJ _ fun y hy => ?_, hJ _ fun y hy => ?_⟩
  all_goals
    obtain ⟨p, q, rfl, hj, hl⟩ := key y hy
    cases p <;> cases q <;> first | rfl | (simp [bQ] at hj; done) | skip
  all_goals
    rename_i x y
    simp only [bQ, iy] at hj hl
    rw [if_pos hl] at hj
    cases hj
section
variable {af ae ah al ar aA az : Addr} (nd : [af, ae, ah, al, ar, aA, az].Nodup)
include nd
theorem Ci : wF af ae ah al ar aA az [.exc ah] = .ok (.str [110, 111, 32, 114, 111, 111, 109]) := by
  have := pe (mO nd) 2 ah (by simp) rfl
  exact this
theorem Dn : wF af ae ah al ar aA az [.exc ae] = .ok (.str [110, 111, 32, 111, 114, 100, 101, 114]) := by
  have := pe (mO nd) 1 ae (by simp) rfl
  exact this
theorem Dl : wF af ae ah al ar aA az [.exc af] = .ok (.str [110, 111, 32, 115, 99, 114, 101, 101, 110]) := by
  have := pe (mO nd) 3 af (by simp) rfl
  exact this
theorem zg {s : St} {f : Bool} {os : List Od} (h : GS s) (ho : ∀ o ∈ os, okO o = true) (hl : os.length <= 1000) : adF af ae ah [sD s, .lst f (os.map oD)] = CJ ah (rn (some s) os) := by
  obtain ⟨t1, t2⟩ := xc (f := f) ho hl
  show (if good 4 (sD s) = true /\ tgD (.lst f (os.map oD)) = true then (if screen (sD s) = true then (if dl (.lst f (os.map oD)) = true then mI ah (sD s) (os.map oD) else .ex ae) else .ex af) else .no) = _
  rw [if_pos ⟨h.good, t1⟩, if_pos h.screen, if_pos t2, yA os h ho]
theorem do0 {s : St} {f : Bool} {os : List Od} (h : GS s) (ho : ∀ o ∈ os, okO o = true) (hl : os.length <= 1000) : doY af ae ah al ar aA az [.int 0, sD s, .lst f (os.map oD)] = .ok (dJ (rn (some s) os)) := by
  have e : dF af ae ah (sD s) (.lst f (os.map oD)) (.int 0) = CJ ah (rn (some s) os) := zg nd h ho hl
  simp only [doY, e]
  cases rn (some s) os with
  | none => exact Ci nd
  | some s' => rfl
omit nd in
theorem An {f : Bool} {os : List Od} (ho : ∀ o ∈ os, okO o = true) (hl : os.length <= 1000) : coF ae [.lst f (os.map oD)] = .ok (.int ((os.map bJ).sum : Nat)) := by
  obtain ⟨t1, t2⟩ := xc (f := f) ho hl
  show (if tgD (.lst f (os.map oD)) = true then (if dl (.lst f (os.map oD)) = true then (match oP (os.map oD) with | some os => R.ok (D.int ((os.map bJ).sum : Nat)) | none => .no) else .ex ae) else .no) = _
  rw [if_pos t1, if_pos t2, fT]
omit nd in
theorem BP {f : Bool} {os : List Od} (ho : ∀ o ∈ os, okO o = true) (hl : os.length <= 1000) (ht : dv os <= 1000) : shF ae [.lst f (os.map oD)] = .ok (.lst false ((shO os).map oD)) := by
  obtain ⟨t1, t2⟩ := xc (f := f) ho hl
  show (if tgD (.lst f (os.map oD)) = true then (if dl (.lst f (os.map oD)) = true then (match oP (os.map oD) with | some os => (if dv os <= 1000 then R.ok (D.lst false ((shO os).map oD)) else .no) | none => .no) else .ex ae) else .no) = _
  rw [if_pos t1, if_pos t2, fT]
  exact if_pos ht
theorem do1 {f : Bool} {os : List Od} (ho : ∀ o ∈ os, okO o = true) (hl : os.length <= 1000) : doY af ae ah al ar aA az [.int 1, .non, .lst f (os.map oD)] = .ok (.int ((os.map bJ).sum : Nat)) := by
  have e : dF af ae ah .non (.lst f (os.map oD)) (.int 1) = .ok (.int ((os.map bJ).sum : Nat)) := An ho hl
  simp only [doY, e]
theorem do2 {f : Bool} {os : List Od} (ho : ∀ o ∈ os, okO o = true) (hl : os.length <= 1000) (ht : dv os <= 1000) : doY af ae ah al ar aA az [.int 2, .non, .lst f (os.map oD)] = .ok (.lst false ((shO os).map oD)) := by
  have e : dF af ae ah .non (.lst f (os.map oD)) (.int 2) = .ok (.lst false ((shO os).map oD)) := BP ho hl ht
  simp only [doY, e]
theorem rm {s : St} {t : D} (h : GS s) (ht : tgD t = true) (hb : dl t = false) (i : Nat) (hi : i < 3) : doY af ae ah al ar aA az [.int (i : Int), sD s, t] = .ok (.str [110, 111, 32, 111, 114, 100, 101, 114]) := by
  have hb' : ¬ dl t = true := by rw [hb]; decide
  have e : dF af ae ah (sD s) t (.int (i : Int)) = .ex ae := by
    have : i = 0 \/ i = 1 \/ i = 2 := by omega
    rcases this with rfl | rfl | rfl
    . show (if good 4 (sD s) = true /\ tgD t = true then (if screen (sD s) = true then (if dl t = true then mI ah (sD s) (lsD t) else .ex ae) else .ex af) else .no) = _
      rw [if_pos ⟨h.good, ht⟩, if_pos h.screen, if_neg hb']
    . show (if tgD t = true then (if dl t = true then (match oP (lsD t) with | some os => R.ok (D.int ((os.map bJ).sum : Nat)) | none => .no) else .ex ae) else .no) = _
      rw [if_pos ht, if_neg hb']
    . show (if tgD t = true then (if dl t = true then (match oP (lsD t) with | some os => (if dv os <= 1000 then R.ok (D.lst false ((shO os).map oD)) else .no) | none => .no) else .ex ae) else .no) = _
      rw [if_pos ht, if_neg hb']
  simp only [doY, e]
  exact Dn nd
theorem A2 {d t : D} (hd : good 4 d = true) (hs : screen d = false) (ht : tgD t = true) : doY af ae ah al ar aA az [.int 0, d, t] = .ok (.str [110, 111, 32, 115, 99, 114, 101, 101, 110]) := by
  have e : dF af ae ah d t (.int 0) = .ex af := by
    show (if good 4 d = true /\ tgD t = true then (if screen d = true then (if dl t = true then mI ah d (lsD t) else .ex ae) else .ex af) else .no) = _
    rw [if_pos ⟨hd, ht⟩, if_neg (by rw [hs]; decide)]
  simp only [doY, e]
  exact Dl nd
end
theorem Bl (f : Bool) (os : List Od) : cl 10 (.lst f (os.map oD)) = true := by
  show (os.map oD).all (cl 9) = true
  rw [List.all_eq_true]
  intro d hd
  obtain ⟨o, _, rfl⟩ := List.mem_map.1 hd
  cases o <;> rfl
theorem zR (a : Option St) : cl 10 (dJ a) = true := by
  cases a with
  | none => rfl
  | some s => exact yP s
theorem DS {af ae ah al ar aA az : Addr} (nd : [af, ae, ah, al, ar, aA, az].Nodup) (ns : List Int) (fz : Bool) : aK (oT bI hU cv (doY af ae ah al ar aA az) lcF (coF ae) (shF ae) (adF af ae ah) (lV af ae ah) cE cN (aN 14 [.lst fz (ns.map .int)])) = .ok (.bl true) := by
  have lb := bc
  have h0 := bf ns 0 (m := 9) (by decide)
  have h1 := bf ns 1 (m := 3) (by decide)
  have h2 := bf ns 2 (m := 9) (by decide)
  obtain ⟨wd, ew⟩ : ∃ wd : Nat, 2 + bF ns 0 9 = (wd : Int) := ⟨(2 + bF ns 0 9).toNat, by omega⟩
  obtain ⟨m, em⟩ : ∃ m : Nat, 1 + bF ns 1 3 = (m : Int) := ⟨(1 + bF ns 1 3).toNat, by omega⟩
  obtain ⟨n, en⟩ : ∃ n : Nat, bF ns 2 9 = (n : Int) := ⟨(bF ns 2 9).toNat, by omega⟩
  have p0 : bI [.lst fz (ns.map .int), .int 0, .int 9] = .ok (.int (bF ns 0 9)) := bz (n := 0) (by decide)
  have p1 : bI [.lst fz (ns.map .int), .int 1, .int 3] = .ok (.int (bF ns 1 3)) := bz (n := 1) (by decide)
  have p2 : bI [.lst fz (ns.map .int), .int 2, .int 9] = .ok (.int (n : Int)) := by rw [<- en]; exact bz (n := 2) (by decide)
  have hr := bf ns (10 + 400) (m := (m : Int)) (by omega)
  have hc := bf ns (10 + 401) (m := (wd : Int) + 1) (by omega)
  let s0 : St := (wd, (List.range m).map fun k => oN ns (10 + 30 * k) wd, (bF ns (10 + 400) m).toNat, (bF ns (10 + 401) ((wd : Int) + 1)).toNat)
  have hs0 : ∃ s : St, s = s0 := ⟨s0, rfl⟩
  have esd : AQ ns 10 wd m = sD s0 := by
    show AQ ns 10 wd m = scr wd ((List.range m).map fun k => oN ns (10 + 30 * k) wd) (bF ns (10 + 400) m).toNat (bF ns (10 + 401) ((wd : Int) + 1)).toNat
    unfold AQ scr sF
    rw [Int.toNat_of_nonneg hr.1, Int.toNat_of_nonneg hc.1, List.map_map]
    rfl
  have gs : GS s0 := by
    refine ⟨?_, ?_, ?_, ?_, ?_, ?_⟩
    . show 1 <= wd; omega
    . show wd <= 40; omega
    . show ((List.range m).map fun k => oN ns (10 + 30 * k) wd).length <= 12; simp; omega
    . show (bF ns (10 + 400) m).toNat < ((List.range m).map fun k => oN ns (10 + 30 * k) wd).length; rw [List.length_map, List.length_range]; omega
    . show (bF ns (10 + 401) ((wd : Int) + 1)).toNat <= wd; omega
    . intro x hx
      obtain ⟨k, _, rfl⟩ := List.mem_map.1 hx
      exact ⟨kK ns _ _, sL ns _ _⟩
  have ls : hU [.lst fz (ns.map .int), .int 10, .int (wd : Int), .int (m : Int)] = .ok (sD s0) := by
    have e : hU [.lst fz (ns.map .int), .int 10, .int (wd : Int), .int (m : Int)] = if ((0 : Int) <= 10 /\ (0 : Int) <= (wd : Int) /\ (wd : Int) <= 100) /\ 0 < (m : Int) /\ (m : Int) <= 100 then .ok (AQ ns (10 : Int).toNat (wd : Int).toNat (m : Int).toNat) else .no := by simp only [hU, dE]
    rw [e, if_pos (by omega), Int.toNat_natCast, Int.toNat_natCast, <- esd]; rfl
  have hsp : ∃ d, cE [.lst fz (ns.map .int), .int 560, sD s0] = .ok d /\ good 4 d = true := by
    refine tY (wd := (wd : Int)) (a := (((bF ns (10 + 400) m).toNat : Nat) : Int)) (b := (((bF ns (10 + 401) ((wd : Int) + 1)).toNat : Nat) : Int)) (rows := ((List.range m).map fun k => oN ns (10 + 30 * k) wd).map D.str) ns fz 560 (by simp; omega) fun d hd => ?_
    obtain ⟨x, hx, rfl⟩ := List.mem_map.1 hd
    obtain ⟨k, _, rfl⟩ := List.mem_map.1 hx
    exact ⟨_, rfl, by rw [kK]; omega⟩
  clear_value s0
  clear hs0 esd hr hc
  obtain ⟨d, hsp, hgd⟩ := hsp
  obtain ⟨y5, y6, hL⟩ := oJ (F2 := hU) (F3 := cv) (F4 := doY af ae ah al ar aA az) (F5 := lcF) (F6 := coF ae) (F7 := shF ae) (F8 := adF af ae ah) (F9 := lV af ae ah) (F10 := cE) (F11 := cN) ns fz (many := m) (wd := wd) (by omega) (by omega) (by omega) (some (.val (sD s0))) none none none none none none none (List.range n) [] none none (by simp; omega)
  rw [List.nil_append, List.map_nil] at hL
  have hok : ∀ o ∈ (List.range n).map (lvl ns m wd), okO o = true := by
    intro o ho
    obtain ⟨k, _, rfl⟩ := List.mem_map.1 ho
    exact (xW ns k (by omega) (by omega) (by omega)).1
  have hln : ((List.range n).map (lvl ns m wd)).length <= 8 := by simp; omega
  have htl : dv ((List.range n).map (lvl ns m wd)) <= 24 := by
    have key : ∀ l : List Nat, dv (l.map (lvl ns m wd)) <= 3 * l.length := by
      intro l
      induction l with
      | nil => simp [dv]
      | cons k l ih =>
        have e : dv ((k :: l).map (lvl ns m wd)) = iy (lvl ns m wd k) + dv (l.map (lvl ns m wd)) := by simp [dv]
        have := (xW ns (many := m) (wd := wd) k (by omega) (by omega) (by omega)).2
        simp only [List.length_cons]
        omega
    have := key (List.range n)
    simp at this
    omega
  generalize (List.range n).map (lvl ns m wd) = os at *
  obtain ⟨y8, hH⟩ := fK (F2 := hU) (F4 := doY af ae ah al ar aA az) (F5 := lcF) (F6 := coF ae) (F7 := shF ae) (F8 := adF af ae ah) (F9 := lV af ae ah) (F10 := cE) (F11 := cN) (some (.val (.lst fz (ns.map .int)))) (some (.val (.int (wd : Int)))) (some (.val (.int (m : Int)))) (some (.val (sD s0))) (some (.val (.lst false (os.map oD)))) y5 y6 none none none none none os (some s0) none (fun s e => by cases e; exact gs) hok
  have e0 : dJ (some s0) = sD s0 := rfl
  rw [e0] at hH
  have d0 := do0 (f := false) nd gs hok (by omega)
  have d1 := do1 (f := false) nd hok (by omega)
  have d2 := do2 (f := false) nd hok (by omega) (by omega)
  have lc : lcF [.lst false (os.map oD)] = .ok (.int ((os.map bJ).sum : Nat)) := by simp only [lcF, fT]
  obtain ⟨f1, f2, f3⟩ := qM os []
  have hmk : ∀ o ∈ shO os, okO o = true := uF os [] (fun _ h => by cases h) hok
  have f1 : dv (shO os) = dv os := by have e9 : dv [] = 0 := rfl; unfold shO; omega
  have f2 : (shO os).length <= 8 := by unfold shO; simp at f2; omega
  have f3 : ((shO os).map bJ).sum <= (os.map bJ).sum := by unfold shO; simpa using f3
  have c1 := An (ae := ae) (f := false) hmk (by omega)
  have c2 := An (ae := ae) (f := false) hok (by omega)
  have c3 := BP (ae := ae) (f := false) hmk (by omega) (by omega)
  rw [De] at c3
  obtain ⟨q1, q2, q3⟩ := vT (xV os) (by omega)
  have hrun : ∀ s', rn (some s0) os = some s' -> rn (some s0) (shO os) = some s' := fun s' e => rg gs os [] (fun _ h => by cases h) hok e
  have a1 := zg (f := false) nd gs hmk (by omega)
  have cg : decide ((((os.map bJ).sum : Nat) : Int) < ((((shO os).map bJ).sum : Nat) : Int)) = false := by rw [decide_eq_false_iff_not]; omega
  have nself : ∀ i : Int, (i == i) = true := fun i => by simp
  have n1 := jw (zR (rn (some s0) os))
  have n2 := jw (Bl false (shO os))
  have r3 : bE [.int 3] = .ok [.int 0, .int 1, .int 2] := gS (n := 3) (by decide)
  have rn' : bE [.int (n : Int)] = .ok ((List.range n).map fun (i : Nat) => D.int (i : Int)) := gS (by omega)
  have rs : bE [.int (((shO os).length : Int) - 1)] = .ok ((List.range ((shO os).length - 1)).map fun (i : Nat) => D.int (i : Int)) := by
    cases hz : (shO os).length with
    | zero => rfl
    | succ k =>
      rw [show (((k + 1 : Nat) : Int) - 1) = ((k : Nat) : Int) by omega, show k + 1 - 1 = k by omega]
      exact gS (by omega)
  have ix9 : ∀ k : Nat, k < (shO os).length -> ixD (.lst false ((shO os).map oD)) (.int (k : Int)) = some (oD ((shO os).getD k .wipe)) := fun k hk => CN (by rw [List.getElem?_map, List.getElem?_eq_getElem hk, List.getD_eq_getElem?_getD, List.getElem?_eq_getElem hk]; rfl)
  have m2 : ∀ x y, mkT [x, y] = .ok (.tup [x, y]) := fun _ _ => m_t (by simp)
  have m3 : ∀ x y z, mkT [x, y, z] = .ok (.tup [x, y, z]) := fun _ _ _ => m_t (by simp)
  have cp : fv (fun _ => R.ok true) (aI mkT (ac (g2 ixD (g2 ixD (fun ρ => rdV ρ 1) (fun ρ => rdV ρ 0)) (fun _ => R.ok (D.int 0))) (ac (g2 ixD (g2 ixD (fun ρ => rdV ρ 1) (g2 bw (fun ρ => rdV ρ 0) (fun _ => R.ok (D.int 1)))) (fun _ => R.ok (D.int 0))) (fun _ => R.ok [])))) ((List.range ((shO os).length - 1)).map fun (i : Nat) => D.int (i : Int)) [none, some (.val (.lst false ((shO os).map oD)))] = .ok (hV (shO os)) := by
    have := dH (gt := fun _ => R.ok true) (ge := aI mkT (ac (g2 ixD (g2 ixD (fun ρ => rdV ρ 1) (fun ρ => rdV ρ 0)) (fun _ => R.ok (D.int 0))) (ac (g2 ixD (g2 ixD (fun ρ => rdV ρ 1) (g2 bw (fun ρ => rdV ρ 0) (fun _ => R.ok (D.int 1)))) (fun _ => R.ok (D.int 0))) (fun _ => R.ok [])))) (fun d => match d with | .int k => .tup [kD ((shO os).getD k.toNat .wipe), kD ((shO os).getD (k.toNat + 1) .wipe)] | d => d) [some (.val (.lst false ((shO os).map oD)))] ((List.range ((shO os).length - 1)).map fun (i : Nat) => D.int (i : Int)) none fun d hd => ⟨rfl, by
      obtain ⟨k, hk, rfl⟩ := List.mem_map.1 hd
      rw [List.mem_range] at hk
      have i1 := ix9 k (by omega)
      have i2 := ix9 (k + 1) (by omega)
      have k1 : (k : Int) + 1 = ((k + 1 : Nat) : Int) := by omega
      have k2 : (k : Int).toNat = k := Int.toNat_natCast k
      have j1 := CF ((shO os).getD k .wipe)
      have j2 := CF ((shO os).getD (k + 1) .wipe)
      clear hd hk ix9 hrun a1 hH hL d0 d1 d2 c1 c2 c3 hok hmk n1 n2 q1 q2 q3 cg rs nd gs hsp hgd lc ls
      walk_at "run"⟩
    rw [this, List.map_map]
    unfold hV
    refine congrArg R.ok (List.map_congr_left fun k _ => ?_)
    show D.tup [kD ((shO os).getD (k : Int).toNat .wipe), kD ((shO os).getD ((k : Int).toNat + 1) .wipe)] = _
    rw [Int.toNat_natCast]
  have zp : (hV (shO os)).length <= sizeLine := by unfold hV; simp; omega
  generalize hV (shO os) = prs at *
  have u1 : inF (.tup [.str [103, 111], .str [103, 111]]) (.lst false prs) = some (.bl false) := if_pos q1
  have u2 : inF (.tup [.str [119, 105, 112, 101], .str [119, 105, 112, 101]]) (.lst false prs) = some (.bl false) := if_pos q2
  have u3 : inF (.tup [.str [115, 97, 121], .str [115, 97, 121]]) (.lst false prs) = some (.bl false) := if_pos q3
  have hbG : tgD (.lst false (os.map oD ++ [.tup [.str [103, 111], .int 0, .int 99]])) = true := by
    have t1 := (xc (f := false) hok (by omega)).1
    simp only [tgD, Bool.and_eq_true, decide_eq_true_eq, List.length_map] at t1
    simp only [tgD, List.all_append, t1.1, Bool.true_and, Bool.and_eq_true, decide_eq_true_eq]
    exact ⟨by decide, by simp; omega⟩
  have hbB : dl (.lst false (os.map oD ++ [.tup [.str [103, 111], .int 0, .int 99]])) = false := by
    show (os.map oD ++ [D.tup [.str [103, 111], .int 0, .int 99]]).all bU = false
    rw [List.all_append]
    have : [D.tup [.str [103, 111], .int 0, .int 99]].all bU = false := by decide
    rw [this, Bool.and_false]
  have ab : bw (.lst false (os.map oD)) (.lst false [.tup [.str [103, 111], .int 0, .int 99]]) = some (.lst false (os.map oD ++ [.tup [.str [103, 111], .int 0, .int 99]])) := by
    simp only [bw]; rw [if_pos (by simp; omega)]
  have b0 := rm nd gs hbG hbB 0 (by decide)
  have b1 := rm nd gs hbG hbB 1 (by decide)
  have b2 := rm nd gs hbG hbB 2 (by decide)
  have b3 := rm nd gs (t := .lst false [.tup [.str [103, 111], .int 11, .int 40], .non]) (by decide) (by decide) 0 (by decide)
  have sd : cN [d] = .ok (.bl (screen d)) := if_pos (jK hgd)
  have bo : screen d = false -> doY af ae ah al ar aA az [.int 0, d, .lst false (os.map oD ++ [.tup [.str [103, 111], .int 0, .int 99]])] = .ok (.str [110, 111, 32, 115, 99, 114, 101, 101, 110]) := fun h => A2 nd hgd h hbG
  have st14 : os = [] \/ rn (some s0) os = none \/ ∃ o os' s1 s', os = o :: os' /\ rn (some s0) os = some s' /\ lV af ae ah [sD s0, oD o] = .ok (sD s1) /\ adF af ae ah [sD s1, .lst false (os'.map oD)] = .ok (sD s') := by
    cases hos : os with
    | nil => exact .inl rfl
    | cons o os' =>
      cases hrn : rn (some s0) (o :: os') with
      | none => exact .inr (.inl rfl)
      | some s' =>
        refine .inr (.inr ?_)
        have ho1 := hok o (by rw [hos]; exact List.mem_cons_self ..)
        have ho2 : ∀ p ∈ os', okO p = true := fun p hp => hok p (by rw [hos]; exact List.mem_cons_of_mem _ hp)
        rw [lX, Option.bind_some] at hrn
        cases hst : bV s0 o with
        | none => rw [hst, fB] at hrn; cases hrn
        | some s1 =>
          rw [hst] at hrn
          refine ⟨o, os', s1, s', rfl, rfl, ?_, ?_⟩
          . have ea := vK (C := ah) gs ho1
            rw [hst] at ea
            have io : bU (oD o) = true := by rw [me]; exact ho1
            show (if good 4 (sD s0) = true /\ good 3 (oD o) = true then (if screen (sD s0) = true then (if bU (oD o) = true then dS ah [sD s0, oD o] else .ex ae) else .ex af) else .no) = _
            rw [if_pos ⟨gs.good, uR ho1⟩, if_pos gs.screen, if_pos io, ea]; rfl
          . have := zg (f := false) nd (mZ gs ho1 hst) ho2 (by rw [hos] at hln; simp at hln; omega)
            rw [this, hrn]; rfl
  have H14 : pD bI hU cv (doY af ae ah al ar aA az) lcF (coF ae) (shF ae) (adF af ae ah) (lV af ae ah) cE cN [some (.val (.lst fz (ns.map .int))), some (.val (.int (wd : Int))), some (.val (.int (m : Int))), some (.val (sD s0)), some (.val (.lst false (os.map oD))), y5, y6, some (.val (dJ (rn (some s0) os))), y8, some (.val (.lst false ((shO os).map oD))), some (.val (.lst false prs)), none, none, none]
      = .nx [some (.val (.lst fz (ns.map .int))), some (.val (.int (wd : Int))), some (.val (.int (m : Int))), some (.val (sD s0)), some (.val (.lst false (os.map oD))), y5, y6, some (.val (dJ (rn (some s0) os))), y8, some (.val (.lst false ((shO os).map oD))), some (.val (.lst false prs)), none, none, none] := by
    have z0 : (0 : Nat) <= sizeLine := Nat.zero_le _
    generalize doY af ae ah al ar aA az = DY
    generalize (shO os).map oD = shd
    unfold pD
    rcases st14 with h | h | ⟨o, os', s1, s', e1, e2, e3, e4⟩
    . rw [h, List.map_nil]
      have nn : neF (.lst false []) (.lst false []) = some (.bl false) := rfl
      generalize dJ (rn (some s0) []) = hd
      clear h ew em en p0 p1 p2 ls hsp hgd hL hok hln htl hH e0 d0 d1 d2 lc f1 f2 f3 hmk c1 c2 c3 q1 q2 q3 hrun a1 cg n1 n2 r3 rn' rs ix9 cp zp u1 u2 u3 hbG hbB ab b0 b1 b2 b3 sd bo gs nd h0 h1 h2 lb
      walk_at "run"
    . rw [h]
      have hn : dJ none = .str [110, 111, 32, 114, 111, 111, 109] := rfl
      rw [hn]
      have qq : neF (.str [110, 111, 32, 114, 111, 111, 109]) (.str [110, 111, 32, 114, 111, 111, 109]) = some (.bl false) := rfl
      obtain ⟨bb, hbb⟩ : ∃ bb, neF (.lst false (os.map oD)) (.lst false []) = some (.bl bb) := by
        cases os <;> exact ⟨_, rfl⟩
      generalize os.map oD = ods at *
      clear h ew em en p0 p1 p2 ls hsp hgd hL hok hln htl hH e0 d0 d1 d2 lc f1 f2 f3 hmk c1 c2 c3 q1 q2 q3 hrun a1 cg n1 n2 r3 rn' rs ix9 cp zp u1 u2 u3 hbG hbB ab b0 b1 b2 b3 sd bo gs nd h0 h1 h2 lb hn
      cases bb
      . walk_at "run"
      . walk_at "run"
    . rw [e2]
      have hn : dJ (some s') = sD s' := rfl
      rw [hn, e1, List.map_cons]
      have nn : neF (.lst false (oD o :: os'.map oD)) (.lst false []) = some (.bl true) := by
        cases o <;> rfl
      have q := pp s'
      have x0 : ixD (.lst false (oD o :: os'.map oD)) (.int 0) = some (oD o) := CN (k := 0) rfl
      have ct : ii (oD o :: os'.map oD) (some 1) none = os'.map oD := dA _ 1
      have ns' := jw (yP s')
      clear e1 e2 ew em en p0 p1 p2 ls hsp hgd hL hok hln htl hH e0 d0 d1 d2 lc f1 f2 f3 hmk c1 c2 c3 q1 q2 q3 hrun a1 cg n1 n2 r3 rn' rs ix9 cp zp u1 u2 u3 hbG hbB ab b0 b1 b2 b3 sd bo gs nd h0 h1 h2 lb hn
      walk_at "run"
  have H11 : pw bI hU cv (doY af ae ah al ar aA az) lcF (coF ae) (shF ae) (adF af ae ah) (lV af ae ah) cE cN [some (.val (.lst fz (ns.map .int))), some (.val (.int (wd : Int))), some (.val (.int (m : Int))), some (.val (sD s0)), some (.val (.lst false (os.map oD))), y5, y6, some (.val (dJ (rn (some s0) os))), y8, some (.val (.lst false ((shO os).map oD))), none, none, none, none]
      = .nx [some (.val (.lst fz (ns.map .int))), some (.val (.int (wd : Int))), some (.val (.int (m : Int))), some (.val (sD s0)), some (.val (.lst false (os.map oD))), y5, y6, some (.val (dJ (rn (some s0) os))), y8, some (.val (.lst false ((shO os).map oD))), none, none, none, none] := by
    unfold pw
    generalize doY af ae ah al ar aA az = DY
    cases hrn : rn (some s0) os with
    | none =>
      have hn : dJ none = .str [110, 111, 32, 114, 111, 111, 109] := rfl
      rw [hn]
      have qq : neF (.str [110, 111, 32, 114, 111, 111, 109]) (.str [110, 111, 32, 114, 111, 111, 109]) = some (.bl false) := rfl
      clear hrn H14 st14 ew em en p0 p1 p2 ls hsp hgd hL hok hln htl hH e0 d0 d1 d2 lc f1 f2 f3 hmk q1 q2 q3 hrun a1 n1 r3 rn' rs ix9 cp zp u1 u2 u3 hbG hbB ab b0 b1 b2 b3 sd bo gs nd h0 h1 h2 lb hn
      walk_at "run"
    | some s' =>
      have hn : dJ (some s') = sD s' := rfl
      rw [hn]
      have qq := pp s'
      have ns' := jw (yP s')
      have a2 : adF af ae ah [sD s0, .lst false ((shO os).map oD)] = .ok (sD s') := by rw [a1, hrun s' hrn]; rfl
      clear hrn H14 st14 ew em en p0 p1 p2 ls hsp hgd hL hok hln htl hH e0 d0 d1 d2 lc f1 f2 f3 hmk q1 q2 q3 hrun a1 n1 r3 rn' rs ix9 cp zp u1 u2 u3 hbG hbB ab b0 b1 b2 b3 sd bo gs nd h0 h1 h2 lb hn
      walk_at "run"
  have cb : fv (fun _ => R.ok true) (aR 3 (doY af ae ah al ar aA az) (ac (fun ρ => rdV ρ 0) (ac (fun ρ => rdV ρ 1) (ac (fun ρ => rdV ρ 2) (fun _ => R.ok []))))) [.int 0, .int 1, .int 2] [none, some (.val (sD s0)), some (.val (.lst false (os.map oD ++ [.tup [.str [103, 111], .int 0, .int 99]])))] = .ok [.str [110, 111, 32, 111, 114, 100, 101, 114], .str [110, 111, 32, 111, 114, 100, 101, 114], .str [110, 111, 32, 111, 114, 100, 101, 114]] := by
    have := dH (gt := fun _ => R.ok true) (ge := aR 3 (doY af ae ah al ar aA az) (ac (fun ρ => rdV ρ 0) (ac (fun ρ => rdV ρ 1) (ac (fun ρ => rdV ρ 2) (fun _ => R.ok []))))) (fun _ => .str [110, 111, 32, 111, 114, 100, 101, 114]) [some (.val (sD s0)), some (.val (.lst false (os.map oD ++ [.tup [.str [103, 111], .int 0, .int 99]])))] [.int 0, .int 1, .int 2] none fun w hw => ⟨rfl, by
      have b0' : doY af ae ah al ar aA az [.int 0, sD s0, .lst false (os.map oD ++ [.tup [.str [103, 111], .int 0, .int 99]])] = .ok (.str [110, 111, 32, 111, 114, 100, 101, 114]) := b0
      have b1' : doY af ae ah al ar aA az [.int 1, sD s0, .lst false (os.map oD ++ [.tup [.str [103, 111], .int 0, .int 99]])] = .ok (.str [110, 111, 32, 111, 114, 100, 101, 114]) := b1
      have b2' : doY af ae ah al ar aA az [.int 2, sD s0, .lst false (os.map oD ++ [.tup [.str [103, 111], .int 0, .int 99]])] = .ok (.str [110, 111, 32, 111, 114, 100, 101, 114]) := b2
      simp only [List.mem_cons, List.mem_nil_iff, or_false] at hw
      generalize doY af ae ah al ar aA az = DY at b0' b1' b2'
      clear H14 H11 st14 ew em en p0 p1 p2 ls hsp hgd hL hok hln htl hH e0 d0 d1 d2 lc f1 f2 f3 hmk q1 q2 q3 hrun a1 n1 r3 rn' rs ix9 cp zp u1 u2 u3 hbG hbB ab b0 b1 b2 b3 sd bo gs nd h0 h1 h2 lb c1 c2 c3 cg n2
      rcases hw with rfl | rfl | rfl
      . walk_at "run"
      . walk_at "run"
      . walk_at "run"⟩
    rw [this]; rfl
  have b3' : doY af ae ah al ar aA az [.int 0, sD s0, .lst false [.tup [.str [103, 111], .int 11, .int 40], .non]] = .ok (.str [110, 111, 32, 111, 114, 100, 101, 114]) := b3
  have a4 : bw (.lst false [.str [110, 111, 32, 111, 114, 100, 101, 114], .str [110, 111, 32, 111, 114, 100, 101, 114], .str [110, 111, 32, 111, 114, 100, 101, 114]]) (.lst false [.str [110, 111, 32, 111, 114, 100, 101, 114]]) = some (.lst false [.str [110, 111, 32, 111, 114, 100, 101, 114], .str [110, 111, 32, 111, 114, 100, 101, 114], .str [110, 111, 32, 111, 114, 100, 101, 114], .str [110, 111, 32, 111, 114, 100, 101, 114]]) := by
    simp only [bw]; rw [if_pos (by show 4 <= sizeLine; omega)]; rfl
  have m4 : gn (.lst false [.str [110, 111, 32, 111, 114, 100, 101, 114]]) (.int 4) = some (.lst false [.str [110, 111, 32, 111, 114, 100, 101, 114], .str [110, 111, 32, 111, 114, 100, 101, 114], .str [110, 111, 32, 111, 114, 100, 101, 114], .str [110, 111, 32, 111, 114, 100, 101, 114]]) := Cn (n := 4) (by decide)
  have n4 : neF (.lst false [.str [110, 111, 32, 111, 114, 100, 101, 114], .str [110, 111, 32, 111, 114, 100, 101, 114], .str [110, 111, 32, 111, 114, 100, 101, 114], .str [110, 111, 32, 111, 114, 100, 101, 114]]) (.lst false [.str [110, 111, 32, 111, 114, 100, 101, 114], .str [110, 111, 32, 111, 114, 100, 101, 114], .str [110, 111, 32, 111, 114, 100, 101, 114], .str [110, 111, 32, 111, 114, 100, 101, 114]]) = some (.bl false) := jw rfl
  have f4 : ∀ (a0 a1 a2 a3 a5 a6 a7 a8 a9 a10 a11 a12 a13 : Option Sl) (ds : List D), frz 4 [a0, a1, a2, a3, some (.own ds), a5, a6, a7, a8, a9, a10, a11, a12, a13] = [a0, a1, a2, a3, some (.val (.lst false ds)), a5, a6, a7, a8, a9, a10, a11, a12, a13] := fun _ _ _ _ _ _ _ _ _ _ _ _ _ _ => rfl
  have f10 : ∀ (a0 a1 a2 a3 a4 a5 a6 a7 a8 a9 a11 a12 a13 : Option Sl) (ds : List D), frz 10 [a0, a1, a2, a3, a4, a5, a6, a7, a8, a9, some (.own ds), a11, a12, a13] = [a0, a1, a2, a3, a4, a5, a6, a7, a8, a9, some (.val (.lst false ds)), a11, a12, a13] := fun _ _ _ _ _ _ _ _ _ _ _ _ _ _ => rfl
  have f12 : ∀ (a0 a1 a2 a3 a4 a5 a6 a7 a8 a9 a10 a11 a13 : Option Sl) (ds : List D), frz 12 [a0, a1, a2, a3, a4, a5, a6, a7, a8, a9, a10, a11, some (.own ds), a13] = [a0, a1, a2, a3, a4, a5, a6, a7, a8, a9, a10, a11, some (.val (.lst false ds)), a13] := fun _ _ _ _ _ _ _ _ _ _ _ _ _ _ => rfl
  have i9 : ∀ (a0 a1 a2 a3 a4 a5 a6 a7 a8 a10 a11 a12 a13 : Option Sl) (u : D), ib [9] [a0, a1, a2, a3, a4, a5, a6, a7, a8, some (.val u), a10, a11, a12, a13] = [none, some (.val u)] := fun _ _ _ _ _ _ _ _ _ _ _ _ _ _ => rfl
  have i311 : ∀ (a0 a1 a2 a4 a5 a6 a7 a8 a9 a10 a12 a13 : Option Sl) (u v : D), ib [3, 11] [a0, a1, a2, some (.val u), a4, a5, a6, a7, a8, a9, a10, some (.val v), a12, a13] = [none, some (.val u), some (.val v)] := fun _ _ _ _ _ _ _ _ _ _ _ _ _ _ => rfl
  have z0 : (0 : Nat) <= sizeLine := Nat.zero_le _
  have z1 : (1 : Nat) <= sizeLine := by omega
  have z2 : (2 : Nat) <= sizeLine := by omega
  have z3 : (3 : Nat) <= sizeLine := by omega
  have il : ∀ (f : Bool) (l : List D), bH (.lst f l) = .ok l := fun _ _ => rfl
  have ll : ((shO os).map oD).length = (shO os).length := by simp
  have enS : ([110, 111, 32, 115, 99, 114, 101, 101, 110] == ([110, 111, 32, 115, 99, 114, 101, 101, 110] : List Nat)) = true := by decide
  show aK (aM _ _ [some (.val (.lst fz (ns.map .int))), none, none, none, none, none, none, none, none, none, none, none, none, none]) = _
  unfold yx yf ye yg yv yn yk vI uB ul sT uk uO ug vD
  cases hsd : screen d with
  | true =>
    rw [hsd] at sd
    generalize dJ (rn (some s0) os) = hh at *
    generalize hdy : doY af ae ah al ar aA az = DY at *
    clear hdy bo st14 hsd en hgd hok hln htl e0 f1 f2 f3 hmk q1 q2 q3 hrun a1 ix9 hbG hbB b0 b1 b2 b3 gs nd h0 h1 h2 lb c1 c2 c3 cg n2
    walk_at "run"
  | false =>
    rw [hsd] at sd
    have bo' := bo hsd
    generalize dJ (rn (some s0) os) = hh at *
    generalize hdy : doY af ae ah al ar aA az = DY at *
    clear hdy bo st14 hsd en hgd hok hln htl e0 f1 f2 f3 hmk q1 q2 q3 hrun a1 ix9 hbG hbB b0 b1 b2 b3 gs nd h0 h1 h2 lb c1 c2 c3 cg n2
    walk_at "run"
end Q11
namespace Q
open PySem PySem.Spec PyProof.Rows L2
theorem mn {us : List Value} (h : us.length = 1) : ∃ a, us = [a] := by
  match us, h with
  | [a], _ => exact ⟨a, rfl⟩
theorem xY {us : List Value} (h : us.length = 2) : ∃ a b, us = [a, b] := by
  match us, h with
  | [a, b], _ => exact ⟨a, b, rfl⟩
theorem tW {us : List Value} (h : us.length = 3) : ∃ a b c, us = [a, b, c] := by
  match us, h with
  | [a, b, c], _ => exact ⟨a, b, c, rfl⟩
theorem Fp {us : List Value} (h : us.length = 4) : ∃ a b c d, us = [a, b, c, d] := by
  match us, h with
  | [a, b, c, d], _ => exact ⟨a, b, c, d, rfl⟩
theorem BN {K : PySem.W.Frag} {hp : Heap} {mg : Str -> Option Value} {x : Str} {C : Addr} {bm : List Value} {nid : String} (kin : K.In hp) (gl : hp.Ns mainGlobals mg) (e1 : PySem.W.nsIn K mainGlobals x = some (some (.ref C))) (e2 : PySem.W.excIn K C bm nid = true) : OwnCls x C bm nid mg hp := by
  constructor
  . exact PySem.W.mg_of kin gl e1
  . unfold PySem.W.excIn at e2
    split at e2
    . rename_i dct kl sls look
      split at e2
      . rename_i C0 more s0 s1 s2 s3 nw s5 hmro hsls
        simp only [Bool.and_eq_true, beq_iff_eq, Bool.not_eq_true'] at e2
        obtain ⟨⟨⟨⟨⟨eC, en⟩, edel⟩, etail⟩, ens⟩, einit⟩ := e2
        obtain ⟨f1, f2, f3, f4, f5, f6, f7, f8, f9, f10, f11⟩ := kl
        dsimp only at hmro edel ens einit
        have es : sls = #[s0, s1, s2, s3, some (.builtin nw), s5] := by
          obtain ⟨ls⟩ := sls
          simp only at hsls
          rw [hsls]
        subst hmro edel es eC en
        exact ⟨more, f4, f1, f5, f2, f6, f7, f8, f9, f10, dct, s0, s1, s2, s3, s5, _, kin _ _ look, .of_isNs (PySem.W.isNs_of_in kin ens), PySem.W.nsMap_none_of_in kin ens einit, PySem.W.tail_of_in kin etail⟩
      . cases e2
    . cases e2
theorem vn {K : PySem.W.Frag} {hp : Heap} {mg : Str -> Option Value} {x : Str} {C : Addr} (kin : K.In hp) (gl : hp.Ns mainGlobals mg) (e1 : PySem.W.nsIn K mainGlobals x = some (some (.ref C))) (e2 : PySem.W.excIn K C [.type "ValueError", .type "Exception", .type "BaseException", .type "object"] "ValueError.__new__" = true) : Ref x C mg hp :=
  ⟨_, _, _, _, BN kin gl e1 e2, PySem.F.excBase_ValueError⟩
theorem nZ {K : PySem.W.Frag} {G : Hp} : ∀ ns : List Int, Reps K G (ns.map V.int) (ns.map D.int)
  | [] => .nil
  | i :: ns => .cons (.int i) (nZ ns)
def vO : List D -> R D
  | [.lst _ ds] => match eX ds with
    | some _ => .ok (.bl true)
    | none => .no
  | _ => .no
theorem CD {g : List D -> R D} (h : ∀ (ns : List Int) (fz : Bool), g [.lst fz (ns.map .int)] = .ok (.bl true)) : ∀ ds : List D, ds.length = 1 -> vO ds = .no \/ g ds = vO ds := by
  intro ds hl
  match ds, hl with
  | [d], _ =>
    cases d <;> first | exact Or.inl rfl | skip
    rename_i fz ds hl
    cases hi : eX ds with
    | none => exact Or.inl (by simp only [vO, hi])
    | some ns =>
      have e := eU hi
      subst e
      refine Or.inr ?_
      rw [h ns fz]
      simp only [vO, hi]
theorem Fi {l : PySem.W.OpenLaw} {q : Program} {loose : List Str} {XP : (Str -> Option Value) -> Heap -> Prop} {YP : World -> Heap -> Prop} {d : DefRec} {K : Params -> PySem.W.Frag} {L : Nat} (hL : Room L callerA) (hn : l.most = some 63) (hdf : d.params.defaults = [])
    (hY : ∀ (w : World) (h : Heap), YP w h -> (K w.params).In h)
    (F : ∀ (w : World) (mg : Str -> Option Value) (fa : Addr) (h : Heap), (K w.params).In h -> h.Ns mainGlobals mg -> mg d.name = some (.ref fa) ->
      ∃ fd : FuncData, (∀ (s : Shared) (u : Value), BindsTo s fd ⟨[u], []⟩ [("_law_script", u)]) /\ ∀ base : Heap, (K w.params).In base -> base.Ns mainGlobals mg -> FnF l.prog w (K w.params) mg base L fa fd ["_law_script"] vO) :
    PySem.W.WalkO q loose XP YP l.row.toRowW d [] (fun f vs => PySem.call f vs) :=
  L2.uV (n := 63) (k := L) (x := "_law_script") (CX := fun w => CXo l.prog w) (sp := fun w vs H Q E => vs.length = 1 /\ spF (K w.params) vO vs H Q E) hn (by decide) hdf hL hY F
    (fun w H a ns hl hO hS => ⟨rfl, H, [.lst true (ns.map .int)], .refl _, .cons (.fls hS (nZ ns)) .nil, by
      have e : vO [.lst true (ns.map .int)] = .ok (.bl true) := by simp only [vO, dE]
      rw [e]
      exact fun v G' H' u r => r.bl_inv⟩)
    fun w H s e s' z => by obtain ⟨a, C, H', _, _, z⟩ := z; exact z
theorem bp {K : PySem.W.Frag} {h : Heap} {mg : Str -> Option Value} {x : Str} {st : Stmt} {f : Addr} {oc : Value} {od an : Option Addr} {osl : Array (Option Value)} {kV doc pm cdv ct : Value} (X : K.In h) (G : h.Ns mainGlobals mg) (a : PySem.W.nsIn K mainGlobals x = some (some (.ref f)))
    (l : K.lookup f = some ⟨oc, od, .func (PySem.W.fnOf x x (iE st) (fD st) (aL st) .none kV doc pm an cdv ct), osl⟩) (c : PySem.W.codeIn K cdv x = true) (k : PySem.W.keepIn K (.ref f) = true) : ∃ f fd, Fun K x x st f fd /\ mg x = some (.ref f) :=
  ⟨f, _, Ba l c k, PySem.W.mg_of X G a⟩
end Q
namespace Q
open PySem PySem.Spec PyProof.Rows L2
section
variable {K : PySem.W.Frag} {C T : Addr}
theorem ni : PySem.W.kitOne K (.ref C) (.ref C) = some (C == C) := by
  unfold PySem.W.kitOne
  rw [if_pos (by simp)]; simp
theorem nX {t : Value} {b : Bool} {cd : ClassData} (h1 : PySem.W.clsIn K T = some cd) (h2 : PySem.W.typeIn K (.ref T) = some (.type "type")) (h3 : PySem.W.subIn K t (.ref T) = some b) : PySem.W.kitCls K t (.ref T) = some b := by
  unfold PySem.W.kitCls
  dsimp only
  rw [if_pos (by rw [h1, h2]; simp), h3]
theorem cR {cd : ClassData} (h1 : PySem.W.clsIn K T = some cd) (h2 : PySem.W.typeIn K (.ref T) = some (.type "type")) (h3 : PySem.W.subIn K (.ref C) (.ref T) = some false) (hne : C ≠ T) : PySem.W.kitOne K (.ref C) (.ref T) = some (C == T) := by
  unfold PySem.W.kitOne
  rw [if_neg (by simp [hne]), nX h1 h2 h3]
  simp [hne]
theorem tx (h3 : PySem.W.subIn K (.ref C) (.type "ValueError") = some true) : PySem.W.kitOne K (.ref C) (.type "ValueError") = some true := by
  unfold PySem.W.kitOne PySem.W.kitCls
  rw [if_neg (by simp)]
  dsimp only
  rw [if_pos (by decide +kernel), h3]
theorem ue {cd : ClassData} (h0 : PySem.W.subIn K (.ref T) (.type "BaseException") = some true) (h1 : PySem.W.clsIn K T = some cd) (h2 : PySem.W.typeIn K (.ref T) = some (.type "type")) (h3 : PySem.W.subIn K (.ref C) (.ref T) = some true) : PySem.W.exmOne K (.ref C) (.ref T) = some true := by
  unfold PySem.W.exmOne
  rw [if_pos (by rw [h0]; rfl), nX h1 h2 h3]
end
theorem vF {K : PySem.W.Frag} {C : Addr} {cd : ClassData} (g1 : PySem.W.findIn K (.ref C) "__getattribute__" = some (some (.builtin "BaseException.__getattribute__"))) (g2 : PySem.W.findIn K (.ref C) "__getattr__" = some none) (g3 : PySem.W.findIn K (.ref C) "__class__" = some (some (.builtin "object.__class__")))
    (g4 : PySem.W.specialIn K (.builtin "object.__class__") "__get__" = some (some (.builtin "getset_descriptor.__get__"))) (g5 : PySem.W.takesIn K (.builtin "object.__class__") = some true) (g6 : PySem.W.mroIn K C (.type "object") = some true) (g7 : PySem.W.subIn K (.ref C) (.type "BaseException") = some true)
    (g8 : PySem.W.clsIn K C = some cd) : ExcCls K C := ⟨g1, g2, g3, g4, g5, g6, g7, by rw [g8]; rfl⟩
end Q
namespace G11
open PySem PySem.Spec PyProof.Rows L2 Q Q11
abbrev top (i : Nat) : Stmt := PySem.Challenge.pw_screenlines_k11_whole_many_orders.main.body.getD i (.Pass ⟨0, 0, 0, 0⟩)
section
variable {P : Program} {w : World} {K : PySem.W.Frag} {mg : Str -> Option Value} {base : Heap}
theorem qe : FnScope ["_law_script", "_law_k"] ["_law_script", "_law_k"] (aL (top 41)) := ⟨rfl, rfl, rfl, by decide +kernel, rfl, by decide +kernel, by decide +kernel⟩
theorem pL {f : Addr} {fd : FuncData} (b_len : mg "len" = none) (F : Fun K "_law_cell" "_law_cell" (top 41) f fd) : FnF P w K mg base 1 f fd ["_law_script", "_law_k"] (fun ds => aK (dZ (aN 2 ds))) := by
  have hN : (["_law_script", "_law_k"] : List Str).Nodup := by decide
  refine F.okF qe (k := 0) (g := dZ) fun cdv A outer s H E hr => ?_
  have hu := hr.units
  have hh := hr.hd
  exact (ao (fj (zD (ai at1) (cQ rfl b_len (aa (ai at0) aj))) (ao (bg (aY (ai at0) (ai at1))) aO) aO) (ao (fj (jk hu (ai at0) (dz (eP aj))) (ao (bg aq) aO) aO) (ao (bg (ba (gT (aY (ai at0) (qZ (ai at1) (cQ rfl b_len (aa (ai at0) aj)))) aq) (ai at1))) aO)))
theorem ph : FnScope ["_law_script", "_law_k", "_law_many", "_law_drawn"] ["_law_script", "_law_k", "_law_many"] (aL (top 42)) := ⟨rfl, rfl, rfl, by decide +kernel, rfl, by decide +kernel, by decide +kernel⟩
theorem oY {f : Addr} {fd : FuncData} {bT : List D -> R D} (c__law_cell : Callee P w K mg base "_law_cell" 1 2 bT) (F : Fun K "_law_pick" "_law_pick" (top 42) f fd) : FnF P w K mg base 2 f fd ["_law_script", "_law_k", "_law_many"] (fun ds => aK (dN bT (aN 4 ds))) := by
  have hN : (["_law_script", "_law_k", "_law_many", "_law_drawn"] : List Str).Nodup := by decide
  refine F.okF ph (k := 1) (g := dN bT) fun cdv A outer s H E hr => ?_
  have hu := hr.units
  have hh := hr.hd
  exact (ao (bM at3 hN (qZ (gT (ba (aQ c__law_cell hr (aa (ai at0) (aa (ai at1) aj))) (gT aq (ba (ai at1) aq))) aq) aq)) (ao (bg (qZ (qZ (ba (gT (ai at3) (ai at3)) (AB (ai at3) aq)) aq) (ai at2))) aO))
theorem sf : FnScope ["_law_script", "_law_at", "_law_width", "_law_made", "_law_k", "_law_long"] ["_law_script", "_law_at", "_law_width"] (aL (top 43)) := ⟨rfl, rfl, rfl, by decide +kernel, rfl, by decide +kernel, by decide +kernel⟩
theorem sP {f : Addr} {fd : FuncData} {ag : List D -> R D} (b_range : mg "range" = none) (c__law_pick : Callee P w K mg base "_law_pick" 2 3 ag) (F : Fun K "_law_row" "_law_row" (top 43) f fd) : FnF P w K mg base 3 f fd ["_law_script", "_law_at", "_law_width"] (fun ds => aK (eY ag (aN 6 ds))) := by
  have hN : (["_law_script", "_law_at", "_law_width", "_law_made", "_law_k", "_law_long"] : List Str).Nodup := by decide
  refine F.okF sf (k := 2) (g := eY ag) fun cdv A outer s H E hr => ?_
  have hu := hr.units
  have hh := hr.hd
  exact (ao (bM at3 hN (aW (l := []) rfl (by decide))) (ao (mf PassesOwn.leaving rfl (fX rfl b_range (aa (ai at2) aj)) (cq 4 hN) (ao (bM at3 hN (ba (ai at3) (aY (aW (l := [32, 32, 97, 98, 35]) rfl (by decide)) (aQ c__law_pick hr (aa (ai at0) (aa (ba (ba (ai at1) aq) (ai at4)) (aa aq aj))))))) aO)) (ao (bM at5 hN (aQ c__law_pick hr (aa (ai at0) (aa (ai at1) (aa (ba (ai at2) aq) aj))))) (ao (bg (jb (jk hu (aQ c__law_pick hr (aa (ai at0) (aa (ba (ai at1) aq) (aa aq aj)))) aq) (ai at3) (ba (bt (ai at3) br (cm (ai at5))) (gT (aW (l := [32]) rfl (by decide)) (iM (ai at2) (ai at5)))))) aO))))
theorem mz : FnScope ["_law_script", "_law_at", "_law_width", "_law_many", "_law_rows"] ["_law_script", "_law_at", "_law_width", "_law_many"] (aL (top 44)) := ⟨rfl, rfl, rfl, by decide +kernel, rfl, by decide +kernel, by decide +kernel⟩
theorem mM {f : Addr} {fd : FuncData} {ce ag : List D -> R D} (b_range : mg "range" = none) (b_tuple : mg "tuple" = none) (c__law_row : Callee P w K mg base "_law_row" 3 3 ce) (c__law_pick : Callee P w K mg base "_law_pick" 3 3 ag) (F : Fun K "_law_screen" "_law_screen" (top 44) f fd) : FnF P w K mg base 4 f fd ["_law_script", "_law_at", "_law_width", "_law_many"] (fun ds => aK (cX ce ag (aN 5 ds))) := by
  have hN : (["_law_script", "_law_at", "_law_width", "_law_many", "_law_rows"] : List Str).Nodup := by decide
  refine F.okF mz (k := 3) (g := cX ce ag) fun cdv A outer s H E hr => ?_
  have hu := hr.units
  have hh := hr.hd
  exact (ao (bM at4 hN (vh rfl b_tuple (aa (jY (eT (N' := ["_law_k", "_law_script", "_law_at", "_law_width"]) (ix := [0, 1, 2]) eR rfl (fX rfl b_range (aa (ai at3) aj)) (fun C s₂ H₂ fp => (aQ c__law_row hr (aa (bW at1) (aa (ba (bW at2) (gT aq (bW at0))) (aa (bW at3) aj))))) (fun C s₂ H₂ fp => gE))) aj))) (ao (bg (cf (aa (ai at2) (aa (ai at4) (aa (cf (aa (aQ c__law_pick hr (aa (ai at0) (aa (ba (ai at1) aq) (aa (ai at3) aj)))) (aa (aQ c__law_pick hr (aa (ai at0) (aa (ba (ai at1) aq) (aa (ba (ai at2) aq) aj)))) aj))) aj))))) aO))
theorem pv : FnScope ["_law_screen_here", "_law_order", "_law_width", "_law_rows", "_law_place", "_law_good", "_law_text", "_law_end", "_law_row_here", "_law_new"] ["_law_screen_here", "_law_order"] (aL (top 46)) := ⟨rfl, rfl, rfl, by decide +kernel, rfl, by decide +kernel, by decide +kernel⟩
theorem pV {f : Addr} {fd : FuncData} (b_len : mg "len" = none) (F : Fun K "_law_step" "_law_step" (top 46) f fd) : FnF P w K mg base 1 f fd ["_law_screen_here", "_law_order"] (fun ds => aK (ee (aN 10 ds))) := by
  have hN : (["_law_screen_here", "_law_order", "_law_width", "_law_rows", "_law_place", "_law_good", "_law_text", "_law_end", "_law_row_here", "_law_new"] : List Str).Nodup := by decide
  refine F.okF pv (k := 0) (g := ee) fun cdv A outer s H E hr => ?_
  have hu := hr.units
  have hh := hr.hd
  exact (ao (xU (ai at0) rfl (eI 2 hN (eI 3 hN (eI 4 hN qS)))) (ao (fj (jk hu (aY (ai at1) aq) (aW (l := [103, 111]) rfl (by decide))) (ao (bM at5 hN (dQ (DI (aY (ai at1) aq) (cQ rfl b_len (aa (ai at3) aj))) (eK (Dv (aY (ai at1) aq) (ai at2))))) (ao (bg (jb (zO (ai at5)) (cf (aa (ai at2) (aa (ai at3) (aa (cf (aa (aY (ai at1) aq) (aa (aY (ai at1) aq) aj))) aj)))) (aW (l := [110, 111, 32, 114, 111, 111, 109]) rfl (by decide)))) aO)) aO) (ao (bM at6 hN (jb (jk hu (aY (ai at1) aq) (aW (l := [115, 97, 121]) rfl (by decide))) (aY (ai at1) aq) (gT (aW (l := [32]) rfl (by decide)) (iM (ai at2) (aY (ai at4) aq))))) (ao (bM at7 hN (ba (aY (ai at4) aq) (cQ rfl b_len (aa (ai at6) aj)))) (ao (fj (si (ai at7) (ai at2)) (ao (bg (aW (l := [110, 111, 32, 114, 111, 111, 109]) rfl (by decide))) aO) aO) (ao (bM at8 hN (aY (ai at3) (aY (ai at4) aq))) (ao (bM at8 hN (ba (ba (bt (ai at8) br (cm (aY (ai at4) aq))) (ai at6)) (bt (ai at8) (cm (ai at7)) br))) (ao (bM at9 hN (ba (ba (bt (ai at3) br (cm (aY (ai at4) aq))) (cf (aa (ai at8) aj))) (bt (ai at3) (cm (ba (aY (ai at4) aq) aq)) br))) (ao (bg (cf (aa (ai at2) (aa (ai at9) (aa (cf (aa (aY (ai at4) aq) (aa (jb (jk hu (aY (ai at1) aq) (aW (l := [115, 97, 121]) rfl (by decide))) (ai at7) (aY (ai at4) aq)) aj))) aj))))) aO)))))))))
theorem pC : FnScope ["thing"] ["thing"] (aL (top 10)) := ⟨rfl, rfl, rfl, by decide +kernel, rfl, by decide +kernel, by decide +kernel⟩
theorem oV {f : Addr} {fd : FuncData} (b_bool : mg "bool" = none) (ft : mg "int" = none) (b_isinstance : mg "isinstance" = none) (F : Fun K "is_whole" "is_whole" (top 10) f fd) : FnF P w K mg base 1 f fd ["thing"] (fun ds => aK (dX (aN 1 ds))) := by
  have hN : (["thing"] : List Str).Nodup := by decide
  refine F.okF pC (k := 0) (g := dX) fun cdv A outer s H E hr => ?_
  have hu := hr.units
  have hh := hr.hd
  exact (ao (bg (dQ (pG b_isinstance (ai at0) ft) (eK (yr (qE b_isinstance (ai at0) b_bool))))) aO)
theorem nB : FnScope ["thing", "low", "high"] ["thing", "low", "high"] (aL (top 11)) := ⟨rfl, rfl, rfl, by decide +kernel, rfl, by decide +kernel, by decide +kernel⟩
theorem nC {f : Addr} {fd : FuncData} {cU : List D -> R D} (c_is_whole : Callee P w K mg base "is_whole" 1 1 cU) (F : Fun K "is_within" "is_within" (top 11) f fd) : FnF P w K mg base 2 f fd ["thing", "low", "high"] (fun ds => aK (du cU (aN 3 ds))) := by
  have hN : (["thing", "low", "high"] : List Str).Nodup := by decide
  refine F.okF nB (k := 1) (g := du cU) fun cdv A outer s H E hr => ?_
  have hu := hr.units
  have hh := hr.hd
  exact (ao (bg (dQ (aQ c_is_whole hr (aa (ai at0) aj)) (eK (mE (ai at1) (ai at0) (ai at2))))) aO)
theorem oS : FnScope ["thing"] ["thing"] (aL (top 12)) := ⟨rfl, rfl, rfl, by decide +kernel, rfl, by decide +kernel, by decide +kernel⟩
theorem pf {f : Addr} {fd : FuncData} (b_all : mg "all" = none) (b_isinstance : mg "isinstance" = none) (b_str : mg "str" = none) (F : Fun K "is_plain" "is_plain" (top 12) f fd) : FnF P w K mg base 1 f fd ["thing"] (fun ds => aK (dM (aN 1 ds))) := by
  have hN : (["thing"] : List Str).Nodup := by decide
  refine F.okF oS (k := 0) (g := dM) fun cdv A outer s H E hr => ?_
  have hu := hr.units
  have hh := hr.hd
  exact (ao (bg (dQ (oX b_isinstance (ai at0) b_str) (eK (Ce rfl rfl b_all (aa (jY (eT (N' := ["sign"]) (ix := []) eR rfl (ff (ai at0)) (fun C s₂ H₂ fp => (mE (aW (l := [32]) rfl (by decide)) (bW at0) (aW (l := [126]) rfl (by decide)))) (fun C s₂ H₂ fp => gE))) aj))))) aO)
theorem jj : FnScope ["thing", "width"] ["thing", "width"] (aL (top 16)) := ⟨rfl, rfl, rfl, by decide +kernel, rfl, by decide +kernel, by decide +kernel⟩
theorem jg {f : Addr} {fd : FuncData} {bn : List D -> R D} (b_all : mg "all" = none) (b_isinstance : mg "isinstance" = none) (b_len : mg "len" = none) (b_tuple : mg "tuple" = none) {t_MOST_ROWS : Tok} (g_MOST_ROWS : mg "MOST_ROWS" = some (.int 12 t_MOST_ROWS)) (c_is_plain : Callee P w K mg base "is_plain" 1 1 bn) (F : Fun K "are_full_rows" "are_full_rows" (top 16) f fd) : FnF P w K mg base 2 f fd ["thing", "width"] (fun ds => aK (bZ bn (aN 2 ds))) := by
  have hN : (["thing", "width"] : List Str).Nodup := by decide
  refine F.okF jj (k := 1) (g := bZ bn) fun cdv A outer s H E hr => ?_
  have hu := hr.units
  have hh := hr.hd
  exact (ao (fj (fP (cZ (cS (cI (cJ b_isinstance (ai at0) b_tuple))) (cK (cS (pA aq (cQ rfl b_len (aa (ai at0) aj)) (dP rfl g_MOST_ROWS)))))) (ao (bg fu) aO) aO) (ao (bg (Ce rfl rfl b_all (aa (jY (eT (N' := ["row", "width"]) (ix := [1]) eR rfl (ff (ai at0)) (fun C s₂ H₂ fp => (dQ (aQ c_is_plain hr (aa (bW at0) aj)) (eK (pi hu (cQ rfl b_len (aa (bW at0) aj)) (bW at1))))) (fun C s₂ H₂ fp => gE))) aj))) aO))
theorem qc : FnScope ["thing", "width", "many"] ["thing", "width", "many"] (aL (top 17)) := ⟨rfl, rfl, rfl, by decide +kernel, rfl, by decide +kernel, by decide +kernel⟩
theorem pF {f : Addr} {fd : FuncData} {aJ : List D -> R D} (b_isinstance : mg "isinstance" = none) (b_len : mg "len" = none) (b_tuple : mg "tuple" = none) (c_is_within : Callee P w K mg base "is_within" 2 3 aJ) (F : Fun K "is_place" "is_place" (top 17) f fd) : FnF P w K mg base 3 f fd ["thing", "width", "many"] (fun ds => aK (dW aJ (aN 3 ds))) := by
  have hN : (["thing", "width", "many"] : List Str).Nodup := by decide
  refine F.okF qc (k := 2) (g := dW aJ) fun cdv A outer s H E hr => ?_
  have hu := hr.units
  have hh := hr.hd
  exact (ao (fj (fP (cZ (cS (cI (cJ b_isinstance (ai at0) b_tuple))) (cK (dL hu (cQ rfl b_len (aa (ai at0) aj)) aq)))) (ao (bg fu) aO) aO) (ao (bg (dQ (aQ c_is_within hr (aa (aY (ai at0) aq) (aa aq (aa (iM (ai at2) aq) aj)))) (eK (aQ c_is_within hr (aa (aY (ai at0) aq) (aa aq (aa (ai at1) aj))))))) aO))
theorem nU : FnScope ["thing", "width"] ["thing"] (aL (top 18)) := ⟨rfl, rfl, rfl, by decide +kernel, rfl, by decide +kernel, by decide +kernel⟩
theorem ox {f : Addr} {fd : FuncData} {aJ bd bB : List D -> R D} (b_isinstance : mg "isinstance" = none) (b_len : mg "len" = none) (b_tuple : mg "tuple" = none) {t_MOST_WIDTH : Tok} (g_MOST_WIDTH : mg "MOST_WIDTH" = some (.int 40 t_MOST_WIDTH)) (c_is_within : Callee P w K mg base "is_within" 3 3 aJ) (c_are_full_rows : Callee P w K mg base "are_full_rows" 3 2 bd) (c_is_place : Callee P w K mg base "is_place" 3 3 bB) (F : Fun K "is_screen" "is_screen" (top 18) f fd) : FnF P w K mg base 4 f fd ["thing"] (fun ds => aK (dn aJ bd bB (aN 2 ds))) := by
  have hN : (["thing", "width"] : List Str).Nodup := by decide
  refine F.okF nU (k := 3) (g := dn aJ bd bB) fun cdv A outer s H E hr => ?_
  have hu := hr.units
  have hh := hr.hd
  exact (ao (fj (fP (cZ (cS (cI (cJ b_isinstance (ai at0) b_tuple))) (cK (dL hu (cQ rfl b_len (aa (ai at0) aj)) aq)))) (ao (bg fu) aO) aO) (ao (bM at1 hN (aY (ai at0) aq)) (ao (fj (fP (cZ (cS (cI (aQ c_is_within hr (aa (ai at1) (aa aq (aa (dP rfl g_MOST_WIDTH) aj)))))) (cK (cS (cI (aQ c_are_full_rows hr (aa (aY (ai at0) aq) (aa (ai at1) aj)))))))) (ao (bg fu) aO) aO) (ao (bg (aQ c_is_place hr (aa (aY (ai at0) aq) (aa (ai at1) (aa (cQ rfl b_len (aa (aY (ai at0) aq) aj)) aj))))) aO))))
theorem kg : FnScope ["thing"] ["thing"] (aL (top 19)) := ⟨rfl, rfl, rfl, by decide +kernel, rfl, by decide +kernel, by decide +kernel⟩
theorem ko {f : Addr} {fd : FuncData} {cy : List D -> R D} {af : Addr} (r_NoScreen : Ref "NoScreen" af mg base) (c_is_screen : Callee P w K mg base "is_screen" 4 1 cy) (F : Fun K "check_screen" "check_screen" (top 19) f fd) : FnF P w K mg base 5 f fd ["thing"] (fun ds => aK (cr cy af (aN 1 ds))) := by
  have hN : (["thing"] : List Str).Nodup := by decide
  refine F.okF kg (k := 4) (g := cr cy af) fun cdv A outer s H E hr => ?_
  have hu := hr.units
  have hh := hr.hd
  exact (ao (fj (cS (cI (aQ c_is_screen hr (aa (ai at0) aj)))) (ao (jv r_NoScreen hh (aW (l := [116, 104, 105, 115, 32, 105, 115, 32, 110, 111, 32, 115, 99, 114, 101, 101, 110]) rfl (by decide))) aO) aO) aO)
theorem uY : FnScope ["thing"] ["thing"] (aL (top 24)) := ⟨rfl, rfl, rfl, by decide +kernel, rfl, by decide +kernel, by decide +kernel⟩
theorem tE {f : Addr} {fd : FuncData} {bn : List D -> R D} (b_len : mg "len" = none) {t_MOST_SAID : Tok} (g_MOST_SAID : mg "MOST_SAID" = some (.int 40 t_MOST_SAID)) (c_is_plain : Callee P w K mg base "is_plain" 1 1 bn) (F : Fun K "is_say" "is_say" (top 24) f fd) : FnF P w K mg base 2 f fd ["thing"] (fun ds => aK (fV bn (aN 1 ds))) := by
  have hN : (["thing"] : List Str).Nodup := by decide
  refine F.okF uY (k := 1) (g := fV bn) fun cdv A outer s H E hr => ?_
  have hu := hr.units
  have hh := hr.hd
  exact (ao (bg (dQ (pi hu (cQ rfl b_len (aa (ai at0) aj)) aq) (dQ (pi hu (aY (ai at0) aq) (aW (l := [115, 97, 121]) rfl (by decide))) (dQ (aQ c_is_plain hr (aa (aY (ai at0) aq) aj)) (eK (mE aq (cQ rfl b_len (aa (aY (ai at0) aq) aj)) (dP rfl g_MOST_SAID))))))) aO)
theorem xP : FnScope ["thing"] ["thing"] (aL (top 25)) := ⟨rfl, rfl, rfl, by decide +kernel, rfl, by decide +kernel, by decide +kernel⟩
theorem wZ {f : Addr} {fd : FuncData} {aJ : List D -> R D} (b_len : mg "len" = none) {t_MOST_ROWS : Tok} (g_MOST_ROWS : mg "MOST_ROWS" = some (.int 12 t_MOST_ROWS)) {t_MOST_WIDTH : Tok} (g_MOST_WIDTH : mg "MOST_WIDTH" = some (.int 40 t_MOST_WIDTH)) (c_is_within : Callee P w K mg base "is_within" 2 3 aJ) (F : Fun K "is_go" "is_go" (top 25) f fd) : FnF P w K mg base 3 f fd ["thing"] (fun ds => aK (ia aJ (aN 1 ds))) := by
  have hN : (["thing"] : List Str).Nodup := by decide
  refine F.okF xP (k := 2) (g := ia aJ) fun cdv A outer s H E hr => ?_
  have hu := hr.units
  have hh := hr.hd
  exact (ao (fj (fP (cZ (dL hu (cQ rfl b_len (aa (ai at0) aj)) aq) (cK (dL hu (aY (ai at0) aq) (aW (l := [103, 111]) rfl (by decide)))))) (ao (bg fu) aO) aO) (ao (bg (dQ (aQ c_is_within hr (aa (aY (ai at0) aq) (aa aq (aa (iM (dP rfl g_MOST_ROWS) aq) aj)))) (eK (aQ c_is_within hr (aa (aY (ai at0) aq) (aa aq (aa (dP rfl g_MOST_WIDTH) aj))))))) aO))
theorem pc : FnScope ["thing"] ["thing"] (aL (top 26)) := ⟨rfl, rfl, rfl, by decide +kernel, rfl, by decide +kernel, by decide +kernel⟩
theorem pU {f : Addr} {fd : FuncData} {dq fb : List D -> R D} (b_isinstance : mg "isinstance" = none) (b_tuple : mg "tuple" = none) (c_is_say : Callee P w K mg base "is_say" 3 1 dq) (c_is_go : Callee P w K mg base "is_go" 3 1 fb) (F : Fun K "is_order" "is_order" (top 26) f fd) : FnF P w K mg base 4 f fd ["thing"] (fun ds => aK (dU dq fb (aN 1 ds))) := by
  have hN : (["thing"] : List Str).Nodup := by decide
  refine F.okF pc (k := 3) (g := dU dq fb) fun cdv A outer s H E hr => ?_
  have hu := hr.units
  have hh := hr.hd
  exact (ao (fj (cS (cI (cJ b_isinstance (ai at0) b_tuple))) (ao (bg fu) aO) aO) (ao (bg (yK (aQ c_is_say hr (aa (ai at0) aj)) (yK (aQ c_is_go hr (aa (ai at0) aj)) (eK (pi hu (ai at0) (cf (aa (aW (l := [119, 105, 112, 101]) rfl (by decide)) aj))))))) aO))
theorem kX : FnScope ["thing"] ["thing"] (aL (top 27)) := ⟨rfl, rfl, rfl, by decide +kernel, rfl, by decide +kernel, by decide +kernel⟩
theorem li {f : Addr} {fd : FuncData} {cT : List D -> R D} {ae : Addr} (r_NoOrder : Ref "NoOrder" ae mg base) (c_is_order : Callee P w K mg base "is_order" 4 1 cT) (F : Fun K "check_order" "check_order" (top 27) f fd) : FnF P w K mg base 5 f fd ["thing"] (fun ds => aK (cL cT ae (aN 1 ds))) := by
  have hN : (["thing"] : List Str).Nodup := by decide
  refine F.okF kX (k := 4) (g := cL cT ae) fun cdv A outer s H E hr => ?_
  have hu := hr.units
  have hh := hr.hd
  exact (ao (fj (cS (cI (aQ c_is_order hr (aa (ai at0) aj)))) (ao (jv r_NoOrder hh (aW (l := [116, 104, 105, 115, 32, 105, 115, 32, 110, 111, 32, 111, 114, 100, 101, 114]) rfl (by decide))) aO) aO) aO)
theorem jL : FnScope ["thing", "order"] ["thing"] (aL (top 28)) := ⟨rfl, rfl, rfl, by decide +kernel, rfl, by decide +kernel, by decide +kernel⟩
theorem jS {f : Addr} {fd : FuncData} {aP : List D -> R D} {ae : Addr} (b_isinstance : mg "isinstance" = none) (b_list : mg "list" = none) (r_NoOrder : Ref "NoOrder" ae mg base) (c_check_order : Callee P w K mg base "check_order" 5 1 aP) (F : Fun K "check_orders" "check_orders" (top 28) f fd) : FnF P w K mg base 6 f fd ["thing"] (fun ds => aK (db aP ae (aN 2 ds))) := by
  have hN : (["thing", "order"] : List Str).Nodup := by decide
  refine F.okF jL (k := 5) (g := db aP ae) fun cdv A outer s H E hr => ?_
  have hu := hr.units
  have hh := hr.hd
  exact (ao (fj (cS (cI (xa b_isinstance (ai at0) b_list))) (ao (jv r_NoOrder hh (aW (l := [116, 104, 105, 115, 32, 105, 115, 32, 110, 111, 32, 108, 105, 115, 116, 32, 111, 102, 32, 111, 114, 100, 101, 114, 115]) rfl (by decide))) aO) aO) (ao (mf PassesOwn.leaving rfl (ff (ai at0)) (cq 1 hN) (ao (kP (aQ c_check_order hr (aa (ai at1) aj))) aO)) aO))
theorem fY : FnScope ["screen", "row", "column", "number", "rows"] ["screen", "row", "column"] (aL (top 29)) := ⟨rfl, rfl, rfl, by decide +kernel, rfl, by decide +kernel, by decide +kernel⟩
theorem gh {f : Addr} {fd : FuncData} (F : Fun K "with_row_at_place" "with_row_at_place" (top 29) f fd) : FnF P w K mg base 1 f fd ["screen", "row", "column"] (fun ds => aK (bK (aN 5 ds))) := by
  have hN : (["screen", "row", "column", "number", "rows"] : List Str).Nodup := by decide
  refine F.okF fY (k := 0) (g := bK) fun cdv A outer s H E hr => ?_
  have hu := hr.units
  have hh := hr.hd
  exact (ao (bM at3 hN (aY (aY (ai at0) aq) aq)) (ao (bM at4 hN (ba (ba (bt (aY (ai at0) aq) br (cm (ai at3))) (cf (aa (ai at1) aj))) (bt (aY (ai at0) aq) (cm (ba (ai at3) aq)) br))) (ao (bg (cf (aa (aY (ai at0) aq) (aa (ai at4) (aa (cf (aa (ai at3) (aa (ai at2) aj))) aj))))) aO)))
theorem nW : FnScope ["screen", "text", "row", "begin", "end"] ["screen", "text"] (aL (top 30)) := ⟨rfl, rfl, rfl, by decide +kernel, rfl, by decide +kernel, by decide +kernel⟩
theorem nL {f : Addr} {fd : FuncData} {aw : List D -> R D} {ah : Addr} (b_len : mg "len" = none) (r_NoRoom : Ref "NoRoom" ah mg base) (c_with_row_at_place : Callee P w K mg base "with_row_at_place" 1 3 aw) (F : Fun K "after_say" "after_say" (top 30) f fd) : FnF P w K mg base 2 f fd ["screen", "text"] (fun ds => aK (dt aw ah (aN 5 ds))) := by
  have hN : (["screen", "text", "row", "begin", "end"] : List Str).Nodup := by decide
  refine F.okF nW (k := 1) (g := dt aw ah) fun cdv A outer s H E hr => ?_
  have hu := hr.units
  have hh := hr.hd
  exact (ao (bM at2 hN (aY (aY (ai at0) aq) (aY (aY (ai at0) aq) aq))) (ao (bM at3 hN (aY (aY (ai at0) aq) aq)) (ao (bM at4 hN (ba (ai at3) (cQ rfl b_len (aa (ai at1) aj)))) (ao (fj (si (ai at4) (aY (ai at0) aq)) (ao (jv r_NoRoom hh (aW (l := [116, 104, 101, 32, 116, 101, 120, 116, 32, 105, 115, 32, 119, 105, 100, 101, 114, 32, 116, 104, 97, 110, 32, 119, 104, 97, 116, 32, 105, 115, 32, 108, 101, 102, 116, 32, 111, 102, 32, 116, 104, 101, 32, 114, 111, 119]) rfl (by decide))) aO) aO) (ao (bg (aQ c_with_row_at_place hr (aa (ai at0) (aa (ba (ba (bt (ai at2) br (cm (ai at3))) (ai at1)) (bt (ai at2) (cm (ai at4)) br)) (aa (ai at4) aj))))) aO)))))
theorem pW : FnScope ["screen", "number", "column"] ["screen", "number", "column"] (aL (top 31)) := ⟨rfl, rfl, rfl, by decide +kernel, rfl, by decide +kernel, by decide +kernel⟩
theorem qi {f : Addr} {fd : FuncData} {ah : Addr} (b_len : mg "len" = none) (r_NoRoom : Ref "NoRoom" ah mg base) (F : Fun K "after_go" "after_go" (top 31) f fd) : FnF P w K mg base 1 f fd ["screen", "number", "column"] (fun ds => aK (dR ah (aN 3 ds))) := by
  have hN : (["screen", "number", "column"] : List Str).Nodup := by decide
  refine F.okF pW (k := 0) (g := dR ah) fun cdv A outer s H E hr => ?_
  have hu := hr.units
  have hh := hr.hd
  exact (ao (fj (fP (cZ (Dy (ai at1) (cQ rfl b_len (aa (aY (ai at0) aq) aj))) (cK (si (ai at2) (aY (ai at0) aq))))) (ao (jv r_NoRoom hh (aW (l := [116, 104, 101, 32, 115, 99, 114, 101, 101, 110, 32, 100, 111, 101, 115, 32, 110, 111, 116, 32, 104, 97, 118, 101, 32, 116, 104, 105, 115, 32, 112, 108, 97, 99, 101]) rfl (by decide))) aO) aO) (ao (bg (cf (aa (aY (ai at0) aq) (aa (aY (ai at0) aq) (aa (cf (aa (ai at1) (aa (ai at2) aj))) aj))))) aO))
theorem mF : FnScope ["screen", "row", "column"] ["screen"] (aL (top 32)) := ⟨rfl, rfl, rfl, by decide +kernel, rfl, by decide +kernel, by decide +kernel⟩
theorem mL {f : Addr} {fd : FuncData} {aw : List D -> R D} (c_with_row_at_place : Callee P w K mg base "with_row_at_place" 1 3 aw) (F : Fun K "after_wipe" "after_wipe" (top 32) f fd) : FnF P w K mg base 2 f fd ["screen"] (fun ds => aK (cW aw (aN 3 ds))) := by
  have hN : (["screen", "row", "column"] : List Str).Nodup := by decide
  refine F.okF mF (k := 1) (g := cW aw) fun cdv A outer s H E hr => ?_
  have hu := hr.units
  have hh := hr.hd
  exact (ao (bM at1 hN (aY (aY (ai at0) aq) (aY (aY (ai at0) aq) aq))) (ao (bM at2 hN (aY (aY (ai at0) aq) aq)) (ao (bg (aQ c_with_row_at_place hr (aa (ai at0) (aa (zN (bt (ai at1) br (cm (ai at2))) (aa (aY (ai at0) aq) aj)) (aa (ai at2) aj))))) aO)))
theorem lg : FnScope ["screen", "order"] ["screen", "order"] (aL (top 33)) := ⟨rfl, rfl, rfl, by decide +kernel, rfl, by decide +kernel, by decide +kernel⟩
theorem lh {f : Addr} {fd : FuncData} {bD bP bu : List D -> R D} (c_after_say : Callee P w K mg base "after_say" 2 2 bD) (c_after_go : Callee P w K mg base "after_go" 2 3 bP) (c_after_wipe : Callee P w K mg base "after_wipe" 2 1 bu) (F : Fun K "after_order" "after_order" (top 33) f fd) : FnF P w K mg base 3 f fd ["screen", "order"] (fun ds => aK (cH bD bP bu (aN 2 ds))) := by
  have hN : (["screen", "order"] : List Str).Nodup := by decide
  refine F.okF lg (k := 2) (g := cH bD bP bu) fun cdv A outer s H E hr => ?_
  have hu := hr.units
  have hh := hr.hd
  exact (ao (fj (jk hu (aY (ai at1) aq) (aW (l := [115, 97, 121]) rfl (by decide))) (ao (bg (aQ c_after_say hr (aa (ai at0) (aa (aY (ai at1) aq) aj)))) aO) aO) (ao (fj (jk hu (aY (ai at1) aq) (aW (l := [103, 111]) rfl (by decide))) (ao (bg (aQ c_after_go hr (aa (ai at0) (aa (aY (ai at1) aq) (aa (aY (ai at1) aq) aj))))) aO) aO) (ao (bg (aQ c_after_wipe hr (aa (ai at0) aj))) aO)))
theorem pN : FnScope ["screen", "orders", "current", "order"] ["screen", "orders"] (aL (top 35)) := ⟨rfl, rfl, rfl, by decide +kernel, rfl, by decide +kernel, by decide +kernel⟩
theorem pb {f : Addr} {fd : FuncData} {aE au aG : List D -> R D} (c_check_screen : Callee P w K mg base "check_screen" 6 1 aE) (c_check_orders : Callee P w K mg base "check_orders" 6 1 au) (c_after_order : Callee P w K mg base "after_order" 6 2 aG) (F : Fun K "all_done" "all_done" (top 35) f fd) : FnF P w K mg base 7 f fd ["screen", "orders"] (fun ds => aK (fF aE au aG (aN 4 ds))) := by
  have hN : (["screen", "orders", "current", "order"] : List Str).Nodup := by decide
  refine F.okF pN (k := 6) (g := fF aE au aG) fun cdv A outer s H E hr => ?_
  have hu := hr.units
  have hh := hr.hd
  exact (ao (kP (aQ c_check_screen hr (aa (ai at0) aj))) (ao (kP (aQ c_check_orders hr (aa (ai at1) aj))) (ao (bM at2 hN (ai at0)) (ao (mf PassesOwn.leaving rfl (ff (ai at1)) (cq 3 hN) (ao (bM at2 hN (aQ c_after_order hr (aa (ai at2) (aa (ai at3) aj)))) aO)) (ao (bg (ai at2)) aO)))))
theorem mh : FnScope ["order"] ["order"] (aL (top 36)) := ⟨rfl, rfl, rfl, by decide +kernel, rfl, by decide +kernel, by decide +kernel⟩
theorem lY {f : Addr} {fd : FuncData} (b_len : mg "len" = none) {t_GO_COST : Tok} (g_GO_COST : mg "GO_COST" = some (.int 2 t_GO_COST)) {t_WIPE_COST : Tok} (g_WIPE_COST : mg "WIPE_COST" = some (.int 1 t_WIPE_COST)) (F : Fun K "order_cost" "order_cost" (top 36) f fd) : FnF P w K mg base 1 f fd ["order"] (fun ds => aK (eu (aN 1 ds))) := by
  have hN : (["order"] : List Str).Nodup := by decide
  refine F.okF mh (k := 0) (g := eu) fun cdv A outer s H E hr => ?_
  have hu := hr.units
  have hh := hr.hd
  exact (ao (fj (jk hu (aY (ai at0) aq) (aW (l := [115, 97, 121]) rfl (by decide))) (ao (bg (cQ rfl b_len (aa (aY (ai at0) aq) aj))) aO) aO) (ao (fj (jk hu (aY (ai at0) aq) (aW (l := [103, 111]) rfl (by decide))) (ao (bg (dP rfl g_GO_COST)) aO) aO) (ao (bg (dP rfl g_WIPE_COST)) aO)))
theorem AH : FnScope ["orders"] ["orders"] (aL (top 37)) := ⟨rfl, rfl, rfl, by decide +kernel, rfl, by decide +kernel, by decide +kernel⟩
theorem zr {f : Addr} {fd : FuncData} {au bG : List D -> R D} (b_sum : mg "sum" = none) (c_check_orders : Callee P w K mg base "check_orders" 6 1 au) (c_order_cost : Callee P w K mg base "order_cost" 6 1 bG) (F : Fun K "cost" "cost" (top 37) f fd) : FnF P w K mg base 7 f fd ["orders"] (fun ds => aK (my au bG (aN 1 ds))) := by
  have hN : (["orders"] : List Str).Nodup := by decide
  refine F.okF AH (k := 6) (g := my au bG) fun cdv A outer s H E hr => ?_
  have hu := hr.units
  have hh := hr.hd
  exact (ao (kP (aQ c_check_orders hr (aa (ai at0) aj))) (ao (bg (Dt rfl rfl b_sum (aa (jY (eT (N' := ["order"]) (ix := []) eR rfl (ff (ai at0)) (fun C s₂ H₂ fp => (aQ c_order_cost hr (aa (bW at0) aj))) (fun C s₂ H₂ fp => gE))) aj))) aO))
theorem iA : FnScope ["one", "other", "text"] ["one", "other"] (aL (top 38)) := ⟨rfl, rfl, rfl, by decide +kernel, rfl, by decide +kernel, by decide +kernel⟩
theorem ij {f : Addr} {fd : FuncData} (b_len : mg "len" = none) {t_MOST_SAID : Tok} (g_MOST_SAID : mg "MOST_SAID" = some (.int 40 t_MOST_SAID)) (F : Fun K "joined_or_none" "joined_or_none" (top 38) f fd) : FnF P w K mg base 1 f fd ["one", "other"] (fun ds => aK (cO (aN 3 ds))) := by
  have hN : (["one", "other", "text"] : List Str).Nodup := by decide
  refine F.okF iA (k := 0) (g := cO) fun cdv A outer s H E hr => ?_
  have hu := hr.units
  have hh := hr.hd
  exact (ao (fj (dL hu (aY (ai at0) aq) (aY (ai at1) aq)) (ao (bg fJ) aO) aO) (ao (fj (dL hu (aY (ai at0) aq) (aW (l := [115, 97, 121]) rfl (by decide))) (ao (bg (ai at1)) aO) aO) (ao (bM at2 hN (ba (aY (ai at0) aq) (aY (ai at1) aq))) (ao (bg (jb (D3 (cQ rfl b_len (aa (ai at2) aj)) (dP rfl g_MOST_SAID)) (cf (aa (aW (l := [115, 97, 121]) rfl (by decide)) (aa (ai at2) aj))) fJ)) aO))))
theorem nH : FnScope ["orders", "short", "order", "both"] ["orders"] (aL (top 39)) := ⟨rfl, rfl, rfl, by decide +kernel, rfl, by decide +kernel, by decide +kernel⟩
theorem oI {f : Addr} {fd : FuncData} {au aU : List D -> R D} (b_len : mg "len" = none) (c_check_orders : Callee P w K mg base "check_orders" 6 1 au) (c_joined_or_none : Callee P w K mg base "joined_or_none" 6 2 aU) (F : Fun K "shortened" "shortened" (top 39) f fd) : FnF P w K mg base 7 f fd ["orders"] (fun ds => aK (eS au aU (aN 4 ds))) := by
  have hN : (["orders", "short", "order", "both"] : List Str).Nodup := by decide
  refine F.okF nH (k := 6) (g := eS au aU) fun cdv A outer s H E hr => ?_
  have hu := hr.units
  have hh := hr.hd
  exact (ao (kP (aQ c_check_orders hr (aa (ai at0) aj))) (ao (vj 1 hN (eP aj)) (ao (mf PassesOwn.leaving rfl (ff (ai at0)) (cq 2 hN) (ao (Cv 1 3 hN (jb (si (cQ rfl b_len (aa (ai at1) aj)) aq) (aQ c_joined_or_none hr (aa (aY (ai at1) (zv aq)) (aa (ai at2) aj))) fJ)) (ao (fj (AV (ai at3) fJ) (ao (wK 1 (ai at2)) aO) (ao (A0 1 (ai at3) (zv aq)) aO)) aO))) (rW 1 (ao (bg (ai at1)) aO)))))
theorem pY : FnScope ["_law_kept", "_law_kinds"] ["_law_kept"] (aL (top 56)) := ⟨rfl, rfl, rfl, by decide +kernel, rfl, by decide +kernel, by decide +kernel⟩
theorem qd {f : Addr} {fd : FuncData} {af ae : Addr} {ah al : Addr} {ar aA az : Addr} {rs : List Addr} (b_ValueError : mg "ValueError" = none) (b_isinstance : mg "isinstance" = none) (Er : Errs K mg rs [("NoScreen", af), ("NoOrder", ae), ("NoRoom", ah), ("NoNumber", al), ("NoTable", ar), ("NoTask", aA), ("NoText", az)]) (F : Fun K "_law_word" "_law_word" (top 56) f fd) : FnF P w K mg base 1 f fd ["_law_kept"] (fun ds => aK (cY ah ae al ar af az aA rs (aN 2 ds))) := by
  have hN : (["_law_kept", "_law_kinds"] : List Str).Nodup := by decide
  refine F.okF pY (k := 0) (g := cY ah ae al ar af az aA rs) fun cdv A outer s H E hr => ?_
  have hu := hr.units
  have hh := hr.hd
  exact (ao (vj 1 hN (eP (aa (gF (T := al) Er (.tail _ (.tail _ (.tail _ (.head _)))) b_isinstance (ai at0)) (aa (gF (T := ae) Er (.tail _ (.head _)) b_isinstance (ai at0)) (aa (gF (T := ah) Er (.tail _ (.tail _ (.head _))) b_isinstance (ai at0)) aj))))) (ao (jn 1 (dz (eP (aa (gF (T := af) Er (.head _) b_isinstance (ai at0)) (aa (gF (T := ar) Er (.tail _ (.tail _ (.tail _ (.tail _ (.head _))))) b_isinstance (ai at0)) aj))))) (ao (jn 1 (dz (eP (aa (gF (T := aA) Er (.tail _ (.tail _ (.tail _ (.tail _ (.tail _ (.head _)))))) b_isinstance (ai at0)) (aa (gF (T := az) Er (.tail _ (.tail _ (.tail _ (.tail _ (.tail _ (.tail _ (.head _))))))) b_isinstance (ai at0)) aj))))) (rW 1 (ao (fj (fP (cZ (dL hu (AF (ai at1) (aa fu aj)) aq) (cK (cS (cI (BT Er b_isinstance b_ValueError (ai at0))))))) (ao (bg (aW (l := [119, 114, 111, 110, 103]) rfl (by decide))) aO) aO) (ao (bg (aY (dz (eP (aa (aW (l := [110, 111, 32, 110, 117, 109, 98, 101, 114]) rfl (by decide)) (aa (aW (l := [110, 111, 32, 111, 114, 100, 101, 114]) rfl (by decide)) (aa (aW (l := [110, 111, 32, 114, 111, 111, 109]) rfl (by decide)) (aa (aW (l := [110, 111, 32, 115, 99, 114, 101, 101, 110]) rfl (by decide)) (aa (aW (l := [110, 111, 32, 116, 97, 98, 108, 101]) rfl (by decide)) (aa (aW (l := [110, 111, 32, 116, 97, 115, 107]) rfl (by decide)) (aa (aW (l := [110, 111, 32, 116, 101, 120, 116]) rfl (by decide)) aj))))))))) (Am (ai at1) (aa fu aj)))) aO))))))
theorem tH : FnScope ["_law_what", "_law_one", "_law_orders", "_law_kept", "_law_answer", "e"] ["_law_what", "_law_one", "_law_orders"] (aL (top 57)) := ⟨rfl, rfl, rfl, by decide +kernel, rfl, by decide +kernel, by decide +kernel⟩
theorem td {f : Addr} {fd : FuncData} {ay aV : List D -> R D} {av bj : List D -> R D} {af ae : Addr} {ah al : Addr} {ar aA az : Addr} {rs : List Addr} (c_all_done : Callee P w K mg base "all_done" 7 2 ay) (c_cost : Callee P w K mg base "cost" 7 1 aV) (c_shortened : Callee P w K mg base "shortened" 7 1 av) (c__law_word : Callee P w K mg base "_law_word" 7 1 bj) (Er : Errs K mg rs [("NoScreen", af), ("NoOrder", ae), ("NoRoom", ah), ("NoNumber", al), ("NoTable", ar), ("NoTask", aA), ("NoText", az)]) (F : Fun K "_law_do" "_law_do" (top 57) f fd) : FnF P w K mg base 8 f fd ["_law_what", "_law_one", "_law_orders"] (fun ds => aK (iB ay aV av bj rs (aN 6 ds))) := by
  have hN : (["_law_what", "_law_one", "_law_orders", "_law_kept", "_law_answer", "e"] : List Str).Nodup := by decide
  refine F.okF tH (k := 7) (g := iB ay aV av bj rs) fun cdv A outer s H E hr => ?_
  have hu := hr.units
  have hh := hr.hd
  exact (ao (bM at3 hN fJ) (ao (bM at4 hN fJ) (ao (C4 5 Er hN rfl rfl rfl rfl (fun pn xe => (ao (Bo at4 hN (jb (jk hu (oG at0) aq) (aQ c_all_done hr (aa (oG at1) (aa (oG at2) aj))) (B5 c_cost c_shortened hr (iM (oG at0) aq) (aa (oG at2) aj)))) aO)) (fun a xe => (ao (A3 at3 hN (Bf at5)) aO))) (ao (fj (AV (ai at3) fJ) (ao (bg (ai at4)) aO) aO) (ao (bg (aQ c__law_word hr (aa (ai at3) aj))) aO)))))
theorem pI : FnScope ["_law_orders", "_law_total", "_law_order"] ["_law_orders"] (aL (top 47)) := ⟨rfl, rfl, rfl, by decide +kernel, rfl, by decide +kernel, by decide +kernel⟩
theorem pr {f : Addr} {fd : FuncData} (ft : mg "int" = none) (b_len : mg "len" = none) (F : Fun K "_law_cost" "_law_cost" (top 47) f fd) : FnF P w K mg base 1 f fd ["_law_orders"] (fun ds => aK (fR (aN 3 ds))) := by
  have hN : (["_law_orders", "_law_total", "_law_order"] : List Str).Nodup := by decide
  refine F.okF pI (k := 0) (g := fR) fun cdv A outer s H E hr => ?_
  have hu := hr.units
  have hh := hr.hd
  exact (ao (bM at1 hN aq) (ao (mf PassesOwn.leaving rfl (ff (ai at0)) (cq 2 hN) (ao (bM at1 hN (ba (ai at1) (jb (jk hu (aY (ai at2) aq) (aW (l := [115, 97, 121]) rfl (by decide))) (cQ rfl b_len (aa (aY (ai at2) aq) aj)) (ba aq (zQ rfl ft (aa (pi hu (aY (ai at2) aq) (aW (l := [103, 111]) rfl (by decide))) aj)))))) aO)) (ao (bg (ai at1)) aO)))
theorem zc : FnScope ["screen", "order"] ["screen", "order"] (aL (top 34)) := ⟨rfl, rfl, rfl, by decide +kernel, rfl, by decide +kernel, by decide +kernel⟩
theorem zB {f : Addr} {fd : FuncData} {aE aP aG : List D -> R D} (c_check_screen : Callee P w K mg base "check_screen" 5 1 aE) (c_check_order : Callee P w K mg base "check_order" 5 1 aP) (c_after_order : Callee P w K mg base "after_order" 5 2 aG) (F : Fun K "done" "done" (top 34) f fd) : FnF P w K mg base 6 f fd ["screen", "order"] (fun ds => aK (jo aE aP aG (aN 2 ds))) := by
  have hN : (["screen", "order"] : List Str).Nodup := by decide
  refine F.okF zc (k := 5) (g := jo aE aP aG) fun cdv A outer s H E hr => ?_
  have hu := hr.units
  have hh := hr.hd
  exact (ao (kP (aQ c_check_screen hr (aa (ai at0) aj))) (ao (kP (aQ c_check_order hr (aa (ai at1) aj))) (ao (bg (aQ c_after_order hr (aa (ai at0) (aa (ai at1) aj)))) aO)))
theorem hX : FnScope ["_law_thing", "_law_made", "_law_k"] ["_law_thing"] (aL (top 49)) := ⟨rfl, rfl, rfl, by decide +kernel, rfl, by decide +kernel, by decide +kernel⟩
theorem mU {k : Nat} {f : Addr} {fd : FuncData} {aB : List D -> R D} (b_isinstance : mg "isinstance" = none) (b_len : mg "len" = none) (b_range : mg "range" = none) (b_tuple : mg "tuple" = none) (c__law_places : Callee P w K mg base "_law_places" k 1 aB) (F : Fun K "_law_places" "_law_places" (top 49) f fd) : FnF P w K mg base (k + 1) f fd ["_law_thing"] (fun ds => aK (cV aB (aN 3 ds))) := by
  have hN : (["_law_thing", "_law_made", "_law_k"] : List Str).Nodup := by decide
  refine F.okF hX (k := k) (g := cV aB) fun cdv A outer s H E hr => ?_
  have hu := hr.units
  have hh := hr.hd
  exact (ao (vj 1 hN (eP (aa (cf aj) aj))) (ao (fj (cI (cJ b_isinstance (ai at0) b_tuple)) (ao (mf PassesOwn.leaving rfl (fX rfl b_range (aa (cQ rfl b_len (aa (ai at0) aj)) aj)) (cq 2 hN) (ao (jn 1 (jY (eT (N' := ["_law_place", "_law_k"]) (ix := [2]) eR rfl (ff (aQ c__law_places hr (aa (aY (ai at0) (ai at2)) aj))) (fun C s₂ H₂ fp => (ba (cf (aa (bW at1) aj)) (bW at0))) (fun C s₂ H₂ fp => gE)))) aO)) aO) aO) (rW 1 (ao (bg (ai at1)) aO))))
theorem gw {f : Addr} {fd : FuncData} (b_isinstance : mg "isinstance" = none) (b_len : mg "len" = none) (b_range : mg "range" = none) (b_tuple : mg "tuple" = none) (F : Fun K "_law_places" "_law_places" (top 49) f fd) (m : mg "_law_places" = some (.ref f)) : ∀ n : Nat, Callee P w K mg base "_law_places" (n + 1) 1 (bL n)
  | 0 => F.callee m ((F.noF hX).to fun ds hl => .inl (ur ds hl)) fun _ _ _ _ _ _ us hl => by obtain ⟨a, rfl⟩ := mn hl; rfl
  | n + 1 => F.callee m ((mU b_isinstance b_len b_range b_tuple (gw b_isinstance b_len b_range b_tuple F m n) F).to (mV n)) fun _ _ _ _ _ _ us hl => by obtain ⟨a, rfl⟩ := mn hl; rfl
theorem lP : FnScope ["_law_thing", "_law_place", "_law_new", "_law_k"] ["_law_thing", "_law_place", "_law_new"] (aL (top 50)) := ⟨rfl, rfl, rfl, by decide +kernel, rfl, by decide +kernel, by decide +kernel⟩
theorem rS {k : Nat} {f : Addr} {fd : FuncData} {aF : List D -> R D} (c__law_put : Callee P w K mg base "_law_put" k 3 aF) (F : Fun K "_law_put" "_law_put" (top 50) f fd) : FnF P w K mg base (k + 1) f fd ["_law_thing", "_law_place", "_law_new"] (fun ds => aK (eW aF (aN 4 ds))) := by
  have hN : (["_law_thing", "_law_place", "_law_new", "_law_k"] : List Str).Nodup := by decide
  refine F.okF lP (k := k) (g := eW aF) fun cdv A outer s H E hr => ?_
  have hu := hr.units
  have hh := hr.hd
  exact (ao (fj (jk hu (ai at1) (cf aj)) (ao (bg (ai at2)) aO) aO) (ao (bM at3 hN (aY (ai at1) aq)) (ao (bg (ba (ba (bt (ai at0) br (cm (ai at3))) (cf (aa (aQ c__law_put hr (aa (aY (ai at0) (ai at3)) (aa (bt (ai at1) (cm aq) br) (aa (ai at2) aj)))) aj))) (bt (ai at0) (cm (ba (ai at3) aq)) br))) aO)))
theorem kj {f : Addr} {fd : FuncData} (F : Fun K "_law_put" "_law_put" (top 50) f fd) (m : mg "_law_put" = some (.ref f)) : ∀ n : Nat, Callee P w K mg base "_law_put" (n + 1) 3 (jM n)
  | 0 => F.callee m ((F.noF lP).to fun ds hl => .inl (Be ds hl)) fun _ _ _ _ _ _ us hl => by obtain ⟨a, b, c, rfl⟩ := tW hl; rfl
  | n + 1 => F.callee m ((rS (kj F m n) F).to (rT n)) fun _ _ _ _ _ _ us hl => by obtain ⟨a, b, c, rfl⟩ := tW hl; rfl
theorem gG : FnScope ["_law_script", "_law_at", "_law_thing", "_law_places_here", "_law_place", "_law_here", "_law_k", "_law_some", "_law_way", "_law_spot", "_law_sign"] ["_law_script", "_law_at", "_law_thing"] (aL (top 51)) := ⟨rfl, rfl, rfl, by decide +kernel, rfl, by decide +kernel, by decide +kernel⟩
theorem gB {f : Addr} {fd : FuncData} {aB ag aF : List D -> R D} (ft : mg "int" = none) (b_isinstance : mg "isinstance" = none) (b_len : mg "len" = none) (b_str : mg "str" = none) (b_tuple : mg "tuple" = none) (c__law_places : Callee P w K mg base "_law_places" 5 1 aB) (c__law_pick : Callee P w K mg base "_law_pick" 5 3 ag) (c__law_put : Callee P w K mg base "_law_put" 5 3 aF) (F : Fun K "_law_spoilt_thing" "_law_spoilt_thing" (top 51) f fd) : FnF P w K mg base 6 f fd ["_law_script", "_law_at", "_law_thing"] (fun ds => aK (bN aB ag aF (aN 11 ds))) := by
  have hN : (["_law_script", "_law_at", "_law_thing", "_law_places_here", "_law_place", "_law_here", "_law_k", "_law_some", "_law_way", "_law_spot", "_law_sign"] : List Str).Nodup := by decide
  refine F.okF gG (k := 5) (g := bN aB ag aF) fun cdv A outer s H E hr => ?_
  have hu := hr.units
  have hh := hr.hd
  exact (ao (bM at3 hN (aQ c__law_places hr (aa (ai at2) aj))) (ao (bM at4 hN (aY (ai at3) (aQ c__law_pick hr (aa (ai at0) (aa (ai at1) (aa (cQ rfl b_len (aa (ai at3) aj)) aj)))))) (ao (bM at5 hN (ai at2)) (ao (mf PassesOwn.leaving rfl (ff (ai at4)) (cq 6 hN) (ao (bM at5 hN (aY (ai at5) (ai at6))) aO)) (ao (bM at7 hN (dz (eP (aa aq (aa aq (aa aq (aa aq (aa aq (aa aq (aa aq (aa (zv aq) (aa fu (aa fJ (aa (aW (l := [97]) rfl (by decide)) (aa (aW (l := []) rfl (by decide)) (aa (cf (aa (aW (l := [103, 111]) rfl (by decide)) (aa aq (aa aq aj)))) (aa (cf (aa aq (aa aq aj))) (aa (dz (eP (aa aq aj))) (aa (cf (aa (ai at5) aj)) (aa (cf (aa (ai at5) (aa (ai at5) aj))) aj)))))))))))))))))))) (ao (bM at8 hN (aQ c__law_pick hr (aa (ai at0) (aa (ba (ai at1) aq) (aa aq aj))))) (ao (fj (zD (ai at8) aq) (ao (bg (aQ c__law_put hr (aa (ai at2) (aa (ai at4) (aa (aY (ai at7) (ai at8)) aj))))) aO) aO) (ao (fj (fP (mm (cI (cJ b_isinstance (ai at5) b_tuple)) (mG (dL hu (ai at5) (cf aj))))) (ao (bM at6 hN (aQ c__law_pick hr (aa (ai at0) (aa (ba (ai at1) aq) (aa (cQ rfl b_len (aa (ai at5) aj)) aj))))) (ao (bg (aQ c__law_put hr (aa (ai at2) (aa (ai at4) (aa (jb (zD (ai at8) aq) (ba (bt (ai at5) br (cm (ai at6))) (bt (ai at5) (cm (ba (ai at6) aq)) br)) (ba (bt (ai at5) br (cm (ba (ai at6) aq))) (bt (ai at5) (cm (ai at6)) br))) aj))))) aO)) aO) (ao (fj (cI (oX b_isinstance (ai at5) b_str)) (ao (bM at9 hN (aQ c__law_pick hr (aa (ai at0) (aa (ba (ai at1) aq) (aa (ba (cQ rfl b_len (aa (ai at5) aj)) aq) aj))))) (ao (bM Cu hN (aY (dz (eP (aa (aW (l := [10]) rfl (by decide)) (aa (aW (l := []) rfl (by decide)) (aa (aW (l := [97]) rfl (by decide)) (aa (aW (l := [9]) rfl (by decide)) aj)))))) (jb (si (ai at8) aq) (iM (ai at8) aq) aq))) (ao (bg (aQ c__law_put hr (aa (ai at2) (aa (ai at4) (aa (ba (ba (bt (ai at5) br (cm (ai at9))) (ai Cu)) (bt (ai at5) (cm (ba (ai at9) aq)) br)) aj))))) aO))) aO) (ao (bg (aQ c__law_put hr (aa (ai at2) (aa (ai at4) (aa (jb (cI (pG b_isinstance (ai at5) ft)) (ba (ai at5) aq) aq) aj))))) aO))))))))))
theorem nI : FnScope ["_law_thing", "_law_low", "_law_high"] ["_law_thing", "_law_low", "_law_high"] (aL (top 52)) := ⟨rfl, rfl, rfl, by decide +kernel, rfl, by decide +kernel, by decide +kernel⟩
theorem nQ {f : Addr} {fd : FuncData} (b_bool : mg "bool" = none) (ft : mg "int" = none) (b_isinstance : mg "isinstance" = none) (F : Fun K "_law_whole" "_law_whole" (top 52) f fd) : FnF P w K mg base 1 f fd ["_law_thing", "_law_low", "_law_high"] (fun ds => aK (dk (aN 3 ds))) := by
  have hN : (["_law_thing", "_law_low", "_law_high"] : List Str).Nodup := by decide
  refine F.okF nI (k := 0) (g := dk) fun cdv A outer s H E hr => ?_
  have hu := hr.units
  have hh := hr.hd
  exact (ao (bg (dQ (pG b_isinstance (ai at0) ft) (dQ (yr (qE b_isinstance (ai at0) b_bool)) (eK (mE (ai at1) (ai at0) (ai at2)))))) aO)
theorem kM : FnScope ["_law_thing"] ["_law_thing"] (aL (top 53)) := ⟨rfl, rfl, rfl, by decide +kernel, rfl, by decide +kernel, by decide +kernel⟩
theorem kJ {f : Addr} {fd : FuncData} (b_isinstance : mg "isinstance" = none) (b_ord : mg "ord" = none) (b_str : mg "str" = none) (F : Fun K "_law_is_plain" "_law_is_plain" (top 53) f fd) : FnF P w K mg base 1 f fd ["_law_thing"] (fun ds => aK (cn (aN 1 ds))) := by
  have hN : (["_law_thing"] : List Str).Nodup := by decide
  refine F.okF kM (k := 0) (g := cn) fun cdv A outer s H E hr => ?_
  have hu := hr.units
  have hh := hr.hd
  exact (ao (bg (dQ (oX b_isinstance (ai at0) b_str) (eK (pi hu (jY (eT (N' := ["_law_sign"]) (ix := []) eR rfl (ff (ai at0)) (fun C s₂ H₂ fp => (bW at0)) (fun C s₂ H₂ fp => (vb (cS (pA aq (DZ rfl b_ord (aa (bW at0) aj)) aq)))))) (dz (eP aj)))))) aO)
theorem je : FnScope ["_law_thing", "_law_width", "_law_rows", "_law_place"] ["_law_thing"] (aL (top 54)) := ⟨rfl, rfl, rfl, by decide +kernel, rfl, by decide +kernel, by decide +kernel⟩
theorem jh {f : Addr} {fd : FuncData} {aX aS : List D -> R D} (b_isinstance : mg "isinstance" = none) (b_len : mg "len" = none) (b_tuple : mg "tuple" = none) (c__law_whole : Callee P w K mg base "_law_whole" 1 3 aX) (c__law_is_plain : Callee P w K mg base "_law_is_plain" 1 1 aS) (F : Fun K "_law_is_screen" "_law_is_screen" (top 54) f fd) : FnF P w K mg base 2 f fd ["_law_thing"] (fun ds => aK (bX aX aS (aN 4 ds))) := by
  have hN : (["_law_thing", "_law_width", "_law_rows", "_law_place"] : List Str).Nodup := by decide
  refine F.okF je (k := 1) (g := bX aX aS) fun cdv A outer s H E hr => ?_
  have hu := hr.units
  have hh := hr.hd
  exact (ao (fj (fP (cZ (cS (cI (cJ b_isinstance (ai at0) b_tuple))) (cZ (dL hu (cQ rfl b_len (aa (ai at0) aj)) aq) (cK (cS (cI (aQ c__law_whole hr (aa (aY (ai at0) aq) (aa aq (aa aq aj)))))))))) (ao (bg fu) aO) aO) (ao (xU (ai at0) rfl (eI 1 hN (eI 2 hN (eI 3 hN qS)))) (ao (fj (fP (cZ (cS (cI (cJ b_isinstance (ai at2) b_tuple))) (cK (cS (pA aq (cQ rfl b_len (aa (ai at2) aj)) aq))))) (ao (bg fu) aO) aO) (ao (fj (dL hu (jY (eT (N' := ["_law_row_here", "_law_width"]) (ix := [1]) eR rfl (ff (ai at2)) (fun C s₂ H₂ fp => (bW at0)) (fun C s₂ H₂ fp => (vb (fP (cZ (cS (cI (aQ c__law_is_plain hr (aa (bW at0) aj)))) (cK (dL hu (cQ rfl b_len (aa (bW at0) aj)) (bW at1))))))))) (dz (eP aj))) (ao (bg fu) aO) aO) (ao (fj (fP (cZ (cS (cI (cJ b_isinstance (ai at3) b_tuple))) (cK (dL hu (cQ rfl b_len (aa (ai at3) aj)) aq)))) (ao (bg fu) aO) aO) (ao (bg (dQ (aQ c__law_whole hr (aa (aY (ai at3) aq) (aa aq (aa (iM (cQ rfl b_len (aa (ai at2) aj)) aq) aj)))) (eK (aQ c__law_whole hr (aa (aY (ai at3) aq) (aa aq (aa (ai at1) aj))))))) aO))))))
theorem Br : FnScope ["_law_script", "_law_width", "_law_many", "_law_screen_here", "_law_orders", "_law_k", "_law_some", "_law_here", "_law_order", "_law_made", "_law_pairs", "_law_bad", "_law_told", "_law_off"] ["_law_script"] (aL (top 58)) := ⟨rfl, rfl, rfl, by decide +kernel, rfl, by decide +kernel, by decide +kernel⟩
theorem A1 {f : Addr} {fd : FuncData} {ag ax : List D -> R D} {aD aH : List D -> R D} {aC aV : List D -> R D} {av ay : List D -> R D} {bh ak am : List D -> R D} (b_len : mg "len" = none) (b_range : mg "range" = none) (c__law_pick : Callee P w K mg base "_law_pick" 8 3 ag) (c__law_screen : Callee P w K mg base "_law_screen" 8 4 ax) (c__law_step : Callee P w K mg base "_law_step" 8 2 aD) (c__law_do : Callee P w K mg base "_law_do" 8 3 aH) (c__law_cost : Callee P w K mg base "_law_cost" 8 1 aC) (c_cost : Callee P w K mg base "cost" 8 1 aV) (c_shortened : Callee P w K mg base "shortened" 8 1 av) (c_all_done : Callee P w K mg base "all_done" 8 2 ay) (c_done : Callee P w K mg base "done" 8 2 bh) (c__law_spoilt_thing : Callee P w K mg base "_law_spoilt_thing" 8 3 ak) (c__law_is_screen : Callee P w K mg base "_law_is_screen" 8 1 am) (F : Fun K "law" "law" (top 58) f fd) : FnF P w K mg base 9 f fd ["_law_script"] (fun ds => aK (oT ag ax aD aH aC aV av ay bh ak am (aN 14 ds))) := by
  have hN : (["_law_script", "_law_width", "_law_many", "_law_screen_here", "_law_orders", "_law_k", "_law_some", "_law_here", "_law_order", "_law_made", "_law_pairs", "_law_bad", "_law_told", "_law_off"] : List Str).Nodup := by decide
  refine F.okF Br (k := 8) (g := oT ag ax aD aH aC aV av ay bh ak am) fun cdv A outer s H E hr => ?_
  have hu := hr.units
  have hh := hr.hd
  exact (ao (Dj 1 2 rfl hN (aa (ba aq (aQ c__law_pick hr (aa (ai at0) (aa aq (aa aq aj))))) (aa (ba aq (aQ c__law_pick hr (aa (ai at0) (aa aq (aa aq aj))))) aj))) (ao (bM at3 hN (aQ c__law_screen hr (aa (ai at0) (aa aq (aa (ai at1) (aa (ai at2) aj)))))) (ao (vj 4 hN (eP aj)) (ao (mf PassesOwn.leaving rfl (fX rfl b_range (aa (aQ c__law_pick hr (aa (ai at0) (aa aq (aa aq aj)))) aj)) (cq 5 hN) (ao (vj 6 hN (eP (aa (cf (aa (aW (l := [115, 97, 121]) rfl (by decide)) (aa (bt (aW (l := [97, 98, 35]) rfl (by decide)) br (cm (ba aq (aQ c__law_pick hr (aa (ai at0) (aa (ba aq (ai at5)) (aa aq aj))))))) aj))) (aa (cf (aa (aW (l := [119, 105, 112, 101]) rfl (by decide)) aj)) (aa (cf (aa (aW (l := [119, 105, 112, 101]) rfl (by decide)) aj)) aj))))) (ao (jn 6 (gT (dz (eP (aa (cf (aa (aW (l := [103, 111]) rfl (by decide)) (aa (aQ c__law_pick hr (aa (ai at0) (aa (ba aq (ai at5)) (aa (ai at2) aj)))) (aa (aQ c__law_pick hr (aa (ai at0) (aa (ba aq (ai at5)) (aa (ba (ai at1) aq) aj)))) aj)))) aj))) aq)) (ao (ut 6 4 (aY (ai at6) (aQ c__law_pick hr (aa (ai at0) (aa (ba aq (ai at5)) (aa aq aj)))))) aO)))) (ao (bM at7 hN (ai at3)) (rW 4 (ao (mf PassesOwn.leaving rfl (ff (ai at4)) (cq 8 hN) (ao (bM at7 hN (jb (dL hu (ai at7) (aW (l := [110, 111, 32, 114, 111, 111, 109]) rfl (by decide))) (aQ c__law_step hr (aa (ai at7) (aa (ai at8) aj))) (ai at7))) aO)) (ao (fj (fP (cZ (dL hu (aQ c__law_do hr (aa aq (aa (ai at3) (aa (ai at4) aj)))) (ai at7)) (cK (dL hu (aQ c__law_do hr (aa aq (aa fJ (aa (ai at4) aj)))) (aQ c__law_cost hr (aa (ai at4) aj)))))) (ao (bg fu) aO) aO) (ao (bM at9 hN (aQ c__law_do hr (aa aq (aa fJ (aa (ai at4) aj))))) (ao (fj (fP (cZ (si (aQ c_cost hr (aa (ai at9) aj)) (aQ c_cost hr (aa (ai at4) aj))) (cZ (dL hu (aQ c_shortened hr (aa (ai at9) aj)) (ai at9)) (cK (fP (mm (dL hu (ai at7) (aW (l := [110, 111, 32, 114, 111, 111, 109]) rfl (by decide))) (mG (dL hu (aQ c_all_done hr (aa (ai at3) (aa (ai at9) aj))) (ai at7))))))))) (ao (bg fu) aO) aO) (ao (tP 10 hN (N' := ["_law_k", "_law_made"]) (ix := [9]) eR rfl (fX rfl b_range (aa (iM (cQ rfl b_len (aa (ai at9) aj)) aq) aj)) (fun C s₂ H₂ fp => (cf (aa (aY (aY (bW at1) (bW at0)) aq) (aa (aY (aY (bW at1) (ba (bW at0) aq)) aq) aj)))) (fun C s₂ H₂ fp => gE)) (rW 10 (ao (fj (fP (cZ (zi hu (cf (aa (aW (l := [103, 111]) rfl (by decide)) (aa (aW (l := [103, 111]) rfl (by decide)) aj))) (ai Cu)) (cZ (zi hu (cf (aa (aW (l := [119, 105, 112, 101]) rfl (by decide)) (aa (aW (l := [119, 105, 112, 101]) rfl (by decide)) aj))) (ai Cu)) (cK (zi hu (cf (aa (aW (l := [115, 97, 121]) rfl (by decide)) (aa (aW (l := [115, 97, 121]) rfl (by decide)) aj))) (ai Cu)))))) (ao (bg fu) aO) aO) (ao (fj (fP (mm (dL hu (ai at4) (dz (eP aj))) (mm (dL hu (ai at7) (aW (l := [110, 111, 32, 114, 111, 111, 109]) rfl (by decide))) (mG (dL hu (aQ c_all_done hr (aa (aQ c_done hr (aa (ai at3) (aa (aY (ai at4) aq) aj))) (aa (bt (ai at4) (cm aq) br) aj))) (ai at7)))))) (ao (bg fu) aO) aO) (ao (bM Em hN (ba (ai at4) (dz (eP (aa (cf (aa (aW (l := [103, 111]) rfl (by decide)) (aa aq (aa aq aj)))) aj))))) (ao (tP 12 hN (N' := ["_law_what", "_law_screen_here", "_law_bad"]) (ix := [3, 11]) eR rfl (fX rfl b_range (aa aq aj)) (fun C s₂ H₂ fp => (aQ c__law_do hr (aa (bW at0) (aa (bW at1) (aa (bW at2) aj))))) (fun C s₂ H₂ fp => gE)) (rW 12 (ao (fj (dL hu (ba (ai Fm) (dz (eP (aa (aQ c__law_do hr (aa aq (aa (ai at3) (aa (dz (eP (aa (cf (aa (aW (l := [103, 111]) rfl (by decide)) (aa aq (aa aq aj)))) (aa fJ aj)))) aj)))) aj)))) (gT (dz (eP (aa (aW (l := [110, 111, 32, 111, 114, 100, 101, 114]) rfl (by decide)) aj))) aq)) (ao (bg fu) aO) aO) (ao (bM D6 hN (aQ c__law_spoilt_thing hr (aa (ai at0) (aa aq (aa (ai at3) aj))))) (ao (bg (yK (aQ c__law_is_screen hr (aa (ai D6) aj)) (eK (pi hu (aQ c__law_do hr (aa aq (aa (ai D6) (aa (ai Em) aj)))) (aW (l := [110, 111, 32, 115, 99, 114, 101, 101, 110]) rfl (by decide)))))) aO))))))))))))))))))))
theorem law_fn {f41 f42 f43 f44 f46 f10 f11 f12 f16 f17 f18 f19 f24 f25 f26 f27 f28 f29 f30 f31 f32 f33 f35 f36 f37 f38 f39 f56 f57 f47 f34 f49 f50 f51 f52 f53 f54 f58 : Addr} {d41 d42 d43 d44 d46 d10 d11 d12 d16 d17 d18 d19 d24 d25 d26 d27 d28 d29 d30 d31 d32 d33 d35 d36 d37 d38 d39 d56 d57 d47 d34 d49 d50 d51 d52 d53 d54 d58 : FuncData} (b_ValueError : mg "ValueError" = none) (b_all : mg "all" = none) (b_bool : mg "bool" = none) (ft : mg "int" = none) (b_isinstance : mg "isinstance" = none) (b_len : mg "len" = none) (b_list : mg "list" = none) (b_ord : mg "ord" = none) (b_range : mg "range" = none) (b_str : mg "str" = none) (b_sum : mg "sum" = none) (b_tuple : mg "tuple" = none) {t_GO_COST : Tok} (g_GO_COST : mg "GO_COST" = some (.int 2 t_GO_COST)) {t_MOST_ROWS : Tok} (g_MOST_ROWS : mg "MOST_ROWS" = some (.int 12 t_MOST_ROWS)) {t_MOST_SAID : Tok} (g_MOST_SAID : mg "MOST_SAID" = some (.int 40 t_MOST_SAID)) {t_MOST_WIDTH : Tok} (g_MOST_WIDTH : mg "MOST_WIDTH" = some (.int 40 t_MOST_WIDTH)) {t_WIPE_COST : Tok} (g_WIPE_COST : mg "WIPE_COST" = some (.int 1 t_WIPE_COST)) {ae : Addr} (r_NoOrder : Ref "NoOrder" ae mg base) {ah : Addr} (r_NoRoom : Ref "NoRoom" ah mg base) {af : Addr} (r_NoScreen : Ref "NoScreen" af mg base) {al ar : Addr} {aA az : Addr} (nd : [af, ae, ah, al, ar, aA, az].Nodup) (Er : Errs K mg [ae, ah, af] [("NoScreen", af), ("NoOrder", ae), ("NoRoom", ah), ("NoNumber", al), ("NoTable", ar), ("NoTask", aA), ("NoText", az)])
    (F41 : Fun K "_law_cell" "_law_cell" (top 41) f41 d41 /\ mg "_law_cell" = some (.ref f41))
    (F42 : Fun K "_law_pick" "_law_pick" (top 42) f42 d42 /\ mg "_law_pick" = some (.ref f42))
    (F43 : Fun K "_law_row" "_law_row" (top 43) f43 d43 /\ mg "_law_row" = some (.ref f43))
    (F44 : Fun K "_law_screen" "_law_screen" (top 44) f44 d44 /\ mg "_law_screen" = some (.ref f44))
    (F46 : Fun K "_law_step" "_law_step" (top 46) f46 d46 /\ mg "_law_step" = some (.ref f46))
    (F10 : Fun K "is_whole" "is_whole" (top 10) f10 d10 /\ mg "is_whole" = some (.ref f10))
    (F11 : Fun K "is_within" "is_within" (top 11) f11 d11 /\ mg "is_within" = some (.ref f11))
    (F12 : Fun K "is_plain" "is_plain" (top 12) f12 d12 /\ mg "is_plain" = some (.ref f12))
    (F16 : Fun K "are_full_rows" "are_full_rows" (top 16) f16 d16 /\ mg "are_full_rows" = some (.ref f16))
    (F17 : Fun K "is_place" "is_place" (top 17) f17 d17 /\ mg "is_place" = some (.ref f17))
    (F18 : Fun K "is_screen" "is_screen" (top 18) f18 d18 /\ mg "is_screen" = some (.ref f18))
    (F19 : Fun K "check_screen" "check_screen" (top 19) f19 d19 /\ mg "check_screen" = some (.ref f19))
    (F24 : Fun K "is_say" "is_say" (top 24) f24 d24 /\ mg "is_say" = some (.ref f24))
    (F25 : Fun K "is_go" "is_go" (top 25) f25 d25 /\ mg "is_go" = some (.ref f25))
    (F26 : Fun K "is_order" "is_order" (top 26) f26 d26 /\ mg "is_order" = some (.ref f26))
    (F27 : Fun K "check_order" "check_order" (top 27) f27 d27 /\ mg "check_order" = some (.ref f27))
    (F28 : Fun K "check_orders" "check_orders" (top 28) f28 d28 /\ mg "check_orders" = some (.ref f28))
    (F29 : Fun K "with_row_at_place" "with_row_at_place" (top 29) f29 d29 /\ mg "with_row_at_place" = some (.ref f29))
    (F30 : Fun K "after_say" "after_say" (top 30) f30 d30 /\ mg "after_say" = some (.ref f30))
    (F31 : Fun K "after_go" "after_go" (top 31) f31 d31 /\ mg "after_go" = some (.ref f31))
    (F32 : Fun K "after_wipe" "after_wipe" (top 32) f32 d32 /\ mg "after_wipe" = some (.ref f32))
    (F33 : Fun K "after_order" "after_order" (top 33) f33 d33 /\ mg "after_order" = some (.ref f33))
    (F35 : Fun K "all_done" "all_done" (top 35) f35 d35 /\ mg "all_done" = some (.ref f35))
    (F36 : Fun K "order_cost" "order_cost" (top 36) f36 d36 /\ mg "order_cost" = some (.ref f36))
    (F37 : Fun K "cost" "cost" (top 37) f37 d37 /\ mg "cost" = some (.ref f37))
    (F38 : Fun K "joined_or_none" "joined_or_none" (top 38) f38 d38 /\ mg "joined_or_none" = some (.ref f38))
    (F39 : Fun K "shortened" "shortened" (top 39) f39 d39 /\ mg "shortened" = some (.ref f39))
    (F56 : Fun K "_law_word" "_law_word" (top 56) f56 d56 /\ mg "_law_word" = some (.ref f56))
    (F57 : Fun K "_law_do" "_law_do" (top 57) f57 d57 /\ mg "_law_do" = some (.ref f57))
    (F47 : Fun K "_law_cost" "_law_cost" (top 47) f47 d47 /\ mg "_law_cost" = some (.ref f47))
    (F34 : Fun K "done" "done" (top 34) f34 d34 /\ mg "done" = some (.ref f34))
    (F49 : Fun K "_law_places" "_law_places" (top 49) f49 d49 /\ mg "_law_places" = some (.ref f49))
    (F50 : Fun K "_law_put" "_law_put" (top 50) f50 d50 /\ mg "_law_put" = some (.ref f50))
    (F51 : Fun K "_law_spoilt_thing" "_law_spoilt_thing" (top 51) f51 d51 /\ mg "_law_spoilt_thing" = some (.ref f51))
    (F52 : Fun K "_law_whole" "_law_whole" (top 52) f52 d52 /\ mg "_law_whole" = some (.ref f52))
    (F53 : Fun K "_law_is_plain" "_law_is_plain" (top 53) f53 d53 /\ mg "_law_is_plain" = some (.ref f53))
    (F54 : Fun K "_law_is_screen" "_law_is_screen" (top 54) f54 d54 /\ mg "_law_is_screen" = some (.ref f54))
    (F58 : Fun K "law" "law" (top 58) f58 d58 /\ mg "law" = some (.ref f58)) :
    FnF P w K mg base 9 f58 d58 ["_law_script"] vO := by
  have k41 := F41.1.callee F41.2 ((pL (P := P) (w := w) (base := base) b_len F41.1).to ql) fun _ _ _ _ _ _ us hl => by obtain ⟨a, b, rfl⟩ := xY hl; rfl
  have k42 := F42.1.callee F42.2 ((oY k41 F42.1).to pz) fun _ _ _ _ _ _ us hl => by obtain ⟨a, b, c, rfl⟩ := tW hl; rfl
  have k43 := F43.1.callee F43.2 ((sP b_range k42 F43.1).to su) fun _ _ _ _ _ _ us hl => by obtain ⟨a, b, c, rfl⟩ := tW hl; rfl
  have k44 := F44.1.callee F44.2 ((mM b_range b_tuple k43 (k42.mono 3) F44.1).to nq) fun _ _ _ _ _ _ us hl => by obtain ⟨a, b, c, d, rfl⟩ := Fp hl; rfl
  have k46 := F46.1.callee F46.2 ((pV (P := P) (w := w) (base := base) b_len F46.1).to pQ) fun _ _ _ _ _ _ us hl => by obtain ⟨a, b, rfl⟩ := xY hl; rfl
  have k10 := F10.1.callee F10.2 ((oV (P := P) (w := w) (base := base) b_bool ft b_isinstance F10.1).to qk) fun _ _ _ _ _ _ us hl => by obtain ⟨a, rfl⟩ := mn hl; rfl
  have k11 := F11.1.callee F11.2 ((nC k10 F11.1).to nu) fun _ _ _ _ _ _ us hl => by obtain ⟨a, b, c, rfl⟩ := tW hl; rfl
  have k12 := F12.1.callee F12.2 ((pf (P := P) (w := w) (base := base) b_all b_isinstance b_str F12.1).to oZ) fun _ _ _ _ _ _ us hl => by obtain ⟨a, rfl⟩ := mn hl; rfl
  have k16 := F16.1.callee F16.2 ((jg b_all b_isinstance b_len b_tuple g_MOST_ROWS k12 F16.1).to jf) fun _ _ _ _ _ _ us hl => by obtain ⟨a, b, rfl⟩ := xY hl; rfl
  have k17 := F17.1.callee F17.2 ((pF b_isinstance b_len b_tuple k11 F17.1).to pR) fun _ _ _ _ _ _ us hl => by obtain ⟨a, b, c, rfl⟩ := tW hl; rfl
  have k18 := F18.1.callee F18.2 ((ox b_isinstance b_len b_tuple g_MOST_WIDTH (k11.mono 3) (k16.mono 3) k17 F18.1).to nS) fun _ _ _ _ _ _ us hl => by obtain ⟨a, rfl⟩ := mn hl; rfl
  have k19 := F19.1.callee F19.2 ((ko r_NoScreen k18 F19.1).to kT) fun _ _ _ _ _ _ us hl => by obtain ⟨a, rfl⟩ := mn hl; rfl
  have k24 := F24.1.callee F24.2 ((tE b_len g_MOST_SAID k12 F24.1).to tT) fun _ _ _ _ _ _ us hl => by obtain ⟨a, rfl⟩ := mn hl; rfl
  have k25 := F25.1.callee F25.2 ((wZ b_len g_MOST_ROWS g_MOST_WIDTH k11 F25.1).to wC) fun _ _ _ _ _ _ us hl => by obtain ⟨a, rfl⟩ := mn hl; rfl
  have k26 := F26.1.callee F26.2 ((pU b_isinstance b_tuple (k24.mono 3) k25 F26.1).to oQ) fun _ _ _ _ _ _ us hl => by obtain ⟨a, rfl⟩ := mn hl; rfl
  have k27 := F27.1.callee F27.2 ((li r_NoOrder k26 F27.1).to kZ) fun _ _ _ _ _ _ us hl => by obtain ⟨a, rfl⟩ := mn hl; rfl
  have k28 := F28.1.callee F28.2 ((jS b_isinstance b_list r_NoOrder k27 F28.1).to kS) fun _ _ _ _ _ _ us hl => by obtain ⟨a, rfl⟩ := mn hl; rfl
  have k29 := F29.1.callee F29.2 ((gh (P := P) (w := w) (base := base) F29.1).to gf) fun _ _ _ _ _ _ us hl => by obtain ⟨a, b, c, rfl⟩ := tW hl; rfl
  have k30 := F30.1.callee F30.2 ((nL b_len r_NoRoom k29 F30.1).to oH) fun _ _ _ _ _ _ us hl => by obtain ⟨a, b, rfl⟩ := xY hl; rfl
  have k31 := F31.1.callee F31.2 ((qi (P := P) (w := w) (base := base) b_len r_NoRoom F31.1).to pJ) fun _ _ _ _ _ _ us hl => by obtain ⟨a, b, c, rfl⟩ := tW hl; rfl
  have k32 := F32.1.callee F32.2 ((mL k29 F32.1).to mk) fun _ _ _ _ _ _ us hl => by obtain ⟨a, rfl⟩ := mn hl; rfl
  have k33 := F33.1.callee F33.2 ((lh k30 (k31.mono 2) k32 F33.1).to la) fun _ _ _ _ _ _ us hl => by obtain ⟨a, b, rfl⟩ := xY hl; rfl
  have k35 := F35.1.callee F35.2 ((pb (k19.mono 6) k28 (k33.mono 6) F35.1).to pT) fun _ _ _ _ _ _ us hl => by obtain ⟨a, b, rfl⟩ := xY hl; rfl
  have k36 := F36.1.callee F36.2 ((lY (P := P) (w := w) (base := base) b_len g_GO_COST g_WIPE_COST F36.1).to mq) fun _ _ _ _ _ _ us hl => by obtain ⟨a, rfl⟩ := mn hl; rfl
  have k37 := F37.1.callee F37.2 ((zr b_sum k28 (k36.mono 6) F37.1).to zk) fun _ _ _ _ _ _ us hl => by obtain ⟨a, rfl⟩ := mn hl; rfl
  have k38 := F38.1.callee F38.2 ((ij (P := P) (w := w) (base := base) b_len g_MOST_SAID F38.1).to ip) fun _ _ _ _ _ _ us hl => by obtain ⟨a, b, rfl⟩ := xY hl; rfl
  have k39 := F39.1.callee F39.2 ((oI b_len k28 (k38.mono 6) F39.1).to ou) fun _ _ _ _ _ _ us hl => by obtain ⟨a, rfl⟩ := mn hl; rfl
  have k56 := F56.1.callee F56.2 ((qd (P := P) (w := w) (base := base) b_ValueError b_isinstance Er F56.1).to (oU nd)) fun _ _ _ _ _ _ us hl => by obtain ⟨a, rfl⟩ := mn hl; rfl
  have k57 := F57.1.callee F57.2 ((td k35 k37 k39 (k56.mono 7) Er F57.1).to (tM nd)) fun _ _ _ _ _ _ us hl => by obtain ⟨a, b, c, rfl⟩ := tW hl; rfl
  have k47 := F47.1.callee F47.2 ((pr (P := P) (w := w) (base := base) ft b_len F47.1).to pK) fun _ _ _ _ _ _ us hl => by obtain ⟨a, rfl⟩ := mn hl; rfl
  have k34 := F34.1.callee F34.2 ((zB k19 k27 (k33.mono 5) F34.1).to Ao) fun _ _ _ _ _ _ us hl => by obtain ⟨a, b, rfl⟩ := xY hl; rfl
  have k49 := gw (P := P) (w := w) (base := base) b_isinstance b_len b_range b_tuple F49.1 F49.2 4
  have k50 := kj (P := P) (w := w) (base := base)  F50.1 F50.2 4
  have k51 := F51.1.callee F51.2 ((gB ft b_isinstance b_len b_str b_tuple k49 (k42.mono 5) k50 F51.1).to gD) fun _ _ _ _ _ _ us hl => by obtain ⟨a, b, c, rfl⟩ := tW hl; rfl
  have k52 := F52.1.callee F52.2 ((nQ (P := P) (w := w) (base := base) b_bool ft b_isinstance F52.1).to nR) fun _ _ _ _ _ _ us hl => by obtain ⟨a, b, c, rfl⟩ := tW hl; rfl
  have k53 := F53.1.callee F53.2 ((kJ (P := P) (w := w) (base := base) b_isinstance b_ord b_str F53.1).to jI) fun _ _ _ _ _ _ us hl => by obtain ⟨a, rfl⟩ := mn hl; rfl
  have k54 := F54.1.callee F54.2 ((jh b_isinstance b_len b_tuple k52 k53 F54.1).to ji) fun _ _ _ _ _ _ us hl => by obtain ⟨a, rfl⟩ := mn hl; rfl
  exact (A1 b_len b_range (k42.mono 8) (k44.mono 8) (k46.mono 8) k57 (k47.mono 8) (k37.mono 8) (k39.mono 8) (k35.mono 8) (k34.mono 8) (k51.mono 8) (k54.mono 8) F58.1).to (CD (Q11.DS nd))
end
theorem BD {P : Program} {w : World} {K : PySem.W.Frag} {mg : Str -> Option Value} {fa : Addr} (hfa : mg "law" = some (.ref fa)) (b_ValueError : mg "ValueError" = none) (b_all : mg "all" = none) (b_bool : mg "bool" = none) (ft : mg "int" = none) (b_isinstance : mg "isinstance" = none) (b_len : mg "len" = none) (b_list : mg "list" = none) (b_ord : mg "ord" = none) (b_range : mg "range" = none) (b_str : mg "str" = none) (b_sum : mg "sum" = none) (b_tuple : mg "tuple" = none) (g_GO_COST : ∃ t, mg "GO_COST" = some (.int 2 t)) (g_MOST_ROWS : ∃ t, mg "MOST_ROWS" = some (.int 12 t)) (g_MOST_SAID : ∃ t, mg "MOST_SAID" = some (.int 40 t)) (g_MOST_WIDTH : ∃ t, mg "MOST_WIDTH" = some (.int 40 t)) (g_WIPE_COST : ∃ t, mg "WIPE_COST" = some (.int 1 t)) {ae ah af : Addr} (n_NoOrder : PySem.W.nsIn K mainGlobals "NoOrder" = some (some (.ref ae))) (x_NoOrder : PySem.W.excIn K ae [.type "ValueError", .type "Exception", .type "BaseException", .type "object"] "ValueError.__new__" = true) (n_NoRoom : PySem.W.nsIn K mainGlobals "NoRoom" = some (some (.ref ah))) (x_NoRoom : PySem.W.excIn K ah [.type "ValueError", .type "Exception", .type "BaseException", .type "object"] "ValueError.__new__" = true) (n_NoScreen : PySem.W.nsIn K mainGlobals "NoScreen" = some (some (.ref af))) (x_NoScreen : PySem.W.excIn K af [.type "ValueError", .type "Exception", .type "BaseException", .type "object"] "ValueError.__new__" = true) {al ar : Addr} {aA az : Addr} (nd : [af, ae, ah, al, ar, aA, az].Nodup) (Er : Errs K mg [ae, ah, af] [("NoScreen", af), ("NoOrder", ae), ("NoRoom", ah), ("NoNumber", al), ("NoTable", ar), ("NoTask", aA), ("NoText", az)])
    (h41 : ∃ f fd, Fun K "_law_cell" "_law_cell" (top 41) f fd /\ mg "_law_cell" = some (.ref f))
    (h42 : ∃ f fd, Fun K "_law_pick" "_law_pick" (top 42) f fd /\ mg "_law_pick" = some (.ref f))
    (h43 : ∃ f fd, Fun K "_law_row" "_law_row" (top 43) f fd /\ mg "_law_row" = some (.ref f))
    (h44 : ∃ f fd, Fun K "_law_screen" "_law_screen" (top 44) f fd /\ mg "_law_screen" = some (.ref f))
    (h46 : ∃ f fd, Fun K "_law_step" "_law_step" (top 46) f fd /\ mg "_law_step" = some (.ref f))
    (h10 : ∃ f fd, Fun K "is_whole" "is_whole" (top 10) f fd /\ mg "is_whole" = some (.ref f))
    (h11 : ∃ f fd, Fun K "is_within" "is_within" (top 11) f fd /\ mg "is_within" = some (.ref f))
    (h12 : ∃ f fd, Fun K "is_plain" "is_plain" (top 12) f fd /\ mg "is_plain" = some (.ref f))
    (h16 : ∃ f fd, Fun K "are_full_rows" "are_full_rows" (top 16) f fd /\ mg "are_full_rows" = some (.ref f))
    (h17 : ∃ f fd, Fun K "is_place" "is_place" (top 17) f fd /\ mg "is_place" = some (.ref f))
    (h18 : ∃ f fd, Fun K "is_screen" "is_screen" (top 18) f fd /\ mg "is_screen" = some (.ref f))
    (h19 : ∃ f fd, Fun K "check_screen" "check_screen" (top 19) f fd /\ mg "check_screen" = some (.ref f))
    (h24 : ∃ f fd, Fun K "is_say" "is_say" (top 24) f fd /\ mg "is_say" = some (.ref f))
    (h25 : ∃ f fd, Fun K "is_go" "is_go" (top 25) f fd /\ mg "is_go" = some (.ref f))
    (h26 : ∃ f fd, Fun K "is_order" "is_order" (top 26) f fd /\ mg "is_order" = some (.ref f))
    (h27 : ∃ f fd, Fun K "check_order" "check_order" (top 27) f fd /\ mg "check_order" = some (.ref f))
    (h28 : ∃ f fd, Fun K "check_orders" "check_orders" (top 28) f fd /\ mg "check_orders" = some (.ref f))
    (h29 : ∃ f fd, Fun K "with_row_at_place" "with_row_at_place" (top 29) f fd /\ mg "with_row_at_place" = some (.ref f))
    (h30 : ∃ f fd, Fun K "after_say" "after_say" (top 30) f fd /\ mg "after_say" = some (.ref f))
    (h31 : ∃ f fd, Fun K "after_go" "after_go" (top 31) f fd /\ mg "after_go" = some (.ref f))
    (h32 : ∃ f fd, Fun K "after_wipe" "after_wipe" (top 32) f fd /\ mg "after_wipe" = some (.ref f))
    (h33 : ∃ f fd, Fun K "after_order" "after_order" (top 33) f fd /\ mg "after_order" = some (.ref f))
    (h35 : ∃ f fd, Fun K "all_done" "all_done" (top 35) f fd /\ mg "all_done" = some (.ref f))
    (h36 : ∃ f fd, Fun K "order_cost" "order_cost" (top 36) f fd /\ mg "order_cost" = some (.ref f))
    (h37 : ∃ f fd, Fun K "cost" "cost" (top 37) f fd /\ mg "cost" = some (.ref f))
    (h38 : ∃ f fd, Fun K "joined_or_none" "joined_or_none" (top 38) f fd /\ mg "joined_or_none" = some (.ref f))
    (h39 : ∃ f fd, Fun K "shortened" "shortened" (top 39) f fd /\ mg "shortened" = some (.ref f))
    (h56 : ∃ f fd, Fun K "_law_word" "_law_word" (top 56) f fd /\ mg "_law_word" = some (.ref f))
    (h57 : ∃ f fd, Fun K "_law_do" "_law_do" (top 57) f fd /\ mg "_law_do" = some (.ref f))
    (h47 : ∃ f fd, Fun K "_law_cost" "_law_cost" (top 47) f fd /\ mg "_law_cost" = some (.ref f))
    (h34 : ∃ f fd, Fun K "done" "done" (top 34) f fd /\ mg "done" = some (.ref f))
    (h49 : ∃ f fd, Fun K "_law_places" "_law_places" (top 49) f fd /\ mg "_law_places" = some (.ref f))
    (h50 : ∃ f fd, Fun K "_law_put" "_law_put" (top 50) f fd /\ mg "_law_put" = some (.ref f))
    (h51 : ∃ f fd, Fun K "_law_spoilt_thing" "_law_spoilt_thing" (top 51) f fd /\ mg "_law_spoilt_thing" = some (.ref f))
    (h52 : ∃ f fd, Fun K "_law_whole" "_law_whole" (top 52) f fd /\ mg "_law_whole" = some (.ref f))
    (h53 : ∃ f fd, Fun K "_law_is_plain" "_law_is_plain" (top 53) f fd /\ mg "_law_is_plain" = some (.ref f))
    (h54 : ∃ f fd, Fun K "_law_is_screen" "_law_is_screen" (top 54) f fd /\ mg "_law_is_screen" = some (.ref f))
    (h58 : ∃ f fd, Fun K "law" "law" (top 58) f fd /\ mg "law" = some (.ref f)) :
    ∃ fd : FuncData, (∀ (s : Shared) (u : Value), BindsTo s fd ⟨[u], []⟩ [("_law_script", u)]) /\ ∀ base : Heap, K.In base -> base.Ns mainGlobals mg -> FnF P w K mg base 9 fa fd ["_law_script"] vO := by
  obtain ⟨t_GO_COST, g_GO_COST⟩ := g_GO_COST
  obtain ⟨t_MOST_ROWS, g_MOST_ROWS⟩ := g_MOST_ROWS
  obtain ⟨t_MOST_SAID, g_MOST_SAID⟩ := g_MOST_SAID
  obtain ⟨t_MOST_WIDTH, g_MOST_WIDTH⟩ := g_MOST_WIDTH
  obtain ⟨t_WIPE_COST, g_WIPE_COST⟩ := g_WIPE_COST
  obtain ⟨f41, d41, F41⟩ := h41
  obtain ⟨f42, d42, F42⟩ := h42
  obtain ⟨f43, d43, F43⟩ := h43
  obtain ⟨f44, d44, F44⟩ := h44
  obtain ⟨f46, d46, F46⟩ := h46
  obtain ⟨f10, d10, F10⟩ := h10
  obtain ⟨f11, d11, F11⟩ := h11
  obtain ⟨f12, d12, F12⟩ := h12
  obtain ⟨f16, d16, F16⟩ := h16
  obtain ⟨f17, d17, F17⟩ := h17
  obtain ⟨f18, d18, F18⟩ := h18
  obtain ⟨f19, d19, F19⟩ := h19
  obtain ⟨f24, d24, F24⟩ := h24
  obtain ⟨f25, d25, F25⟩ := h25
  obtain ⟨f26, d26, F26⟩ := h26
  obtain ⟨f27, d27, F27⟩ := h27
  obtain ⟨f28, d28, F28⟩ := h28
  obtain ⟨f29, d29, F29⟩ := h29
  obtain ⟨f30, d30, F30⟩ := h30
  obtain ⟨f31, d31, F31⟩ := h31
  obtain ⟨f32, d32, F32⟩ := h32
  obtain ⟨f33, d33, F33⟩ := h33
  obtain ⟨f35, d35, F35⟩ := h35
  obtain ⟨f36, d36, F36⟩ := h36
  obtain ⟨f37, d37, F37⟩ := h37
  obtain ⟨f38, d38, F38⟩ := h38
  obtain ⟨f39, d39, F39⟩ := h39
  obtain ⟨f56, d56, F56⟩ := h56
  obtain ⟨f57, d57, F57⟩ := h57
  obtain ⟨f47, d47, F47⟩ := h47
  obtain ⟨f34, d34, F34⟩ := h34
  obtain ⟨f49, d49, F49⟩ := h49
  obtain ⟨f50, d50, F50⟩ := h50
  obtain ⟨f51, d51, F51⟩ := h51
  obtain ⟨f52, d52, F52⟩ := h52
  obtain ⟨f53, d53, F53⟩ := h53
  obtain ⟨f54, d54, F54⟩ := h54
  obtain ⟨f58, d58, F58⟩ := h58
  have e : fa = f58 := by
    have := hfa.symm.trans F58.2
    injection this with this
    injection this
  subst e
  refine ⟨d58, fun s u => ?_, fun base kb nb => ?_⟩
  . obtain ⟨oc, od, kV, doc, pm, an, cdv, ct, osl, rfl, lk, hcd⟩ := F58.1.ex
    exact .of_eq rfl
  . exact law_fn b_ValueError b_all b_bool ft b_isinstance b_len b_list b_ord b_range b_str b_sum b_tuple g_GO_COST g_MOST_ROWS g_MOST_SAID g_MOST_WIDTH g_WIPE_COST (vn kb nb n_NoOrder x_NoOrder) (vn kb nb n_NoRoom x_NoRoom) (vn kb nb n_NoScreen x_NoScreen) nd Er F41 F42 F43 F44 F46 F10 F11 F12 F16 F17 F18 F19 F24 F25 F26 F27 F28 F29 F30 F31 F32 F33 F35 F36 F37 F38 F39 F56 F57 F47 F34 F49 F50 F51 F52 F53 F54 F58
theorem yF {K : PySem.W.Frag} {h : Heap} {mg : Str -> Option Value} {af : Addr} {q_NoScreen : ClassData} {ae : Addr} {q_NoOrder : ClassData} {ah : Addr} {q_NoRoom : ClassData} {al : Addr} {q_NoNumber : ClassData} {ar : Addr} {q_NoTable : ClassData} {aA : Addr} {q_NoTask : ClassData} {az : Addr} {q_NoText : ClassData} {C_LineError : Addr} {q_LineError : ClassData} (X : K.In h) (G : h.Ns mainGlobals mg)
    (n_NoScreen : PySem.W.nsIn K mainGlobals "NoScreen" = some (some (.ref af)))
    (t_NoScreen : PySem.W.clsIn K af = some q_NoScreen)
    (y_NoScreen : PySem.W.typeIn K (.ref af) = some (.type "type"))
    (n_NoOrder : PySem.W.nsIn K mainGlobals "NoOrder" = some (some (.ref ae)))
    (t_NoOrder : PySem.W.clsIn K ae = some q_NoOrder)
    (y_NoOrder : PySem.W.typeIn K (.ref ae) = some (.type "type"))
    (n_NoRoom : PySem.W.nsIn K mainGlobals "NoRoom" = some (some (.ref ah)))
    (t_NoRoom : PySem.W.clsIn K ah = some q_NoRoom)
    (y_NoRoom : PySem.W.typeIn K (.ref ah) = some (.type "type"))
    (n_NoNumber : PySem.W.nsIn K mainGlobals "NoNumber" = some (some (.ref al)))
    (t_NoNumber : PySem.W.clsIn K al = some q_NoNumber)
    (y_NoNumber : PySem.W.typeIn K (.ref al) = some (.type "type"))
    (n_NoTable : PySem.W.nsIn K mainGlobals "NoTable" = some (some (.ref ar)))
    (t_NoTable : PySem.W.clsIn K ar = some q_NoTable)
    (y_NoTable : PySem.W.typeIn K (.ref ar) = some (.type "type"))
    (n_NoTask : PySem.W.nsIn K mainGlobals "NoTask" = some (some (.ref aA)))
    (t_NoTask : PySem.W.clsIn K aA = some q_NoTask)
    (y_NoTask : PySem.W.typeIn K (.ref aA) = some (.type "type"))
    (n_NoText : PySem.W.nsIn K mainGlobals "NoText" = some (some (.ref az)))
    (t_NoText : PySem.W.clsIn K az = some q_NoText)
    (y_NoText : PySem.W.typeIn K (.ref az) = some (.type "type"))
    (n_LineError : PySem.W.nsIn K mainGlobals "LineError" = some (some (.ref C_LineError)))
    (t_LineError : PySem.W.clsIn K C_LineError = some q_LineError)
    (y_LineError : PySem.W.typeIn K (.ref C_LineError) = some (.type "type"))
    (s_NoOrder_NoScreen : PySem.W.subIn K (.ref ae) (.ref af) = some false)
    (s_NoOrder_NoRoom : PySem.W.subIn K (.ref ae) (.ref ah) = some false)
    (s_NoOrder_NoNumber : PySem.W.subIn K (.ref ae) (.ref al) = some false)
    (s_NoOrder_NoTable : PySem.W.subIn K (.ref ae) (.ref ar) = some false)
    (s_NoOrder_NoTask : PySem.W.subIn K (.ref ae) (.ref aA) = some false)
    (s_NoOrder_NoText : PySem.W.subIn K (.ref ae) (.ref az) = some false)
    (v_NoOrder : PySem.W.subIn K (.ref ae) (.type "ValueError") = some true)
    (l_NoOrder : PySem.W.subIn K (.ref ae) (.ref C_LineError) = some true)
    (e_NoOrder : ExcCls K ae)
    (s_NoRoom_NoScreen : PySem.W.subIn K (.ref ah) (.ref af) = some false)
    (s_NoRoom_NoOrder : PySem.W.subIn K (.ref ah) (.ref ae) = some false)
    (s_NoRoom_NoNumber : PySem.W.subIn K (.ref ah) (.ref al) = some false)
    (s_NoRoom_NoTable : PySem.W.subIn K (.ref ah) (.ref ar) = some false)
    (s_NoRoom_NoTask : PySem.W.subIn K (.ref ah) (.ref aA) = some false)
    (s_NoRoom_NoText : PySem.W.subIn K (.ref ah) (.ref az) = some false)
    (v_NoRoom : PySem.W.subIn K (.ref ah) (.type "ValueError") = some true)
    (l_NoRoom : PySem.W.subIn K (.ref ah) (.ref C_LineError) = some true)
    (e_NoRoom : ExcCls K ah)
    (s_NoScreen_NoOrder : PySem.W.subIn K (.ref af) (.ref ae) = some false)
    (s_NoScreen_NoRoom : PySem.W.subIn K (.ref af) (.ref ah) = some false)
    (s_NoScreen_NoNumber : PySem.W.subIn K (.ref af) (.ref al) = some false)
    (s_NoScreen_NoTable : PySem.W.subIn K (.ref af) (.ref ar) = some false)
    (s_NoScreen_NoTask : PySem.W.subIn K (.ref af) (.ref aA) = some false)
    (s_NoScreen_NoText : PySem.W.subIn K (.ref af) (.ref az) = some false)
    (v_NoScreen : PySem.W.subIn K (.ref af) (.type "ValueError") = some true)
    (l_NoScreen : PySem.W.subIn K (.ref af) (.ref C_LineError) = some true)
    (e_NoScreen : ExcCls K af)
    (lb : PySem.W.subIn K (.ref C_LineError) (.type "BaseException") = some true)
    (nd : [af, ae, ah, al, ar, aA, az].Nodup) : Errs K mg [ae, ah, af] [("NoScreen", af), ("NoOrder", ae), ("NoRoom", ah), ("NoNumber", al), ("NoTable", ar), ("NoTask", aA), ("NoText", az)] := by
  have ne : ∀ i j : Nat, i < 7 -> j < 7 -> i ≠ j -> [af, ae, ah, al, ar, aA, az].getD i 0 ≠ [af, ae, ah, al, ar, aA, az].getD j 0 := fun i j hi hj h z => h (List.getElem_inj nd |>.1 (by simpa [List.getD_eq_getElem?_getD, List.getElem?_eq_getElem, hi, hj] using z))
  refine ⟨fun t ht => ?_, fun r hr => ?_, fun r hr t ht => ?_, fun r hr => ?_, ⟨C_LineError, PySem.W.mg_of X G n_LineError, fun r hr => ?_⟩⟩
  . simp only [List.mem_cons, List.mem_nil_iff, or_false] at ht
    rcases ht with rfl | rfl | rfl | rfl | rfl | rfl | rfl
    . exact PySem.W.mg_of X G n_NoScreen
    . exact PySem.W.mg_of X G n_NoOrder
    . exact PySem.W.mg_of X G n_NoRoom
    . exact PySem.W.mg_of X G n_NoNumber
    . exact PySem.W.mg_of X G n_NoTable
    . exact PySem.W.mg_of X G n_NoTask
    . exact PySem.W.mg_of X G n_NoText
  . simp only [List.mem_cons, List.mem_nil_iff, or_false] at hr
    rcases hr with rfl | rfl | rfl
    . exact e_NoOrder
    . exact e_NoRoom
    . exact e_NoScreen
  . simp only [List.mem_cons, List.mem_nil_iff, or_false] at ht
    simp only [List.mem_cons, List.mem_nil_iff, or_false] at hr
    rcases hr with rfl | rfl | rfl
    . rcases ht with rfl | rfl | rfl | rfl | rfl | rfl | rfl
      . exact Q.cR t_NoScreen y_NoScreen s_NoOrder_NoScreen (ne 1 0 (by decide) (by decide) (by decide))
      . exact Q.ni
      . exact Q.cR t_NoRoom y_NoRoom s_NoOrder_NoRoom (ne 1 2 (by decide) (by decide) (by decide))
      . exact Q.cR t_NoNumber y_NoNumber s_NoOrder_NoNumber (ne 1 3 (by decide) (by decide) (by decide))
      . exact Q.cR t_NoTable y_NoTable s_NoOrder_NoTable (ne 1 4 (by decide) (by decide) (by decide))
      . exact Q.cR t_NoTask y_NoTask s_NoOrder_NoTask (ne 1 5 (by decide) (by decide) (by decide))
      . exact Q.cR t_NoText y_NoText s_NoOrder_NoText (ne 1 6 (by decide) (by decide) (by decide))
    . rcases ht with rfl | rfl | rfl | rfl | rfl | rfl | rfl
      . exact Q.cR t_NoScreen y_NoScreen s_NoRoom_NoScreen (ne 2 0 (by decide) (by decide) (by decide))
      . exact Q.cR t_NoOrder y_NoOrder s_NoRoom_NoOrder (ne 2 1 (by decide) (by decide) (by decide))
      . exact Q.ni
      . exact Q.cR t_NoNumber y_NoNumber s_NoRoom_NoNumber (ne 2 3 (by decide) (by decide) (by decide))
      . exact Q.cR t_NoTable y_NoTable s_NoRoom_NoTable (ne 2 4 (by decide) (by decide) (by decide))
      . exact Q.cR t_NoTask y_NoTask s_NoRoom_NoTask (ne 2 5 (by decide) (by decide) (by decide))
      . exact Q.cR t_NoText y_NoText s_NoRoom_NoText (ne 2 6 (by decide) (by decide) (by decide))
    . rcases ht with rfl | rfl | rfl | rfl | rfl | rfl | rfl
      . exact Q.ni
      . exact Q.cR t_NoOrder y_NoOrder s_NoScreen_NoOrder (ne 0 1 (by decide) (by decide) (by decide))
      . exact Q.cR t_NoRoom y_NoRoom s_NoScreen_NoRoom (ne 0 2 (by decide) (by decide) (by decide))
      . exact Q.cR t_NoNumber y_NoNumber s_NoScreen_NoNumber (ne 0 3 (by decide) (by decide) (by decide))
      . exact Q.cR t_NoTable y_NoTable s_NoScreen_NoTable (ne 0 4 (by decide) (by decide) (by decide))
      . exact Q.cR t_NoTask y_NoTask s_NoScreen_NoTask (ne 0 5 (by decide) (by decide) (by decide))
      . exact Q.cR t_NoText y_NoText s_NoScreen_NoText (ne 0 6 (by decide) (by decide) (by decide))
  . simp only [List.mem_cons, List.mem_nil_iff, or_false] at hr
    rcases hr with rfl | rfl | rfl
    . exact Q.tx v_NoOrder
    . exact Q.tx v_NoRoom
    . exact Q.tx v_NoScreen
  . simp only [List.mem_cons, List.mem_nil_iff, or_false] at hr
    rcases hr with rfl | rfl | rfl
    . exact Q.ue lb t_LineError y_LineError l_NoOrder
    . exact Q.ue lb t_LineError y_LineError l_NoRoom
    . exact Q.ue lb t_LineError y_LineError l_NoScreen
end G11
theorem PySem.W.Fast.tw4832594790676149761 : True := trivial
theorem PySem.W.Fast.tw1620172636714501667 : True := trivial
theorem PySem.W.Fast.tw3594945379231193508 : True := trivial
theorem PySem.W.Fast.tw7475700123510195237 : True := trivial
theorem PySem.W.Fast.tw3160841357526124232 : True := trivial
theorem PySem.W.Fast.tw6732637999821177866 : True := trivial
theorem PySem.W.Fast.tw3451745909258302254 : True := trivial
theorem PySem.W.Fast.tw9488155511674469807 : True := trivial
theorem PySem.W.Fast.tw7706264442193052560 : True := trivial
theorem PySem.W.Fast.tw4053422553964269658 : True := trivial
theorem PySem.W.Fast.tw10977560638186023770 : True := trivial
theorem PySem.W.Fast.tw16162380051896061851 : True := trivial
theorem PySem.W.Fast.tw14194986621226255420 : True := trivial
theorem PySem.W.Fast.tw13160101959667883388 : True := trivial
theorem PySem.W.Fast.tw5900545618534412255 : True := trivial
open PySem PySem.W PyProof.Rows
set_option maxRecDepth 100000 in
set_option maxHeartbeats 0 in
theorem PySem.Challenge.cw_screenlines_k11_whole_many_orders_holds : PySem.Challenge.rw_screenlines_k11_whole_many_orders.Holds := by
  w_on; o_law; k_head; (case hw => w_witness2)
  k_fill
  refine Q.Fi (l := PySem.Challenge.rw_screenlines_k11_whole_many_orders) (L := 9) ⟨rfl, by decide, by decide⟩ rfl rfl (fun w h Y => PySem.W.kIn_of Y) ?F
  case F =>
    intro w mg fa h KX G hmg
    have b_ValueError : mg "ValueError" = none := PySem.W.mg_none_of KX G (by k_is)
    have b_all : mg "all" = none := PySem.W.mg_none_of KX G (by k_is)
    have b_bool : mg "bool" = none := PySem.W.mg_none_of KX G (by k_is)
    have ft : mg "int" = none := PySem.W.mg_none_of KX G (by k_is)
    have b_isinstance : mg "isinstance" = none := PySem.W.mg_none_of KX G (by k_is)
    have b_len : mg "len" = none := PySem.W.mg_none_of KX G (by k_is)
    have b_list : mg "list" = none := PySem.W.mg_none_of KX G (by k_is)
    have b_ord : mg "ord" = none := PySem.W.mg_none_of KX G (by k_is)
    have b_range : mg "range" = none := PySem.W.mg_none_of KX G (by k_is)
    have b_str : mg "str" = none := PySem.W.mg_none_of KX G (by k_is)
    have b_sum : mg "sum" = none := PySem.W.mg_none_of KX G (by k_is)
    have b_tuple : mg "tuple" = none := PySem.W.mg_none_of KX G (by k_is)
    have g_GO_COST : ∃ t, mg "GO_COST" = some (.int 2 t) := ⟨_, PySem.W.mg_of KX G (by k_is)⟩
    have g_MOST_ROWS : ∃ t, mg "MOST_ROWS" = some (.int 12 t) := ⟨_, PySem.W.mg_of KX G (by k_is)⟩
    have g_MOST_SAID : ∃ t, mg "MOST_SAID" = some (.int 40 t) := ⟨_, PySem.W.mg_of KX G (by k_is)⟩
    have g_MOST_WIDTH : ∃ t, mg "MOST_WIDTH" = some (.int 40 t) := ⟨_, PySem.W.mg_of KX G (by k_is)⟩
    have g_WIPE_COST : ∃ t, mg "WIPE_COST" = some (.int 1 t) := ⟨_, PySem.W.mg_of KX G (by k_is)⟩
    have h41 := Q.bp (x := "_law_cell") (st := G11.top 41) KX G (by k_is) (by k_is) (by k_is) (by k_is)
    have h42 := Q.bp (x := "_law_pick") (st := G11.top 42) KX G (by k_is) (by k_is) (by k_is) (by k_is)
    have h43 := Q.bp (x := "_law_row") (st := G11.top 43) KX G (by k_is) (by k_is) (by k_is) (by k_is)
    have h44 := Q.bp (x := "_law_screen") (st := G11.top 44) KX G (by k_is) (by k_is) (by k_is) (by k_is)
    have h46 := Q.bp (x := "_law_step") (st := G11.top 46) KX G (by k_is) (by k_is) (by k_is) (by k_is)
    have h10 := Q.bp (x := "is_whole") (st := G11.top 10) KX G (by k_is) (by k_is) (by k_is) (by k_is)
    have h11 := Q.bp (x := "is_within") (st := G11.top 11) KX G (by k_is) (by k_is) (by k_is) (by k_is)
    have h12 := Q.bp (x := "is_plain") (st := G11.top 12) KX G (by k_is) (by k_is) (by k_is) (by k_is)
    have h16 := Q.bp (x := "are_full_rows") (st := G11.top 16) KX G (by k_is) (by k_is) (by k_is) (by k_is)
    have h17 := Q.bp (x := "is_place") (st := G11.top 17) KX G (by k_is) (by k_is) (by k_is) (by k_is)
    have h18 := Q.bp (x := "is_screen") (st := G11.top 18) KX G (by k_is) (by k_is) (by k_is) (by k_is)
    have h19 := Q.bp (x := "check_screen") (st := G11.top 19) KX G (by k_is) (by k_is) (by k_is) (by k_is)
    have h24 := Q.bp (x := "is_say") (st := G11.top 24) KX G (by k_is) (by k_is) (by k_is) (by k_is)
    have h25 := Q.bp (x := "is_go") (st := G11.top 25) KX G (by k_is) (by k_is) (by k_is) (by k_is)
    have h26 := Q.bp (x := "is_order") (st := G11.top 26) KX G (by k_is) (by k_is) (by k_is) (by k_is)
    have h27 := Q.bp (x := "check_order") (st := G11.top 27) KX G (by k_is) (by k_is) (by k_is) (by k_is)
    have h28 := Q.bp (x := "check_orders") (st := G11.top 28) KX G (by k_is) (by k_is) (by k_is) (by k_is)
    have h29 := Q.bp (x := "with_row_at_place") (st := G11.top 29) KX G (by k_is) (by k_is) (by k_is) (by k_is)
    have h30 := Q.bp (x := "after_say") (st := G11.top 30) KX G (by k_is) (by k_is) (by k_is) (by k_is)
    have h31 := Q.bp (x := "after_go") (st := G11.top 31) KX G (by k_is) (by k_is) (by k_is) (by k_is)
    have h32 := Q.bp (x := "after_wipe") (st := G11.top 32) KX G (by k_is) (by k_is) (by k_is) (by k_is)
    have h33 := Q.bp (x := "after_order") (st := G11.top 33) KX G (by k_is) (by k_is) (by k_is) (by k_is)
    have h35 := Q.bp (x := "all_done") (st := G11.top 35) KX G (by k_is) (by k_is) (by k_is) (by k_is)
    have h36 := Q.bp (x := "order_cost") (st := G11.top 36) KX G (by k_is) (by k_is) (by k_is) (by k_is)
    have h37 := Q.bp (x := "cost") (st := G11.top 37) KX G (by k_is) (by k_is) (by k_is) (by k_is)
    have h38 := Q.bp (x := "joined_or_none") (st := G11.top 38) KX G (by k_is) (by k_is) (by k_is) (by k_is)
    have h39 := Q.bp (x := "shortened") (st := G11.top 39) KX G (by k_is) (by k_is) (by k_is) (by k_is)
    have h56 := Q.bp (x := "_law_word") (st := G11.top 56) KX G (by k_is) (by k_is) (by k_is) (by k_is)
    have h57 := Q.bp (x := "_law_do") (st := G11.top 57) KX G (by k_is) (by k_is) (by k_is) (by k_is)
    have h47 := Q.bp (x := "_law_cost") (st := G11.top 47) KX G (by k_is) (by k_is) (by k_is) (by k_is)
    have h34 := Q.bp (x := "done") (st := G11.top 34) KX G (by k_is) (by k_is) (by k_is) (by k_is)
    have h49 := Q.bp (x := "_law_places") (st := G11.top 49) KX G (by k_is) (by k_is) (by k_is) (by k_is)
    have h50 := Q.bp (x := "_law_put") (st := G11.top 50) KX G (by k_is) (by k_is) (by k_is) (by k_is)
    have h51 := Q.bp (x := "_law_spoilt_thing") (st := G11.top 51) KX G (by k_is) (by k_is) (by k_is) (by k_is)
    have h52 := Q.bp (x := "_law_whole") (st := G11.top 52) KX G (by k_is) (by k_is) (by k_is) (by k_is)
    have h53 := Q.bp (x := "_law_is_plain") (st := G11.top 53) KX G (by k_is) (by k_is) (by k_is) (by k_is)
    have h54 := Q.bp (x := "_law_is_screen") (st := G11.top 54) KX G (by k_is) (by k_is) (by k_is) (by k_is)
    have h58 := Q.bp (x := "law") (st := G11.top 58) KX G (by k_is) (by k_is) (by k_is) (by k_is)
    refine' G11.BD (P := _) (w := w) (K := L2.KOf KX) hmg b_ValueError b_all b_bool ft b_isinstance b_len b_list b_ord b_range b_str b_sum b_tuple g_GO_COST g_MOST_ROWS g_MOST_SAID g_MOST_WIDTH g_WIPE_COST ?n_NoOrder ?x_NoOrder ?n_NoRoom ?x_NoRoom ?n_NoScreen ?x_NoScreen ?nd (G11.yF KX G ?n_NoScreen ?t_NoScreen ?y_NoScreen ?n_NoOrder ?t_NoOrder ?y_NoOrder ?n_NoRoom ?t_NoRoom ?y_NoRoom ?n_NoNumber ?t_NoNumber ?y_NoNumber ?n_NoTable ?t_NoTable ?y_NoTable ?n_NoTask ?t_NoTask ?y_NoTask ?n_NoText ?t_NoText ?y_NoText ?n_LineError ?t_LineError ?y_LineError ?s_NoOrder_NoScreen ?s_NoOrder_NoRoom ?s_NoOrder_NoNumber ?s_NoOrder_NoTable ?s_NoOrder_NoTask ?s_NoOrder_NoText ?v_NoOrder ?l_NoOrder ?e_NoOrder ?s_NoRoom_NoScreen ?s_NoRoom_NoOrder ?s_NoRoom_NoNumber ?s_NoRoom_NoTable ?s_NoRoom_NoTask ?s_NoRoom_NoText ?v_NoRoom ?l_NoRoom ?e_NoRoom ?s_NoScreen_NoOrder ?s_NoScreen_NoRoom ?s_NoScreen_NoNumber ?s_NoScreen_NoTable ?s_NoScreen_NoTask ?s_NoScreen_NoText ?v_NoScreen ?l_NoScreen ?e_NoScreen ?lb ?nd) h41 h42 h43 h44 h46 h10 h11 h12 h16 h17 h18 h19 h24 h25 h26 h27 h28 h29 h30 h31 h32 h33 h35 h36 h37 h38 h39 h56 h57 h47 h34 h49 h50 h51 h52 h53 h54 h58
    all_goals (try dsimp only [L2.KOf])
    (case n_NoScreen => k_is)
    (case n_NoOrder => k_is)
    (case n_NoRoom => k_is)
    (case n_NoNumber => k_is)
    (case n_NoTable => k_is)
    (case n_NoTask => k_is)
    (case n_NoText => k_is)
    (case n_LineError => k_is)
    (case t_NoScreen => k_is)
    (case y_NoScreen => k_is)
    (case t_NoOrder => k_is)
    (case y_NoOrder => k_is)
    (case t_NoRoom => k_is)
    (case y_NoRoom => k_is)
    (case t_NoNumber => k_is)
    (case y_NoNumber => k_is)
    (case t_NoTable => k_is)
    (case y_NoTable => k_is)
    (case t_NoTask => k_is)
    (case y_NoTask => k_is)
    (case t_NoText => k_is)
    (case y_NoText => k_is)
    (case t_LineError => k_is)
    (case y_LineError => k_is)
    (case s_NoOrder_NoScreen => k_is)
    (case s_NoOrder_NoRoom => k_is)
    (case s_NoOrder_NoNumber => k_is)
    (case s_NoOrder_NoTable => k_is)
    (case s_NoOrder_NoTask => k_is)
    (case s_NoOrder_NoText => k_is)
    (case v_NoOrder => k_is)
    (case l_NoOrder => k_is)
    (case e_NoOrder => exact Q.vF (by k_is) (by k_is) (by k_is) (by k_is) (by k_is) (by k_is) (by k_is) (by k_is))
    (case s_NoRoom_NoScreen => k_is)
    (case s_NoRoom_NoOrder => k_is)
    (case s_NoRoom_NoNumber => k_is)
    (case s_NoRoom_NoTable => k_is)
    (case s_NoRoom_NoTask => k_is)
    (case s_NoRoom_NoText => k_is)
    (case v_NoRoom => k_is)
    (case l_NoRoom => k_is)
    (case e_NoRoom => exact Q.vF (by k_is) (by k_is) (by k_is) (by k_is) (by k_is) (by k_is) (by k_is) (by k_is))
    (case s_NoScreen_NoOrder => k_is)
    (case s_NoScreen_NoRoom => k_is)
    (case s_NoScreen_NoNumber => k_is)
    (case s_NoScreen_NoTable => k_is)
    (case s_NoScreen_NoTask => k_is)
    (case s_NoScreen_NoText => k_is)
    (case v_NoScreen => k_is)
    (case l_NoScreen => k_is)
    (case e_NoScreen => exact Q.vF (by k_is) (by k_is) (by k_is) (by k_is) (by k_is) (by k_is) (by k_is) (by k_is))
    (case lb => k_is)
    (case nd => decide)
    (case x_NoOrder => k_exc)
    (case x_NoRoom => k_exc)
    (case x_NoScreen => k_exc)
end
