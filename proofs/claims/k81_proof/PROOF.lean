import PyProof.Rows.All
import Wide.All
import OpenK.AllK
import Wide.FinOn
import Lean
import PyProof.EqAt
import PyProof.EqKinds
import PyProof.TupleCall
import PyProof.NeKinds
import PyProof.Draws
import KE.KTupSum
import KE.KIntText
import PyProof.Rows.Range3
import PyProof.Rows.FStr
import PyProof.StrCalls2
import PyProof.StrLawsTight
import PyProof.StrLawsIn
import PyProof.StrCalls
import KE.KLam
import KE.KMinKey
import PyProof.Rows.RuleN_abs
import PyProof.Rows.StrCut
import PySem.Challenge.RW_screenlines_k81_whole_alike_rows
-- CHANGE: your row's module here, as the last of these rows
set_option Elab.async false
set_option linter.all false
set_option maxRecDepth 100000
namespace L2
open PySem PySem.Spec PyProof.Rows

noncomputable abbrev Key := Sum Int Str
noncomputable def keyIs : Key → Value → Bool
  | .inl k, v => Value.isInt k v
  | .inr x, v => Value.isStrOf x v
noncomputable def keyH (w : World) : Key → Int
  | .inl k => hashInt k
  | .inr x => hashStr w x
theorem keyIs_shape : ∀ {k : Key} {v : Value}, keyIs k v = true → (∃ i t, k = Sum.inl i ∧ v = Value.int i t) ∨ (∃ x t, k = Sum.inr x ∧ v = Value.str x t)
  | .inl i, v, h => by
    obtain ⟨t, e⟩ := Value.isInt_shape (k := i) (v := v) h
    exact .inl ⟨i, t, rfl, e⟩
  | .inr x, v, h => by
    obtain ⟨t, e⟩ := Value.isStrOf_shape (x := x) (v := v) h
    exact .inr ⟨x, t, rfl, e⟩
theorem key_ll (a b : Int) : decide ((Sum.inl a : Key) = Sum.inl b) = (a == b) := by
  by_cases e : a = b
  · subst e; simp
  · have h : ¬ (Sum.inl a : Key) = Sum.inl b := fun q => e (Sum.inl.inj q)
    rw [decide_eq_false h]
    exact (beq_eq_false_iff_ne.mpr e).symm
theorem key_rr (a b : Str) : decide ((Sum.inr a : Key) = Sum.inr b) = decide (a = b) := by
  by_cases e : a = b
  · subst e; simp
  · have h : ¬ (Sum.inr a : Key) = Sum.inr b := fun q => e (Sum.inr.inj q)
    rw [decide_eq_false h, decide_eq_false e]
theorem key_lr (a : Int) (b : Str) : decide ((Sum.inl a : Key) = Sum.inr b) = false := decide_eq_false (fun q => nomatch q)
theorem key_rl (a : Str) (b : Int) : decide ((Sum.inr a : Key) = Sum.inl b) = false := decide_eq_false (fun q => nomatch q)

noncomputable def mixKind (prog : Program) (w : World) : PySem.KeyKind prog w Key where
  is := keyIs
  hash := keyH w
  inj := fun v a b ha hb => by
    rcases keyIs_shape ha with ⟨i, t, rfl, rfl⟩ | ⟨x, t, rfl, rfl⟩
    · rcases keyIs_shape hb with ⟨j, u, rfl, e⟩ | ⟨y, u, rfl, e⟩
      · injection e with e1 _; rw [e1]
      · exact nomatch e
    · rcases keyIs_shape hb with ⟨j, u, rfl, e⟩ | ⟨y, u, rfl, e⟩
      · exact nomatch e
      · injection e with e1 _; rw [e1]
  byValue := fun k v h => by
    rcases keyIs_shape h with ⟨i, t, rfl, rfl⟩ | ⟨x, t, rfl, rfl⟩ <;> rfl
  pyHash := fun hv h => by
    rcases keyIs_shape hv with ⟨i, t, rfl, rfl⟩ | ⟨x, t, rfl, rfl⟩
    · exact wpAny_pyHash_int h
    · exact wpAny_pyHash_str h
  eqBool := fun hu hv h => by
    rcases keyIs_shape hu with ⟨i, t, rfl, rfl⟩ | ⟨x, t, rfl, rfl⟩
    · rcases keyIs_shape hv with ⟨j, u, rfl, rfl⟩ | ⟨y, u, rfl, rfl⟩
      · rw [key_ll] at h; exact wpAny_eqBool_int h
      · rw [key_lr] at h; exact SeqAt.EqAt.int_str i t y u _ _ _ _ h
    · rcases keyIs_shape hv with ⟨j, u, rfl, rfl⟩ | ⟨y, u, rfl, rfl⟩
      · rw [key_rl] at h; exact SeqAt.EqAt.str_int x t j u _ _ _ _ h
      · rw [key_rr] at h; exact wpAny_eqBool_str h
  «strs» := fun k x t v h => by
    rcases keyIs_shape h with ⟨i, u, rfl, e⟩ | ⟨y, u, rfl, e⟩
    · exact nomatch e
    · injection e with e1 _
      subst e1
      cases v <;> rfl

end L2

namespace L2
open PySem PySem.Spec PyProof.Rows

inductive V where
  | non | bl (b : Bool) | int (i : Int) | str (x : Str) | byt (b : Array UInt8) | flt (b : UInt64) | ref (a : Addr) | ty (n : String)
  deriving DecidableEq

noncomputable def RelV : V → Value → Prop
  | .non, u => u = Value.none
  | .bl b, u => u = Value.bool b
  | .int i, u => ∃ t, u = Value.int i t
  | .str x, u => ∃ t, u = Value.str x t
  | .byt b, u => ∃ t, u = Value.bytes b t
  | .flt b, u => ∃ t, u = Value.float b t
  | .ref a, u => u = Value.ref a
  | .ty n, u => u = Value.type n

noncomputable abbrev Vals : List V → List Value → Prop := Paired RelV
theorem Vals.length {xs : List V} {us : List Value} (r : Vals xs us) : xs.length = us.length := Paired.length r
theorem Vals.get : ∀ {xs : List V} {us : List Value} {i : Nat} {x : V}, Vals xs us → xs[i]? = some x → ∃ u, us[i]? = some u ∧ RelV x u
  | _, _, _, _, .nil, e => by simp at e
  | _, _, 0, _, .cons r _, e => by simp at e; subst e; exact ⟨_, rfl, r⟩
  | _, _, i + 1, x, .cons _ t, e => by
    obtain ⟨u, h1, h2⟩ := Vals.get (i := i) (x := x) t (by simpa using e)
    exact ⟨u, by simpa using h1, h2⟩
theorem Vals.append : ∀ {xs ys : List V} {us ws : List Value}, Vals xs us → Vals ys ws → Vals (xs ++ ys) (us ++ ws)
  | _, _, _, _, .nil, s => s
  | _, _, _, _, .cons r t, s => .cons r (Vals.append t s)
theorem Vals.take : ∀ {xs : List V} {us : List Value} (n : Nat), Vals xs us → Vals (xs.take n) (us.take n)
  | _, _, 0, _ => .nil
  | _, _, _ + 1, .nil => .nil
  | _, _, n + 1, .cons r t => .cons r (Vals.take n t)
theorem Vals.drop : ∀ {xs : List V} {us : List Value} (n : Nat), Vals xs us → Vals (xs.drop n) (us.drop n)
  | _, _, 0, r => r
  | _, _, _ + 1, .nil => .nil
  | _, _, n + 1, .cons _ t => Vals.drop n t
noncomputable def RelO : Option V → Option Value → Prop
  | some v, some u => RelV v u
  | none, none => True
  | _, _ => False
noncomputable def KV {κ : Type} : List (κ × V) → List (κ × Value) → Prop := Paired fun (p : κ × V) (q : κ × Value) => p.1 = q.1 ∧ RelV p.2 q.2

noncomputable def kV : Key → V
  | .inl i => .int i
  | .inr x => .str x

inductive HO where
  /-- a list -/
  | lst (xs : List V)
  /-- a tuple (never changes) -/
  | tup (xs : List V)
  /-- a dict whose keys are ints and texts; one whose keys are tuples of ints and texts (the empty one is both) -/
  | dK (kvs : List (Key × V)) | dT (kvs : List (List Key × V))
  /-- a set of ints: its members, its size -/
  | set (S : Int → Bool) (n : Nat)
  /-- an instance of the class at C, its dict at dx, its attributes -/
  | ins (C dx : Addr) (fs : List (Str × V))
  /-- the dict of the instance at x -/
  | own (x : Addr)
  /-- the dict of an exception -/
  | xd (fs : List (Str × V))
  /-- a bound method, f of x -/
  | met (f x : Addr)
  /-- a range object lo, lo + 1, .. below hi -/
  | rng (lo hi : Int)
  /-- a thing that is known to the object (the script; a dict while a loop walks it): read, never written while it is so -/
  | frz (o : Obj) (u : HO)
  /-- a code object's table -/
  | tbl (ps : Array Value)
  /-- any other thing, by what is true of its one object (a def of one's own: SetO a S n := HO.ext fun h => ..) -/
  | ext (φ : Heap → Prop)

noncomputable abbrev Hp := Addr → Option HO
noncomputable def upd (H : Hp) (a : Addr) (o : HO) : Hp := fun b => if b = a then some o else H b
theorem upd_same {H : Hp} {a : Addr} {o : HO} : upd H a o a = some o := by unfold upd; rw [if_pos rfl]
theorem upd_ne {H : Hp} {a b : Addr} {o : HO} (h : b ≠ a) : upd H a o b = H b := by unfold upd; rw [if_neg h]
theorem ne_of_none {H : Hp} {a b : Addr} {o : HO} (h : H a = some o) (h' : H b = none) : a ≠ b := by
  intro e; subst e; rw [h] at h'; cases h'

noncomputable def qualOf (ps : Array Value) : Str := match ps.toList with
  | .str q _ :: _ => q
  | _ => Str.empty
section
variable (P : Program) (w : World)
noncomputable def ObjOk (H : Hp) (h : Heap) (a : Addr) : HO → Prop
  | .lst xs => xs.length ≤ sizeLine ∧ ∃ (its : List Value) (n : Nat), Vals xs its ∧ h.get? a = some { cls := .type "list", data := .seq its.toArray n }
  | .tup xs => xs.length ≤ sizeLine ∧ ∃ its : List Value, Vals xs its ∧ IsTup h a its.toArray
  | .dK kvs => kvs.length ≤ sizeLine ∧ (a == sysModules) = false ∧ ∃ vs, KV kvs vs ∧ h.DictOf (mixKind P w) a vs
  | .dT kvs => kvs.length ≤ sizeLine ∧ (a == sysModules) = false ∧ ∃ xs : List (List Key × Addr × Value),
      Paired (fun (p : List Key × V) (q : List Key × Addr × Value) => p.1 = q.1 ∧ H q.2.1 = some (.tup (p.1.map kV)) ∧ RelV p.2 q.2.2) kvs xs ∧
      ∃ o es ep, h.get? a = some o ∧ o.ExactDict ∧ o.data = .dict es ep ∧ es.toList = xs.map (entryOfKey (tupleKind (mixKind P w))) ∧ (xs.map (·.1)).Nodup
  | .set S n => h.SetOf (intKind P w) a S n
  | .ins C dx fs => H dx = some (.own a) ∧ fs.length ≤ 1000 ∧ dx ≠ a ∧ h.get? a = some (PySem.W.instObj C dx) ∧
      ∃ mA, h.Ns1 dx mA ∧ (∀ f, RelO (fs.lookup f) (mA f)) ∧ PySem.Within mA (fs.map (·.1))
  | .own _ => ∃ o, h.get? a = some o
  | .xd fs => ∃ mA, h.Ns1 a mA ∧ ∀ f, RelO (fs.lookup f) (mA f)
  | .rng lo hi => ∃ t u v, h.get? a = some { cls := .type "range", data := .fields #[.int lo t, .int hi u, .int 1 v] }
  | .frz o u => h.get? a = some o ∧ ObjOk H h a u
  | .tbl ps => ∃ qs : Array Value, h.get? a = some { cls := .none, data := .fields qs } ∧ TriplesOk qs.toList ∧ ∀ (pos : Pos) (cv : Value), codeAmong pos qs.toList = some cv → ∃ c o vs t, cv = .ref c ∧ H c = some (.frz o (.own a)) ∧ o.data = .fields vs ∧ vs[1]? = some (.str (qualOf ps) t)
  | .met f x => h.get? a = some (PySem.W.methodObj (.ref f) (.ref x))
  | .ext φ => φ h ∧ (∃ o, h.get? a = some o) ∧ ∀ h1 h2 : Heap, φ h1 → (∀ o, h1.get? a = some o → h2.get? a = some o) → φ h2
noncomputable def HOk (H : Hp) (h : Heap) : Prop := ∀ a o, H a = some o → ObjOk P w H h a o
end

section
variable {P : Program} {w : World} {H H' : Hp} {h h' : Heap} {a : Addr} {o : HO}
theorem ObjOk.lt (x : ObjOk P w H h a o) : a < h.objs.size := by
  cases o with
  | lst xs => obtain ⟨_, _, _, _, e⟩ := x; exact Heap.lt_size e
  | tup xs => obtain ⟨_, _, _, p⟩ := x; exact p.lt
  | dK kvs => obtain ⟨_, _, _, _, o, _, _, e, _⟩ := x; exact Heap.lt_size e
  | dT kvs => obtain ⟨_, _, _, _, o, _, _, e, _⟩ := x; exact Heap.lt_size e
  | set S n => obtain ⟨o, _, _, _, e, _⟩ := x; exact Heap.lt_size e
  | ins C dx fs => obtain ⟨_, _, _, e, _⟩ := x; exact Heap.lt_size e
  | own y => obtain ⟨_, e⟩ := x; exact Heap.lt_size e
  | xd fs => obtain ⟨_, ⟨_, _, _, e, _⟩, _⟩ := x; exact Heap.lt_size e
  | rng lo hi => obtain ⟨_, _, _, e⟩ := x; exact Heap.lt_size e
  | frz ob u => obtain ⟨e, _⟩ := x; exact Heap.lt_size e
  | tbl ps => obtain ⟨_, e, _⟩ := x; exact Heap.lt_size e
  | met f y => exact Heap.lt_size (show h.get? a = some _ from x)
  | ext φ => obtain ⟨_, ⟨_, e⟩, _⟩ := x; exact Heap.lt_size e
theorem Paired.mapP {α β : Type} {F G : α → β → Prop} : ∀ {l₁ : List α} {l₂ : List β}, Paired F l₁ l₂ → (∀ a b, F a b → G a b) → Paired G l₁ l₂
  | _, _, .nil, _ => .nil
  | _, _, .cons r t, f => .cons (f _ _ r) (Paired.mapP t f)
theorem ObjOk.stay (x : ObjOk P w H h a o) (k : ∀ b u, (b = a ∨ H b = some (.own a)) → h.get? b = some u → h'.get? b = some u)
    (ho : ∀ b, H b = some (.own a) → H' b = some (.own a)) (ht : ∀ b xs, H b = some (.tup xs) → H' b = some (.tup xs)) (hz : ∀ b o u, H b = some (.frz o u) → H' b = some (.frz o u) := by exact fun _ _ _ q => q) : ObjOk P w H' h' a o := by
  induction o with
  | lst xs => obtain ⟨z, its, n, r, e⟩ := x; exact ⟨z, its, n, r, k _ _ (.inl rfl) e⟩
  | tup xs => obtain ⟨z, its, r, ob, e, c⟩ := x; exact ⟨z, its, r, ob, k _ _ (.inl rfl) e, c⟩
  | dK kvs => obtain ⟨z, y, vs, r, ob, es, ep, e, c⟩ := x; exact ⟨z, y, vs, r, ob, es, ep, k _ _ (.inl rfl) e, c⟩
  | dT kvs =>
    obtain ⟨z, y, xs, r, ob, es, ep, e, c⟩ := x
    exact ⟨z, y, xs, Paired.mapP r fun p q z => ⟨z.1, ht _ _ z.2.1, z.2.2⟩, ob, es, ep, k _ _ (.inl rfl) e, c⟩
  | set S n => obtain ⟨ob, es, ep, t, e, c⟩ := x; exact ⟨ob, es, ep, t, k _ _ (.inl rfl) e, c⟩
  | ins C dx fs =>
    obtain ⟨d, z, ne, e, mA, ⟨od, es, ep, e2, c⟩, r⟩ := x
    exact ⟨ho _ d, z, ne, k _ _ (.inl rfl) e, mA, ⟨od, es, ep, k _ _ (.inr d) e2, c⟩, r⟩
  | own y => obtain ⟨ob, e⟩ := x; exact ⟨ob, k _ _ (.inl rfl) e⟩
  | xd fs => obtain ⟨mA, ⟨od, es, ep, e, c⟩, r⟩ := x; exact ⟨mA, ⟨od, es, ep, k _ _ (.inl rfl) e, c⟩, r⟩
  | rng lo hi => obtain ⟨t, u, v, e⟩ := x; exact ⟨t, u, v, k _ _ (.inl rfl) e⟩
  | frz ob u ih => obtain ⟨e, q⟩ := x; exact ⟨k _ _ (.inl rfl) e, ih q⟩
  | tbl ps =>
    obtain ⟨qs, e, tr, c⟩ := x
    refine ⟨qs, k _ _ (.inl rfl) e, tr, fun pos cv q => ?_⟩
    obtain ⟨c', o', vs, tk, e1, e2, e3⟩ := c pos cv q
    exact ⟨c', o', vs, tk, e1, hz _ _ _ e2, e3⟩
  | met f y =>
    have e : h.get? a = some (PySem.W.methodObj (.ref f) (.ref y)) := x
    show h'.get? a = some (PySem.W.methodObj (.ref f) (.ref y))
    exact k a _ (.inl rfl) e
  | ext φ => obtain ⟨p, ⟨o, e⟩, st⟩ := x; exact ⟨st _ _ p fun o q => k _ _ (.inl rfl) q, ⟨o, k _ _ (.inl rfl) e⟩, st⟩
theorem HOk.lt (x : HOk P w H h) (e : H a = some o) : a < h.objs.size := (x a o e).lt
theorem HOk.fresh (x : HOk P w H h) (e : h.objs.size ≤ a) : H a = none := by
  cases q : H a with
  | none => rfl
  | some u => exact absurd (Nat.lt_of_lt_of_le (x.lt q) e) (Nat.lt_irrefl _)
theorem HOk.kept (x : HOk P w H h) (k : ∀ b u, h.get? b = some u → h'.get? b = some u) : HOk P w H h' := fun a o e =>
  (x a o e).stay (fun b u _ q => k b u q) (fun _ q => q) fun _ _ q => q
theorem HOk.laid (x : HOk P w H h) (k : ∀ b u, h.get? b = some u → h'.get? b = some u) (hp : h.objs.size ≤ a) (new : ObjOk P w (upd H a o) h' a o) : HOk P w (upd H a o) h' := fun b u e => by
  have hn := x.fresh hp
  by_cases hb : b = a
  · subst hb; rw [upd_same] at e; cases e; exact new
  · rw [upd_ne hb] at e
    exact (x b u e).stay (fun c v _ q => k c v q) (fun c q => by rw [upd_ne (ne_of_none q hn)]; exact q) (fun c xs q => by rw [upd_ne (ne_of_none q hn)]; exact q) fun c ob u q => by rw [upd_ne (ne_of_none q hn)]; exact q
end

noncomputable def Rd (H : Hp) (a : Addr) (u : HO) : Prop := H a = some u ∨ ∃ o, H a = some (.frz o u)
theorem Rd.ok {P : Program} {w : World} {H : Hp} {h : Heap} {a : Addr} {u : HO} (r : Rd H a u) (x : HOk P w H h) : ObjOk P w H h a u := by
  rcases r with r | ⟨o, r⟩
  · exact x a u r
  · obtain ⟨_, q⟩ := x a _ r
    exact q
noncomputable def Mut : Option HO → Prop
  | some (.lst _) => True
  | some (.dK _) => True
  | some (.dT _) => True
  | some (.set _ _) => True
  | some (.ins _ _ _) => True
  | some (.ext _) => True
  | _ => False
section
variable {P : Program} {w : World} {H : Hp} {h h' : Heap} {x e : Addr} {o' : HO}
theorem HOk.write (ok : HOk P w H h) (mu : Mut (H x)) (he : e = x ∨ H e = some (.own x)) (k : ∀ b u, b ≠ e → h.get? b = some u → h'.get? b = some u) (heo : ∃ u, h'.get? e = some u)
    (new : ObjOk P w (upd H x o') h' x o') : HOk P w (upd H x o') h' := fun b u q => by
  have nown : ∀ c y, H c = some (.own y) → c ≠ x := fun c y r z => by subst z; rw [r] at mu; exact mu
  have ntup : ∀ c xs, H c = some (.tup xs) → c ≠ x := fun c xs r z => by subst z; rw [r] at mu; exact mu
  have nfrz : ∀ c ob u, H c = some (.frz ob u) → c ≠ x := fun c ob u r z => by subst z; rw [r] at mu; exact mu
  by_cases hb : b = x
  · subst hb; rw [upd_same] at q; cases q; exact new
  · rw [upd_ne hb] at q
    by_cases hbe : b = e
    · have q' : H b = some (.own x) := by
        rcases he with z | z
        · exact absurd (hbe.trans z) hb
        · rw [hbe]; exact z
      rw [q] at q'; cases q'
      obtain ⟨v, hv⟩ := heo
      exact ⟨v, by rw [hbe]; exact hv⟩
    · refine (ok b u q).stay (fun c v hc r => k c v ?_ r) (fun c r => by rw [upd_ne (nown c b r)]; exact r) (fun c xs r => by rw [upd_ne (ntup c xs r)]; exact r) fun c ob u r => by rw [upd_ne (nfrz c ob u r)]; exact r
      rcases hc with rfl | hc
      · exact hbe
      · rintro rfl
        rcases he with z | z
        · exact nown c b hc z
        · rw [hc] at z; cases z; exact hb rfl
end

structure Un (fs ex : List Addr) (H H' : Hp) (h h' : Heap) : Prop where
  keep : ∀ b o, h.get? b = some o → H b = none → b ∉ fs → b ∉ ex → h'.get? b = some o
  slot : ∀ b o, h.get? b = some o → H b = none → b ∈ fs → b ∉ ex → ∃ sl, h'.get? b = some { o with slots := sl }
  free : ∀ b o, h.get? b = some o → H b = none → b ∉ ex → H' b = none
  there : ∀ b o, h.get? b = some o → b ∉ ex → ∃ o', h'.get? b = some o'
  tups : ∀ b xs, H b = some (.tup xs) → H' b = some (.tup xs)
  frzs : ∀ b o u, H b = some (.frz o u) → H' b = some (.frz o u)
  tbls : ∀ b ps, H b = some (.tbl ps) → ∃ more, H' b = some (.tbl (ps ++ more))
section
variable {fs fs' ex ex' : List Addr} {H H1 H2 : Hp} {h h1 h2 h' : Heap} {a x e : Addr} {o : HO}
theorem Un.any (u : Un fs ex H H1 h h1) {b : Addr} {ob : Obj} (q : h.get? b = some ob) (n : H b = none) (hx : b ∉ ex) : ∃ sl, h1.get? b = some { ob with slots := sl } := by
  by_cases hb : b ∈ fs
  · exact u.slot b ob q n hb hx
  · exact ⟨ob.slots, u.keep b ob q n hb hx⟩
theorem Un.kept (k : ∀ b u, h.get? b = some u → h'.get? b = some u) : Un fs ex H H h h' :=
  ⟨fun b ob q _ _ _ => k b ob q, fun b ob q _ _ _ => ⟨ob.slots, k b ob q⟩, fun _ _ _ n _ => n, fun b ob q _ => ⟨ob, k b ob q⟩, fun _ _ q => q, fun _ _ _ q => q, fun _ ps q => ⟨#[], by rw [q]; simp⟩⟩
theorem Un.refl : Un fs ex H H h h := Un.kept fun _ _ q => q
theorem Un.laid (k : ∀ b u, h.get? b = some u → h'.get? b = some u) (hp : h.objs.size ≤ a) (hn : H a = none) : Un fs ex H (upd H a o) h h' where
  keep := fun b u q _ _ _ => k b u q
  slot := fun b u q _ _ _ => ⟨u.slots, k b u q⟩
  free := fun b u q n _ => by rw [upd_ne (Nat.ne_of_lt (Nat.lt_of_lt_of_le (Heap.lt_size q) hp))]; exact n
  there := fun b u q _ => ⟨u, k b u q⟩
  tups := fun b xs q => by rw [upd_ne (ne_of_none q hn)]; exact q
  frzs := fun b u xs q => by rw [upd_ne (ne_of_none q hn)]; exact q
  tbls := fun b ps q => ⟨#[], by rw [upd_ne (ne_of_none q hn), q]; simp⟩
theorem Un.write (mu : Mut (H x)) (he : e = x ∨ H e = some (.own x)) (k : ∀ b u, b ≠ e → h.get? b = some u → h'.get? b = some u) (heo : ∃ u, h'.get? e = some u) : Un fs ex H (upd H x o) h h' := by
  have hx : ∀ b, H b = none → b ≠ x := fun b n z => by subst z; rw [n] at mu; exact mu
  have hb : ∀ b, H b = none → b ≠ e := fun b n z => by
    subst z
    rcases he with r | r
    · exact hx b n r
    · rw [n] at r; cases r
  have hm : ∀ b u, H b = some u → ¬ Mut (some u) → b ≠ x := fun b u q nm z => by subst z; rw [q] at mu; exact nm mu
  refine ⟨fun b u q n _ _ => k b u (hb b n) q, fun b u q n _ _ => ⟨u.slots, k b u (hb b n) q⟩, fun b u q n _ => by rw [upd_ne (hx b n)]; exact n, fun b u q _ => ?_,
    fun b xs q => by rw [upd_ne (hm b _ q fun z => z)]; exact q, fun b u xs q => by rw [upd_ne (hm b _ q fun z => z)]; exact q, fun b ps q => ⟨#[], by rw [upd_ne (hm b _ q fun z => z), q]; simp⟩⟩
  by_cases hbe : b = e
  · subst hbe; exact heo
  · exact ⟨u, k b u hbe q⟩
end

noncomputable def markOf : HO → Value
  | .tbl ps => if ps.size = 1 then ps.getD 0 .none else .none
  | _ => .none
noncomputable def hidO (H : Hp) (b : Addr) (o : Obj) : Obj := match H b with
  | none => (match o.data with | .freed => ⟨.none, none, .freed, #[]⟩ | _ => o)
  | some u => ⟨markOf u, none, .freed, #[]⟩
noncomputable def hidT (h : Heap) (H : Hp) : Heap := ⟨h.objs.mapIdx fun b o => hidO H b o, h.life⟩
theorem hidT_size (h : Heap) (H : Hp) : (hidT h H).objs.size = h.objs.size := Array.size_mapIdx
theorem get_objs {h : Heap} {b : Addr} {o : Obj} : h.get? b = some o ↔ h.objs[b]? = some o ∧ o.data ≠ .freed := by
  unfold Heap.get?
  constructor
  · intro e
    split at e
    · cases e
    · rename_i z
      refine ⟨e, fun q => ?_⟩
      obtain ⟨a, b, c, d⟩ := o
      cases q
      exact z _ _ _ e
  · rintro ⟨e, n⟩
    rw [e]
    obtain ⟨a, b, c, d⟩ := o
    split
    · rename_i q
      cases q
      exact absurd rfl n
    · rfl
theorem hidT_objs (h : Heap) (H : Hp) (b : Addr) : (hidT h H).objs[b]? = (h.objs[b]?).map (hidO H b) := Array.getElem?_mapIdx
theorem hidT_get {h : Heap} {H : Hp} {b : Addr} {o : Obj} (e : h.get? b = some o) (n : H b = none) : (hidT h H).get? b = some o := by
  obtain ⟨e1, e2⟩ := get_objs.1 e
  have z : hidO H b o = o := by
    unfold hidO
    rw [n]
    cases q : o.data <;> first | rfl | exact absurd q e2
  exact get_objs.2 ⟨by rw [hidT_objs, e1, Option.map_some, z], e2⟩
theorem of_hidT {h : Heap} {H : Hp} {b : Addr} {o : Obj} (e : (hidT h H).get? b = some o) : h.get? b = some o ∧ H b = none := by
  obtain ⟨e1, e2⟩ := get_objs.1 e
  rw [hidT_objs] at e1
  cases q : h.objs[b]? with
  | none => rw [q] at e1; cases e1
  | some o' =>
    rw [q, Option.map_some] at e1
    have e1 := Option.some.inj e1
    unfold hidO at e1
    cases hq : H b with
    | none =>
      rw [hq] at e1
      dsimp only at e1
      split at e1
      · rw [← e1] at e2; exact absurd rfl e2
      · exact ⟨get_objs.2 ⟨by rw [q, e1], e2⟩, rfl⟩
    | some u => rw [hq] at e1; dsimp only at e1; rw [← e1] at e2; exact absurd rfl e2
noncomputable def TabB (base : Heap) (p : Addr) (q : Str) : Prop := base.objs[p]? = some ⟨.str q 0, none, .freed, #[]⟩
noncomputable def TabsIn (base : Heap) (H : Hp) : Prop := ∀ p q, TabB base p q → ∃ more, H p = some (.tbl (#[.str q 0] ++ more))
theorem hidT_tab {h : Heap} {H : Hp} {p : Addr} {q : Str} {o : Obj} (e : h.objs[p]? = some o) (t : H p = some (.tbl #[.str q 0])) : TabB (hidT h H) p q := by
  unfold TabB
  rw [hidT_objs, e, Option.map_some]
  unfold hidO
  rw [t]
  rfl
theorem hidT_tabs (h : Heap) (H : Hp) : TabsIn (hidT h H) H := fun p q e => by
  unfold TabB at e
  rw [hidT_objs] at e
  cases z : h.objs[p]? with
  | none => rw [z] at e; cases e
  | some o =>
    rw [z, Option.map_some] at e
    have e := Option.some.inj e
    unfold hidO at e
    cases hq : H p with
    | none =>
      rw [hq] at e
      dsimp only at e
      split at e
      · cases e
      · rename_i n; rw [e] at n; exact absurd rfl n
    | some u =>
      rw [hq] at e
      have e := congrArg Obj.cls e
      cases u with
      | tbl ps =>
        dsimp only [markOf] at e
        split at e
        · rename_i n
          refine ⟨#[], ?_⟩
          obtain ⟨l⟩ := ps
          match l, n with
          | [v], _ => have : v = .str q 0 := e
                      rw [this]; rfl
        · cases e
      | _ => cases e
theorem TabsIn.un {base : Heap} {fs ex : List Addr} {H H' : Hp} {h h' : Heap} (t : TabsIn base H) (u : Un fs ex H H' h h') : TabsIn base H' := fun p q e => by
  obtain ⟨m1, z⟩ := t p q e
  obtain ⟨m2, z⟩ := u.tbls p _ z
  exact ⟨m1 ++ m2, by rw [z, Array.append_assoc]⟩

noncomputable def allNews (g h : Heap) (L : Addr) : List (Addr × Obj) := (List.range h.objs.size).filterMap fun a => if a = L ∨ (g.get? a).isSome = true then none else (h.get? a).map fun o => (a, o)
noncomputable def rest (g h : Heap) (L d : Addr) : List (Addr × Obj) := (allNews g h L).filter fun p => decide (p.1 ≠ d)
end L2

namespace L2
open PySem PySem.Spec PyProof.Rows

structure Mod (K : PySem.W.Frag) (mg : Str → Option Value) (base : Heap) : Prop where
  kin : K.In base
  glob : base.Ns mainGlobals mg
  blt : ∃ mb, base.Ns builtinsNs mb ∧ ∀ x : Str, x ≠ "__name__" → mb x = bootBuiltins x
  nolimit : base.NoLimit

structure Cx where
  prog : Program
  w : World
  K : PySem.W.Frag
  mg : Str → Option Value
  base : Heap
  A : Around
  N : List Str
  s₀ : Shared
  H₀ : Hp
  env : Env
  outer : List Env
  stack : List Env
  ex : List Addr
  fn : Str → Bool
  calm : Bool
  pn : List (Addr × Obj)
  xe : Value → Shared → Prop
noncomputable def frs (l : List Env) : List Addr := l.filterMap (·.frame)
noncomputable abbrev Cx.fs (X : Cx) : List Addr := frs X.outer

noncomputable def Vis (sc : Scope) (x : Str) : Prop := sc.names.lookup x = some .local ∨ sc.names.lookup x = some .cell ∨ sc.names.lookup x = some .free
noncomputable def Loc (sc : Scope) (x : Str) : Prop := sc.names.lookup x = some .local ∨ sc.names.lookup x = some .cell
noncomputable def Look (env : Env) (h : Heap) (m : Str → Option Value) (x : Str) (u : Value) : Prop :=
  (env.kindOf x = some .local ∧ m x = some u) ∨ ((env.kindOf x = some .cell ∨ env.kindOf x = some .free) ∧ ∃ c, env.cells.lookup x = some c ∧ h.IsCell c (some u))

structure Cx.Ok (X : Cx) : Prop where
  mod : Mod X.K X.mg X.base
  kind : X.env.scope.kind = .function
  glob : X.env.globals = mainGlobals
  blt : X.env.builtins = builtinsNs
  above : X.s₀.heap.objs.size ≤ X.env.locals
  inj : ∀ x y c, X.env.cells.lookup x = some c → X.env.cells.lookup y = some c → x = y
  has : ∀ x, (X.env.kindOf x = some .cell ∨ X.env.kindOf x = some .free) → ∃ c, X.env.cells.lookup x = some c
  cab : ∀ x c, X.fn x = true → X.env.cells.lookup x = some c → X.s₀.heap.objs.size ≤ c
  hd : X.calm = true → X.A.handled = none
  frames : X.A.frames = some X.stack
  stk : X.stack = X.outer ∨ (X.stack = X.env :: X.outer ∧ X.env.frame = some X.env.locals)
  exf : ∀ b ∈ X.ex, b ≠ X.env.locals ∧ ∀ x c, X.env.cells.lookup x = some c → c ≠ b
  bs : ∀ b o, X.base.get? b = some o → X.s₀.heap.get? b = some o ∧ X.H₀ b = none
  bsz : X.base.objs.size ≤ X.s₀.heap.objs.size
  noex : ∀ b o, X.base.get? b = some o → b ∉ X.ex
  exfs : ∀ b ∈ X.ex, b ∉ X.fs
  funs : X.s₀.heap.FunFrames X.base X.outer
  frf : ∀ b ∈ X.fs, X.H₀ b = none
  tabs : TabsIn X.base X.H₀

structure Inv (X : Cx) (pins : List (Addr × Obj)) (σ : List (Option V)) (H : Hp) (s : Shared) : Prop where
  ok : X.Ok
  os : s.os = X.s₀.os
  bare : AllBare s.gens
  base : Un X.fs X.ex X.H₀ H X.s₀.heap s.heap
  loc : ∃ m, s.heap.Ns X.env.locals m ∧ ∀ (i : Nat) (x : Str) (v : V), X.N[i]? = some x → σ[i]? = some (some v) → Vis X.env.scope x → ∃ u, RelV v u ∧ Look X.env s.heap m x u
  cell : ∀ x c, X.env.cells.lookup x = some c → ∃ v, s.heap.IsCell c v
  free : H X.env.locals = none
  freeC : ∀ x c, X.env.cells.lookup x = some c → H c = none
  pin : ∀ p ∈ X.pn ++ pins, s.heap.get? p.1 = some p.2 ∧ H p.1 = none ∧ p.1 ≠ X.env.locals ∧ p.1 ∉ X.fs ∧ ∀ v, p.2.data ≠ .cell v
  hok : HOk X.prog X.w H s.heap
  len : σ.length = X.N.length

section
variable {X : Cx} {pins : List (Addr × Obj)} {σ : List (Option V)} {H H' : Hp} {s : Shared} {h' : Heap}

theorem Cx.Ok.nofr (ok : X.Ok) {b : Addr} {o : Obj} (e : X.base.get? b = some o) : b ∉ X.fs := fun hb => by
  have := (ok.funs.mem hb).1
  rw [e] at this; cases this
theorem Inv.bs (I : Inv X pins σ H s) : ∀ b o, X.base.get? b = some o → s.heap.get? b = some o ∧ H b = none := fun b o e =>
  ⟨I.base.keep b o (I.ok.bs b o e).1 (I.ok.bs b o e).2 (I.ok.nofr e) (I.ok.noex b o e), I.base.free b o (I.ok.bs b o e).1 (I.ok.bs b o e).2 (I.ok.noex b o e)⟩
theorem Inv.bk (I : Inv X pins σ H s) : ∀ b o, X.base.get? b = some o → s.heap.get? b = some o := fun b o e => (I.bs b o e).1
theorem Inv.mod (I : Inv X pins σ H s) : Mod X.K X.mg X.base := I.ok.mod
theorem Inv.kIn (I : Inv X pins σ H s) : X.K.In s.heap := I.ok.mod.kin.keeps I.bk
theorem Inv.nolimit (I : Inv X pins σ H s) : s.heap.NoLimit := I.ok.mod.nolimit.keeps I.bk
theorem Inv.lt (I : Inv X pins σ H s) : X.env.locals < s.heap.objs.size := let ⟨_, hn, _⟩ := I.loc; hn.lt
theorem Inv.sz (I : Inv X pins σ H s) : X.s₀.heap.objs.size ≤ s.heap.objs.size := Nat.le_trans I.ok.above (Nat.le_of_lt I.lt)
theorem Inv.nofs (I : Inv X pins σ H s) {a : Addr} (h : s.heap.objs.size ≤ a) : a ∉ X.fs := fun hb => by
  obtain ⟨_, o, ho, _⟩ := I.ok.funs.mem hb
  exact absurd (Nat.lt_of_lt_of_le (Heap.lt_size ho) (Nat.le_trans I.sz h)) (Nat.lt_irrefl _)
theorem Inv.cne (I : Inv X pins σ H s) : ∀ x c, X.env.cells.lookup x = some c → c ≠ X.env.locals := fun x c e z => by
  obtain ⟨v, o, ho, hd⟩ := I.cell x c e
  obtain ⟨m, ⟨o', es, ep, ho', hd', _⟩, _⟩ := I.loc
  rw [z, ho'] at ho; cases ho; rw [hd'] at hd; cases hd
theorem Inv.funs (I : Inv X pins σ H s) : s.heap.FunFrames X.base X.outer := by
  have all : ∀ (l : List Env), (∀ b ∈ frs l, b ∈ X.fs) → X.s₀.heap.FunFrames X.base l → s.heap.FunFrames X.base l := by
    intro l
    induction l with
    | nil => intro _ _; trivial
    | cons env r ih =>
      intro hs hl
      obtain ⟨hk, ⟨L, o, hf, hn, ho, hd⟩, hr⟩ := hl
      have hL : L ∈ X.fs := hs L (by unfold frs; rw [List.filterMap_cons, hf]; exact List.mem_cons_self)
      obtain ⟨sl, e⟩ := I.base.slot L o ho (I.ok.frf L hL) hL fun z => I.ok.exfs L z hL
      exact ⟨hk, ⟨L, _, hf, hn, e, hd⟩, ih (fun b hb => hs b (by unfold frs; rw [List.filterMap_cons, hf]; exact List.mem_cons_of_mem _ hb)) hr⟩
  exact all X.outer (fun _ hb => hb) I.ok.funs

theorem Inv.stack (I : Inv X pins σ H s) : s.heap.FunFrames X.base X.stack := by
  rcases I.ok.stk with e | ⟨e, hf⟩
  · rw [e]; exact I.funs
  · rw [e]
    obtain ⟨m, hn, _⟩ := I.loc
    refine .cons (by rw [I.ok.kind]; decide) hf hn ?_ I.funs
    exact Heap.get?_none_of_le (Nat.le_trans I.ok.bsz I.ok.above)
theorem Inv.stkSub (I : Inv X pins σ H s) : ∀ b ∈ frs X.stack, b ∈ X.env.locals :: X.fs := fun b hb => by
  rcases I.ok.stk with e | ⟨e, hf⟩
  · rw [e] at hb; exact List.mem_cons_of_mem _ hb
  · rw [e] at hb
    unfold frs at hb
    rw [List.filterMap_cons, hf] at hb
    exact hb
theorem Inv.stkFree (I : Inv X pins σ H s) : ∀ b ∈ frs X.stack, H b = none := fun b hb => by
  rcases List.mem_cons.mp (I.stkSub b hb) with e | hb
  · rw [e]; exact I.free
  · obtain ⟨_, o, ho, _⟩ := I.ok.funs.mem hb
    exact I.base.free b o ho (I.ok.frf b hb) fun z => I.ok.exfs b z hb

theorem Inv.step {g' : Array GenState} {t' : Nat} {d' : Drawn} {ch : List Addr} (I : Inv X pins σ H s)
    (hch : ∀ b ∈ ch, (b ∈ X.ex ∨ X.s₀.heap.objs.size ≤ b) ∧ b ≠ X.env.locals ∧ (∀ x c, X.env.cells.lookup x = some c → c ≠ b) ∧ ∀ p ∈ X.pn ++ pins, p.1 ≠ b)
    (keep : ∀ b o, b ≠ X.env.locals → b ∉ X.fs → b ∉ ch → s.heap.get? b = some o → H b = none → h'.get? b = some o)
    (slot : ∀ b o, b ≠ X.env.locals → b ∈ X.fs → b ∉ ch → s.heap.get? b = some o → H b = none → ∃ sl, h'.get? b = some { o with slots := sl }) (free : ∀ b o, b ∉ ch → s.heap.get? b = some o → H b = none → H' b = none)
    (there : ∀ b o, b ∉ ch → s.heap.get? b = some o → ∃ o', h'.get? b = some o')
    (tups : ∀ b xs, H b = some (.tup xs) → H' b = some (.tup xs)) (frzs : ∀ b o u, H b = some (.frz o u) → H' b = some (.frz o u)) (tbls : ∀ b ps, H b = some (.tbl ps) → ∃ more, H' b = some (.tbl (ps ++ more)))
    (ns : ∀ m, s.heap.Ns X.env.locals m → h'.Ns X.env.locals m) (hok : HOk X.prog X.w H' h') (hg : AllBare g') :
    Inv X pins σ H' { s with heap := h', gens := g', drawn := d', toks := t' } := by
  have neL : ∀ b o, X.s₀.heap.get? b = some o → b ≠ X.env.locals := fun b o e => Nat.ne_of_lt (Nat.lt_of_lt_of_le (Heap.lt_size e) I.ok.above)
  have neC : ∀ b o, X.s₀.heap.get? b = some o → b ∉ X.ex → b ∉ ch := fun b o e hx hb => by
    rcases (hch b hb).1 with z | z
    · exact hx z
    · exact absurd (Nat.lt_of_lt_of_le (Heap.lt_size e) z) (Nat.lt_irrefl _)
  have cellK : ∀ x c, X.env.cells.lookup x = some c → ∀ v, s.heap.IsCell c v → h'.IsCell c v := fun x c e v ⟨o, ho, hd⟩ => by
    have nch : c ∉ ch := fun z => (hch c z).2.2.1 x c e rfl
    by_cases hc : c ∈ X.fs
    · obtain ⟨sl, q⟩ := slot c o (I.cne x c e) hc nch ho (I.freeC x c e)
      exact ⟨_, q, hd⟩
    · exact ⟨o, keep c o (I.cne x c e) hc nch ho (I.freeC x c e), hd⟩
  refine ⟨I.ok, I.os, hg, ⟨fun b o e n hb hx => ?_, fun b o e n hb hx => ?_, fun b o e n hx => ?_, fun b o e hx => ?_, fun b xs e => tups b xs (I.base.tups b xs e), fun b o xs e => frzs b o xs (I.base.frzs b o xs e), fun b ps e => ?_⟩, ?_, fun x c e => ?_, ?_, fun x c e => ?_, fun p hp => ?_, hok, I.len⟩
  · exact keep b o (neL b o e) hb (neC b o e hx) (I.base.keep b o e n hb hx) (I.base.free b o e n hx)
  · obtain ⟨sl, e1⟩ := I.base.slot b o e n hb hx
    obtain ⟨sl', e2⟩ := slot b _ (neL b o e) hb (neC b o e hx) e1 (I.base.free b o e n hx)
    exact ⟨sl', e2⟩
  · obtain ⟨o', e1⟩ := I.base.there b o e hx
    exact free b o' (neC b o e hx) e1 (I.base.free b o e n hx)
  · obtain ⟨o', e1⟩ := I.base.there b o e hx
    exact there b o' (neC b o e hx) e1
  · obtain ⟨m1, e1⟩ := I.base.tbls b ps e
    obtain ⟨m2, e2⟩ := tbls b _ e1
    exact ⟨m1 ++ m2, by rw [e2, Array.append_assoc]⟩
  · obtain ⟨m, hn, hl⟩ := I.loc
    refine ⟨m, ns m hn, fun i x v e1 e2 e3 => ?_⟩
    obtain ⟨u, r, l⟩ := hl i x v e1 e2 e3
    refine ⟨u, r, ?_⟩
    rcases l with l | ⟨k, c, e, z⟩
    · exact .inl l
    · exact .inr ⟨k, c, e, cellK x c e _ z⟩
  · obtain ⟨v, z⟩ := I.cell x c e
    exact ⟨v, cellK x c e v z⟩
  · obtain ⟨m, ⟨o, _, _, ho, _⟩, _⟩ := I.loc
    exact free _ o (fun z => (hch _ z).2.1 rfl) ho I.free
  · obtain ⟨v, o, ho, hd⟩ := I.cell x c e
    exact free c o (fun z => (hch c z).2.2.1 x c e rfl) ho (I.freeC x c e)
  · obtain ⟨e, n, ne, nf, d⟩ := I.pin p hp
    have nch : p.1 ∉ ch := fun z => (hch p.1 z).2.2.2 p hp rfl
    exact ⟨keep p.1 p.2 ne nf nch e n, free p.1 p.2 nch e n, ne, nf, d⟩
theorem Inv.un {t' : Nat} (I : Inv X pins σ H s) (u : Un X.fs [] H H' s.heap h') (hok : HOk X.prog X.w H' h') : Inv X pins σ H' { s with heap := h', toks := t' } := by
  obtain ⟨m, ⟨o, es, ep, ho, r⟩, _⟩ := id I.loc
  obtain ⟨sl, hL⟩ := u.any ho I.free (by simp)
  exact I.step (g' := s.gens) (d' := s.drawn) (ch := []) (fun _ z => nomatch z) (fun b o _ hb _ e n => u.keep b o e n hb (by simp)) (fun b o _ hb _ e n => u.slot b o e n hb (by simp)) (fun b o _ e n => u.free b o e n (by simp)) (fun b o _ e => u.there b o e (by simp)) u.tups u.frzs u.tbls (fun m' hm => by
    obtain ⟨o', es', ep', ho', r'⟩ := hm
    rw [ho] at ho'; cases ho'
    exact ⟨_, es', ep', hL, r'⟩) hok I.bare
theorem Inv.call {g' : Array GenState} {t' : Nat} {d' : Drawn} {ch : List Addr} (I : Inv X pins σ H s) (u : Un (frs X.stack) ch H H' s.heap h') (hok : HOk X.prog X.w H' h') (hg : AllBare g')
    (hch : ∀ b ∈ ch, (b ∈ X.ex ∨ X.s₀.heap.objs.size ≤ b) ∧ b ≠ X.env.locals ∧ (∀ x c, X.env.cells.lookup x = some c → c ≠ b) ∧ ∀ p ∈ X.pn ++ pins, p.1 ≠ b) :
    Inv X pins σ H' { s with heap := h', gens := g', drawn := d', toks := t' } := by
  obtain ⟨m, ⟨o, es, ep, ho, r⟩, _⟩ := id I.loc
  obtain ⟨sl, hL⟩ := u.any ho I.free fun z => (hch _ z).2.1 rfl
  exact I.step (ch := ch) hch (fun b o hL hb hc e n => u.keep b o e n (fun z => (List.mem_cons.mp (I.stkSub b z)).elim hL hb) hc) (fun b o _ _ hc e n => u.any e n hc) (fun b o hc e n => u.free b o e n hc) (fun b o hc e => u.there b o e hc) u.tups u.frzs u.tbls (fun m' hm => by
    obtain ⟨o', es', ep', ho', r'⟩ := hm
    rw [ho] at ho'; cases ho'
    exact ⟨_, es', ep', hL, r'⟩) hok hg
theorem Inv.turned {t' : Nat} {it : Addr} (I : Inv X pins σ H s) (k : ∀ b o, b ≠ it → s.heap.get? b = some o → h'.get? b = some o) (hn : H it = none) (hL : it ≠ X.env.locals)
    (h1 : it ∈ X.ex ∨ X.s₀.heap.objs.size ≤ it) (h2 : ∀ x c, X.env.cells.lookup x = some c → c ≠ it) (h3 : ∀ p ∈ X.pn ++ pins, p.1 ≠ it) : Inv X pins σ H { s with heap := h', toks := t' } := by
  have nit : ∀ b u, H b = some u → b ≠ it := fun b u e z => by rw [z, hn] at e; cases e
  refine I.step (g' := s.gens) (d' := s.drawn) (ch := [it]) (fun b hb => ?_) (fun b o _ _ hc e _ => k b o (fun z => hc (by simp [z])) e) (fun b o _ _ hc e _ => ⟨o.slots, k b o (fun z => hc (by simp [z])) e⟩) (fun _ _ _ _ n => n)
    (fun b o hc e => ⟨o, k b o (fun z => hc (by simp [z])) e⟩) (fun _ _ e => e) (fun _ _ _ e => e) (fun b ps e => ⟨#[], by rw [e]; simp⟩) (fun m hm => ?_) (fun b u e => ?_) I.bare
  · have e : b = it := by simpa using hb
    subst e
    exact ⟨h1, hL, h2, h3⟩
  · obtain ⟨o, es, ep, ho, r⟩ := hm
    exact ⟨o, es, ep, k _ o (Ne.symm hL) ho, r⟩
  · refine (I.hok b u e).stay (fun c v hc q => k c v ?_ q) (fun _ q => q) fun _ _ q => q
    rcases hc with z | z
    · rw [z]; exact nit b u e
    · exact nit c _ z
theorem Inv.tok (I : Inv X pins σ H s) (t : Nat) : Inv X pins σ H { s with toks := t } := I.un (h' := s.heap) (t' := t) Un.refl I.hok
theorem Inv.kept {t' : Nat} (I : Inv X pins σ H s) (k : ∀ b u, s.heap.get? b = some u → h'.get? b = some u) : Inv X pins σ H { s with heap := h', toks := t' } := I.un (Un.kept k) (I.hok.kept k)
theorem Inv.laid {a : Addr} {o : HO} {t' : Nat} (I : Inv X pins σ H s) (k : ∀ b u, s.heap.get? b = some u → h'.get? b = some u) (hp : s.heap.objs.size ≤ a) (new : ObjOk X.prog X.w (upd H a o) h' a o) :
    Inv X pins σ (upd H a o) { s with heap := h', toks := t' } := I.un (Un.laid k hp (I.hok.fresh hp)) (I.hok.laid k hp new)
theorem Inv.write {x e : Addr} {o : HO} {t' : Nat} (I : Inv X pins σ H s) (mu : Mut (H x)) (he : e = x ∨ H e = some (.own x)) (k : ∀ b u, b ≠ e → s.heap.get? b = some u → h'.get? b = some u) (heo : ∃ u, h'.get? e = some u)
    (new : ObjOk X.prog X.w (upd H x o) h' x o) : Inv X pins σ (upd H x o) { s with heap := h', toks := t' } := I.un (Un.write mu he k heo) (I.hok.write mu he k heo new)
theorem Inv.pins_of {pins' : List (Addr × Obj)} (I : Inv X pins σ H s) (h : ∀ p ∈ pins', s.heap.get? p.1 = some p.2 ∧ H p.1 = none ∧ p.1 ≠ X.env.locals ∧ p.1 ∉ X.fs ∧ ∀ v, p.2.data ≠ .cell v) : Inv X pins' σ H s :=
  ⟨I.ok, I.os, I.bare, I.base, I.loc, I.cell, I.free, I.freeC, fun p hp => (List.mem_append.mp hp).elim (fun z => I.pin p (List.mem_append_left _ z)) (h p), I.hok, I.len⟩

theorem nodup_ix {N : List Str} (hN : N.Nodup) {i j : Nat} {x : Str} (a : N[i]? = some x) (b : N[j]? = some x) : i = j := by
  obtain ⟨h1, e1⟩ := List.getElem?_eq_some_iff.mp a
  obtain ⟨h2, e2⟩ := List.getElem?_eq_some_iff.mp b
  exact (List.getElem_inj hN).mp (e1.trans e2.symm)

theorem store_ok2 {M : Model} {A : Around} {E : Value → Shared → Prop} {i : Nat} {x : Str} {v : V} {u : Value} {Q : Unit → Shared → Prop} (I : Inv X pins σ H s) (hN : X.N.Nodup) (hi : X.N[i]? = some x) (hx : Loc X.env.scope x) (r : RelV v u)
    (h : ∀ s', Inv X pins (σ.set i (some v)) H s' → (∃ a, Heap.SameBut a s.heap s'.heap ∧ (a = X.env.locals ∨ X.env.cells.lookup x = some a)) → Q () s') (hf : X.fn x = true ∨ X.env.scope.names.lookup x = some .local := by first | exact .inl rfl | exact .inr rfl | assumption) : wpAny M A (storeName X.env x u) Q E s := by
  obtain ⟨m, hn, hl⟩ := id I.loc
  have hcls : (X.env.scope.kind == .class || (X.env.scope.kind == .module && X.env.locals != X.env.globals)) = false := by rw [I.ok.kind]; rfl
  have hiσ : i < σ.length := by rw [I.len]; exact (List.getElem?_eq_some_iff.mp hi).1
  have cne := I.cne
  have tracked : ∀ {a : Addr} {h' : Heap}, (∃ o, s.heap.get? a = some o ∧ H a = none) → Heap.SameBut a s.heap h' → HOk X.prog X.w H h' := fun {a h'} ha hs b ob e => by
    obtain ⟨_, _, hfree⟩ := ha
    refine (I.hok b ob e).stay (fun c w' hc q => (hs.2 c ?_).trans q) (fun _ q => q) fun _ _ q => q
    rintro rfl
    rcases hc with rfl | hc
    · rw [hfree] at e; cases e
    · rw [hfree] at hc; cases hc
  rcases hx with hk | hk
  · refine wpAny_storeName_local hk hn (fun h' hn' hs => ?_) hcls
    obtain ⟨oL, _, _, hoL, _⟩ := id hn
    refine h _ ⟨I.ok, I.os, I.bare, ⟨fun b o e n hb hx => ?_, fun b o e n hb hx => ?_, I.base.free, fun b o e hx => ?_, I.base.tups, I.base.frzs, I.base.tbls⟩, ⟨_, hn', fun j y v' e1 e2 e3 => ?_⟩, fun y c e => ?_, I.free, I.freeC, fun p hp => ?_, tracked ⟨oL, hoL, I.free⟩ hs, by simpa using I.len⟩ ⟨_, hs, .inl rfl⟩
    · exact (hs.2 b (Nat.ne_of_lt (Nat.lt_of_lt_of_le (Heap.lt_size e) I.ok.above))).trans (I.base.keep b o e n hb hx)
    · obtain ⟨sl, e1⟩ := I.base.slot b o e n hb hx
      exact ⟨sl, (hs.2 b (Nat.ne_of_lt (Nat.lt_of_lt_of_le (Heap.lt_size e) I.ok.above))).trans e1⟩
    · obtain ⟨o', e1⟩ := I.base.there b o e hx
      exact ⟨o', (hs.2 b (Nat.ne_of_lt (Nat.lt_of_lt_of_le (Heap.lt_size e) I.ok.above))).trans e1⟩
    · by_cases hj : j = i
      · subst hj
        rw [hi] at e1; cases e1
        rw [List.getElem?_set_self hiσ] at e2
        cases e2
        exact ⟨u, r, .inl ⟨hk, by simp⟩⟩
      · rw [List.getElem?_set_ne (Ne.symm hj)] at e2
        obtain ⟨u', r', q⟩ := hl j y v' e1 e2 e3
        refine ⟨u', r', ?_⟩
        rcases q with ⟨k, e⟩ | ⟨k, c, e, z⟩
        · refine .inl ⟨k, ?_⟩
          have : y ≠ x := fun e => hj (nodup_ix hN e1 (e ▸ hi))
          simp [this, e]
        · exact .inr ⟨k, c, e, z.sameBut hs (cne y c e)⟩
    · obtain ⟨w', z⟩ := I.cell y c e
      exact ⟨w', z.sameBut hs (cne y c e)⟩
    · obtain ⟨e, n, ne, nf, d⟩ := I.pin p hp
      exact ⟨(hs.2 p.1 ne).trans e, n, ne, nf, d⟩
  · have hfn : X.fn x = true := by
      rcases hf with z | z
      · exact z
      · rw [z] at hk; cases hk
    obtain ⟨c, hc⟩ := I.ok.has x (.inl hk)
    obtain ⟨w', z⟩ := I.cell x c hc
    refine wpAny_storeName_cell I.ok.kind hk hc z (fun h' hc' hs => ?_)
    obtain ⟨oc, hoc, hocd⟩ := id z
    refine h { s with heap := h' } ⟨I.ok, I.os, I.bare, ⟨fun b o e n hb hx => ?_, fun b o e n hb hx => ?_, I.base.free, fun b o e hx => ?_, I.base.tups, I.base.frzs, I.base.tbls⟩, ⟨m, hn.sameBut hs (Ne.symm (cne x c hc)), fun j y v' e1 e2 e3 => ?_⟩, fun y c' e => ?_, I.free, I.freeC, fun p hp => ?_, tracked ⟨oc, hoc, I.freeC x c hc⟩ hs, by simpa using I.len⟩ ⟨c, hs, .inr hc⟩
    · exact (hs.2 b (Nat.ne_of_lt (Nat.lt_of_lt_of_le (Heap.lt_size e) (I.ok.cab x c hfn hc)))).trans (I.base.keep b o e n hb hx)
    · obtain ⟨sl, e1⟩ := I.base.slot b o e n hb hx
      exact ⟨sl, (hs.2 b (Nat.ne_of_lt (Nat.lt_of_lt_of_le (Heap.lt_size e) (I.ok.cab x c hfn hc)))).trans e1⟩
    · obtain ⟨o', e1⟩ := I.base.there b o e hx
      exact ⟨o', (hs.2 b (Nat.ne_of_lt (Nat.lt_of_lt_of_le (Heap.lt_size e) (I.ok.cab x c hfn hc)))).trans e1⟩
    · by_cases hj : j = i
      · subst hj
        rw [hi] at e1; cases e1
        rw [List.getElem?_set_self hiσ] at e2
        cases e2
        exact ⟨u, r, .inr ⟨.inl hk, c, hc, hc'⟩⟩
      · rw [List.getElem?_set_ne (Ne.symm hj)] at e2
        obtain ⟨u', r', q⟩ := hl j y v' e1 e2 e3
        refine ⟨u', r', ?_⟩
        rcases q with q | ⟨k, c', e, z'⟩
        · exact .inl q
        · refine .inr ⟨k, c', e, z'.sameBut hs ?_⟩
          rintro rfl
          exact hj (nodup_ix hN e1 (I.ok.inj _ _ _ e hc ▸ hi))
    · by_cases hcc : c' = c
      · subst hcc; exact ⟨_, hc'⟩
      · obtain ⟨w2, z2⟩ := I.cell y c' e
        exact ⟨w2, z2.sameBut hs hcc⟩
    · obtain ⟨e, n, ne, nf, d⟩ := I.pin p hp
      refine ⟨(hs.2 p.1 ?_).trans e, n, ne, nf, d⟩
      intro q
      rw [q, hoc] at e
      have q' : oc = p.2 := Option.some.inj e
      exact d w' (by rw [← q']; exact hocd)
theorem store_ok {M : Model} {A : Around} {E : Value → Shared → Prop} {i : Nat} {x : Str} {v : V} {u : Value} {Q : Unit → Shared → Prop} (I : Inv X pins σ H s) (hN : X.N.Nodup) (hi : X.N[i]? = some x) (hx : Loc X.env.scope x) (r : RelV v u)
    (h : ∀ s', Inv X pins (σ.set i (some v)) H s' → Q () s') (hf : X.fn x = true ∨ X.env.scope.names.lookup x = some .local := by first | exact .inl rfl | exact .inr rfl | assumption) : wpAny M A (storeName X.env x u) Q E s :=
  store_ok2 I hN hi hx r (fun s' I' _ => h s' I') hf
theorem Inv.call' {s' : Shared} {ch : List Addr} (I : Inv X pins σ H s) (ho : s'.os = s.os) (u : Un (frs X.stack) ch H H' s.heap s'.heap) (hok : HOk X.prog X.w H' s'.heap) (hg : AllBare s'.gens)
    (hch : ∀ b ∈ ch, (b ∈ X.ex ∨ X.s₀.heap.objs.size ≤ b) ∧ b ≠ X.env.locals ∧ (∀ x c, X.env.cells.lookup x = some c → c ≠ b) ∧ ∀ p ∈ X.pn ++ pins, p.1 ≠ b) : Inv X pins σ H' s' := by
  obtain ⟨h', g', d', t', o'⟩ := s'
  have e : o' = s.os := ho
  subst e
  exact I.call (g' := g') (t' := t') (d' := d') u hok hg hch
end

noncomputable abbrev XK := Value → Option Addr → Hp → Prop
noncomputable abbrev St := List (Option V)
noncomputable abbrev VK := V → Hp → Prop
noncomputable abbrev TE := St → Hp → VK → Prop
noncomputable abbrev TT := St → Hp → (Bool → Hp → Prop) → Prop
noncomputable abbrev TA := St → Hp → (List V → Hp → Prop) → Prop
structure Ends where
  nx : St → Hp → Prop
  rt : VK
  bk : St → Hp → Prop := fun _ _ => False
  ct : St → Hp → Prop := fun _ _ => False
noncomputable abbrev TS := Ends → St → Hp → Prop

noncomputable def EP (X : Cx) (pins : List (Addr × Obj)) (σ : St) (Q : VK) (u : Value) (s' : Shared) : Prop := ∃ v H', Inv X pins σ H' s' ∧ RelV v u ∧ Q v H'
noncomputable def TP (X : Cx) (pins : List (Addr × Obj)) (σ : St) (Q : Bool → Hp → Prop) (b : Bool) (s' : Shared) : Prop := ∃ H', Inv X pins σ H' s' ∧ Q b H'
noncomputable def AP (X : Cx) (pins : List (Addr × Obj)) (σ : St) (Q : List V → Hp → Prop) (us : List Value) (s' : Shared) : Prop := ∃ vs H', Inv X pins σ H' s' ∧ Vals vs us ∧ Q vs H'
noncomputable def SP (X : Cx) (pins : List (Addr × Obj)) (D : Ends) (f : Flow) (s' : Shared) : Prop :=
  match f with
  | .next => ∃ σ' H', Inv X pins σ' H' s' ∧ D.nx σ' H'
  | .brk => ∃ σ' H', Inv X pins σ' H' s' ∧ D.bk σ' H'
  | .cont => ∃ σ' H', Inv X pins σ' H' s' ∧ D.ct σ' H'
  | .ret u => ∃ v σ' H', Inv X pins σ' H' s' ∧ RelV v u ∧ D.rt v H'

noncomputable def PE (X : Cx) (e : Expr) (t : TE) : Prop :=
  ∀ (pins : List (Addr × Obj)) (s : Shared) (σ : St) (H : Hp) (Q : VK), Inv X pins σ H s → t σ H Q → wpAny (model X.prog X.w) X.A (eval e X.env) (EP X pins σ Q) X.xe s
noncomputable def PT (X : Cx) (e : Expr) (t : TT) : Prop :=
  ∀ (pins : List (Addr × Obj)) (s : Shared) (σ : St) (H : Hp) (Q : Bool → Hp → Prop), Inv X pins σ H s → t σ H Q → wpAny (model X.prog X.w) X.A (isTrue e X.env (eval e X.env)) (TP X pins σ Q) X.xe s
noncomputable def PW (X : Cx) (e : Expr) (t : TT) : Prop :=
  ∀ (whole : Sem Value) (pins : List (Addr × Obj)) (s : Shared) (σ : St) (H : Hp) (Q : Bool → Hp → Prop), Inv X pins σ H s → t σ H Q → wpAny (model X.prog X.w) X.A (isTrue e X.env whole) (TP X pins σ Q) X.xe s
noncomputable def PA (X : Cx) (es : List Expr) (t : TA) : Prop :=
  ∀ (pos : Pos) (pins : List (Addr × Obj)) (s : Shared) (σ : St) (H : Hp) (Q : List V → Hp → Prop), Inv X pins σ H s → t σ H Q → wpAny (model X.prog X.w) X.A (spliced (backTo pos (starEach es X.env))) (AP X pins σ Q) X.xe s
noncomputable def PS (X : Cx) (st : Stmt) (t : TS) : Prop :=
  ∀ (pins : List (Addr × Obj)) (s : Shared) (σ : St) (H : Hp) (D : Ends), Inv X pins σ H s → t D σ H → wpAny (model X.prog X.w) X.A (exec st X.env) (SP X pins D) X.xe s
noncomputable def PSs (X : Cx) (st : List Stmt) (t : TS) : Prop :=
  ∀ (pins : List (Addr × Obj)) (s : Shared) (σ : St) (H : Hp) (D : Ends), Inv X pins σ H s → t D σ H → wpAny (model X.prog X.w) X.A (execs st X.env) (SP X pins D) X.xe s
theorem thn {α : Type} {t : Sem α} {Q Q' : α → Shared → Prop} {M : Model} {A : Around} {E : Value → Shared → Prop} {s : Shared} (h : wpAny M A t Q E s) (hQ : ∀ a s, Q a s → Q' a s) : wpAny M A t Q' E s := wpAny_mono h hQ fun _ _ x => x
end L2

namespace L2
open PySem PySem.Spec PyProof.Rows
section
variable {X : Cx}

noncomputable def tVar (i : Nat) : TE := fun σ H Q => ∃ v, σ[i]? = some (some v) ∧ Q v H
noncomputable def tC (v : V) : TE := fun _ H Q => Q v H
theorem pe_var {i : Nat} {x : Str} {pos : Pos} (hN : X.N[i]? = some x) (hv : Vis X.env.scope x) (hd : (x == ("__debug__" : Str)) = false := by decide) (hcd : (x == ("__classdict__" : Str)) = false := by decide) : PE X (.Name x pos) (tVar i) := by
  intro pins s σ H Q I h
  obtain ⟨v, e, h⟩ := h
  obtain ⟨m, hn, hl⟩ := I.loc
  obtain ⟨u, r, l⟩ := hl i x v hN e hv
  have fin : EP X pins σ Q u s := ⟨v, H, I, r, h⟩
  rcases l with ⟨hk, hm⟩ | ⟨hk, c, hc, hcell⟩
  · exact wpAny_Name (wpAny_loadName_local I.ok.kind hk hn hm fin) hd
  · rcases hk with hk | hk
    · exact wpAny_Name (wpAny_loadName_cell I.ok.kind hk hc hcell fin) hd
    · exact wpAny_Name (wpAny_loadName_free I.ok.kind hk hc hcell fin hcd) hd
theorem pe_int {i j pos} : PE X (.Constant (.int i) j pos) (tC (.int i)) := fun _ _ _ H _ I h => wpAny_Constant_int ⟨.int i, H, I.tok _, ⟨_, rfl⟩, h⟩
theorem pe_bl {b j pos} : PE X (.Constant (.bool b) j pos) (tC (.bl b)) := fun _ _ _ H _ I h => Constant_bool ⟨.bl b, H, I, rfl, h⟩
theorem pe_str {x j pos} : PE X (.Constant (.str x) j pos) (tC (.str x)) := fun _ _ _ H _ I h => Calls.Constant_str ⟨.str x, H, I.tok _, ⟨_, rfl⟩, h⟩

noncomputable def Gl (X : Cx) (x : Str) : Prop := X.env.kindOf x = some .globalImplicit
theorem ld_glob {E : Value → Shared → Prop} {pins : List (Addr × Obj)} {s : Shared} {σ : St} {H : Hp} {x : Str} {u : Value} {pos : Pos} {Q : Value → Shared → Prop} (I : Inv X pins σ H s) (hg : Gl X x) (hm : X.mg x = some u) (h : Q u s)
    (hd : (x == ("__debug__" : Str)) = false := by decide) : wpAny (model X.prog X.w) X.A (eval (.Name x pos) X.env) Q E s :=
  Calls.Name_function_global I.ok.kind hg (Calls.loadGlobal_global (by rw [I.ok.glob]; exact I.mod.glob.keeps I.bk) hm h) hd
theorem ld_blt {E : Value → Shared → Prop} {pins : List (Addr × Obj)} {s : Shared} {σ : St} {H : Hp} {x : Str} {u : Value} {pos : Pos} {Q : Value → Shared → Prop} (I : Inv X pins σ H s) (hg : Gl X x) (hm : X.mg x = none) (hv : bootBuiltins x = some u) (h : Q u s)
    (hn : x ≠ "__name__" := by decide) (hd : (x == ("__debug__" : Str)) = false := by decide) : wpAny (model X.prog X.w) X.A (eval (.Name x pos) X.env) Q E s := by
  obtain ⟨mb, h1, h2⟩ := I.mod.blt
  exact Calls.Name_function_global I.ok.kind hg (Calls.loadGlobal_builtin (by rw [I.ok.glob]; exact I.mod.glob.keeps I.bk) hm (by rw [I.ok.blt]; exact h1.keeps I.bk) ((h2 x hn).trans hv) h) hd
theorem pe_glob {x : Str} {v : V} {u : Value} {pos : Pos} (hg : Gl X x) (hm : X.mg x = some u) (r : RelV v u) (hd : (x == ("__debug__" : Str)) = false := by decide) : PE X (.Name x pos) (tC v) :=
  fun _ _ _ H _ I h => ld_glob I hg hm ⟨v, H, I, r, h⟩ hd
theorem pe_bltn {x : Str} {v : V} {u : Value} {pos : Pos} (hg : Gl X x) (hm : X.mg x = none) (hv : bootBuiltins x = some u) (r : RelV v u) (hn : x ≠ "__name__" := by decide) (hd : (x == ("__debug__" : Str)) = false := by decide) : PE X (.Name x pos) (tC v) :=
  fun _ _ _ H _ I h => ld_blt I hg hm hv ⟨v, H, I, r, h⟩ hn hd

variable {a b : Expr} {ta tb : TE} {pos : Pos}
variable {tA tB' : TT} {rest : List Expr}
noncomputable def tAnd (t u : TT) : TT := fun σ H Q => t σ H fun c H1 => if c = true then u σ H1 Q else Q false H1
noncomputable def tOr (t u : TT) : TT := fun σ H Q => t σ H fun c H1 => if c = true then Q true H1 else u σ H1 Q
noncomputable def tNot (t : TT) : TT := fun σ H Q => t σ H fun c H1 => Q (!c) H1
theorem pw_and1 (ha : PT X a tA) : PW X (.BoolOp .And [a] pos) tA := by
  intro wh pins s σ H Q I h
  refine isTrue_and (thn (ha pins s σ H Q I h) fun c s1 e => ?_)
  cases c with
  | true => exact isTrue_and_nil e
  | false => exact e
theorem pw_or1 (ha : PT X a tA) : PW X (.BoolOp .Or [a] pos) tA := by
  intro wh pins s σ H Q I h
  refine isTrue_or (thn (ha pins s σ H Q I h) fun c s1 e => ?_)
  cases c with
  | false => exact isTrue_or_nil e
  | true => exact e
theorem pw_and (ha : PT X a tA) (hb : PW X (.BoolOp .And (b :: rest) pos) tB') : PW X (.BoolOp .And (a :: b :: rest) pos) (tAnd tA tB') := by
  intro wh pins s σ H Q I h
  refine isTrue_and (thn (ha pins s σ H _ I h) fun c s1 ⟨H1, I1, q1⟩ => ?_)
  cases c with
  | true => exact hb wh pins s1 σ H1 Q I1 q1
  | false => exact ⟨H1, I1, q1⟩
theorem pw_or (ha : PT X a tA) (hb : PW X (.BoolOp .Or (b :: rest) pos) tB') : PW X (.BoolOp .Or (a :: b :: rest) pos) (tOr tA tB') := by
  intro wh pins s σ H Q I h
  refine isTrue_or (thn (ha pins s σ H _ I h) fun c s1 ⟨H1, I1, q1⟩ => ?_)
  cases c with
  | true => exact ⟨H1, I1, q1⟩
  | false => exact hb wh pins s1 σ H1 Q I1 q1
theorem pt_not (ha : PT X a tA) : PT X (.UnaryOp .Not a pos) (tNot tA) := by
  intro pins s σ H Q I h
  exact isTrue_not (ha pins s σ H (fun c H1 => Q (!c) H1) I h)
noncomputable def tAndV (ta tb : TE) : TE := fun σ H Q => ta σ H fun x H1 => ∃ c, x = .bl c ∧ if c = true then tb σ H1 Q else Q (.bl false) H1
noncomputable def tNotV (ta : TE) : TE := fun σ H Q => ta σ H fun x H1 => ∃ c, x = .bl c ∧ Q (.bl (!c)) H1
theorem pe_one {op} {t : TE} (h : PE X a t) : PE X (.BoolOp op [a] pos) t := fun pins s σ H Q I hw => BoolOp_one (h pins s σ H Q I hw)
theorem pe_and (ha : PE X a ta) (hb : PE X (.BoolOp .And (b :: rest) pos) tb) : PE X (.BoolOp .And (a :: b :: rest) pos) (tAndV ta tb) := by
  intro pins s σ H Q I h
  refine BoolOp_and (thn (ha pins s σ H _ I h) fun v s1 ⟨x, H1, I1, r1, q1⟩ => ?_)
  obtain ⟨c, rfl, q1⟩ := q1
  cases r1
  refine wpAny_truthy_bool ?_
  cases c with
  | true => exact hb pins s1 σ H1 Q I1 q1
  | false => exact ⟨.bl false, H1, I1, rfl, q1⟩
theorem pe_not (ha : PE X a ta) : PE X (.UnaryOp .Not a pos) (tNotV ta) := by
  intro pins s σ H Q I h
  refine UnaryOp_ (thn (ha pins s σ H _ I h) fun v s1 ⟨x, H1, I1, r1, q1⟩ => ?_)
  obtain ⟨c, rfl, q1⟩ := q1
  cases r1
  exact not_of (wpAny_truthy_bool ⟨.bl (!c), H1, I1, rfl, q1⟩)
noncomputable def tIf (t : TT) (ta tb : TE) : TE := fun σ H Q => t σ H fun c H1 => if c = true then ta σ H1 Q else tb σ H1 Q
theorem pe_ifExp {c : Expr} (hc : PT X c tA) (ha : PE X a ta) (hb : PE X b tb) : PE X (.IfExp c a b pos) (tIf tA ta tb) := by
  intro pins s σ H Q I h
  refine wpAny_IfExp (thn (hc pins s σ H _ I h) fun d s1 ⟨H1, I1, q1⟩ => ?_)
  cases d with
  | true => exact ha pins s1 σ H1 Q I1 q1
  | false => exact hb pins s1 σ H1 Q I1 q1
end
end L2

namespace L2
open PySem PySem.Spec PyProof.Rows

noncomputable def SqL (K : PySem.W.Frag) (H : Hp) (a : Addr) (xs : List V) : Prop :=
  Rd H a (.lst xs) ∨
    ∃ (o : Obj) (its : Array Value) (n : Nat), K.lookup a = some o ∧ o.cls = .type "list" ∧ o.dict = none ∧ o.data = .seq its n ∧ its.size ≤ sizeLine ∧ Vals xs its.toList
noncomputable def SqT (K : PySem.W.Frag) (H : Hp) (a : Addr) (xs : List V) : Prop :=
  Rd H a (.tup xs) ∨
    ∃ (o : Obj) (its : Array Value) (n : Nat), K.lookup a = some o ∧ o.cls = .type "tuple" ∧ o.data = .seq its n ∧ its.size ≤ sizeLine ∧ Vals xs its.toList
noncomputable def absV : Value → Option V
  | .none => some .non
  | .bool b => some (.bl b)
  | .int i _ => some (.int i)
  | .str x _ => some (.str x)
  | .bytes b _ => some (.byt b)
  | .float b _ => some (.flt b)
  | .ref a => some (.ref a)
  | .type n => some (.ty n)
  | _ => none
theorem RelV.abs {x : V} {u : Value} (r : RelV x u) : absV u = some x := by
  cases x with
  | non => cases r; rfl
  | bl _ => cases r; rfl
  | int _ => obtain ⟨t, rfl⟩ := r; rfl
  | str _ => obtain ⟨t, rfl⟩ := r; rfl
  | byt _ => obtain ⟨t, rfl⟩ := r; rfl
  | flt _ => obtain ⟨t, rfl⟩ := r; rfl
  | ref _ => cases r; rfl
  | ty _ => cases r; rfl
theorem RelV.inj {x y : V} {u : Value} (r : RelV x u) (q : RelV y u) : x = y := Option.some.inj (r.abs.symm.trans q.abs)
theorem Vals.inj : ∀ {xs ys : List V} {us : List Value}, Vals xs us → Vals ys us → xs = ys
  | _, _, _, .nil, .nil => rfl
  | _, _, _, .cons r t, .cons r' t' => by rw [r.inj r', Vals.inj t t']
section
variable {X : Cx} {pins : List (Addr × Obj)} {σ : St} {H : Hp} {s : Shared} {a : Addr} {xs ys : List V}
theorem SqL.of {K : PySem.W.Frag} (h : H a = some (.lst xs)) : SqL K H a xs := .inl (.inl h)
theorem SqT.of {K : PySem.W.Frag} (h : H a = some (.tup xs)) : SqT K H a xs := .inl (.inl h)
theorem Inv.list (I : Inv X pins σ H s) (h : SqL X.K H a xs) : ∃ its : List Value, Vals xs its ∧ PlainL s.heap a its.toArray ∧ xs.length ≤ sizeLine := by
  rcases h with h | ⟨o, its, n, hk, hc, hd, hs, hz, r⟩
  · obtain ⟨z, its, n, r, e⟩ := h.ok I.hok
    exact ⟨its, r, ⟨_, n, e, rfl, rfl, rfl⟩, z⟩
  · refine ⟨its.toList, r, ⟨o, n, I.kIn a o hk, hc, hd, by simpa using hs⟩, ?_⟩
    have e := r.length
    simp only [Array.length_toList] at e
    omega
theorem Inv.tuple (I : Inv X pins σ H s) (h : SqT X.K H a xs) : ∃ its : List Value, Vals xs its ∧ IsTup s.heap a its.toArray ∧ xs.length ≤ sizeLine := by
  rcases h with h | ⟨o, its, n, hk, hc, hs, hz, r⟩
  · obtain ⟨z, its, r, p⟩ := h.ok I.hok
    exact ⟨its, r, p, z⟩
  · refine ⟨its.toList, r, ⟨o, I.kIn a o hk, hc, n, by simpa using hs⟩, ?_⟩
    have e := r.length
    simp only [Array.length_toList] at e
    omega
theorem Inv.list_inj (I : Inv X pins σ H s) (h : SqL X.K H a xs) (h' : SqL X.K H a ys) : xs = ys := by
  obtain ⟨its, r, ⟨o, n, e, _, _, d⟩, _⟩ := I.list h
  obtain ⟨its', r', ⟨o', n', e', _, _, d'⟩, _⟩ := I.list h'
  rw [e] at e'; cases e'
  rw [d] at d'
  injection d' with d1 _
  have : its = its' := by simpa using congrArg Array.toList d1
  subst this
  exact r.inj r'
theorem Inv.tuple_inj (I : Inv X pins σ H s) (h : SqT X.K H a xs) (h' : SqT X.K H a ys) : xs = ys := by
  obtain ⟨its, r, ⟨o, e, _, n, d⟩, _⟩ := I.tuple h
  obtain ⟨its', r', ⟨o', e', _, n', d'⟩, _⟩ := I.tuple h'
  rw [e] at e'; cases e'
  rw [d] at d'
  injection d' with d1 _
  have : its = its' := by simpa using congrArg Array.toList d1
  subst this
  exact r.inj r'
end

noncomputable abbrev Cx.wish (X : Cx) (E : Value → Shared → Prop) : Cx := { X with xe := E }
section
variable {X : Cx} {pins : List (Addr × Obj)} {σ : St} {H : Hp} {s : Shared} {E : Value → Shared → Prop}
end

section
variable {X : Cx} {st : Stmt} {rest : List Stmt} {t u : TS} {e : Expr} {te : TE} {pos : Pos}
noncomputable def tNext : TS := fun D σ H => D.nx σ H
noncomputable def tSeq (t u : TS) : TS := fun D σ H => t { D with nx := u D } σ H
theorem pss_nil : PSs X [] tNext := fun _ _ σ H _ I h => wpAny_execs_nil ⟨σ, H, I, h⟩
theorem pss_cons (h1 : PS X st t) (h2 : PSs X rest u) : PSs X (st :: rest) (tSeq t u) := by
  intro pins s σ H D I h
  refine wpAny_execs_cons (thn (h1 pins s σ H { D with nx := u D } I h) fun f s1 q => ?_)
  cases f with
  | next =>
    obtain ⟨σ', H', I', q⟩ := q
    exact h2 pins s1 σ' H' D I' q
  | ret v => exact q
  | brk => exact q
  | cont => exact q
theorem Inv.quiet {pins : List (Addr × Obj)} {σ : St} {H : Hp} {s : Shared} (I : Inv X pins σ H s) : interactive X.env = false := by simp [interactive, I.ok.kind]
noncomputable def tDrop (te : TE) : TS := fun D σ H => te σ H fun _ H1 => D.nx σ H1
theorem ps_expr (he : PE X e te) (hs : swapsWith e none pos.line X.env = pure false := by rfl) : PS X (.Expr e pos) (tDrop te) := by
  intro pins s σ H D I h
  exact wpAny_Expr_any (thn (he pins s σ H _ I h) fun v s1 ⟨x, H1, I1, r1, q1⟩ => ⟨σ, H1, I1, q1⟩) I.quiet hs
noncomputable def tRet (te : TE) : TS := fun D σ H => te σ H D.rt
theorem ps_ret (he : PE X e te) : PS X (.Return (some e) pos) (tRet te) := by
  intro pins s σ H D I h
  exact wpAny_Return_some (thn (he pins s σ H _ I h) fun v s1 ⟨x, H1, I1, r1, q1⟩ => ⟨x, σ, H1, I1, r1, q1⟩)
noncomputable def tIfS (c : TT) (t u : TS) : TS := fun D σ H => c σ H fun b H1 => if b = true then t D σ H1 else u D σ H1
theorem ps_if {c : Expr} {a b : List Stmt} {tc : TT} (hc : PT X c tc) (ha : PSs X a t) (hb : PSs X b u) : PS X (.If c a b pos) (tIfS tc t u) := by
  intro pins s σ H D I h
  refine wpAny_If (thn (hc pins s σ H _ I h) fun d s1 ⟨H1, I1, q1⟩ => ?_)
  cases d with
  | true => exact ha pins s1 σ H1 D I1 q1
  | false => exact hb pins s1 σ H1 D I1 q1
end

noncomputable abbrev TG := V → St → Hp → (St → Hp → Prop) → Prop
noncomputable abbrev TGs := List V → St → Hp → (St → Hp → Prop) → Prop
noncomputable def PG (X : Cx) (target : Expr) (t : TG) : Prop :=
  ∀ (pins : List (Addr × Obj)) (s : Shared) (σ : St) (H : Hp) (v : V) (u : Value) (Q : St → Hp → Prop), Inv X pins σ H s → RelV v u → t v σ H Q →
    wpAny (model X.prog X.w) X.A (assign target X.env u) (fun _ s' => ∃ σ' H', Inv X pins σ' H' s' ∧ Q σ' H') X.xe s
noncomputable def PGs (X : Cx) (ts : List Expr) (t : TGs) : Prop :=
  ∀ (pins : List (Addr × Obj)) (s : Shared) (σ : St) (H : Hp) (vs : List V) (us : List Value) (Q : St → Hp → Prop), Inv X pins σ H s → Vals vs us → t vs σ H Q →
    wpAny (model X.prog X.w) X.A (assignInOrder ((assignEach ts X.env).map (·.2)) us) (fun _ s' => ∃ σ' H', Inv X pins σ' H' s' ∧ Q σ' H') X.xe s
section
variable {X : Cx} {pos : Pos}
noncomputable def gName (i : Nat) : TG := fun v σ H Q => Q (σ.set i (some v)) H
theorem pg_name {i : Nat} {x : Str} (hN : X.N.Nodup) (hi : X.N[i]? = some x) (hx : Loc X.env.scope x) (hf : X.fn x = true ∨ X.env.scope.names.lookup x = some .local := by first | exact .inl rfl | exact .inr rfl | assumption) : PG X (.Name x pos) (gName i) := by
  intro pins s σ H v u Q I r h
  exact wpAny_assign_Name (store_ok I hN hi hx r (fun s' I' => ⟨_, H, I', h⟩) hf)
noncomputable def gNil : TGs := fun vs σ H Q => vs = [] ∧ Q σ H
noncomputable def gCons (t : TG) (u : TGs) : TGs := fun vs σ H Q => ∃ v r, vs = v :: r ∧ t v σ H fun σ' H' => u r σ' H' Q
theorem pgs_nil : PGs X [] gNil := by
  intro pins s σ H vs us Q I r h
  obtain ⟨e, h⟩ := h
  subst e
  cases r
  exact assignInOrder_nil ⟨σ, H, I, h⟩
theorem pgs_cons {e : Expr} {es : List Expr} {t : TG} {u : TGs} (h1 : PG X e t) (h2 : PGs X es u)
    (hs : (assignEach (e :: es) X.env).map (·.2) = assign e X.env :: (assignEach es X.env).map (·.2) := by rfl) : PGs X (e :: es) (gCons t u) := by
  intro pins s σ H vs us Q I r h
  obtain ⟨v, vr, e1, h⟩ := h
  subst e1
  cases r with
  | cons r rr =>
    rw [hs]
    refine assignInOrder_cons (thn (h1 pins s σ H _ _ _ I r h) fun _ s1 ⟨σ1, H1, I1, q1⟩ => ?_)
    exact h2 pins s1 σ1 H1 _ _ Q I1 rr q1
noncomputable def gTup (K : PySem.W.Frag) (n : Nat) (t : TGs) : TG := fun v σ H Q => ∃ a xs, v = .ref a ∧ SqT K H a xs ∧ xs.length = n ∧ t xs σ H Q
theorem pg_tup {es : List Expr} {k : Nat} {t : TGs} {n : Nat} (hc : X.calm = true) (h : PGs X es t)
    (hn : (assignEach es X.env).length = n := by rfl) (hst : (assignEach es X.env).findIdx? (·.1) = none := by rfl) : PG X (.Tuple es k pos) (gTup X.K n t) := by
  intro pins s σ H v u Q I r hw
  obtain ⟨a, xs, e1, hq, hl, hw⟩ := hw
  subst e1
  cases r
  obtain ⟨its, rv, ht, hz⟩ := I.tuple hq
  refine assign_Tuple_tuple (I.ok.hd hc) ht (by simp [hn, ← hl, rv.length]) hst fun h' hx => ?_
  have I1 : Inv X pins σ H { s with heap := h' } := I.kept (t' := s.toks) fun b o e => hx b o (Nat.ne_of_lt (Heap.lt_size e)) e
  exact h pins _ σ H xs _ Q I1 (by simpa using rv) hw
noncomputable def tAsg (te : TE) (g : TG) : TS := fun D σ H => te σ H fun x H1 => g x σ H1 D.nx
theorem ps_asg {tg e : Expr} {te : TE} {g : TG} (he : PE X e te) (hg : PG X tg g) (hs : swapsWithSole [tg] e pos.line X.env = pure false := by rfl) (hw : swappedStores [tg] e X.env = pure none := by rfl)
    (h1 : (assignEach [tg] X.env).map (·.2) = [assign tg X.env] := by rfl) : PS X (.Assign [tg] e pos) (tAsg te g) := by
  intro pins s σ H D I h
  refine wpAny_Assign_stores (thn (he pins s σ H _ I h) fun v s1 ⟨x, H1, I1, r1, q1⟩ => ?_) hs hw
  rw [h1]
  exact thn (hg pins s1 σ H1 x v _ I1 r1 q1) fun _ s2 q => q
end

section
variable {X : Cx} {pos : Pos}
end

structure It where
  go : Nat → Hp → Prop
  yld : Nat → Hp → V → Hp → Prop
  stop : Nat → Hp → Prop
noncomputable def FpOk (X : Cx) (pins : List (Addr × Obj)) (H : Hp) (b : Addr) : Prop :=
  H b = none ∧ b ≠ X.env.locals ∧ b ∉ X.fs ∧ (b ∈ X.ex ∨ X.s₀.heap.objs.size ≤ b) ∧ (∀ x c, X.env.cells.lookup x = some c → c ≠ b) ∧ ∀ p ∈ X.pn ++ pins, p.1 ≠ b
theorem Inv.fpOk {X : Cx} {pins : List (Addr × Obj)} {σ : St} {H H' : Hp} {s : Shared} {b : Addr} (I : Inv X pins σ H s) (hb : s.heap.objs.size ≤ b) (hn : H' b = none) : FpOk X pins H' b := by
  refine ⟨hn, Nat.ne_of_gt (Nat.lt_of_lt_of_le I.lt hb), I.nofs hb, .inr (Nat.le_trans I.sz hb), fun x c e z => ?_, fun p hp z => ?_⟩
  · obtain ⟨v, q⟩ := I.cell x c e
    exact absurd (Nat.lt_of_lt_of_le q.lt (by rw [z]; exact hb)) (Nat.lt_irrefl _)
  · exact absurd (Nat.lt_of_lt_of_le (Heap.lt_size (I.pin p hp).1) (by rw [z]; exact hb)) (Nat.lt_irrefl _)
structure Turn (P : Program) (w : World) (K : PySem.W.Frag) (tg : Expr) (J : It) (fp : List Addr) (it : Addr) (tn : Nat → Heap → Prop) : Prop where
  mem : it ∈ fp
  obj : ∀ i h, tn i h → ∀ b ∈ fp, ∃ o, h.get? b = some o ∧ ∀ v, o.data ≠ .cell v
  keep : ∀ i h h', tn i h → (∀ b ∈ fp, ∀ o, h.get? b = some o → h'.get? b = some o) → tn i h'
  item : ∀ (X : Cx), X.prog = P → X.w = w → X.K = K → X.calm = true → ∀ (i : Nat) (pins : List (Addr × Obj)) (s : Shared) (σ : St) (H : Hp) (E : Value → Shared → Prop), Inv X pins σ H s → (∀ b ∈ fp, FpOk X pins H b) → tn i s.heap → J.go i H →
    wpAny (model P w) X.A (pyNext (.ref it)) (fun r s1 => ∃ u, r = some u ∧
      wpAny (model P w) X.A (letOwnedTupleGo tg (.ref it) u) (fun _ s2 => ∃ x H', Inv X pins σ H' s2 ∧ RelV x u ∧ J.yld i H x H' ∧ tn (i + 1) s2.heap ∧ ∀ b ∈ fp, H' b = none) E s1) E s
  done : ∀ (X : Cx), X.prog = P → X.w = w → X.K = K → X.calm = true → ∀ (i : Nat) (pins : List (Addr × Obj)) (s : Shared) (σ : St) (H : Hp) (E : Value → Shared → Prop), Inv X pins σ H s → (∀ b ∈ fp, FpOk X pins H b) → tn i s.heap → J.stop i H →
    wpAny (model P w) X.A (pyNext (.ref it)) (fun r s1 => r = none ∧ Inv X pins σ H s1) E s
  self : ∀ (A : Around) (i : Nat) (s : Shared) (Q : Value → Shared → Prop) (E : Value → Shared → Prop), tn i s.heap → Q (.ref it) s → wpAny (model P w) A (pyIter (.ref it)) Q E s
noncomputable abbrev TI := St → Hp → (It → Hp → Prop) → Prop
noncomputable def PIE (X : Cx) (pins : List (Addr × Obj)) (σ : St) (tg : Expr) (R : It → Hp → Prop) (itv : Value) (s2 : Shared) : Prop :=
  ∃ (it : Addr) (fp : List Addr) (tn : Nat → Heap → Prop) (J : It) (H' : Hp), itv = .ref it ∧ Inv X pins σ H' s2 ∧ Turn X.prog X.w X.K tg J fp it tn ∧ tn 0 s2.heap ∧ (∀ b ∈ fp, FpOk X pins H' b) ∧ R J H'
noncomputable def PI (X : Cx) (tg iter : Expr) (wi : TI) : Prop :=
  ∀ (pins : List (Addr × Obj)) (s : Shared) (σ : St) (H : Hp) (R : It → Hp → Prop), Inv X pins σ H s → wi σ H R →
    wpAny (model X.prog X.w) X.A (eval iter X.env) (fun v s1 => wpAny (model X.prog X.w) X.A (pyIter v) (PIE X pins σ tg R) X.xe s1) X.xe s

theorem go_of {M : Model} {A : Around} {E : Value → Shared → Prop} {s : Shared} {tg : Expr} {it : Addr} {u : Value} {o : Obj} {n : String} {vs : Array Value} {Q : Unit → Shared → Prop} (ho : s.heap.get? it = some o) (hc : o.cls = .type n) (hd : o.data = .fields vs)
    (hn : ["enumerate", "zip", "dict_itemiterator", "dict_reverseitemiterator", "odict_iterator", "itertools.zip_longest", "itertools.pairwise"].contains n = false) (hQ : Q () s) : wpAny M A (letOwnedTupleGo tg (.ref it) u) Q E s := by
  unfold letOwnedTupleGo
  cases tg <;> first
    | exact wpAny_pure hQ
    | (cases u <;> first
        | exact wpAny_pure hQ
        | (refine wpAny_bind (wpAny_load ho ?_)
           rw [hc, hd]
           show wpAny M A (if (["enumerate", "zip", "dict_itemiterator", "dict_reverseitemiterator", "odict_iterator", "itertools.zip_longest", "itertools.pairwise"].contains n && vs[0]? == some (rawInt _)) = true then _ else _) Q E s
           rw [if_neg (by intro h; rw [hn, Bool.false_and] at h; cases h)]
           exact wpAny_pure hQ))

noncomputable def Itl (K : PySem.W.Frag) (a : Addr) : It :=
  ⟨fun i H => ∃ xs x, SqL K H a xs ∧ xs[i]? = some x, fun i H x H' => H' = H ∧ ∀ xs, SqL K H a xs → xs[i]? = some x, fun i H => ∃ xs, SqL K H a xs ∧ xs.length ≤ i⟩
noncomputable def Itt (K : PySem.W.Frag) (a : Addr) : It :=
  ⟨fun i H => ∃ xs x, SqT K H a xs ∧ xs[i]? = some x, fun i H x H' => H' = H ∧ ∀ xs, SqT K H a xs → xs[i]? = some x, fun i H => ∃ xs, SqT K H a xs ∧ xs.length ≤ i⟩
noncomputable def Itr (lo : Int) (n : Nat) : It := ⟨fun i _ => i < n, fun i H x H' => H' = H ∧ x = .int (lo + i), fun i _ => n ≤ i⟩
theorem turn_list {P : Program} {w : World} {K : PySem.W.Frag} {tg : Expr} (a it : Addr) : Turn P w K tg (Itl K a) [it] it (fun i h => h.IsListIter it a i) where
  mem := by simp
  obj := fun i h st b hb => by
    have e : b = it := by simpa using hb
    subst e
    obtain ⟨o, e, c, d⟩ := st
    exact ⟨o, e, fun v z => by rw [d] at z; cases z⟩
  keep := fun i h h' st k => st.at fun o e => k it (by simp) o e
  item := by
    intro X hP hw hK hc i pins s σ H E I hf st hg
    subst hP hw hK
    obtain ⟨xs, x, hq, hx⟩ := hg
    obtain ⟨its, rv, p, hz⟩ := I.list hq
    obtain ⟨u, hu, ru⟩ := rv.get hx
    obtain ⟨f0, f1, f2, f3, f4, f5⟩ := hf it (by simp)
    refine wpAny_pyNext_list_item st p.isList (x := u) (by simpa using hu) fun h' st' sb => ?_
    have I1 : Inv X pins σ H { s with heap := h' } := I.turned (t' := s.toks) (fun b o hb e => (sb.2 b hb).trans e) f0 f1 f3 f4 f5
    obtain ⟨o, e, c, d⟩ := id st'
    exact ⟨u, rfl, go_of (s := { s with heap := h' }) e c d (by decide) ⟨x, H, I1, ru, ⟨rfl, fun ys hy => by rw [I.list_inj hy hq]; exact hx⟩, st', fun b hb => (hf b hb).1⟩⟩
  done := by
    intro X hP hw hK hc i pins s σ H E I hf st hg
    subst hP hw hK
    obtain ⟨xs, hq, hx⟩ := hg
    obtain ⟨its, rv, p, hz⟩ := I.list hq
    obtain ⟨f0, f1, f2, f3, f4, f5⟩ := hf it (by simp)
    have hl := rv.length
    exact wpAny_pyNext_list_end (I.ok.hd hc) st p.isList (by simp; omega) fun h' eb => ⟨rfl, I.turned (t' := s.toks) (fun b o hb e => eb b o hb e) f0 f1 f3 f4 f5⟩
  self := fun _ _ _ _ _ st h => wpAny_pyIter_listiter st h
theorem turn_tuple {P : Program} {w : World} {K : PySem.W.Frag} {tg : Expr} (a it : Addr) : Turn P w K tg (Itt K a) [it] it (fun i h => h.IsTupleIter it a i) where
  mem := by simp
  obj := fun i h st b hb => by
    have e : b = it := by simpa using hb
    subst e
    obtain ⟨o, e, c, d⟩ := st
    exact ⟨o, e, fun v z => by rw [d] at z; cases z⟩
  keep := fun i h h' st k => st.at fun o e => k it (by simp) o e
  item := by
    intro X hP hw hK hc i pins s σ H E I hf st hg
    subst hP hw hK
    obtain ⟨xs, x, hq, hx⟩ := hg
    obtain ⟨its, rv, p, hz⟩ := I.tuple hq
    obtain ⟨u, hu, ru⟩ := rv.get hx
    obtain ⟨f0, f1, f2, f3, f4, f5⟩ := hf it (by simp)
    refine wpAny_pyNext_tuple_item st (show s.heap.IsTuple a its.toArray from p) (x := u) (by simpa using hu) fun h' st' sb => ?_
    have I1 : Inv X pins σ H { s with heap := h' } := I.turned (t' := s.toks) (fun b o hb e => (sb.2 b hb).trans e) f0 f1 f3 f4 f5
    obtain ⟨o, e, c, d⟩ := id st'
    exact ⟨u, rfl, go_of (s := { s with heap := h' }) e c d (by decide) ⟨x, H, I1, ru, ⟨rfl, fun ys hy => by rw [I.tuple_inj hy hq]; exact hx⟩, st', fun b hb => (hf b hb).1⟩⟩
  done := by
    intro X hP hw hK hc i pins s σ H E I hf st hg
    subst hP hw hK
    obtain ⟨xs, hq, hx⟩ := hg
    obtain ⟨its, rv, p, hz⟩ := I.tuple hq
    obtain ⟨f0, f1, f2, f3, f4, f5⟩ := hf it (by simp)
    have hl := rv.length
    exact wpAny_pyNext_tuple_end (I.ok.hd hc) st (show s.heap.IsTuple a its.toArray from p) (by simp; omega) fun h' eb => ⟨rfl, I.turned (t' := s.toks) (fun b o hb e => eb b o hb e) f0 f1 f3 f4 f5⟩
  self := fun _ _ _ _ _ st h => wpAny_pyIter_tupleiter st h
theorem turn_range {P : Program} {w : World} {K : PySem.W.Frag} {tg : Expr} (it : Addr) (lo : Int) (n : Nat) : Turn P w K tg (Itr lo n) [it] it (fun i h => IsRangeIter h it (lo + (i : Nat) * 1) ((n : Int) - (i : Nat)) 1) where
  mem := by simp
  obj := fun i h st b hb => by
    have e : b = it := by simpa using hb
    subst e
    exact ⟨_, st, fun v z => by
      have z' : Data.fields _ = Data.cell v := z
      cases z'⟩
  keep := fun i h h' st k => k it (by simp) _ st
  item := by
    intro X hP hw hK hc i pins s σ H E I hf st hg
    subst hP hw hK
    obtain ⟨f0, f1, f2, f3, f4, f5⟩ := hf it (by simp)
    have W := Walks.range (prog := X.prog) (w := X.w) (I.ok.hd hc) it lo 1 n
    refine W.item i s _ _ hg st fun v h' tk hv st' kk => ?_
    obtain ⟨t, rfl⟩ := hv
    have I1 : Inv X pins σ H { s with heap := h', toks := tk } := I.turned (fun b o hb e => kk b o (by simpa using hb) e) f0 f1 f3 f4 f5
    refine ⟨_, rfl, go_of (s := { s with heap := h', toks := tk }) (n := "range_iterator") st' rfl rfl (by decide) ⟨.int (lo + i), H, I1, ⟨t, ?_⟩, ⟨rfl, rfl⟩, st', fun b hb => (hf b hb).1⟩⟩
    rw [Int.mul_one]
  done := by
    intro X hP hw hK hc i pins s σ H E I hf st hg
    subst hP hw hK
    obtain ⟨f0, f1, f2, f3, f4, f5⟩ := hf it (by simp)
    exact wpAny_pyNext_range_end (I.ok.hd hc) st (by have : n ≤ i := hg; omega) fun h' eb => ⟨rfl, I.turned (t' := s.toks) (fun b o hb e => eb b o hb e) f0 f1 f3 f4 f5⟩
  self := fun _ _ _ _ _ st h => wpAny_pyIter_rangeiter st h
end L2

namespace L2
open PySem PySem.Spec PyProof.Rows
section
variable {X : Cx} {tg : Expr}
theorem range_it {pins : List (Addr × Obj)} {σ : St} {H : Hp} {s : Shared} {R : It → Hp → Prop} {E : Value → Shared → Prop} {lo hi : Int} {t u v : Tok} {tk : Nat} (I : Inv X pins σ H s) (h1 : -(2 ^ 62) ≤ lo) (h2 : lo < 2 ^ 62) (h3 : -(2 ^ 62) ≤ hi) (h4 : hi < 2 ^ 62)
    (q : R (Itr lo (hi - lo).toNat) H) : wpAny (model X.prog X.w) X.A (pyIter (.ref s.heap.objs.size)) (PIE X pins σ tg R) E { s with heap := s.heap.push { cls := .type "range", data := .fields #[.int lo t, .int hi u, .int 1 v] }, toks := tk } := by
  refine wpAny_pyIter_range (IsRange.new ..) (small_one h1 h2 h3 h4) ?_
  have I1 : Inv X pins σ H { s with heap := s.heap.push { cls := .type "range", data := .fields #[.int lo t, .int hi u, .int 1 v] }, toks := tk } := I.kept fun b o e => Heap.get?_push_of_some _ e
  refine ⟨(s.heap.push { cls := .type "range", data := .fields #[.int lo t, .int hi u, .int 1 v] }).objs.size, [(s.heap.push { cls := .type "range", data := .fields #[.int lo t, .int hi u, .int 1 v] }).objs.size], _, _, H, rfl,
    I1.kept (t' := tk) fun b o e => Heap.get?_push_of_some _ e, turn_range _ lo (hi - lo).toNat, ?_, fun b hb => ?_, q⟩
  · have e1 : lo + ((0 : Nat) : Int) * 1 = lo := by simp
    have e2 : (((hi - lo).toNat : Nat) : Int) - ((0 : Nat) : Int) = Builtin.Range.rangeSize lo hi 1 := by rw [rangeSize_one]; split <;> omega
    show IsRangeIter _ _ (lo + ((0 : Nat) : Int) * 1) ((((hi - lo).toNat : Nat) : Int) - ((0 : Nat) : Int)) 1
    rw [e1, e2]
    exact Heap.get?_push_size _ rfl
  · have e : b = (s.heap.push { cls := .type "range", data := .fields #[.int lo t, .int hi u, .int 1 v] }).objs.size := by simpa using hb
    subst e
    exact I1.fpOk (Nat.le_refl _) (I1.hok.fresh (Nat.le_refl _))
noncomputable def iRng1 (ta : TA) : TI := fun σ H R => ta σ H fun vs H1 => ∃ j : Int, vs = [.int j] ∧ -(2 ^ 62) ≤ j ∧ j < 2 ^ 62 ∧ R (Itr 0 j.toNat) H1
noncomputable def iRng2 (ta : TA) : TI := fun σ H R => ta σ H fun vs H1 => ∃ i j : Int, vs = [.int i, .int j] ∧ (-(2 ^ 62) ≤ i ∧ i < 2 ^ 62 ∧ -(2 ^ 62) ≤ j ∧ j < 2 ^ 62) ∧ R (Itr i (j - i).toNat) H1
theorem pi_range1 {a : Expr} {ta : TA} {p pos : Pos} (hg : Gl X "range") (hm : X.mg "range" = none) (ha : PA X [a] ta) (hs : starEach [a] X.env = [(false, eval a X.env)] := by rfl) : PI X tg (.Call (.Name "range" p) [a] [] pos) (iRng1 ta) := by
  intro pins s σ H R I h
  refine Call_ (ld_blt I hg hm boot_range (PyProof.Rows.callWith_type1 (thn (ha pos pins s σ H _ I h) fun us s1 ⟨vs, H1, I1, r1, q1⟩ => ?_) hs rfl))
  obtain ⟨j, e, q1, q2, q⟩ := q1
  subst e
  cases r1 with
  | cons r rr =>
    cases rr
    obtain ⟨t, rfl⟩ := r
    exact call_range_1 (range_it I1 (by omega) (by omega) q1 q2 (by simpa using q))
theorem pi_range2 {a b : Expr} {ta : TA} {p pos : Pos} (hg : Gl X "range") (hm : X.mg "range" = none) (ha : PA X [a, b] ta) (hs : starEach [a, b] X.env = [(false, eval a X.env), (false, eval b X.env)] := by rfl) (hs2 : starEach [b] X.env = [(false, eval b X.env)] := by rfl) :
    PI X tg (.Call (.Name "range" p) [a, b] [] pos) (iRng2 ta) := by
  intro pins s σ H R I h
  refine Call_ (ld_blt I hg hm boot_range (PyProof.Rows.callWith_type1 (thn (ha pos pins s σ H _ I h) fun us s1 ⟨vs, H1, I1, r1, q1⟩ => ?_) (by rw [hs, hs2]) (by rw [hs2]; rfl)))
  obtain ⟨i, j, e, ⟨q1, q2, q3, q4⟩, q⟩ := q1
  subst e
  cases r1 with
  | cons r rr =>
    cases rr with
    | cons r' rr =>
      cases rr
      obtain ⟨t, rfl⟩ := r
      obtain ⟨t', rfl⟩ := r'
      exact call_range_2 (range_it I1 q1 q2 q3 q4 q)

noncomputable def tFor (wi : TI) (g : TG) (tb : TS) : TS := fun D σ H => wi σ H fun J H1 => ∃ W : Nat → Nat → St → Hp → Prop, (∃ m, W 0 m σ H1) ∧ ∀ i m σ H, W i m σ H →
  (J.stop i H ∧ D.nx σ H) ∨ (J.go i H ∧ ∃ N : St → Hp → Prop, (∀ σ' H', N σ' H' → ∃ m', m' < m ∧ W (i + 1) m' σ' H') ∧ ∀ x H', J.yld i H x H' → g x σ H' fun σ2 H2 => tb { D with nx := N, ct := N, bk := D.nx } σ2 H2)
noncomputable def pinsAt (fp : List Addr) (h : Heap) : List (Addr × Obj) := fp.filterMap fun b => (h.get? b).map fun o => (b, o)
theorem mem_pinsAt {fp : List Addr} {h : Heap} {b : Addr} {o : Obj} (hb : b ∈ fp) (e : h.get? b = some o) : (b, o) ∈ pinsAt fp h := List.mem_filterMap.mpr ⟨b, hb, by rw [e]; rfl⟩
theorem of_pinsAt {fp : List Addr} {h : Heap} {p : Addr × Obj} (hp : p ∈ pinsAt fp h) : p.1 ∈ fp ∧ h.get? p.1 = some p.2 := by
  obtain ⟨b, hb, e⟩ := List.mem_filterMap.mp hp
  cases q : h.get? b with
  | none => rw [q] at e; cases e
  | some o =>
    rw [q] at e
    have e' : (b, o) = p := Option.some.inj e
    subst e'
    exact ⟨hb, q⟩
theorem Inv.pinned {pins : List (Addr × Obj)} {σ : St} {H : Hp} {s : Shared} {fp : List Addr} (I : Inv X pins σ H s) (hf : ∀ b ∈ fp, FpOk X pins H b) (ho : ∀ b ∈ fp, ∃ o, s.heap.get? b = some o ∧ ∀ v, o.data ≠ .cell v) : Inv X (pins ++ pinsAt fp s.heap) σ H s :=
  I.pins_of fun p hp => (List.mem_append.mp hp).elim (fun z => I.pin p (List.mem_append_right _ z)) fun z => by
    obtain ⟨hb, e⟩ := of_pinsAt z
    obtain ⟨f0, f1, f2, _⟩ := hf p.1 hb
    obtain ⟨o, e', d⟩ := ho p.1 hb
    rw [e] at e'; cases e'
    exact ⟨e, f0, f1, f2, d⟩
theorem Inv.unpinned {pins pl : List (Addr × Obj)} {σ : St} {H : Hp} {s : Shared} (I : Inv X (pins ++ pl) σ H s) : Inv X pins σ H s := I.pins_of fun p hp => I.pin p (List.mem_append_right _ (List.mem_append_left _ hp))
theorem ps_for {iter : Expr} {body : List Stmt} {wi : TI} {g : TG} {tb : TS} {pos : Pos} (hp : PassesOwn (model X.prog X.w) X.A X.env X.xe) (hc : X.calm = true) (hi : PI X tg iter wi) (hg : PG X tg g) (hb : PSs X body tb)
    (hs : ∀ x, foldedSetIterable iter X.env x = pure x := by intro _; rfl) : PS X (.For tg iter body [] pos) (tFor wi g tb) := by
  intro pins s σ H D I h
  refine wpAny_For (thn (hi pins s σ H _ I h) fun v s1 h1 => thn h1 fun itv s2 h2 => ?_) hs
  obtain ⟨it, fp, tn, J, H2, e, I2, T, st2, f2, W, ⟨m0, w0⟩, turn⟩ := h2
  subst e
  -- what stays true of the iterator's objects through the loop
  have stat : ∀ {H' : Hp}, (∀ b ∈ fp, H' b = none) → ∀ b ∈ fp, FpOk X pins H' b := fun hn b hb => ⟨hn b hb, (f2 b hb).2⟩
  refine codeAny_forLoop_any (fun n s' => ∃ i σ' H', Inv X pins σ' H' s' ∧ tn i s'.heap ∧ (∀ b ∈ fp, H' b = none) ∧ W i n σ' H') ?_ m0 ⟨0, σ, H2, I2, st2, fun b hb => (f2 b hb).1, w0⟩
  rintro n s3 ⟨i, σ3, H3, I3, st3, fr3, w3⟩
  rcases turn i n σ3 H3 w3 with ⟨stop, qn⟩ | ⟨go, N, hN, step⟩
  · refine wpAny_passesOwn hp (thn (T.done X rfl rfl rfl hc i pins s3 σ3 H3 X.xe I3 (stat fr3) st3 stop) fun r s4 ⟨hr, I4⟩ => ?_)
    subst hr
    exact wpAny_execs_nil ⟨σ3, H3, I4, qn⟩
  · refine wpAny_passesOwn hp (thn (T.item X rfl rfl rfl hc i pins s3 σ3 H3 X.xe I3 (stat fr3) st3 go) fun r s4 ⟨u, hr, h4⟩ => ?_)
    subst hr
    refine wpAny_passesOwn hp (thn h4 fun _ s5 ⟨x, H5, I5, r5, y5, st5, fr5⟩ => ?_)
    have I5' := I5.pinned (stat fr5) (T.obj _ _ st5)
    refine wpAny_passesOwn hp (thn (hg _ s5 σ3 H5 x u _ I5' r5 (step x H5 y5)) fun _ s6 ⟨σ6, H6, I6, q6⟩ => ?_)
    refine wpAny_passesOwn hp (thn (hb _ s6 σ6 H6 _ I6 q6) fun f s7 q7 => ?_)
    have again : ∀ {σ7 : St} {H7 : Hp}, Inv X (pins ++ pinsAt fp s5.heap) σ7 H7 s7 → N σ7 H7 → ∃ m, m < n ∧ ∃ i σ' H', Inv X pins σ' H' s7 ∧ tn i s7.heap ∧ (∀ b ∈ fp, H' b = none) ∧ W i m σ' H' := fun {σ7 H7} I7 n7 => by
      obtain ⟨m', hm, w7⟩ := hN σ7 H7 n7
      refine ⟨m', hm, i + 1, σ7, H7, I7.unpinned, T.keep _ _ _ st5 fun b hb o e => (I7.pin (b, o) (List.mem_append_right _ (List.mem_append_right _ (mem_pinsAt hb e)))).1, fun b hb => ?_, w7⟩
      obtain ⟨o, e, d⟩ := T.obj _ _ st5 b hb
      exact (I7.pin (b, o) (List.mem_append_right _ (List.mem_append_right _ (mem_pinsAt hb e)))).2.1
    cases f with
    | next => obtain ⟨σ7, H7, I7, n7⟩ := q7; exact again I7 n7
    | cont => obtain ⟨σ7, H7, I7, n7⟩ := q7; exact again I7 n7
    | brk => obtain ⟨σ7, H7, I7, q7⟩ := q7; exact ⟨σ7, H7, I7.unpinned, q7⟩
    | ret v => obtain ⟨x7, σ7, H7, I7, r7, q7⟩ := q7; exact ⟨x7, σ7, H7, I7.unpinned, r7, q7⟩
end

end L2

namespace L2
open PySem PySem.Spec PyProof.Rows

noncomputable abbrev R2 := V → V → Hp → VK → Prop
noncomputable def OpR (X : Cx) (f : Value → Value → Sem Value) (r : R2) : Prop :=
  ∀ (pins : List (Addr × Obj)) (s : Shared) (σ : St) (H : Hp) (x y : V) (v u : Value) (Q : VK), Inv X pins σ H s → RelV x v → RelV y u → r x y H Q →
    wpAny (model X.prog X.w) X.A (f v u) (EP X pins σ Q) X.xe s
noncomputable def UnR (X : Cx) (f : Value → Sem Value) (r : V → Hp → VK → Prop) : Prop :=
  ∀ (pins : List (Addr × Obj)) (s : Shared) (σ : St) (H : Hp) (x : V) (v : Value) (Q : VK), Inv X pins σ H s → RelV x v → r x H Q →
    wpAny (model X.prog X.w) X.A (f v) (EP X pins σ Q) X.xe s
noncomputable def CallR (X : Cx) (f : Value) (r : List V → Hp → VK → Prop) : Prop :=
  ∀ (pins : List (Addr × Obj)) (s : Shared) (σ : St) (H : Hp) (xs : List V) (us : List Value) (Q : VK), Inv X pins σ H s → Vals xs us → r xs H Q →
    wpAny (model X.prog X.w) X.A (call f us) (EP X pins σ Q) X.xe s
noncomputable def TruR (X : Cx) (r : V → Hp → (Bool → Hp → Prop) → Prop) : Prop :=
  ∀ (pins : List (Addr × Obj)) (s : Shared) (σ : St) (H : Hp) (x : V) (v : Value) (Q : Bool → Hp → Prop), Inv X pins σ H s → RelV x v → r x H Q →
    wpAny (model X.prog X.w) X.A (truthy v) (TP X pins σ Q) X.xe s

noncomputable def tOp (r : R2) (ta tb : TE) : TE := fun σ H Q => ta σ H fun x H1 => tb σ H1 fun y H2 => r x y H2 Q
noncomputable def tUn (r : V → Hp → VK → Prop) (ta : TE) : TE := fun σ H Q => ta σ H fun x H1 => r x H1 Q
noncomputable def rI (C : Int → Int → Prop) (g : Int → Int → V) : R2 := fun x y H Q => ∃ i j, x = .int i ∧ y = .int j ∧ C i j ∧ Q (g i j) H
noncomputable def rI0 (g : Int → Int → V) : R2 := fun x y H Q => ∃ i j, x = .int i ∧ y = .int j ∧ Q (g i j) H
noncomputable def rU (g : Int → V) : V → Hp → VK → Prop := fun x H Q => ∃ i, x = .int i ∧ Q (g i) H

section
variable {X : Cx} {a b c : Expr} {ta tb tc : TE} {pos : Pos}

theorem binT (ha : PE X a ta) (hb : PE X b tb) {pins : List (Addr × Obj)} {s : Shared} {σ : St} {H : Hp} {R : V → V → Hp → Prop} (I : Inv X pins σ H s)
    (h : ta σ H fun x H1 => tb σ H1 fun y H2 => R x y H2) {Q : Value → Shared → Prop} {f : Value → Value → Sem Value}
    (hf : ∀ v u s2 x y H2, Inv X pins σ H2 s2 → RelV x v → RelV y u → R x y H2 → wpAny (model X.prog X.w) X.A (f v u) Q X.xe s2) :
    wpAny (model X.prog X.w) X.A (eval a X.env) (fun v s₁ => wpAny (model X.prog X.w) X.A (eval b X.env) (fun u s₂ => wpAny (model X.prog X.w) X.A (f v u) Q X.xe s₂) X.xe s₁) X.xe s := by
  refine thn (ha pins s σ H _ I h) fun v s1 ⟨x, H1, I1, r1, q1⟩ => ?_
  refine thn (hb pins s1 σ H1 _ I1 q1) fun u s2 ⟨y, H2, I2, r2, q2⟩ => ?_
  exact hf v u s2 x y H2 I2 r1 r2 q2

theorem pe_op {op : Operator} {r : R2} (ho : OpR X (binaryOp op) r) (ha : PE X a ta) (hb : PE X b tb) : PE X (.BinOp a op b pos) (tOp r ta tb) := by
  intro pins s σ H Q I h
  exact wpAny_BinOp (binT ha hb I h fun v u s2 x y H2 I2 rx ry q => ho pins s2 σ H2 x y v u Q I2 rx ry q)
theorem pe_un {op : UnaryOp} {r : V → Hp → VK → Prop} (ho : UnR X (unaryOp op) r) (ha : PE X a ta) : PE X (.UnaryOp op a pos) (tUn r ta) := by
  intro pins s σ H Q I h
  exact UnaryOp_ (thn (ha pins s σ H _ I h) fun v s1 ⟨x, H1, I1, r1, q1⟩ => ho pins s1 σ H1 x v Q I1 r1 q1)
theorem opI {f : Value → Value → Sem Value} {C : Int → Int → Prop} {g : Int → Int → Int}
    (rule : ∀ (i j : Int) (t u : Tok) (s : Shared) (Q : Value → Shared → Prop) (E : Value → Shared → Prop), C i j → Q (.int (g i j) s.toks) { s with toks := s.toks + 1 } → wpAny (model X.prog X.w) X.A (f (.int i t) (.int j u)) Q E s) :
    OpR X f (rI C fun i j => .int (g i j)) := by
  intro pins s σ H x y v u Q I rx ry h
  obtain ⟨i, j, rfl, rfl, hc, q⟩ := h
  obtain ⟨t, rfl⟩ := rx
  obtain ⟨t', rfl⟩ := ry
  exact rule i j t t' s _ _ hc ⟨.int (g i j), H, I.tok _, ⟨_, rfl⟩, q⟩
theorem opI0 {f : Value → Value → Sem Value} {g : Int → Int → Int}
    (rule : ∀ (i j : Int) (t u : Tok) (s : Shared) (Q : Value → Shared → Prop) (E : Value → Shared → Prop), Q (.int (g i j) s.toks) { s with toks := s.toks + 1 } → wpAny (model X.prog X.w) X.A (f (.int i t) (.int j u)) Q E s) :
    OpR X f (rI0 fun i j => .int (g i j)) := by
  intro pins s σ H x y v u Q I rx ry h
  obtain ⟨i, j, rfl, rfl, q⟩ := h
  obtain ⟨t, rfl⟩ := rx
  obtain ⟨t', rfl⟩ := ry
  exact rule i j t t' s _ _ ⟨.int (g i j), H, I.tok _, ⟨_, rfl⟩, q⟩
theorem opB0 {f : Value → Value → Sem Value} {g : Int → Int → Bool}
    (rule : ∀ (i j : Int) (t u : Tok) (s : Shared) (Q : Value → Shared → Prop) (E : Value → Shared → Prop), Q (.bool (g i j)) s → wpAny (model X.prog X.w) X.A (f (.int i t) (.int j u)) Q E s) :
    OpR X f (rI0 fun i j => .bl (g i j)) := by
  intro pins s σ H x y v u Q I rx ry h
  obtain ⟨i, j, rfl, rfl, q⟩ := h
  obtain ⟨t, rfl⟩ := rx
  obtain ⟨t', rfl⟩ := ry
  exact rule i j t t' s _ _ ⟨.bl (g i j), H, I, rfl, q⟩

noncomputable def CDiv (i j : Int) : Prop := 0 < j ∧ j < 1073741824
noncomputable def CMul (i j : Int) : Prop := (-(2 ^ 64) < i ∧ i < 2 ^ 64) ∨ (-(2 ^ 64) < j ∧ j < 2 ^ 64)
theorem CMul.ok {i j : Int} (h : CMul i j) : IntMulOk i j := by
  rcases h with ⟨h1, h2⟩ | ⟨h1, h2⟩
  · exact .of_left (intBits_le_64 h1 h2)
  · exact .of_right (intBits_le_64 h1 h2)
theorem op_add : OpR X (binaryOp .Add) (rI0 fun i j => .int (i + j)) := opI0 fun _ _ _ _ _ _ _ q => add_int q
theorem op_sub : OpR X (binaryOp .Sub) (rI0 fun i j => .int (i - j)) := opI0 fun _ _ _ _ _ _ _ q => sub_int q
theorem op_mul : OpR X (binaryOp .Mult) (rI CMul fun i j => .int (i * j)) := opI fun _ _ _ _ _ _ _ hc q => mul_int q hc.ok
theorem op_fdiv : OpR X (binaryOp .FloorDiv) (rI CDiv fun i j => .int (i / j)) := opI fun i j _ _ _ _ _ hc q => by
  have h1 : (0 : Int) < j := hc.1
  have h2 : j < 1073741824 := hc.2
  exact floordiv_int (by omega) (by rw [Int.fdiv_eq_ediv_of_nonneg i (by omega)]; exact q) (.inl (PyProof.noPylong_small (by omega)))
theorem op_mod : OpR X (binaryOp .Mod) (rI (fun _ j => 0 < j) fun i j => .int (i % j)) := opI fun i j _ _ _ _ _ hc q => by
  have h1 : (0 : Int) < j := hc
  exact mod_int' (by omega) (by rw [Int.fmod_eq_emod_of_nonneg i (by omega)]; exact q)
theorem unI {f : Value → Sem Value} {g : Int → Int}
    (rule : ∀ (i : Int) (t : Tok) (s : Shared) (Q : Value → Shared → Prop) (E : Value → Shared → Prop), Q (.int (g i) s.toks) { s with toks := s.toks + 1 } → wpAny (model X.prog X.w) X.A (f (.int i t)) Q E s) :
    UnR X f (rU fun i => .int (g i)) := by
  intro pins s σ H x v Q I rx h
  obtain ⟨i, rfl, q⟩ := h
  obtain ⟨t, rfl⟩ := rx
  exact rule i t s _ _ ⟨.int (g i), H, I.tok _, ⟨_, rfl⟩, q⟩
theorem un_neg : UnR X (unaryOp .USub) (rU fun i => .int (-i)) := unI fun _ _ _ _ _ q => neg_int q
end

section
variable {X : Cx} {a b c : Expr} {ta tb tc : TE} {pos : Pos}
theorem fin_bl {pins : List (Addr × Obj)} {σ : St} {H : Hp} {s : Shared} {Q : VK} {k k' : Bool} (I : Inv X pins σ H s) (q : Q (.bl k) H) (e : k = k') : EP X pins σ Q (.bool k') s := by
  subst e
  exact ⟨.bl k, H, I, rfl, q⟩
theorem op_lt : OpR X (compareOp .Lt) (rI0 fun i j => .bl (decide (i < j))) := opB0 fun _ _ _ _ _ _ _ q => lt_int q
theorem op_le : OpR X (compareOp .LtE) (rI0 fun i j => .bl (decide (i ≤ j))) := opB0 fun _ _ _ _ _ _ _ q => le_int q
theorem op_gt : OpR X (compareOp .Gt) (rI0 fun i j => .bl (decide (j < i))) := opB0 fun _ _ _ _ _ _ _ q => gt_int q
theorem op_lt_str : OpR X (compareOp .Lt) (fun x y H Q => ∃ i j, x = .str i ∧ y = .str j ∧ Q (.bl (decide (i.cps.toList < j.cps.toList))) H) := by
  intro pins s σ H x y v u Q I rx ry h
  obtain ⟨i, j, rfl, rfl, q⟩ := h
  obtain ⟨t, rfl⟩ := rx
  obtain ⟨t', rfl⟩ := ry
  exact lt_str (fin_bl I q rfl)
theorem OpR.or {f : Value → Value → Sem Value} {r r' : R2} (h : OpR X f r) (h' : OpR X f r') : OpR X f (fun x y H Q => r x y H Q ∨ r' x y H Q) := by
  intro pins s σ H x y v u Q I rx ry q
  rcases q with q | q
  · exact h pins s σ H x y v u Q I rx ry q
  · exact h' pins s σ H x y v u Q I rx ry q

theorem nomark (b : Expr) {op : CmpOp} (h : op ≠ .In := by decide) (h2 : op ≠ .NotIn := by decide) : behindInMarks op b = false := by
  have e1 : (op == CmpOp.In) = false := by cases op <;> first | rfl | exact absurd rfl h
  have e2 : (op == CmpOp.NotIn) = false := by cases op <;> first | rfl | exact absurd rfl h2
  cases b <;> simp [behindInMarks, e1, e2]
theorem pe_cmpR {op : CmpOp} {r : R2} (ho : OpR X (compareOp op) r) (ha : PE X a ta) (hb : PE X b tb) (hm : behindInMarks op b = false) : PE X (.Compare a [op] [b] pos) (tOp r ta tb) := by
  intro pins s σ H Q I h
  exact wpAny_Compare1 (binT ha hb I h fun v u s2 x y H2 I2 rx ry q => ho pins s2 σ H2 x y v u Q I2 rx ry q) hm
noncomputable def tTest (t : TE) : TT := fun σ H Q => t σ H fun x H' => ∃ k, x = .bl k ∧ Q k H'
theorem pt_cmpR {op : CmpOp} {r : R2} (ho : OpR X (compareOp op) r) (ha : PE X a ta) (hb : PE X b tb) (hm : behindInMarks op b = false) : PT X (.Compare a [op] [b] pos) (tTest (tOp r ta tb)) := by
  intro pins s σ H Q I h
  refine wpAny_isTrue_Compare1 (thn (ha pins s σ H _ I h) fun v s1 ⟨x, H1, I1, r1, q1⟩ => thn (hb pins s1 σ H1 _ I1 q1) fun u s2 ⟨y, H2, I2, r2, q2⟩ =>
    thn (ho pins s2 σ H2 x y v u _ I2 r1 r2 q2) fun c s3 ⟨z, H3, I3, r3, k, e, q3⟩ => ?_) hm
  subst e
  cases r3
  exact wpAny_truthy_bool ⟨H3, I3, q3⟩
noncomputable def tChain (r r' : R2) (ta tb tc : TE) : TE := fun σ H Q => ta σ H fun x H1 => tb σ H1 fun y H2 => r x y H2 fun z H3 => ∃ k, z = .bl k ∧
  (if k = true then tc σ H3 fun w' H4 => r' y w' H4 Q else Q (.bl false) H3)
theorem pe_chain {op op' : CmpOp} {r r' : R2} (ho : OpR X (compareOp op) r) (ho' : OpR X (compareOp op') r') (ha : PE X a ta) (hb : PE X b tb) (hc : PE X c tc)
    (hm : lastMarks [op, op'] [b, c] = false := by with_unfolding_all rfl) : PE X (.Compare a [op, op'] [b, c] pos) (tChain r r' ta tb tc) := by
  intro pins s σ H Q I h
  refine Compare_chain (thn (ha pins s σ H _ I h) fun v s1 ⟨x, H1, I1, r1, q1⟩ => chain_link (thn (hb pins s1 σ H1 _ I1 q1) fun u s2 ⟨y, H2, I2, r2, q2⟩ =>
    thn (ho pins s2 σ H2 x y v u _ I2 r1 r2 q2) fun d s3 ⟨z, H3, I3, r3, k, e, q3⟩ => ?_)) hm
  subst e
  cases r3
  refine wpAny_truthy_bool ?_
  cases k with
  | false => exact ite_ff ⟨.bl false, H3, I3, rfl, q3⟩
  | true => exact ite_tt (chain_last (thn (hc pins s3 σ H3 _ I3 q3) fun w' s4 ⟨z', H4, I4, r4, q4⟩ => ho' pins s4 σ H4 y z' u w' Q I4 r2 r4 q4))
theorem pt_chain {op op' : CmpOp} {r r' : R2} (ho : OpR X (compareOp op) r) (ho' : OpR X (compareOp op') r') (ha : PE X a ta) (hb : PE X b tb) (hc : PE X c tc)
    (hm : lastMarks [op, op'] [b, c] = false := by with_unfolding_all rfl) : PT X (.Compare a [op, op'] [b, c] pos) (tTest (tChain r r' ta tb tc)) := by
  intro pins s σ H Q I h
  refine isTrue_chain (thn (ha pins s σ H _ I h) fun v s1 ⟨x, H1, I1, r1, q1⟩ => test_link (thn (hb pins s1 σ H1 _ I1 q1) fun u s2 ⟨y, H2, I2, r2, q2⟩ =>
    thn (ho pins s2 σ H2 x y v u _ I2 r1 r2 q2) fun d s3 ⟨z, H3, I3, r3, k, e, q3⟩ => ?_)) hm
  subst e
  cases r3
  refine wpAny_truthy_bool ?_
  cases k with
  | false =>
    obtain ⟨k', e', q'⟩ := q3
    cases e'
    exact ite_ff ⟨H3, I3, q'⟩
  | true =>
    refine ite_tt (test_last (thn (hc pins s3 σ H3 _ I3 q3) fun w' s4 ⟨z', H4, I4, r4, q4⟩ => thn (ho' pins s4 σ H4 y z' u w' _ I4 r2 r4 q4) fun d' s5 ⟨z2, H5, I5, r5, k2, e2, q5⟩ => ?_))
    subst e2
    cases r5
    exact wpAny_truthy_bool ⟨H5, I5, q5⟩

noncomputable def TruV (K : PySem.W.Frag) (x : V) (H : Hp) (k : Bool) : Prop :=
  match x with
  | .non => k = false
  | .bl b => k = b
  | .int i => k = (i != 0)
  | .str y => y.length ≤ sizeLine ∧ k = ((y.length : Int) != 0)
  | .byt y => y.size ≤ sizeLine ∧ k = ((y.size : Int) != 0)
  | .ref p => (∃ xs, SqL K H p xs ∧ k = !xs.isEmpty) ∨ (∃ xs, SqT K H p xs ∧ k = !xs.isEmpty) ∨ ∃ kvs, H p = some (.dK kvs) ∧ k = !kvs.isEmpty
  | _ => False
theorem isEmpty_kv {κ : Type} {kvs : List (κ × V)} {vs : List (κ × Value)} (r : KV kvs vs) : (!vs.isEmpty) = !kvs.isEmpty := by
  cases r <;> rfl
theorem isEmpty_of {xs : List V} {its : List Value} (r : Vals xs its) : (!its.toArray.isEmpty) = !xs.isEmpty := by
  cases r <;> simp
theorem line63 : (sizeLine : Nat) < 2 ^ 63 := by rw [sizeLine_eq]; decide
theorem tru_ok : TruR X (fun x H Q => ∃ k, TruV X.K x H k ∧ Q k H) := by
  intro pins s σ H x v Q I rx h
  obtain ⟨k, e, q⟩ := h
  have hl := line63
  have hs : sizeLine = 16777216 := sizeLine_eq
  cases x with
  | non =>
    cases rx
    have e' : k = false := e
    subst e'
    exact truthy_none ⟨H, I, q⟩
  | bl b =>
    cases rx
    have e' : k = b := e
    subst e'
    exact wpAny_truthy_bool ⟨H, I, q⟩
  | int i =>
    obtain ⟨t, rfl⟩ := rx
    have e' : k = (i != 0) := e
    subst e'
    exact PySem.P.truthy_int ⟨H, I, q⟩
  | str y =>
    obtain ⟨t, rfl⟩ := rx
    obtain ⟨hy, e'⟩ : y.length ≤ sizeLine ∧ k = ((y.length : Int) != 0) := e
    subst e'
    exact PySem.P.truthy_str (by omega) ⟨H, I.tok _, q⟩
  | byt y =>
    obtain ⟨t, rfl⟩ := rx
    obtain ⟨hy, e'⟩ : y.size ≤ sizeLine ∧ k = ((y.size : Int) != 0) := e
    subst e'
    exact PySem.W.truthy_bytes (by omega) ⟨H, I.tok _, q⟩
  | ref p =>
    cases rx
    have e' : (∃ xs, SqL X.K H p xs ∧ k = !xs.isEmpty) ∨ (∃ xs, SqT X.K H p xs ∧ k = !xs.isEmpty) ∨ ∃ kvs, H p = some (.dK kvs) ∧ k = !kvs.isEmpty := e
    rcases e' with ⟨xs, hx, e'⟩ | ⟨xs, hx, e'⟩ | ⟨kvs, hx, e'⟩
    · subst e'
      obtain ⟨its, r, pl, hz⟩ := I.list hx
      have hlen := r.length
      exact wpAny_truthy_list pl.isList (by simp only [List.size_toArray]; omega) ⟨H, I.tok _, by rw [isEmpty_of r]; exact q⟩
    · subst e'
      obtain ⟨its, r, pl, hz⟩ := I.tuple hx
      have hlen := r.length
      exact truthy_tuple pl (by simp only [List.size_toArray]; omega) ⟨H, I.tok _, by rw [isEmpty_of r]; exact q⟩
    · subst e'
      obtain ⟨hz, hS, vs, r, m⟩ : kvs.length ≤ sizeLine ∧ (p == sysModules) = false ∧ ∃ vs, KV kvs vs ∧ s.heap.DictOf (mixKind X.prog X.w) p vs := I.hok p _ hx
      have hlen : kvs.length = vs.length := Paired.length r
      exact wpAny_truthy_dict hS m (by omega) ⟨H, I.tok _, by rw [isEmpty_kv r]; exact q⟩
  | _ => exact (show False from e).elim
theorem pt_truth (ha : PE X a ta) (he : ∀ whole, isTrue a X.env whole = (do let v ← whole; standAt a.pos; holding [v] (truthy v))) :
    PT X a (fun σ H Q => ta σ H fun x H' => ∃ k, TruV X.K x H' k ∧ Q k H') := by
  intro pins s σ H Q I h
  exact isTrue_plain (thn (ha pins s σ H _ I h) fun v s1 ⟨x, H1, I1, r1, q1⟩ => tru_ok pins s1 σ H1 x v Q I1 r1 q1) (he _)

theorem op_add_str : OpR X (binaryOp .Add) (fun x y H Q => ∃ i j, x = .str i ∧ y = .str j ∧ i.length + j.length ≤ sizeLine ∧ Q (.str (i ++ j)) H) := by
  intro pins s σ H x y v u Q I rx ry h
  obtain ⟨i, j, rfl, rfl, hz, q⟩ := h
  obtain ⟨t, rfl⟩ := rx
  obtain ⟨t', rfl⟩ := ry
  exact add_str (fun t' tk => ⟨.str (i ++ j), H, I.tok _, ⟨_, rfl⟩, q⟩) hz
theorem vals1 {x : V} {us : List Value} (r : Vals [x] us) : ∃ u, us = [u] ∧ RelV x u := by
  cases r with
  | cons r1 r2 => cases r2; exact ⟨_, rfl, r1⟩
noncomputable def LenV (K : PySem.W.Frag) (x : V) (H : Hp) (n : Nat) : Prop :=
  match x with
  | .str y => y.length ≤ sizeLine ∧ n = y.length
  | .byt y => y.size ≤ sizeLine ∧ n = y.size
  | .ref p => (∃ xs, SqL K H p xs ∧ n = xs.length) ∨ ∃ xs, SqT K H p xs ∧ n = xs.length
  | _ => False
theorem call_len : CallR X (.builtin "len") (fun xs H Q => ∃ x n, xs = [x] ∧ LenV X.K x H n ∧ Q (.int n) H) := by
  intro pins s σ H xs us Q I r h
  obtain ⟨x, n, rfl, e, q⟩ := h
  obtain ⟨u, rfl, rx⟩ := vals1 r
  have hl := line63
  have hs : sizeLine = 16777216 := sizeLine_eq
  cases x with
  | str y =>
    obtain ⟨t, rfl⟩ := rx
    obtain ⟨hy, e'⟩ : y.length ≤ sizeLine ∧ n = y.length := e
    subst e'
    exact len_str (by omega) ⟨.int _, H, I.tok _, ⟨_, rfl⟩, q⟩
  | byt y =>
    obtain ⟨t, rfl⟩ := rx
    obtain ⟨hy, e'⟩ : y.size ≤ sizeLine ∧ n = y.size := e
    subst e'
    exact PySem.W.len_bytes (by omega) ⟨.int _, H, I.tok _, ⟨_, rfl⟩, q⟩
  | ref p =>
    cases rx
    have e' : (∃ xs, SqL X.K H p xs ∧ n = xs.length) ∨ ∃ xs, SqT X.K H p xs ∧ n = xs.length := e
    rcases e' with ⟨xs, hx, e'⟩ | ⟨xs, hx, e'⟩
    · subst e'
      obtain ⟨its, r', pl, hz⟩ := I.list hx
      have hlen := r'.length
      exact Calls.call_len_list pl.isList (by simp only [List.size_toArray]; omega) ⟨.int xs.length, H, I.tok _, ⟨_, by simp only [List.size_toArray]; rw [hlen]⟩, q⟩
    · subst e'
      obtain ⟨its, r', pl, hz⟩ := I.tuple hx
      have hlen := r'.length
      exact len_tuple pl (by simp only [List.size_toArray]; omega) ⟨.int xs.length, H, I.tok _, ⟨_, by simp only [List.size_toArray]; rw [hlen]⟩, q⟩
  | _ => exact (show False from e).elim
end
end L2

namespace L2
open PySem PySem.Spec PyProof.Rows

structure ObjM (h : Heap) (x dx C : Addr) (mA : Str → Option Value) : Prop where
  obj : h.get? x = some (PySem.W.instObj C dx)
  ns : h.Ns1 dx mA
  ne : dx ≠ x

section
variable {prog : Program} {w : World} {A : Around} {E : Value → Shared → Prop} {s : Shared} {K : PySem.W.Frag} {x dx C f : Addr} {mA : Str → Option Value} {name : Str} {v : Value}

end

section
variable {P : Program} {w : World} {H H' : Hp} {h h' : Heap} {a C dx : Addr} {fs fs' : List (Str × V)}
end

structure Cls (K : PySem.W.Frag) (C : Addr) : Prop where
  pg : PySem.W.plainGet K C Str.empty = true
  hd : PySem.W.hasDictIn K C = true
  po : PySem.W.plainOver K C = true
  sa : PySem.W.findIn K (.ref C) "__setattr__" = some (some (.builtin "object.__setattr__"))
noncomputable def NoAttr (K : PySem.W.Frag) (C : Addr) (f : Str) : Prop := PySem.W.findIn K (.ref C) f = some none
structure Con (K : PySem.W.Frag) (C : Addr) (f : Str) (v : V) (u : Value) : Prop where
  at_ : PySem.W.findIn K (.ref C) f = some (some u)
  rel : RelV v u
  get : PySem.W.specialIn K u "__get__" = some none
  cp : PySem.W.copiedNames.contains f = false
structure Meth (K : PySem.W.Frag) (C : Addr) (m : Str) (f : Addr) : Prop where
  at_ : PySem.W.findIn K (.ref C) m = some (some (.ref f))
  fn : PySem.W.isFn K (.ref f) = true
  kp : PySem.W.keepIn K (.ref f) = true

section
variable {X : Cx} {pins : List (Addr × Obj)} {σ : St} {H : Hp} {s : Shared} {a C dx : Addr} {fs : List (Str × V)} {f : Str} {v : V} {A : Around} {E : Value → Shared → Prop}

end

section
variable {X : Cx} {o e value : Expr} {f : Str} {pos pos' tpos : Pos} {ta tv : TE}
end

section
variable {X : Cx} {pins : List (Addr × Obj)} {σ : St} {H : Hp} {s : Shared} {A : Around} {E : Value → Shared → Prop} {Q : Value → Shared → Prop} {c : Value} {b : Bool}
inductive TyOf (K : PySem.W.Frag) (H : Hp) : V → Value → Prop where
  | non : TyOf K H .non (.type "NoneType")
  | bl (x : Bool) : TyOf K H (.bl x) (.type "bool")
  | int (i : Int) : TyOf K H (.int i) (.type "int")
  | str (x : Str) : TyOf K H (.str x) (.type "str")
  | flt (x : UInt64) : TyOf K H (.flt x) (.type "float")
  | lst {a : Addr} {xs : List V} (e : H a = some (.lst xs)) : TyOf K H (.ref a) (.type "list")
  | frz {a : Addr} {o : Obj} {xs : List V} (e : H a = some (.frz o (.lst xs))) : TyOf K H (.ref a) (.type "list")
  | tup {a : Addr} {xs : List V} (e : H a = some (.tup xs)) : TyOf K H (.ref a) (.type "tuple")
  | dK {a : Addr} {kvs : List (Key × V)} (e : H a = some (.dK kvs)) : TyOf K H (.ref a) (.type "dict")
  | dT {a : Addr} {kvs : List (List Key × V)} (e : H a = some (.dT kvs)) : TyOf K H (.ref a) (.type "dict")
  | ins {a C dx : Addr} {fs : List (Str × V)} (e : H a = some (.ins C dx fs)) (cl : Cls K C) (ha : PySem.W.findIn K (.ref C) "__class__" = some (some (.builtin "object.__class__")))
      (hn : PySem.W.specialIn K (.builtin "object.__class__") "__get__" = some (some (.builtin "getset_descriptor.__get__"))) (htk : PySem.W.takesIn K (.builtin "object.__class__") = some true)
      (hm : PySem.W.mroIn K C (.type "object") = some true) : TyOf K H (.ref a) (.ref C)
end
end L2

namespace L2
open PySem PySem.Spec PyProof.Rows

structure Room (k : Nat) (A : Around) : Prop where
  hd : A.handled = none
  dp : A.depth + 3 * k + 5 < recursionLimit
  un : A.units + 16 * k + 200 < cLine
theorem Room.mono {j k : Nat} {A : Around} (r : Room k A) (h : j ≤ k) : Room j A := ⟨r.hd, by have := r.dp; omega, by have := r.un; omega⟩
theorem Room.deeper {k : Nat} {A : Around} (r : Room (k + 1) A) (env : Env) : Room k (A.deeper env) :=
  ⟨r.hd, by have := r.dp; show A.depth + 1 + 3 * k + 5 < _; omega, by have := r.un; show A.units + 3 + 16 * k + 200 < _; omega⟩
theorem Room.in1 {k : Nat} {A : Around} (r : Room (k + 1) A) : Room k A.in1 :=
  ⟨r.hd, by have := r.dp; show A.depth + 3 * k + 5 < _; omega, by have := r.un; show A.units + 1 + 16 * k + 200 < _; omega⟩
theorem Room.depth {k : Nat} {A : Around} (r : Room k A) : A.depth < recursionLimit := by have := r.dp; omega
theorem Room.units {k : Nat} {A : Around} (r : Room k A) : A.units + 64 < cLine := by have := r.un; omega
theorem Room.units0 {k : Nat} {A : Around} (r : Room k A) : A.units < cLine := by have := r.un; omega

noncomputable def tNil : TA := fun _ H Q => Q [] H
noncomputable def tCons (ta : TE) (tr : TA) : TA := fun σ H Q => ta σ H fun x H1 => tr σ H1 fun xs H2 => Q (x :: xs) H2
section
variable {X : Cx} {e : Expr} {es : List Expr} {te : TE} {t : TA} {pos : Pos}
theorem pa_nil : PA X [] tNil := fun _ _ _ _ H Q I h => Calls.spliced_nil ⟨[], H, I, .nil, h⟩
theorem pa_cons (ha : PE X e te) (hr : PA X es t) (hs : starEach (e :: es) X.env = (false, eval e X.env) :: starEach es X.env := by rfl) : PA X (e :: es) (tCons te t) := by
  intro pos pins s σ H Q I h
  rw [hs]
  show wpAny _ _ (spliced ((false, eval e X.env) :: backTo pos (starEach es X.env))) _ _ s
  refine Calls.spliced_cons (thn (ha pins s σ H _ I h) fun u s1 ⟨x, H1, I1, r1, q1⟩ => ?_)
  exact thn (hr pos pins s1 σ H1 _ I1 q1) fun us s2 ⟨xs, H2, I2, r2, q2⟩ => ⟨x :: xs, H2, I2, .cons r1 r2, q2⟩

noncomputable def tTup (t : TA) : TE := fun σ H Q => t σ H fun xs H1 => xs.length ≤ sizeLine ∧ ∀ p, H1 p = none → Q (.ref p) (upd H1 p (.tup xs))
noncomputable def tLst (t : TA) : TE := fun σ H Q => t σ H fun xs H1 => xs.length ≤ sizeLine ∧ ∀ p, H1 p = none → Q (.ref p) (upd H1 p (.lst xs))
theorem pe_tup {x1} (h : PA X es t) : PE X (.Tuple es x1 pos) (tTup t) := by
  intro pins s σ H Q I hq
  refine wpAny_Tuple_spliced (thn (h pos pins s σ H _ I hq) fun us s1 ⟨xs, H1, I1, r, z, q⟩ => ⟨by rw [← r.length]; exact z, ?_⟩)
  have hf : H1 s1.heap.objs.size = none := I1.hok.fresh (Nat.le_refl _)
  refine ⟨.ref s1.heap.objs.size, upd H1 s1.heap.objs.size (.tup xs), I1.laid (t' := s1.toks) (fun b u e => Heap.get?_push_of_some _ e) (Nat.le_refl _) ?_, rfl, q _ hf⟩
  exact ⟨z, us, r, ⟨_, Heap.get?_push_size _ rfl, rfl, _, rfl⟩⟩
theorem pe_lst (h : PA X es t) : PE X (.List es pos) (tLst t) := by
  intro pins s σ H Q I hq
  refine wpAny_List_spliced (thn (h pos pins s σ H _ I hq) fun us s1 ⟨xs, H1, I1, r, z, q⟩ => ⟨by rw [← r.length]; exact z, ?_⟩)
  have hf : H1 s1.heap.objs.size = none := I1.hok.fresh (Nat.le_refl _)
  refine ⟨.ref s1.heap.objs.size, upd H1 s1.heap.objs.size (.lst xs), I1.laid (t' := s1.toks) (fun b u e => Heap.get?_push_of_some _ e) (Nat.le_refl _) ?_, rfl, q _ hf⟩
  exact ⟨z, us, 0, r, Heap.get?_push_size _ rfl⟩
end

noncomputable abbrev Sp := List V → Hp → VK → XK → Prop
noncomputable abbrev CXT := List Env → Hp → Shared → XK → Value → Shared → Prop

structure Env0 (P : Program) (w : World) (K : PySem.W.Frag) (mg : Str → Option Value) (base : Heap) (A : Around) (outer : List Env) (s : Shared) (H : Hp) : Prop where
  frames : A.frames = some outer
  mod : Mod K mg base
  bs : ∀ b o, base.get? b = some o → s.heap.get? b = some o ∧ H b = none
  bsz : base.objs.size ≤ s.heap.objs.size
  funs : s.heap.FunFrames base outer
  frf : ∀ b ∈ frs outer, H b = none
  hok : HOk P w H s.heap
  bare : AllBare s.gens
  tabs : TabsIn base H
noncomputable def CE (outer : List Env) (P : Program) (w : World) (H : Hp) (s : Shared) (Q : VK) (u : Value) (s' : Shared) : Prop :=
  ∃ v H', s'.os = s.os ∧ AllBare s'.gens ∧ Un (frs outer) [] H H' s.heap s'.heap ∧ HOk P w H' s'.heap ∧ RelV v u ∧ Q v H'
noncomputable def CR (CX : CXT) (outer : List Env) (P : Program) (w : World) (H : Hp) (s : Shared) (Q : VK) (E : XK) (r : Result) (s' : Shared) : Prop :=
  match r with
  | .ok (.ret u) => CE outer P w H s Q u s'
  | .ok _ => False
  | .error e => CX outer H s E e s'
structure FnOk (P : Program) (w : World) (K : PySem.W.Frag) (mg : Str → Option Value) (base : Heap) (CX : CXT) (k : Nat) (f : Addr) (fd : FuncData) (ps : List Str) (sp : Sp) : Prop where
  len : ∀ vs H Q E, sp vs H Q E → vs.length = ps.length
  run : ∀ (A : Around) (outer : List Env) (s : Shared) (H : Hp) (args : Args) (us : List Value) (vs : List V) (Q : VK) (E : XK), Room k A → Env0 P w K mg base A outer s H → BindsTo s fd args (ps.zip us) → Vals vs us → sp vs H Q E →
    codeAny (model P w) A (.call (.ref f) args) (CR CX outer P w H s Q E) s
theorem FnOk.imp {P : Program} {w : World} {K : PySem.W.Frag} {mg : Str → Option Value} {base : Heap} {CX : CXT} {k : Nat} {f : Addr} {fd : FuncData} {ps : List Str} {sp sp' : Sp} (F : FnOk P w K mg base CX k f fd ps sp)
    (h : ∀ vs H Q E, sp' vs H Q E → sp vs H Q E) : FnOk P w K mg base CX k f fd ps sp' :=
  ⟨fun vs H Q E q => F.len vs H Q E (h _ _ _ _ q), fun A outer s H args us vs Q E hr he hb hv hs => F.run A outer s H args us vs Q E hr he hb hv (h _ _ _ _ hs)⟩

section
variable {X : Cx} {pins : List (Addr × Obj)} {σ : St} {H : Hp} {s s' : Shared}
theorem Inv.env0 (I : Inv X pins σ H s) : Env0 X.prog X.w X.K X.mg X.base X.A X.stack s H :=
  ⟨I.ok.frames, I.ok.mod, I.bs, Nat.le_trans I.ok.bsz I.sz, I.stack, I.stkFree, I.hok, I.bare, I.ok.tabs.un I.base⟩
theorem Inv.after {Q : VK} {u : Value} (I : Inv X pins σ H s) (h : CE X.stack X.prog X.w H s Q u s') : EP X pins σ Q u s' := by
  obtain ⟨v, H', os, bare, un, hok, r, q⟩ := h
  obtain ⟨hh, g, d, t, os'⟩ := s'
  obtain rfl : os' = s.os := os
  exact ⟨v, H', I.call (h' := hh) (g' := g) (d' := d) (t' := t) (ch := []) un hok bare (fun b z => absurd z (by simp)), r, q⟩
end

noncomputable def Binds (K : PySem.W.Frag) (fd : FuncData) (ps : List Str) (ds : List Value) : Prop :=
  ∀ (s : Shared) (us : List Value), K.In s.heap → (us ++ ds).length = ps.length → BindsTo s fd ⟨us, []⟩ (ps.zip (us ++ ds))
theorem Binds.all {K : PySem.W.Frag} {fd : FuncData} {ps : List Str} (h : ∀ us : List Value, us.length = ps.length → bindArgs fd ⟨us, []⟩ = pure (ps.zip us)) : Binds K fd ps [] := fun s us _ hl => by
  rw [List.append_nil] at hl ⊢
  exact .of_eq (h us hl)

section
variable {X : Cx} {CX : CXT} {k : Nat} {f C : Addr} {fd : FuncData} {ps : List Str} {sp : Sp} {dvs : List V} {ds : List Value} {E : XK} {x m : Str} {p pos apos : Pos} {e o : Expr} {es : List Expr} {ta : TE} {t : TA}

structure Mk (K : PySem.W.Frag) (C f : Addr) : Prop where
  makes : PySem.W.makesIn K C = true
  init : PySem.W.findIn K (.ref C) "__init__" = some (some (.ref f))
  fn : PySem.W.isFn K (.ref f) = true
  kp : PySem.W.keepIn K (.ref C) = true

end

section
variable {X : Cx} {CX : CXT} {k : Nat} {f C : Addr} {fd : FuncData} {ps ks : List Str} {sp : Sp} {E : XK} {x m : Str} {p pos apos kpos : Pos} {e o : Expr} {es : List Expr} {kws : List Keyword} {te ta : TE} {t tk : TA} {nm : Option Str}
structure KBinds (K : PySem.W.Frag) (fd : FuncData) (ps ks : List Str) (g : List Value → List Value → List Value) (gV : List V → List V → List V) : Prop where
  to : ∀ (s : Shared) (us ws : List Value), K.In s.heap → (g us ws).length = ps.length → BindsTo s fd ⟨us, ks.zip ws⟩ (ps.zip (g us ws))
  rel : ∀ {vs : List V} {us : List Value} {zs : List V} {ws : List Value}, Vals vs us → Vals zs ws → Vals (gV vs zs) (g us ws)
variable {g : List Value → List Value → List Value} {gV : List V → List V → List V}
end

structure FnScope (N P : List Str) (sc : Scope) : Prop where
  kind : sc.kind = .function
  co : sc.isCoroutine = false
  gen : sc.isGenerator = false
  nd : N.Nodup
  pre : N.take P.length = P
  par : ∀ x ∈ P, sc.names.lookup x = some .local ∨ sc.names.lookup x = some .cell
  nofree : ∀ y ∈ sc.names, y.2 ≠ .free

theorem bindL_out {kindOf : Str → Option NameKind} {x : Str} : ∀ {binds : List (Str × Value)} {m : Str → Option Value}, (∀ v, (x, v) ∉ binds) → bindL kindOf binds m x = m x
  | [], _, _ => rfl
  | (n, v) :: r, m, h => by
    unfold bindL
    rw [bindL_out fun w hw => h w (List.mem_cons_of_mem _ hw)]
    split
    · have : x ≠ n := by rintro rfl; exact h v List.mem_cons_self
      simp [this]
    · rfl
theorem bindC_out {kindOf : Str → Option NameKind} {x : Str} : ∀ {binds : List (Str × Value)} {m : Str → Option Value}, (∀ v, (x, v) ∉ binds) → bindC kindOf binds m x = m x
  | [], _, _ => rfl
  | (n, v) :: r, m, h => by
    unfold bindC
    rw [bindC_out fun w hw => h w (List.mem_cons_of_mem _ hw)]
    split
    · rfl
    · have : x ≠ n := by rintro rfl; exact h v List.mem_cons_self
      simp [this]
theorem bindL_get {kindOf : Str → Option NameKind} {x : Str} {v : Value} : ∀ {P : List Str} {vs : List Value} {i : Nat} {m : Str → Option Value}, P.Nodup → P[i]? = some x → vs[i]? = some v → kindOf x = some .local →
    bindL kindOf (P.zip vs) m x = some v
  | [], _, _, _, _, h, _, _ => by simp at h
  | _ :: _, [], _, _, _, _, h, _ => by simp at h
  | p :: P, w :: vs, 0, m, nd, h1, h2, hk => by
    simp at h1 h2; subst h1; subst h2
    show bindL kindOf ((p, w) :: P.zip vs) m p = _
    unfold bindL
    rw [bindL_out fun v hv => (List.nodup_cons.mp nd).1 (List.of_mem_zip hv).1, if_pos hk]
    simp
  | p :: P, w :: vs, i + 1, m, nd, h1, h2, hk => by
    show bindL kindOf ((p, w) :: P.zip vs) m x = _
    unfold bindL
    exact bindL_get (i := i) (List.nodup_cons.mp nd).2 (by simpa using h1) (by simpa using h2) hk
theorem bindC_get {kindOf : Str → Option NameKind} {x : Str} {v : Value} : ∀ {P : List Str} {vs : List Value} {i : Nat} {m : Str → Option Value}, P.Nodup → P[i]? = some x → vs[i]? = some v → kindOf x ≠ some .local →
    bindC kindOf (P.zip vs) m x = some v
  | [], _, _, _, _, h, _, _ => by simp at h
  | _ :: _, [], _, _, _, _, h, _ => by simp at h
  | p :: P, w :: vs, 0, m, nd, h1, h2, hk => by
    simp at h1 h2; subst h1; subst h2
    show bindC kindOf ((p, w) :: P.zip vs) m p = _
    unfold bindC
    rw [bindC_out fun v hv => (List.nodup_cons.mp nd).1 (List.of_mem_zip hv).1, if_neg hk]
    simp
  | p :: P, w :: vs, i + 1, m, nd, h1, h2, hk => by
    show bindC kindOf ((p, w) :: P.zip vs) m x = _
    unfold bindC
    exact bindC_get (i := i) (List.nodup_cons.mp nd).2 (by simpa using h1) (by simpa using h2) hk

noncomputable def start (N : List Str) (vs : List V) : St := vs.map some ++ List.replicate (N.length - vs.length) none

noncomputable def cxOf (CX : CXT) (P : Program) (w : World) (K : PySem.W.Frag) (mg : Str → Option Value) (base : Heap) (N : List Str) (qual : Str) (scope : Scope) (f : Addr) (cd : Value) (A : Around) (outer : List Env) (s : Shared) (H : Hp) (E : XK) : Cx where
  prog := P
  w := w
  K := K
  mg := mg
  base := base
  A := A.deeper (envOfC qual scope s.heap.objs.size f cd)
  N := N
  s₀ := s
  H₀ := H
  env := envOfC qual scope s.heap.objs.size f cd
  outer := outer
  stack := envOfC qual scope s.heap.objs.size f cd :: outer
  ex := []
  calm := true
  fn := fun _ => true
  pn := []
  xe := fun e s' => wpAny (model P w) (A.deeper (envOfC qual scope s.heap.objs.size f cd)) (leaving (envOfC qual scope s.heap.objs.size f cd) e) (fun _ s'' => CX outer H s E e s'') (fun e' s'' => CX outer H s E e' s'') s'

theorem cell_has {sc : Scope} {n : Nat} {x : Str} (h : sc.names.lookup x = some .cell) : ∃ c, (cellsFrom n sc.names []).lookup x = some c := by
  have q := PySem.W.cellsFrom_some sc.names n [] (.inl h)
  exact Option.isSome_iff_exists.mp q

theorem inv_start {CX : CXT} {P : Program} {w : World} {K : PySem.W.Frag} {mg : Str → Option Value} {base : Heap} {N ps : List Str} {qual : Str} {scope : Scope} {f : Addr} {cd : Value} {A : Around} {outer : List Env} {s s1 : Shared} {H : Hp} {E : XK} {us : List Value} {vs : List V}
    (S : FnScope N ps scope) (hd : A.handled = none) (e0 : Env0 P w K mg base A outer s H) (hl : vs.length = ps.length) (r : Vals vs us)
    (x : InCallC s s.heap.objs.size (bindL (envOfC qual scope s.heap.objs.size f cd).kindOf (ps.zip us) fun _ => none) (cellsFrom (s.heap.objs.size + 1) scope.names []) (bindC (envOfC qual scope s.heap.objs.size f cd).kindOf (ps.zip us) fun _ => none) s1) :
    Inv (cxOf CX P w K mg base N qual scope f cd A outer s H E) [] (start N vs) H s1 := by
  have hpl : ps.length ≤ N.length := by have := congrArg List.length S.pre; rw [List.length_take] at this; omega
  obtain ⟨h1, tk, rfl, hk⟩ := x.done
  have noA : ∀ b : Addr, b ∉ (cxOf CX P w K mg base N qual scope f cd A outer s H E).ex := fun b z => absurd (show b ∈ ([] : List Addr) from z) (by simp)
  refine ⟨⟨e0.mod, S.kind, rfl, rfl, Nat.le_refl _, fun y z c h1 h2 => ?_, fun y hy => ?_, fun y c _ h => ?_, fun _ => hd, Around.frames_deeper e0.frames, .inr ⟨rfl, rfl⟩, fun b z => absurd z (noA b), e0.bs, e0.bsz, fun b _ _ => noA b, fun b z => absurd z (noA b), e0.funs, e0.frf, e0.tabs⟩,
    rfl, e0.bare, Un.kept hk, ⟨_, x.toInCall.ns, fun i y v h1 h2 h3 => ?_⟩, fun y c h => ⟨_, x.cell y c h⟩, e0.hok.fresh (Nat.le_refl _), fun y c h => ?_, fun p hp => absurd (show p ∈ ([] : List (Addr × Obj)) from hp) (by simp), e0.hok.kept hk, ?_⟩
  · exact name_of_addr x.apart (PySem.mem_of_lookup h1) (PySem.mem_of_lookup h2)
  · have hy : scope.names.lookup y = some .cell ∨ scope.names.lookup y = some .free := hy
    rcases hy with hy | hy
    · exact cell_has hy
    · exact absurd rfl (S.nofree _ (PySem.mem_of_lookup hy))
  · exact Nat.le_of_lt (x.above y c (PySem.mem_of_lookup h))
  · have hi : i < vs.length := by
      unfold start at h2
      by_cases hi : i < vs.length
      · exact hi
      · rw [List.getElem?_append_right (by simpa using hi)] at h2
        rw [List.getElem?_replicate] at h2
        split at h2 <;> cases h2
    have ha : vs[i]? = some v := by
      unfold start at h2
      rw [List.getElem?_append_left (by simpa using hi), List.getElem?_map] at h2
      cases e : vs[i]? with
      | none => rw [e] at h2; cases h2
      | some a => rw [e] at h2; cases h2; rfl
    obtain ⟨u, hu, rv⟩ := r.get ha
    have hp : ps[i]? = some y := by
      rw [← S.pre, List.getElem?_take_of_lt (by omega)]; exact h1
    have ndP : ps.Nodup := by rw [← S.pre]; exact S.nd.sublist (List.take_sublist _ _)
    refine ⟨u, rv, ?_⟩
    rcases S.par y (List.mem_of_getElem? hp) with k | k
    · exact .inl ⟨k, bindL_get ndP hp hu k⟩
    · obtain ⟨c, e⟩ := cell_has (n := s.heap.objs.size + 1) k
      refine .inr ⟨.inl k, c, e, ?_⟩
      have q := x.cell y c e
      rw [bindC_get ndP hp hu (by show scope.names.lookup y ≠ _; rw [k]; decide)] at q
      exact q
  · exact e0.hok.fresh (Nat.le_of_lt (x.above y c (PySem.mem_of_lookup h)))
  · unfold start
    show _ = N.length
    rw [List.length_append, List.length_map, List.length_replicate]
    omega

theorem fn_of {CX : CXT} {P : Program} {w : World} {K : PySem.W.Frag} {mg : Str → Option Value} {base : Heap} {k : Nat} {f : Addr} {name qual : Str} {params : Arguments} {body : List Stmt} {scope : Scope} {dV kV doc pm cdv ct oc : Value} {an od : Option Addr}
    {osl : Array (Option Value)} {N ps : List Str} {sp : Sp} (lk : K.lookup f = some ⟨oc, od, .func (PySem.W.fnOf name qual params body scope dV kV doc pm an cdv ct), osl⟩) (hcd : PySem.W.codeIn K cdv qual = true) (S : FnScope N ps scope)
    (len : ∀ vs H Q E, sp vs H Q E → vs.length = ps.length)
    (hbody : ∀ (A : Around) (outer : List Env) (s : Shared) (H : Hp) (vs : List V) (Q : VK) (E : XK), Room k (A.deeper (envOfC qual scope s.heap.objs.size f cdv)) → sp vs H Q E →
      ∃ t, PSs (cxOf CX P w K mg base N qual scope f cdv A outer s H E) body t ∧ t { nx := fun _ H' => Q .non H', rt := Q } (start N vs) H) :
    FnOk P w K mg base CX (k + 1) f (PySem.W.fnOf name qual params body scope dV kV doc pm an cdv ct) ps sp := by
  refine ⟨len, fun A outer s H args us vs Q E hr e0 hb r hsp => ?_⟩
  have hl := len _ _ _ _ hsp
  have KX : K.In s.heap := e0.mod.kin.keeps fun b o e => (e0.bs b o e).1
  have lim : s.heap.NoLimit := e0.mod.nolimit.keeps fun b o e => (e0.bs b o e).1
  have hkind : ∀ y ∈ ps.zip us, scope.names.lookup y.1 = some .local ∨ (scope.names.lookup y.1 = some .cell ∧ ((cellsFrom (s.heap.objs.size + 1) scope.names []).lookup y.1).isSome = true) := fun ⟨n, v⟩ hy => by
    rcases S.par n (List.of_mem_zip hy).1 with q | q
    · exact .inl q
    · exact .inr ⟨q, PySem.W.cellsFrom_some _ _ _ (.inl q)⟩
  refine codeAny_call_function hr.depth (KX _ _ lk) rfl S.co S.gen rfl (PySem.W.codeRec_of KX hcd) (hb _ _ _ _ ?_)
  refine wpAny_newFunctionEnv_cells S.kind hkind fun env he s1 x => ?_
  subst he
  refine ⟨lim.keeps x.toInCall.keep, codeAny_func ?_⟩
  obtain ⟨t, ht, hq⟩ := hbody A outer s H vs Q E (hr.deeper _) hsp
  have I : Inv (cxOf CX P w K mg base N qual scope f cdv A outer s H E) [] (start N vs) H s1 := inv_start S hr.hd e0 hl r x
  refine wpAny_mono (ht [] s1 (start N vs) H _ I hq) (fun fl s' hs => ?_) fun e s' hs => hs
  have fin : ∀ {σ' : St} {H' : Hp} {v : V} {u : Value}, Inv (cxOf CX P w K mg base N qual scope f cdv A outer s H E) [] σ' H' s' → RelV v u → Q v H' → CE outer P w H s Q u s' :=
    fun {σ' H' v u} J rv q => ⟨v, H', J.os, J.bare, J.base, J.hok, rv, q⟩
  cases fl with
  | ret u =>
    obtain ⟨v, σ', H', J, rv, q⟩ := hs
    exact fin J rv q
  | next =>
    obtain ⟨σ', H', J, q⟩ := hs
    exact fin (v := V.non) (u := Value.none) J rfl q
  | brk =>
    obtain ⟨_, _, _, q⟩ := hs
    exact False.elim q
  | cont =>
    obtain ⟨_, _, _, q⟩ := hs
    exact False.elim q
end L2

namespace L2
open PySem PySem.Spec PyProof.Rows
section
variable {X : Cx} {x : Str} {p pos : Pos} {e : Expr} {es : List Expr} {t : TA} {id T : String} {r : List V → Hp → VK → Prop}

noncomputable def tCB (r : List V → Hp → VK → Prop) (t : TA) : TE := fun σ H Q => t σ H fun vs H1 => r vs H1 Q
theorem pe_callB (hc : CallR X (.builtin id) r) (hg : Gl X x) (hm : X.mg x = none) (hv : bootBuiltins x = some (.builtin id)) (ha : PA X (e :: es) t) (hn : x ≠ "__name__" := by decide) (hdb : (x == ("__debug__" : Str)) = false := by decide)
    (he : starEach (e :: es) X.env = (false, eval e X.env) :: starEach es X.env := by rfl) (hpl : (backTo pos (starEach es X.env)).any (·.1) = false := by rfl) : PE X (.Call (.Name x p) (e :: es) [] pos) (tCB r t) := by
  intro pins s σ H Q I h
  refine wpAny_Call_Name_kw (ld_blt I hg hm hv ?_ hn hdb)
  exact PyProof.Rows.callWith_builtin1 (thn (ha pos pins s σ H _ I h) fun us s1 ⟨vs, H1, I1, r1, q1⟩ => hc pins s1 σ H1 vs us Q I1 r1 q1) he hpl
theorem pe_callTy (hc : CallR X (.type T) r) (hg : Gl X x) (hm : X.mg x = none) (hv : bootBuiltins x = some (.type T)) (ha : PA X (e :: es) t) (hn : x ≠ "__name__" := by decide) (hdb : (x == ("__debug__" : Str)) = false := by decide)
    (he : starEach (e :: es) X.env = (false, eval e X.env) :: starEach es X.env := by rfl) (hpl : (backTo pos (starEach es X.env)).any (·.1) = false := by rfl) : PE X (.Call (.Name x p) (e :: es) [] pos) (tCB r t) := by
  intro pins s σ H Q I h
  refine wpAny_Call_Name_kw (ld_blt I hg hm hv ?_ hn hdb)
  exact PyProof.Rows.callWith_type1 (thn (ha pos pins s σ H _ I h) fun us s1 ⟨vs, H1, I1, r1, q1⟩ => hc pins s1 σ H1 vs us Q I1 r1 q1) he hpl
end
end L2

namespace HT
open PySem PyProof.Rows

noncomputable def lexLt : List Int → List Int → Bool
  | [], [] => false
  | [], _ :: _ => true
  | _ :: _, [] => false
  | x :: xs, y :: ys => if x = y then lexLt xs ys else decide (x < y)
theorem lexLt_cons (x y : Int) (xs ys : List Int) : lexLt (x :: xs) (y :: ys) = if x = y then lexLt xs ys else decide (x < y) := rfl
theorem lexLt_nil_nil : lexLt [] [] = false := rfl
theorem lexLt_nil_cons (y : Int) (ys : List Int) : lexLt [] (y :: ys) = true := rfl
theorem lexLt_cons_nil (x : Int) (xs : List Int) : lexLt (x :: xs) [] = false := rfl

theorem eqAt_int (A : Around) (s : Shared) (a : Int) (t : Tok) (c : Int) (u : Tok) : ∃ e, SeqAt.EqAt A s (.int a t) (.int c u) e ∧ (e = true ↔ a = c) :=
  ⟨(a == c), SeqAt.EqAt.int_int a t c u, by simp⟩
theorem rcLt_int (A : Around) (s : Shared) (a : Int) (t : Tok) (c : Int) (u : Tok) (prog : Program) (w : World) (E : Value → Shared → Prop) (Q : Value → Shared → Prop) (h : Q (.bool (decide (a < c))) s) :
    wpAny (model prog w) A (richCompare .Lt (.int a t) (.int c u)) Q E s :=
  (PyProof.Rows.lt_int h : wpAny (model prog w) A (compareOp .Lt (.int a t) (.int c u)) Q E s)

section
open PySem.SeqAt
open PySem.AutoSeq1 (wpAny_loadPart')
open PySem.MeetsSeq PySem.MeetsSeq2 PySem.MeetsSeq3

theorem tuple_lt_ints (l b : Addr) (items items2 : Array Value) (n n2 : Nat) (dd dd2 : Option Addr) (sl sl2 : Array (Option Value)) (ns ms : List Int) (hi : IntsAre items.toList ns) (hj : IntsAre items2.toList ms) :
    Meets (Builtin.«tuple.__lt__» ⟨[.ref l, .ref b], []⟩)
      (fun _ R s => s.heap.get? l = some { cls := .type "tuple", dict := dd, data := .seq items n, slots := sl } ∧ s.heap.get? b = some { cls := .type "tuple", dict := dd2, data := .seq items2 n2, slots := sl2 } ∧
        R (.ok (.ret (.bool (lexLt ns ms)))) s) :=
  .of_wp fun prog w A R s h => by
    obtain ⟨hp, g, d, tk, os⟩ := s; obtain ⟨hl, hb, h⟩ := h
    have f2 := AutoSeq1.sub_tuple_tuple
    have z1 : items.size = ns.length := by rw [← hi.length]; simp
    have z2 : items2.size = ms.length := by rw [← hj.length]; simp
    wp_walk using wpAny_loadPart' hl, wpAny_loadPart' hb, wpAny_forIn_list _ (fun rest b s' => b.1 = none ∧ s' = ⟨hp, g, d, tk, os⟩ ∧ ∃ (vs ws : List Value) (ns' ms' : List Int), rest = vs.zip ws ∧
      IntsAre vs ns' ∧ IntsAre ws ms' ∧ ns'.length + items2.size = ms'.length + items.size ∧ R (.ok (.ret (.bool (lexLt ns' ms')))) ⟨hp, g, d, tk, os⟩) _
    case turn =>
      rintro ⟨y, x⟩ rest b s' ⟨hb', rfl, vs, ws, ns', ms', hz, hvi, hwi, hlen, hR⟩
      cases hvi with
      | nil => rw [List.zip_nil_left] at hz; cases hz
      | cons a t hvi' =>
        cases hwi with
        | nil => rw [List.zip_nil_right] at hz; cases hz
        | cons c u hwi' =>
          rw [List.zip_cons_cons] at hz
          injection hz with hyx hrest
          injection hyx with hy hx
          subst hy hx
          rw [lexLt_cons] at hR
          simp only [List.length_cons] at hlen
          obtain ⟨e, he, hiff⟩ := eqAt_int A.in1 ⟨hp, g, d, tk, os⟩ a t c u
          refine wpAny_bind (he prog w _ _ ?_)
          cases e with
          | true =>
            rw [if_pos (hiff.mp rfl)] at hR
            wp_walk
            exact ⟨rfl, rfl, _, _, _, _, hrest, hvi', hwi', by omega, hR⟩
          | false =>
            rw [if_neg (fun q => absurd (hiff.mpr q) Bool.false_ne_true)] at hR
            have hri := rcLt_int A.in1 ⟨hp, g, d, tk, os⟩ a t c u prog w
            wp_walk using hri
            exact ⟨_, rfl, by simpa using hR⟩
    case fin =>
      rintro ⟨b1, b2⟩ s' ⟨hb', rfl, vs, ws, ns', ms', hz, hvi, hwi, hlen, hR⟩
      simp only at hb'
      subst hb'
      have hv : lexLt ns' ms' = decide (items.size < items2.size) := by
        cases hvi with
        | nil =>
          cases hwi with
          | nil =>
            simp only [List.length_nil] at hlen
            rw [lexLt_nil_nil]
            exact (decide_eq_false (by omega)).symm
          | cons c u hw =>
            simp only [List.length_nil, List.length_cons] at hlen
            rw [lexLt_nil_cons]
            exact (decide_eq_true (by omega)).symm
        | cons a t hv =>
          cases hwi with
          | nil =>
            simp only [List.length_nil, List.length_cons] at hlen
            rw [lexLt_cons_nil]
            exact (decide_eq_false (by omega)).symm
          | cons c u hw =>
            rw [List.zip_cons_cons] at hz
            cases hz
      rw [hv] at hR
      wp_walk
      exact ⟨_, rfl, by simpa [Builtin.Tuple.tupleCompareSizes] using hR⟩
    case h =>
      exact ⟨rfl, rfl, items.toList, items2.toList, ns, ms, rfl, hi, hj, by omega, h⟩
end

section
variable {prog : Program} {w : World} {A : Around} {E : Value → Shared → Prop} {s : Shared}

theorem lt_tupInts {l b : Addr} {items items2 : Array Value} {ns ms : List Int} {Q : Value → Shared → Prop} (hl : IsTup s.heap l items) (hb : IsTup s.heap b items2) (hi : IntsAre items.toList ns) (hj : IntsAre items2.toList ms)
    (hu : A.units < cLine) (h : Q (.bool (lexLt ns ms)) s) : wpAny (model prog w) A (compareOp .Lt (.ref l) (.ref b)) Q E s := by
  obtain ⟨⟨cls, dd, data, sl⟩, ho, hc, n, hd⟩ := id hl
  obtain ⟨⟨cls2, dd2, data2, sl2⟩, ho2, hc2, n2, hd2⟩ := id hb
  simp only at hc hd hc2 hd2
  subst hc hd hc2 hd2
  exact richCompare_meets_room (op := .Lt) ⟨_, ho, rfl⟩ ⟨_, ho2, rfl⟩ PySem.F.slot_tuple_lt PySem.F.entry_tuple_lt (PySem.F.args_tuple_lt_2 _ _) (tuple_lt_ints l b items items2 n n2 dd dd2 sl sl2 ns ms hi hj)
    ⟨ho, ho2, show Value.bool (lexLt ns ms) ≠ Value.notImplemented ∧ Q (.bool (lexLt ns ms)) s from ⟨(fun x => nomatch x), h⟩⟩ hu

theorem cat_tup {t b : Addr} {vs ws : List Value} {Q : Value → Shared → Prop} (ht : IsTup s.heap t vs.toArray) (hb : IsTup s.heap b ws.toArray) (hv : vs ≠ [])
    (h1 : ws = [] → Q (.ref t) s) (h2 : ws ≠ [] → Q (.ref s.heap.objs.size) { s with heap := s.heap.push { cls := .type "tuple", data := .seq (vs ++ ws).toArray } })
    (hsz : vs.length + ws.length ≤ sizeLine) : wpAny (model prog w) A (binaryOp .Add (.ref t) (.ref b)) Q E s := by
  obtain ⟨⟨cls, dd, data, sl⟩, ho, hc, n, hd⟩ := id ht
  obtain ⟨⟨cls2, dd2, data2, sl2⟩, ho2, hc2, n2, hd2⟩ := id hb
  simp only at hc hd hc2 hd2
  subst hc hd hc2 hd2
  have e : vs.toArray ++ ws.toArray = (vs ++ ws).toArray := by simp
  by_cases hw : ws = []
  · exact concat_meets ⟨_, ho, rfl⟩ ⟨_, ho2, rfl⟩ noFill_tuple_add seq_tuple_add PySem.F.slot_tuple_add PySem.F.entry_tuple_add (PySem.F.args_tuple_add_2 _ _)
      (tuple_addW1 t b vs.toArray ws.toArray n n2 dd dd2 sl sl2 (by simpa using hv) (by simp [hw])) ⟨ho, ho2, h1 hw⟩
  · refine concat_meets ⟨_, ho, rfl⟩ ⟨_, ho2, rfl⟩ noFill_tuple_add seq_tuple_add PySem.F.slot_tuple_add PySem.F.entry_tuple_add (PySem.F.args_tuple_add_2 _ _)
      (tuple_addW2 t b vs.toArray ws.toArray n n2 dd dd2 sl sl2 (by simpa using hv) (by simpa using hw) (by rw [List.size_toArray, List.size_toArray]; exact hsz)) ⟨ho, ho2, ?_⟩
    rw [e]
    exact h2 hw

noncomputable def sIx (n d : Nat) : Option Int → Nat
  | none => d
  | some v => if v < 0 then (v + (n : Int)).toNat else min v.toNat n
theorem sIx_none (n d : Nat) : sIx n d none = d := rfl
theorem sIx_nat (n d k : Nat) : sIx n d (some (k : Int)) = min k n := by
  show (if (k : Int) < 0 then ((k : Int) + (n : Int)).toNat else min (k : Int).toNat n) = min k n
  rw [if_neg (by omega), Int.toNat_natCast]
theorem sIx_le (n d : Nat) (hd : d ≤ n) (o : Option Int) : sIx n d o ≤ n := by
  cases o with
  | none => exact hd
  | some v =>
    show (if v < 0 then (v + (n : Int)).toNat else min v.toNat n) ≤ n
    by_cases hv : v < 0
    · rw [if_pos hv]; omega
    · rw [if_neg hv]; exact Nat.min_le_right _ _
theorem clip_eq (v : Int) (n d : Nat) : (if v < 0 then max (v + (n : Int)) 0 else min v (n : Int)) = ((sIx n d (some v) : Nat) : Int) := by
  show (if v < 0 then max (v + (n : Int)) 0 else min v (n : Int)) = (((if v < 0 then (v + (n : Int)).toNat else min v.toNat n) : Nat) : Int)
  by_cases hv : v < 0
  · simp only [if_pos hv]; omega
  · simp only [if_neg hv]; omega
theorem adjust_gen (lo hi : Option Int) (n : Nat) : Builtin.Slice.sliceAdjust lo hi 1 (n : Int) = (((sIx n 0 lo : Nat) : Int), ((sIx n n hi : Nat) : Int)) := by
  have h1 : ¬ ((1 : Int) < 0) := by omega
  unfold Builtin.Slice.sliceAdjust
  simp only [h1, if_false]
  refine Prod.ext ?_ ?_
  · cases lo with
    | none => rfl
    | some v => exact clip_eq v n 0
  · cases hi with
    | none => rfl
    | some v => exact clip_eq v n n
theorem places_gen (i j : Nat) : Builtin.Slice.slicePlaces (i : Int) (j : Int) 1 = j - i := by
  unfold Builtin.Slice.slicePlaces
  have h1 : (1 : Int) > 0 := by omega
  simp only [h1, if_true, Int.ediv_one]
  split <;> omega
theorem slicePart_ {v : Value} {o : Option Int} {Q : Option Int → Shared → Prop} (p : IsPart v o) (h : Q o s) : wpAny (model prog w) A (Builtin.Slice.slicePartIndex v) Q E s := by
  cases p with
  | none => exact slicePart_none h
  | int i t => exact slicePart_int h
theorem sliceApplied_gen {sl : Addr} {vl vu : Value} {lo hi : Option Int} {n : Nat} {Q : Int × Int × Nat → Shared → Prop} (hs : s.heap.IsSliceOf sl vl vu .none) (pl : IsPart vl lo) (pu : IsPart vu hi)
    (h : Q (((sIx n 0 lo : Nat) : Int), 1, sIx n n hi - sIx n 0 lo) s) : wpAny (model prog w) A (Builtin.Slice.sliceApplied (.ref sl) (pure (n : Int))) Q E s := by
  obtain ⟨os, hos, hcs, hds⟩ := id hs
  unfold Builtin.Slice.sliceApplied Builtin.Slice.sliceFields
  refine wpAny_bind (wpAny_bind (wpAny_field hos hds (x := vl) rfl (wpAny_bind (wpAny_field hos hds (x := vu) rfl (wpAny_bind (wpAny_field hos hds (x := .none) rfl (wpAny_pure ?_)))))))
  refine wpAny_bind (slicePart_none ?_)
  show wpAny _ _ (if ((1 : Int) == 0) = true then _ else _) _ _ s
  rw [if_neg (by decide)]
  refine wpAny_bind (slicePart_ pl (wpAny_bind (slicePart_ pu (wpAny_bind (wpAny_pure ?_)))))
  show wpAny _ _ (match Builtin.Slice.sliceAdjust lo hi 1 (n : Int) with | (lo, hi) => pure (lo, (1 : Int), Builtin.Slice.slicePlaces lo hi 1)) _ _ s
  rw [adjust_gen lo hi n]
  show wpAny _ _ (pure (((sIx n 0 lo : Nat) : Int), (1 : Int), Builtin.Slice.slicePlaces ((sIx n 0 lo : Nat) : Int) ((sIx n n hi : Nat) : Int) 1)) _ _ s
  rw [places_gen]
  exact wpAny_pure h
theorem pick_gen (xs : Array Value) (i k : Nat) : ((List.range k).filterMap fun (m : Nat) => xs[((i : Int) + (m : Int) * 1).toNat]?).toArray = ((xs.toList.drop i).take k).toArray := by
  have e : (fun (m : Nat) => xs[((i : Int) + (m : Int) * 1).toNat]?) = fun m => xs[i + m]? := by
    funext m
    have : ((i : Int) + (m : Int) * 1).toNat = i + m := by omega
    rw [this]
  rw [e]
  have := pick_run xs i k
  rw [List.filterMap_map] at this
  have e2 : ((fun x => xs[x]?) ∘ fun x => i + x) = fun m => xs[i + m]? := rfl
  rw [e2] at this
  rw [this]

theorem getItem_tuple_cut {t sl : Addr} {items : Array Value} {vl vu : Value} {lo hi : Option Int} {Q : Value → Shared → Prop} (ht : IsTup s.heap t items) (hs : s.heap.IsSliceOf sl vl vu .none) (pl : IsPart vl lo) (pu : IsPart vu hi)
    (hw : ¬ (sIx items.size 0 lo = 0 ∧ sIx items.size items.size hi = items.size))
    (h : Q (.ref s.heap.objs.size) { s with heap := s.heap.push { cls := .type "tuple", data := .seq ((items.toList.drop (sIx items.size 0 lo)).take (sIx items.size items.size hi - sIx items.size 0 lo)).toArray } })
    (hsz : items.size ≤ sizeLine) : wpAny (model prog w) A (getItem (.ref t) (.ref sl)) Q E s := by
  have htake : sizeOk (.seq ((items.toList.drop (sIx items.size 0 lo)).take (sIx items.size items.size hi - sIx items.size 0 lo)).toArray) := by
    show ((items.toList.drop (sIx items.size 0 lo)).take (sIx items.size items.size hi - sIx items.size 0 lo)).toArray.size ≤ sizeLine
    rw [List.size_toArray, List.length_take, List.length_drop, Array.length_toList]
    omega
  have hj : sIx items.size items.size hi ≤ items.size := sIx_le _ _ (Nat.le_refl _) hi
  obtain ⟨os, hos, hcs, hds⟩ := id hs
  have hTs : s.TypeIs (.ref sl) "slice" := ⟨os, hos, hcs⟩
  unfold getItem
  try with_reducible refine wpAny_holding ?_
  first | refine wpAny_bind (wpAny_pure ?_) | skip
  refine wpAny_bind (wpAny_sequenceKey ht.typeIs (by decide) ?_)
  refine wpAny_bind (wpAny_callSpecial?_slot (name := Str.ofString "__getitem__") ht.typeIs PyProof.Rows.slot_tuple_getitem
    (wpAny_call_entry PyProof.Rows.slot_tuple_getitem ht.typeIs entry_tuple_getitem ?_ (args_tuple_getitem _ _)))
  show wpAny _ _ (Builtin.Tuple.tupleItemsOf (.ref t) >>= _) _ _ s
  refine wpAny_bind (tupleItemsOf_ ht ?_)
  refine wpAny_bind (wpAny_typeOf hTs ?_)
  rw [if_pos (by decide)]
  refine wpAny_bind (sliceApplied_gen hs pl pu ?_)
  have hno : ¬ ((((sIx items.size 0 lo : Nat) : Int) == 0 && (1 : Int) == 1 && (sIx items.size items.size hi - sIx items.size 0 lo) == items.size) = true) := by
    intro q
    rw [Bool.and_eq_true, Bool.and_eq_true] at q
    have q1 : ((sIx items.size 0 lo : Nat) : Int) = 0 := eq_of_beq q.1.1
    have q2 : sIx items.size items.size hi - sIx items.size 0 lo = items.size := eq_of_beq q.2
    exact hw ⟨by omega, by omega⟩
  show wpAny _ _ (if (((sIx items.size 0 lo : Nat) : Int) == 0 && (1 : Int) == 1 && (sIx items.size items.size hi - sIx items.size 0 lo) == items.size) = true then _ else _) _ _ s
  rw [if_neg hno, pick_gen]
  first
    | exact wpAny_bind (m := Builtin.Tuple.tupleExact _) (wpAny_newObj_type (wpAny_pure ⟨_, rfl, wpAny_pure h⟩) htake)
    | exact wpAny_bind (m := Builtin.Tuple.tupleExact _) (wpAny_newObj_type (wpAny_bind (wpAny_pure (wpAny_pure ⟨_, rfl, wpAny_pure h⟩))) htake)
    | exact wpAny_bind (wpAny_bind (m := Builtin.Tuple.tupleExact _) (wpAny_newObj_type (wpAny_pure (wpAny_pure ⟨_, rfl, wpAny_pure h⟩)) htake))
    | exact wpAny_bind (wpAny_bind (m := Builtin.Tuple.tupleExact _) (wpAny_newObj_type (wpAny_pure ⟨_, rfl, wpAny_pure h⟩) htake))
end
end HT

namespace L2
open PySem PySem.Spec PyProof.Rows

noncomputable abbrev TO := St → Hp → (Option Int → Hp → Prop) → Prop
noncomputable def PO (X : Cx) (e : Option Expr) (t : TO) : Prop :=
  ∀ (pins : List (Addr × Obj)) (s : Shared) (σ : St) (H : Hp) (Q : Option Int → Hp → Prop), Inv X pins σ H s → t σ H Q →
    wpAny (model X.prog X.w) X.A (evalPart e X.env) (fun u s' => ∃ o H', Inv X pins σ H' s' ∧ IsPart u o ∧ Q o H') X.xe s
noncomputable def tNoPart : TO := fun _ H Q => Q none H
noncomputable def tPart (t : TE) : TO := fun σ H Q => t σ H fun x H1 => ∃ i, x = .int i ∧ Q (some i) H1

section
variable {X : Cx} {e : Expr} {te : TE} {lo hi : Option Expr} {tl th : TO} {pos p2 : Pos}

theorem po_none : PO X none tNoPart := by
  intro pins s σ H Q I h
  rw [evalPart_none]
  exact wpAny_pure ⟨none, H, I, .none, h⟩
theorem po_some (h : PE X e te) : PO X (some e) (tPart te) := by
  intro pins s σ H Q I hw
  rw [evalPart_some]
  refine thn (h pins s σ H _ I hw) fun u s1 ⟨x, H1, I1, r1, q1⟩ => ?_
  obtain ⟨i, rfl, q⟩ := q1
  obtain ⟨t, rfl⟩ := r1
  exact ⟨some i, H1, I1, .int i t, q⟩

noncomputable def SlR (X : Cx) (r : V → Option Int → Option Int → Hp → VK → Prop) : Prop :=
  ∀ (pins : List (Addr × Obj)) (s : Shared) (σ : St) (H : Hp) (x : V) (v vl vu : Value) (lo hi : Option Int) (sl : Addr) (Q : VK), Inv X pins σ H s → RelV x v → s.heap.IsSliceOf sl vl vu .none → IsPart vl lo → IsPart vu hi → r x lo hi H Q →
    ∃ T id, typeLookup (.type T) "__getitem__" = pure (some (.builtin id)) ∧ s.TypeIs v T ∧ wpAny (model X.prog X.w) X.A (getItem v (.ref sl)) (EP X pins σ Q) X.xe s
theorem SlR.or {r r' : V → Option Int → Option Int → Hp → VK → Prop} (h : SlR X r) (h' : SlR X r') : SlR X (fun x lo hi H Q => r x lo hi H Q ∨ r' x lo hi H Q) := by
  intro pins s σ H x v vl vu lo hi sl Q I rx hs pl pu q
  rcases q with q | q
  · exact h pins s σ H x v vl vu lo hi sl Q I rx hs pl pu q
  · exact h' pins s σ H x v vl vu lo hi sl Q I rx hs pl pu q
noncomputable def tSl (r : V → Option Int → Option Int → Hp → VK → Prop) (te : TE) (tl th : TO) : TE := fun σ H Q => te σ H fun x H1 => tl σ H1 fun l H2 => th σ H2 fun u H3 => r x l u H3 Q
theorem pe_slice {r : V → Option Int → Option Int → Hp → VK → Prop} (hr : SlR X r) (he : PE X e te) (hl : PO X lo tl) (hu : PO X hi th) : PE X (.Subscript e (.Slice lo hi none p2) pos) (tSl r te tl th) := by
  intro pins s σ H Q I h
  refine Subscript_ (thn (he pins s σ H _ I h) fun v s1 ⟨x, H1, I1, r1, q1⟩ => ?_)
  refine wpAny_Slice (thn (hl pins s1 σ H1 _ I1 q1) fun vl s2 ⟨l, H2, I2, pl, q2⟩ => thn (hu pins s2 σ H2 _ I2 q2) fun vu s3 ⟨u, H3, I3, pu, q3⟩ => ?_)
  rw [evalPart_none]
  refine wpAny_pure ?_
  have I4 : Inv X pins σ H3 { s3 with heap := s3.heap.push { cls := .type "slice", data := .fields #[vl, vu, .none] } } := I3.kept (t' := s3.toks) fun b ob q => Heap.get?_push_of_some _ q
  obtain ⟨T, id, hT, ht, hg⟩ := hr pins { s3 with heap := s3.heap.push { cls := .type "slice", data := .fields #[vl, vu, .none] } } σ H3 x v vl vu l u s3.heap.objs.size Q I4 r1 (Heap.IsSliceOf.new ..) pl pu q3
  show wpAny (model X.prog X.w) X.A (subscriptTail e (.Slice lo hi none p2) v (.ref s3.heap.objs.size)) (EP X pins σ Q) X.xe { s3 with heap := s3.heap.push { cls := .type "slice", data := .fields #[vl, vu, .none] } }
  exact tail_any (ops := [.ref s3.heap.objs.size, v]) ht hT hg (by with_unfolding_all rfl)

noncomputable def cutV (xs : List V) (lo hi : Option Int) : List V := (xs.drop (HT.sIx xs.length 0 lo)).take (HT.sIx xs.length xs.length hi - HT.sIx xs.length 0 lo)
theorem cutV_length (xs : List V) (lo hi : Option Int) : (cutV xs lo hi).length ≤ xs.length := by
  unfold cutV
  rw [List.length_take, List.length_drop]
  omega
noncomputable def rSlT (K : PySem.W.Frag) : V → Option Int → Option Int → Hp → VK → Prop := fun x lo hi H Q => ∃ a xs, x = .ref a ∧ SqT K H a xs ∧
  ¬ (HT.sIx xs.length 0 lo = 0 ∧ HT.sIx xs.length xs.length hi = xs.length) ∧ ∀ p, H p = none → Q (.ref p) (upd H p (.tup (cutV xs lo hi)))
theorem sl_tup : SlR X (rSlT X.K) := by
  intro pins s σ H x v vl vu lo hi sl Q I rx hs pl pu h
  obtain ⟨a, xs, rfl, hx, hw, q⟩ := h
  cases rx
  obtain ⟨its, r, ht, hz⟩ := I.tuple hx
  have hlen : its.toArray.size = xs.length := by rw [List.size_toArray]; exact r.length.symm
  refine ⟨"tuple", _, PyProof.Rows.slot_tuple_getitem.lookup, ht.typeIs, ?_⟩
  refine HT.getItem_tuple_cut ht hs pl pu (by rw [hlen]; exact hw) ?_ (by rw [hlen]; exact hz)
  rw [hlen]
  refine ⟨.ref s.heap.objs.size, _, I.laid (t' := s.toks) (o := .tup (cutV xs lo hi)) (fun b ob q => Heap.get?_push_of_some _ q) (Nat.le_refl _) ?_, rfl, q _ (I.hok.fresh (Nat.le_refl _))⟩
  exact ⟨Nat.le_trans (cutV_length xs lo hi) hz, _, (r.drop (HT.sIx xs.length 0 lo)).take (HT.sIx xs.length xs.length hi - HT.sIx xs.length 0 lo), IsTup.new _ _⟩

noncomputable def rCatT (K : PySem.W.Frag) : R2 := fun x y H Q => ∃ a b xs ys, x = .ref a ∧ y = .ref b ∧ SqT K H a xs ∧ SqT K H b ys ∧ xs ≠ [] ∧ xs.length + ys.length ≤ sizeLine ∧
  (ys = [] → Q (.ref a) H) ∧ (ys ≠ [] → ∀ p, H p = none → Q (.ref p) (upd H p (.tup (xs ++ ys))))
theorem Vals.nil_iff {xs : List V} {us : List Value} (r : Vals xs us) : us = [] ↔ xs = [] := by
  cases r with
  | nil => simp
  | cons _ _ => simp
theorem op_catT : OpR X (binaryOp .Add) (rCatT X.K) := by
  intro pins s σ H x y v u Q I rx ry h
  obtain ⟨a, b, xs, ys, rfl, rfl, ha, hb, hx, hz, q1, q2⟩ := h
  cases rx
  cases ry
  obtain ⟨its, r1, p1, _⟩ := I.tuple ha
  obtain ⟨its2, r2, p2, _⟩ := I.tuple hb
  refine HT.cat_tup p1 p2 (fun z => hx (r1.nil_iff.mp z)) (fun z => ⟨.ref a, H, I, rfl, q1 (r2.nil_iff.mp z)⟩) (fun z => ?_) (by rw [← r1.length, ← r2.length]; exact hz)
  refine ⟨.ref s.heap.objs.size, _, I.laid (t' := s.toks) (o := .tup (xs ++ ys)) (fun b ob q => Heap.get?_push_of_some _ q) (Nat.le_refl _) ?_, rfl, q2 (fun w => z (r2.nil_iff.mpr w)) _ (I.hok.fresh (Nat.le_refl _))⟩
  exact ⟨by rw [List.length_append]; exact hz, _, r1.append r2, IsTup.new _ _⟩
end
end L2

namespace L2
open PySem PySem.Spec PyProof.Rows

noncomputable def ixN (n : Nat) (i : Int) : Option Nat := if 0 ≤ i then (if i < n then some i.toNat else none) else if -(n : Int) ≤ i then some (i + n).toNat else none
noncomputable def atI {α : Type} (xs : List α) (i : Int) : Option α := (ixN xs.length i).bind fun j => xs[j]?
theorem ixN_seq {n : Nat} {i : Int} {j : Nat} (h : ixN n i = some j) : seqIndex? i n = some j ∧ j < n ∧ -(n : Int) ≤ i ∧ i < n := by
  unfold ixN at h
  by_cases h0 : 0 ≤ i
  · rw [if_pos h0] at h
    by_cases h1 : i < n
    · rw [if_pos h1] at h
      have e : i.toNat = j := Option.some.inj h
      exact ⟨by rw [seqIndex_of h0 h1, e], by omega, by omega, h1⟩
    · rw [if_neg h1] at h; cases h
  · rw [if_neg h0] at h
    by_cases h1 : -(n : Int) ≤ i
    · rw [if_pos h1] at h
      have e : (i + n).toNat = j := Option.some.inj h
      exact ⟨by rw [seqIndex_neg (by omega) h1, e], by omega, h1, by omega⟩
    · rw [if_neg h1] at h; cases h
theorem atI_get {α : Type} {xs : List α} {i : Int} {v : α} (h : atI xs i = some v) : ∃ j, seqIndex? i xs.length = some j ∧ xs[j]? = some v ∧ j < xs.length ∧ -(xs.length : Int) ≤ i ∧ i < xs.length := by
  unfold atI at h
  cases e : ixN xs.length i with
  | none => rw [e] at h; cases h
  | some j =>
    rw [e] at h
    obtain ⟨h1, h2, h3, h4⟩ := ixN_seq e
    exact ⟨j, h1, h, h2, h3, h4⟩
theorem atI_nat {α : Type} {xs : List α} {j : Nat} {v : α} (h : xs[j]? = some v) : atI xs (j : Int) = some v := by
  have hj : j < xs.length := (List.getElem?_eq_some_iff.mp h).1
  have e : ixN xs.length (j : Int) = some j := by
    unfold ixN
    rw [if_pos (by omega), if_pos (by omega)]; simp
  unfold atI; rw [e]; exact h
noncomputable def PlainIx (b : Expr) : Prop := ∀ o i, subscripted b false o i = operate [o, i] (getItem o i)
noncomputable def IxR (X : Cx) (r : R2) : Prop :=
  ∀ (value slice : Expr) (pins : List (Addr × Obj)) (s : Shared) (σ : St) (H : Hp) (x y : V) (v u : Value) (Q : VK), Inv X pins σ H s → RelV x v → RelV y u → r x y H Q →
    subscripted slice false v u = operate [v, u] (getItem v u) → wpAny (model X.prog X.w) X.A (subscriptTail value slice v u) (EP X pins σ Q) X.xe s
noncomputable def MtR (X : Cx) (id : String) (r : V → List V → Hp → VK → Prop) : Prop :=
  ∀ (pins : List (Addr × Obj)) (s : Shared) (σ : St) (H : Hp) (x : V) (xs : List V) (v : Value) (us : List Value) (Q : VK), Inv X pins σ H s → RelV x v → Vals xs us → r x xs H Q →
    wpAny (model X.prog X.w) X.A (call (.builtin id) (v :: us)) (EP X pins σ Q) X.xe s
section
variable {X : Cx} {a b : Expr} {ta tb : TE} {pos : Pos}
theorem IxR.or {r r' : R2} (h : IxR X r) (h' : IxR X r') : IxR X (fun x y H Q => r x y H Q ∨ r' x y H Q) := by
  intro value slice pins s σ H x y v u Q I rx ry q hs
  rcases q with q | q
  · exact h value slice pins s σ H x y v u Q I rx ry q hs
  · exact h' value slice pins s σ H x y v u Q I rx ry q hs
theorem pe_ix {r : R2} (hr : IxR X r) (ha : PE X a ta) (hb : PE X b tb) (hs : PlainIx b) : PE X (.Subscript a b pos) (tOp r ta tb) := by
  intro pins s σ H Q I h
  exact Subscript_ (binT ha hb I h fun v u s2 x y H2 I2 rx ry q => hr a b pins s2 σ H2 x y v u Q I2 rx ry q (hs _ _))

noncomputable def rIxL (K : PySem.W.Frag) : R2 := fun x y H Q => ∃ p xs i v, x = .ref p ∧ y = .int i ∧ SqL K H p xs ∧ atI xs i = some v ∧ Q v H
noncomputable def rIxT (K : PySem.W.Frag) : R2 := fun x y H Q => ∃ p xs i v, x = .ref p ∧ y = .int i ∧ SqT K H p xs ∧ atI xs i = some v ∧ Q v H
noncomputable def rIxS : R2 := fun x y H Q => ∃ z i c, x = .str z ∧ y = .int i ∧ z.length ≤ sizeLine ∧ atI z.cps.toList i = some c ∧ Q (.str ⟨#[c]⟩) H
theorem ix_list : IxR X (rIxL X.K) := by
  intro value slice pins s σ H x y v u Q I rx ry h hs
  obtain ⟨p, xs, i, z, rfl, rfl, hq, he, q⟩ := h
  cases rx
  obtain ⟨t, rfl⟩ := ry
  obtain ⟨its, r, pl, hz⟩ := I.list hq
  obtain ⟨j, h1, h2, h3, h4, h5⟩ := atI_get he
  obtain ⟨w, ew, rw'⟩ := r.get h2
  have hl := r.length
  have hn := line63
  have fin : EP X pins σ Q w s := ⟨z, H, I, rw', q⟩
  by_cases h0 : 0 ≤ i
  · have hj : i.toNat = j := by
      rw [seqIndex_of h0 h5] at h1
      exact Option.some.inj h1
    exact item_listR pl.isList h0 (by omega) (by rw [hj]; simpa using ew) fin hs
  · have hj : (i + (its.toArray.size : Int)).toNat = j := by
      rw [seqIndex_neg (by omega) h4] at h1
      rw [List.size_toArray, ← hl]
      exact Option.some.inj h1
    exact subscriptTail_builtinR (x := w) pl.isList.typeIs slot_list_getitem.lookup
      (wpAny_getItem_list_neg (Q := fun r s' => r = w ∧ EP X pins σ Q r s') pl.isList (by omega) (by rw [List.size_toArray] <;> omega) (by omega) (by rw [hj]; simpa using ew) ⟨rfl, fin⟩) hs
theorem ix_tup : IxR X (rIxT X.K) := by
  intro value slice pins s σ H x y v u Q I rx ry h hs
  obtain ⟨p, xs, i, z, rfl, rfl, hq, he, q⟩ := h
  cases rx
  obtain ⟨t, rfl⟩ := ry
  obtain ⟨its, r, pl, hz⟩ := I.tuple hq
  obtain ⟨j, h1, h2, h3, h4, h5⟩ := atI_get he
  obtain ⟨w, ew, rw'⟩ := r.get h2
  have hl := r.length
  have hn := line63
  have fin : EP X pins σ Q w s := ⟨z, H, I, rw', q⟩
  exact subscriptTail_builtinR (x := w) pl.typeIs slot_tuple_getitem.lookup
    (getItem_tuple (j := j) (Q := fun r s' => r = w ∧ EP X pins σ Q r s') pl (by omega) (by omega) (by rw [List.size_toArray, ← hl]; exact h1) (by simpa using ew) ⟨rfl, fin⟩) hs
theorem ix_str : IxR X rIxS := by
  intro value slice pins s σ H x y v u Q I rx ry h hs
  obtain ⟨z, i, c, rfl, rfl, hz, he, q⟩ := h
  obtain ⟨t, rfl⟩ := rx
  obtain ⟨t', rfl⟩ := ry
  obtain ⟨j, h1, h2, h3, h4, h5⟩ := atI_get he
  have hl : z.cps.toList.length = z.length := by simp [Str.length]
  rw [hl] at h1 h4 h5
  have hn := line63
  exact tail_any (typeIs_str s z t) slot_str_getitem.lookup (getItem_str (c := c) (by
    have e1 : decide (i < -(2 ^ 63 : Int)) = false := decide_eq_false (by omega)
    have e2 : decide (i ≥ 2 ^ 63) = false := decide_eq_false (by omega)
    rw [e1, e2, Bool.or_false]) (by rw [h1]; simpa using h2) ⟨.str ⟨#[c]⟩, H, I.tok _, ⟨_, rfl⟩, q⟩) hs
noncomputable def rIx (K : PySem.W.Frag) : R2 := fun x y H Q => rIxL K x y H Q ∨ rIxT K x y H Q ∨ rIxS x y H Q
theorem ix_seq : IxR X (rIx X.K) := ix_list.or (ix_tup.or ix_str)

theorem slice_bounds (lo hi : Option Int) (n : Nat) : (sliceBounds lo hi none n).1 = ((HT.sIx n 0 lo : Nat) : Int) ∧ (sliceBounds lo hi none n).2.1 = ((HT.sIx n n hi : Nat) : Int) ∧ (sliceBounds lo hi none n).2.2 = 1 := by
  refine ⟨?_, ?_, rfl⟩
  · cases lo with
    | none => simp [sliceBounds, HT.sIx]
    | some i =>
      simp only [sliceBounds, HT.sIx, Option.getD_none, show (1 : Int) > 0 by decide, if_true]
      by_cases h : i < 0
      · simp only [h, if_true] <;> omega
      · simp only [h, if_false] <;> omega
  · cases hi with
    | none => simp [sliceBounds, HT.sIx]
    | some i =>
      simp only [sliceBounds, HT.sIx, Option.getD_none, show (1 : Int) > 0 by decide, if_true]
      by_cases h : i < 0
      · simp only [h, if_true] <;> omega
      · simp only [h, if_false] <;> omega
theorem slicePick_cut (its : List Value) (lo hi : Option Int) : slicePick its.toArray lo hi none = ((its.drop (HT.sIx its.length 0 lo)).take (HT.sIx its.length its.length hi - HT.sIx its.length 0 lo)).toArray := by
  obtain ⟨h1, h2, h3⟩ := slice_bounds lo hi its.toArray.size
  unfold slicePick
  rw [h1, h2, h3]
  simp only [sliceRange_one, pick_run, List.size_toArray] <;> rfl
noncomputable def rSlL (K : PySem.W.Frag) : V → Option Int → Option Int → Hp → VK → Prop := fun x lo hi H Q => ∃ a xs, x = .ref a ∧ SqL K H a xs ∧ ∀ p, H p = none → Q (.ref p) (upd H p (.lst (cutV xs lo hi)))
theorem sl_list : SlR X (rSlL X.K) := by
  intro pins s σ H x v vl vu lo hi sl Q I rx hs pl pu h
  obtain ⟨a, xs, rfl, hx, q⟩ := h
  cases rx
  obtain ⟨its, r, ht, hz⟩ := I.list hx
  have hlen := r.length
  refine ⟨"list", _, slot_list_getitem.lookup, ht.isList.typeIs, ?_⟩
  refine wpAny_getItem_list_slice ht.isList hs pl pu .none (by simp) ?_ (by rw [List.size_toArray] <;> omega)
  rw [slicePick_cut, ← hlen]
  refine ⟨.ref s.heap.objs.size, _, I.laid (t' := s.toks) (o := .lst (cutV xs lo hi)) (fun b ob q => Heap.get?_push_of_some _ q) (Nat.le_refl _) ?_, rfl, q _ (I.hok.fresh (Nat.le_refl _))⟩
  exact ⟨Nat.le_trans (cutV_length xs lo hi) hz, _, 0, (r.drop (HT.sIx xs.length 0 lo)).take (HT.sIx xs.length xs.length hi - HT.sIx xs.length 0 lo), Heap.get?_push_size _ rfl⟩

theorem call_tuple_of : CallR X (.type "tuple") (fun xs H Q => ∃ p ys, xs = [.ref p] ∧ ((SqL X.K H p ys ∧ ∀ l, H l = none → Q (.ref l) (upd H l (.tup ys))) ∨ (SqT X.K H p ys ∧ Q (.ref p) H))) := by
  intro pins s σ H xs us Q I r h
  obtain ⟨p, ys, rfl, h⟩ := h
  obtain ⟨u, rfl, rx⟩ := vals1 r
  cases rx
  rcases h with ⟨hq, q⟩ | ⟨hq, q⟩
  · obtain ⟨its, r', pl, hz⟩ := I.list hq
    have hlen := r'.length
    refine call_tuple_list pl.isList (fun h' kp => ?_) (by simp only [List.size_toArray] <;> omega)
    have I1 : Inv X pins σ H { s with heap := h' } := I.kept (t' := s.toks) kp
    have I2 : Inv X pins σ (upd H h'.objs.size (.tup ys)) { s with heap := h'.push { cls := .type "tuple", data := .seq its.toArray } } :=
      I1.laid (t' := s.toks) (fun b o e => Heap.get?_push_of_some _ e) (Nat.le_refl _) (show ObjOk X.prog X.w _ _ _ (.tup ys) from ⟨hz, its, r', IsTup.new _ _⟩)
    exact ⟨.ref h'.objs.size, _, I2, rfl, q _ (I1.hok.fresh (Nat.le_refl _))⟩
  · obtain ⟨its, r', pl, hz⟩ := I.tuple hq
    exact call_tuple_same pl ⟨.ref p, H, I, rfl, q⟩

noncomputable def tyV (K : PySem.W.Frag) (T : String) (x : V) (H : Hp) : Prop := match x with
  | .str _ => T = "str"
  | .int _ => T = "int"
  | .ref p => (T = "list" ∧ ∃ xs, SqL K H p xs) ∨ (T = "tuple" ∧ ∃ o, K.lookup p = some o ∧ o.cls = .type "tuple" ∧ o.dict = none) ∨
      (T = "dict" ∧ ((∃ kvs, H p = some (.dK kvs)) ∨ ∃ kvs, H p = some (.dT kvs))) ∨ (T = "set" ∧ ∃ S n, H p = some (.set S n))
  | _ => False
theorem tyV_is {pins : List (Addr × Obj)} {σ : St} {H : Hp} {s : Shared} {T : String} {x : V} {v : Value} (I : Inv X pins σ H s) (r : RelV x v) (ty : tyV X.K T x H) :
    s.TypeIs v T ∧ ∀ a, v = .ref a → ∃ ob, s.heap.get? a = some ob ∧ ob.dict = none := by
  cases x with
  | str z =>
    obtain ⟨t, rfl⟩ := r
    cases (show T = "str" from ty)
    exact ⟨typeIs_str s z t, fun _ e => nomatch e⟩
  | int i =>
    obtain ⟨t, rfl⟩ := r
    cases (show T = "int" from ty)
    exact ⟨typeIs_int s i t, fun _ e => nomatch e⟩
  | ref p =>
    cases r
    rcases ty with ⟨rfl, xs, hq⟩ | ⟨rfl, o, hk, hc, hd⟩ | ⟨rfl, hk⟩ | ⟨rfl, S, n, hk⟩
    · obtain ⟨its, _, pl, _⟩ := I.list hq
      refine ⟨pl.isList.typeIs, fun a e => ?_⟩
      cases e
      obtain ⟨o, n, e, c, hd, _⟩ := pl
      exact ⟨o, e, hd⟩
    · refine ⟨⟨o, I.kIn p o hk, hc⟩, fun a e => ?_⟩
      cases e
      exact ⟨o, I.kIn _ o hk, hd⟩
    · have z : ∃ o, s.heap.get? p = some o ∧ o.ExactDict := by
        rcases hk with ⟨kvs, hk⟩ | ⟨kvs, hk⟩
        · obtain ⟨_, _, _, _, o, _, _, e, ex, _⟩ := I.hok p _ hk
          exact ⟨o, e, ex⟩
        · obtain ⟨_, _, _, _, o, _, _, e, ex, _⟩ := I.hok p _ hk
          exact ⟨o, e, ex⟩
      obtain ⟨o, e, ex⟩ := z
      refine ⟨⟨o, e, ex.1⟩, fun a e2 => ?_⟩
      cases e2
      exact ⟨o, e, ex.2.1⟩
    · obtain ⟨o, _, _, _, e, ex, _⟩ := I.hok p _ hk
      refine ⟨⟨o, e, ex.1⟩, fun a e2 => ?_⟩
      cases e2
      exact ⟨o, e, ex.2.1⟩
  | _ => exact False.elim ty
noncomputable def tBM (K : PySem.W.Frag) (T : String) (r : V → List V → Hp → VK → Prop) (to : TE) (t : TA) : TE := fun σ H Q => to σ H fun x H1 => tyV K T x H1 ∧ t σ H1 fun xs H2 => r x xs H2 Q
variable {o e : Expr} {es : List Expr} {to : TE} {t : TA} {name : Str} {apos cpos : Pos} {T id : String} {r : V → List V → Hp → VK → Prop}
theorem pe_bm (pa : PlainAttrs T) (slot : Slot T name id) (hty : typeOf (.builtin id) = pure (.type "method_descriptor")) (hm : MtR X id r) (ho : PE X o to) (ha : PA X (e :: es) t)
    (hbase : attributeBase o name X.env (eval o X.env) = eval o X.env := by rfl)
    (hfew : ((backTo cpos (starEach (e :: es) X.env)).all (fun x => !x.1) && (backToKw cpos (keywordEach [] X.env)).all (fun x => x.1.isSome)
      && decide ((e :: es).length + ([] : List Keyword).length + (if ([] : List Keyword).isEmpty then 0 else 1) < 30)) = true := by rfl)
    (hline : (apos.endLine == cpos.line) = true := by rfl) (hs : starEach (e :: es) X.env = (false, eval e X.env) :: starEach es X.env := by rfl) (hplain : (backTo cpos (starEach es X.env)).any (·.1) = false := by rfl) :
    PE X (.Call (.Attribute o name apos) (e :: es) [] cpos) (tBM X.K T r to t) := by
  intro pins s σ H Q I h
  refine wpAny_Call_method_late hbase hfew hline rfl (thn (ho pins s σ H _ I h) fun v s1 ⟨x, H1, I1, r1, ty, q1⟩ => ?_)
  obtain ⟨h1, h2⟩ := tyV_is I1 r1 ty
  refine ⟨T, id, pa, slot, hty, h1, h2, ?_⟩
  have hA := ha cpos pins s1 σ H1 _ I1 q1
  rw [hs] at hA ⊢
  refine Calls.callWith_builtin (by show (false || (backTo cpos (starEach es X.env)).any (·.1)) = false; rw [hplain] <;> rfl) (Calls.evalArgs_plain ?_)
  exact thn hA fun us s2 ⟨vs, H2, I2, r2, q2⟩ => hm pins s2 σ H2 x vs v us Q I2 r1 r2 q2
/- xs.append(e), list.index on a module's tuple .. are MtR facts of 06m -/
end
end L2

namespace L2
open PySem PySem.Spec PyProof.Rows

noncomputable def MtM (X : Cx) (id : String) (r : V → List V → Hp → VK → Prop) : Prop :=
  ∀ (pins : List (Addr × Obj)) (s : Shared) (σ : St) (H : Hp) (x : V) (xs : List V) (v : Value) (us : List Value) (Q : VK), Inv X pins σ H s → RelV x v → Vals xs us → r x xs H Q →
    wpAny (model X.prog X.w) X.A (call (.builtin id) (v :: us)) (EP X pins σ Q) X.xe s

theorem Vals.one : ∀ {x : V} {us : List Value}, Vals [x] us → ∃ u, us = [u] ∧ RelV x u
  | _, _, .cons r .nil => ⟨_, rfl, r⟩
theorem Vals.two : ∀ {x y : V} {us : List Value}, Vals [x, y] us → ∃ u v, us = [u, v] ∧ RelV x u ∧ RelV y v
  | _, _, _, .cons r (.cons q .nil) => ⟨_, _, rfl, r, q⟩
theorem Vals.rep {xs : List V} {us : List Value} (h : Vals xs us) : ∀ k : Nat, Vals (List.replicate k xs).flatten (List.replicate k us).flatten
  | 0 => .nil
  | k + 1 => by
    rw [List.replicate_succ, List.replicate_succ, List.flatten_cons, List.flatten_cons]
    exact Vals.append h (Vals.rep h k)
theorem foldl_rep (its : List Value) : ∀ (k : Nat) (acc : List Value),
    List.foldl (fun x1 x2 => x1 ++ x2) acc.toArray (List.replicate k its.toArray) = (acc ++ (List.replicate k its).flatten).toArray
  | 0, acc => by simp
  | k + 1, acc => by
    have e : acc.toArray ++ its.toArray = (acc ++ its).toArray := by simp
    have e2 : (acc ++ its) ++ (List.replicate k its).flatten = acc ++ (List.replicate (k + 1) its).flatten := by
      rw [List.replicate_succ, List.flatten_cons, List.append_assoc]
    rw [← e2, ← foldl_rep its k (acc ++ its), ← e, List.replicate_succ, List.foldl_cons]

section
variable {X : Cx} {pins : List (Addr × Obj)} {σ : St} {H : Hp} {s : Shared} {l b : Addr} {xs ys zs : List V}

theorem Inv.lset {its its' : List Value} {n : Nat} {f : Array Value → Array Value} {t' : Nat} (I : Inv X pins σ H s) (hH : H l = some (.lst xs))
    (e : s.heap.get? l = some { cls := .type "list", data := .seq its.toArray n }) (hf : f its.toArray = its'.toArray) (hv : Vals ys its') (hz : ys.length ≤ sizeLine) :
    Inv X pins σ (upd H l (.lst ys)) { s with heap := s.heap.update l (Obj.mapSeq f), toks := t' } := by
  have q := PySem.IsL.update e f
  rw [hf] at q
  refine I.write (x := l) (e := l) (by rw [hH]; exact trivial) (.inl rfl) (fun b' u hb hu => (Heap.get?_update_other s.heap (Obj.mapSeq f) (Ne.symm hb)).trans hu) ⟨_, q⟩ ?_
  exact ⟨hz, its', _, hv, q⟩
theorem Inv.lnew {its : List Value} {t' : Nat} (I : Inv X pins σ H s) (hv : Vals ys its) (hz : ys.length ≤ sizeLine) :
    Inv X pins σ (upd H s.heap.objs.size (.lst ys)) { s with heap := s.heap.push { cls := .type "list", data := .seq its.toArray }, toks := t' } :=
  I.laid (fun _ _ q => Heap.get?_push_of_some _ q) (Nat.le_refl _) ⟨hz, its, 0, hv, Heap.get?_push_size _ rfl⟩
theorem Inv.fresh (I : Inv X pins σ H s) : H s.heap.objs.size = none := I.hok.fresh (Nat.le_refl _)
theorem Inv.lstM (I : Inv X pins σ H s) (hH : H l = some (.lst xs)) : xs.length ≤ sizeLine ∧ ∃ (its : List Value) (n : Nat), Vals xs its ∧ xs.length = its.length ∧ s.heap.get? l = some { cls := .type "list", data := .seq its.toArray n } := by
  obtain ⟨z, its, n, r, e⟩ := I.hok l _ hH
  exact ⟨z, its, n, r, r.length, e⟩

theorem notLongL {n : Nat} (h : n ≤ sizeLine) : Builtin.List.listTooLong n = false := by
  unfold Builtin.List.listTooLong
  exact decide_eq_false (by omega)
end

section
variable {X : Cx}

noncomputable def rAppend : V → List V → Hp → VK → Prop := fun x vs H Q => ∃ l xs y, x = .ref l ∧ vs = [y] ∧ H l = some (.lst xs) ∧ xs.length < sizeLine ∧ Q .non (upd H l (.lst (xs ++ [y])))
theorem mt_append : MtM X "list.append" rAppend := by
  intro pins s σ H x vs v us Q I rx rv h
  obtain ⟨l, xs, y, rfl, rfl, hH, hz, q⟩ := h
  cases rx
  obtain ⟨u, rfl, ru⟩ := rv.one
  obtain ⟨z, its, n, r, hl, e⟩ := I.lstM hH
  refine call_meets F.slot_list_append ⟨_, e, rfl⟩ F.entry_list_append (F.args_list_append_2 _ _) (PySem.list_append l its.toArray n u (by rw [List.size_toArray]; omega)) ⟨e, ?_⟩
  refine ⟨.non, _, I.lset (its' := its ++ [u]) hH e (by simp) (r.append (.cons ru .nil)) ?_, rfl, q⟩
  rw [List.length_append, List.length_singleton]
  omega

noncomputable def rCat : R2 := fun x y H Q => ∃ l b xs zs, x = .ref l ∧ y = .ref b ∧ H l = some (.lst xs) ∧ H b = some (.lst zs) ∧ xs.length + zs.length ≤ sizeLine ∧ ∀ p, H p = none → Q (.ref p) (upd H p (.lst (xs ++ zs)))
theorem op_cat : OpR X (binaryOp .Add) rCat := by
  intro pins s σ H x y v u Q I rx ry h
  obtain ⟨l, b, xs, zs, rfl, rfl, hH, hB, hz, q⟩ := h
  cases rx
  cases ry
  obtain ⟨z, its, n, r, hl, e⟩ := I.lstM hH
  obtain ⟨z2, its2, n2, r2, hl2, e2⟩ := I.lstM hB
  refine PySem.P.add_list e e2 ?_ (by rw [List.size_toArray, List.size_toArray]; omega)
  have ea : its.toArray ++ its2.toArray = (its ++ its2).toArray := by simp
  rw [ea]
  exact ⟨.ref _, _, I.lnew (t' := s.toks) (r.append r2) (by rw [List.length_append]; omega), rfl, q _ I.fresh⟩
noncomputable def rRep : R2 := fun x y H Q => ∃ l k xs, x = .ref l ∧ y = .int k ∧ H l = some (.lst xs) ∧ -(2 ^ 63) ≤ k ∧ k < 2 ^ 63 ∧ xs.length * k.toNat ≤ sizeLine ∧
  ∀ p, H p = none → Q (.ref p) (upd H p (.lst (List.replicate k.toNat xs).flatten))
theorem len_rep {α : Type} (xs : List α) (k : Nat) : (List.replicate k xs).flatten.length = k * xs.length := by
  induction k with
  | zero => simp
  | succ k ih => rw [List.replicate_succ, List.flatten_cons, List.length_append, ih, Nat.succ_mul, Nat.add_comm]
theorem op_rep : OpR X (binaryOp .Mult) rRep := by
  intro pins s σ H x y v u Q I rx ry h
  obtain ⟨l, k, xs, rfl, rfl, hH, h1, h2, hz, q⟩ := h
  cases rx
  obtain ⟨t, rfl⟩ := ry
  obtain ⟨z, its, n, r, hl, e⟩ := I.lstM hH
  have hlen : its.toArray.size * k.toNat ≤ sizeLine := by rw [List.size_toArray, ← hl]; exact hz
  have hcap : ¬ its.toArray.size * k.toNat > (2 ^ 63 - 1) / 8 := by
    have : (sizeLine : Nat) ≤ (2 ^ 63 - 1) / 8 := by decide
    omega
  have hfit : ¬ (!Builtin.List.listFitsIndex k) = true := by
    rw [fitsIndex_both h1 h2]
    exact Bool.false_ne_true
  have hlong : ¬ Builtin.List.listTooLong (its.toArray.size * k.toNat) = true := by
    rw [notLongL hlen]
    exact Bool.false_ne_true
  have hnew : List.foldl (fun x1 x2 => x1 ++ x2) #[] (List.replicate (if its.toArray.isEmpty = true then 0 else k.toNat) its.toArray) = (List.replicate k.toNat its).flatten.toArray := by
    have f0 : ∀ m : Nat, List.foldl (fun x1 x2 => x1 ++ x2) #[] (List.replicate m its.toArray) = (List.replicate m its).flatten.toArray := fun m => by
      have := foldl_rep its m []
      rw [List.nil_append] at this
      exact this
    rw [f0]
    cases its with
    | nil => simp
    | cons a r' => rw [if_neg (by simp)]
  refine wpAny_binaryOp_repeat_ref (T := "list") (U := "int") (by decide) ⟨_, e, rfl⟩ (fun s' => typeIs_int s' k t) noFill_list_mul F.fills_int_mul F.slot_int_rmul repeat_list F.slot_int_index.lookup
    (call_meets F.slot_int_rmul (typeIs_int s k t) F.entry_int_rmul (F.args_int_rmul_2 _ _) (int___rmul___int_list k t l its.toArray n)
      ⟨e, rfl, ⟨_, e, rfl⟩, call_meets F.slot_list_mul ⟨_, e, rfl⟩ F.entry_list_mul (F.args_list_mul_2 _ _) (AutoListH.list___mul___list_int_3 l its.toArray n k t hfit hcap hlong) ⟨e, ?_⟩⟩)
  rw [hnew]
  exact ⟨.ref _, _, I.lnew (t' := s.toks) (r.rep k.toNat) (by rw [len_rep, Nat.mul_comm]; exact hz), rfl, q _ I.fresh⟩

end

section
variable {prog : Program} {w : World} {A : Around} {E : Value → Shared → Prop} {s : Shared}
end

section
variable {X : Cx}
end
end L2

namespace Att
open PySem PySem.W PySem.Calls PyProof.Rows

theorem ints_of_wellAll {P : Params} {h : Heap} : ∀ (ns : List Int) (vs : List Value), WellAll P h vs (ns.map WData.int) → IntsAre vs ns := by
  intro ns
  induction ns with
  | nil =>
    intro vs w
    rw [List.map_nil] at w
    cases w
    exact .nil
  | cons n ns ih =>
    intro vs w
    rw [List.map_cons] at w
    cases w with
    | cons a b =>
      cases a
      exact .cons _ _ (ih _ b)

theorem script_of {l : OpenLaw} {n : Nat} (hn : l.most = some n) {P : Params} {h : Heap} {args : List WData} {vals : List Value}
    (hpre : l.row.toRowW.claim.pre args = true) (hwl : WellAll P h vals args) :
    ∃ a vs ns, vals = [Value.ref a] ∧ args = [WData.list (ns.map WData.int)] ∧ h.get? a = some { cls := .type "list", data := .seq vs.toArray } ∧ IntsAre vs ns ∧ ns.length ≤ n := by
  have hsh : WShape.hasAll [] args [.list .int] = true := (pre_splitW hpre).1
  have hc : l.pre.holds [] { args := args } = true := (pre_splitW hpre).2
  obtain ⟨d, r, rfl, h1, h2⟩ := hasAllW_cons hsh
  obtain rfl := hasAllW_nil h2
  obtain ⟨xs, rfl, h3⟩ := hasW_list h1
  obtain ⟨ns, rfl⟩ := items_int h3
  have hlen : ns.length ≤ n := by
    unfold OpenLaw.pre at hc
    have h4 : (WTm.not (.lt (.lit (.int (n : Int))) (.len (.arg 0)))).holds [] { args := [.list (ns.map .int)] } = true := by
      have h4 := (holds_andW hc).1
      rw [hn] at h4
      exact h4
    have h5 := condW_of h4 (w_not (w_lt w_lit (w_len_list (w_arg rfl))))
    rw [List.length_map] at h5
    refine Nat.le_of_not_lt fun q => ?_
    have q' : (n : Int) < ((ns.length : Nat) : Int) := by omega
    first
      | (rw [decide_eq_true q'] at h5; exact absurd h5 (by decide))
      | (simp at h5; omega)
  cases hwl with
  | cons w1 w2 =>
    cases w2
    cases w1 with
    | list ho hall => exact ⟨_, _, ns, rfl, rfl, ho, ints_of_wellAll ns _ hall, hlen⟩

theorem post_true (l : OpenLaw) (args : List WData) : l.row.toRowW.claim.post args (.bool true) args = true :=
  postW_of (r := l.row.toRowW) (X := (true == true))
    (show WShape.has [] (.bool true) .bool = true by first | rfl | decide | simp [WShape.has, WShape.arms, WShape.armsAll])
    (show (WTm.eq .res (.lit (.bool true))).value [] { args := args, res := some (.bool true), after := args } = some (.bool (true == true)) from w_eq_bool (w_res rfl) w_lit) rfl

theorem attach_call {l : OpenLaw} {n : Nat} {q : Program} {loose : List Str} {XP : (Str → Option Value) → Heap → Prop} {YP : World → Heap → Prop} {d : DefRec}
    (hn : l.most = some n) (hdf : d.params.defaults = [])
    (call : ∀ (w : World) (s₀ s₁ : Shared) (mg mb : Str → Option Value) (fa : Addr) (o : Obj) (pm cd doc : Value) (a : Addr) (vs : List Value) (ns : List Int),
      Ground q loose [] XP w s₀ mg mb s₁.heap → YP w s₁.heap →
      s₁.heap.get? fa = some o → o.data = .func (docDef d.name d.params d.body d.scope pm cd doc) → s₁.heap.CodeRec cd d.name → mg d.name = some (.ref fa) →
      s₁.heap.get? a = some { cls := .type "list", data := .seq vs.toArray } → IntsAre vs ns → ns.length ≤ n → s₁.gens = #[] →
      codeAny (model l.prog w) callerA (.call (.ref fa) ⟨[.ref a], []⟩) (fun r s' => r = .ok (.ret (.bool true)) ∧ OldK s₁.heap s'.heap ∧ s'.os = s₁.os ∧ AllBare s'.gens) s₁) :
    WalkO q loose XP YP l.row.toRowW d [] (fun f vs => PySem.call f vs) := by
  intro w s₀ s₁ mg mb G Y fa o pm cd doc dV kV ho hd hcd hD hmg hg args vals as hpre hlay hrd hwl hlo
  obtain rfl : dV = .none := Dflts.none hD hdf
  obtain rfl : kV = .none := Dflts.noKw hD
  obtain ⟨a, vs, ns, rfl, rfl, hobj, hints, hlen⟩ := script_of hn hpre hwl
  refine enter_call (codeAny_mono (call w s₀ s₁ mg mb fa o pm cd doc a vs ns G Y ho (fd_plain hd) hcd hmg hobj hints hlen hg) fun r s' hq => ?_)
  obtain ⟨rfl, h2, h3, h4⟩ := hq
  exact ⟨.inl ⟨.bool true, .bool true, [], rfl, fun _ => rfl, .bool true, post_true l _, fun _ => ⟨List.Pairwise.nil, fun _ hm => (nomatch hm)⟩⟩, h2, h3, h4⟩

section
variable {prog : Program} {w : World} {A : Around} {E : Value → Shared → Prop} {s : Shared} {K : Frag}

noncomputable def ledger (h : Heap) (L d : Addr) : List (Addr × Obj) := (List.range h.objs.size).filterMap fun a => if a = L ∨ a = d then none else (h.get? a).map fun o => (a, o)
end
end Att

namespace L2
open PySem PySem.Spec PyProof.Rows

theorem vals_ints : ∀ {vs : List Value} {ns : List Int}, IntsAre vs ns → Vals (ns.map V.int) vs
  | _, _, .nil => .nil
  | _, _, .cons n t h => .cons ⟨t, rfl⟩ (vals_ints h)

end L2

namespace L2
open PySem PySem.Spec PyProof.Rows

noncomputable abbrev KOf {K : PySem.W.Frag} {h : Heap} (_ : K.In h) : PySem.W.Frag := K

end L2

/- THE LAST THEOREM (shape; LID, My.* are yours):
   My.Adr: a structure of the addresses that your layer names (classes, functions); My.Txt K t: a structure (Prop) of the equations over K;
   My.txt_mk : {K} {implicit addresses ..} (e1 : nsIn K mainGlobals "law" = some (some (.ref f))) (e2 : K.lookup f = some ⟨oc, od, .func (fnOf "law" "law" params body scope dV kV doc pm an cdv ct), sl⟩) (e3 : codeIn K cdv "law" = true) .. : ∃ t, My.Txt K t

set_option maxRecDepth 100000 in
set_option maxHeartbeats 0 in
theorem PySem.Challenge.cw_LID_holds : PySem.Challenge.rw_LID.Holds := by
  w_on; o_law; k_head; (case hw => w_witness2)
  k_fill
  refine L2.walk_of (l := PySem.Challenge.rw_LID) (n := 63) (k := 40) (x := "script") (CX := fun w => ..) (sp := fun _ => My.sp_law) rfl (by decide) rfl ⟨rfl, by decide, by decide⟩ (fun w h Y => PySem.W.kIn_of Y) ?F ?S ?C
  case F =>
    intro w mg fa h KX G hmg
    have T : ∃ t, My.Txt (L2.KOf KX) t := by
      dsimp only [L2.KOf]                          -- K must stand as «<heap const> w.params» for k_is
      refine' My.txt_mk ?e1 ?e2 ?e3 ..
      (case e1 => PySem.W.k_is)                    -- in the order: a name -> its address -> its object -> its parts
      (case e2 => PySem.W.k_is)
      ..
    obtain ⟨t, T⟩ := T
    have e0 := hmg.symm.trans (PySem.W.mg_of KX G T.law)
    cases e0                                       -- fa is the law's own address
    exact ⟨_, fun s u => .of_eq rfl, fun base kb nb => My.law_fn T kb nb⟩     -- if «.of_eq rfl» comes too early: refine' ⟨_, ?b, fun base kb nb => My.law_fn T kb nb⟩; exact fun s u => .of_eq rfl
  case S => exact fun w H a ns hl hO hS => ..
  case C => exact ..
(the tactic k_is has no namespace: write k_is) -/

namespace L2
open PySem PySem.Spec PyProof.Rows

noncomputable def defArgs (s : Stmt) : Arguments := match s with
  | .FunctionDef _ a _ _ _ _ _ _ _ _ => a
  | _ => { posonlyargs := [], args := [], vararg := none, kwonlyargs := [], kw_defaults := [], kwarg := none, defaults := [] }
noncomputable def defBody (s : Stmt) : List Stmt := match s with
  | .FunctionDef _ _ b _ _ _ _ _ _ _ => b
  | _ => []
noncomputable def defScope (s : Stmt) : Scope := match s with
  | .FunctionDef _ _ _ _ _ _ sc _ _ _ => sc
  | _ => { kind := .function, names := [], isGenerator := false, isCoroutine := false }

structure Fun (K : PySem.W.Frag) (x qual : Str) (st : Stmt) (f : Addr) (fd : FuncData) : Prop where
  ex : ∃ (oc : Value) (od : Option Addr) (kV doc pm : Value) (an : Option Addr) (cdv ct : Value) (osl : Array (Option Value)),
    fd = PySem.W.fnOf x qual (defArgs st) (defBody st) (defScope st) .none kV doc pm an cdv ct ∧ K.lookup f = some ⟨oc, od, .func fd, osl⟩ ∧ PySem.W.codeIn K cdv qual = true
  kp : PySem.W.keepIn K (.ref f) = true
section
variable {P : Program} {w : World} {K : PySem.W.Frag} {mg : Str → Option Value} {base : Heap}
theorem Fun.binds {x qual : Str} {st : Stmt} {f : Addr} {fd : FuncData} {ps : List Str} (F : Fun K x qual st f fd)
    (h : ∀ (kV doc pm : Value) (an : Option Addr) (cdv ct : Value) (us : List Value), us.length = ps.length → bindArgs (PySem.W.fnOf x qual (defArgs st) (defBody st) (defScope st) .none kV doc pm an cdv ct) ⟨us, []⟩ = pure (ps.zip us)) : Binds K fd ps [] := by
  obtain ⟨oc, od, kV, doc, pm, an, cdv, ct, osl, rfl, lk, hcd⟩ := F.ex
  exact .all (h kV doc pm an cdv ct)
theorem fun_mk {x qual : Str} {st : Stmt} {f : Addr} {oc : Value} {od an : Option Addr} {osl : Array (Option Value)} {kV doc pm cdv ct : Value} (l : K.lookup f = some ⟨oc, od, .func (PySem.W.fnOf x qual (defArgs st) (defBody st) (defScope st) .none kV doc pm an cdv ct), osl⟩)
    (c : PySem.W.codeIn K cdv qual = true) (k : PySem.W.keepIn K (.ref f) = true) : Fun K x qual st f (PySem.W.fnOf x qual (defArgs st) (defBody st) (defScope st) .none kV doc pm an cdv ct) := ⟨⟨oc, od, kV, doc, pm, an, cdv, ct, osl, rfl, l, c⟩, k⟩
end
theorem hu_of {A : Around} {k : Nat} (hr : Room k A) : A.units + 1 < cLine := Nat.lt_of_le_of_lt (Nat.add_le_add_left (by decide : 1 ≤ 64) _) hr.units
section
variable {X : Cx}
end

noncomputable def Same (H H' : Hp) : Prop := ∀ b o, H b = some o → H' b = some o
theorem Same.refl (H : Hp) : Same H H := fun _ _ h => h
theorem Same.trans {H H1 H2 : Hp} (a : Same H H1) (b : Same H1 H2) : Same H H2 := fun c o h => b c o (a c o h)
theorem Same.free {H H' : Hp} (e : Same H H') {l : Addr} (h : H' l = Option.none) : H l = Option.none := by
  cases q : H l with
  | none => rfl
  | some o =>
    rw [e l o q] at h
    cases h
theorem Same.seq {K : PySem.W.Frag} {H H' : Hp} {a : Addr} {xs : List V} (e : Same H H') (h : SqL K H a xs) : SqL K H' a xs := by
  rcases h with (h | ⟨o, h⟩) | h
  · exact .inl (.inl (e _ _ h))
  · exact .inl (.inr ⟨o, e _ _ h⟩)
  · exact .inr h

end L2
set_option maxRecDepth 100000
set_option maxHeartbeats 4000000
namespace L2
open PySem PySem.Spec PyProof.Rows

inductive D where
  | non | bl (b : Bool) | int (i : Int) | str (x : List Nat) | tup (xs : List D) | lst (fz : Bool) (xs : List D) | exc (C : Addr)

noncomputable def ExcObj (a C : Addr) : Heap → Prop := fun h => ∃ ob, h.get? a = some ob ∧ ob.cls = .ref C

mutual
inductive Rep (K : PySem.W.Frag) (G : Hp) : V → D → Prop
  | non : Rep K G .non .non
  | bl (b : Bool) : Rep K G (.bl b) (.bl b)
  | int (i : Int) : Rep K G (.int i) (.int i)
  | str (x : Str) (h : x.length ≤ sizeLine) : Rep K G (.str x) (.str x.cps.toList)
  | tup {a : Addr} {vs : List V} {ds : List D} (h : SqT K G a vs) (r : Reps K G vs ds) : Rep K G (.ref a) (.tup ds)
  | lst {a : Addr} {vs : List V} {ds : List D} (h : G a = some (.lst vs)) (r : Reps K G vs ds) : Rep K G (.ref a) (.lst false ds)
  | fls {a : Addr} {vs : List V} {ds : List D} (h : SqL K G a vs) (r : Reps K G vs ds) : Rep K G (.ref a) (.lst true ds)
  | exc {a C : Addr} (h : G a = some (.ext (ExcObj a C))) : Rep K G (.ref a) (.exc C)
inductive Reps (K : PySem.W.Frag) (G : Hp) : List V → List D → Prop
  | nil : Reps K G [] []
  | cons {v : V} {d : D} {vs : List V} {ds : List D} (r : Rep K G v d) (t : Reps K G vs ds) : Reps K G (v :: vs) (d :: ds)
end

section
variable {K : PySem.W.Frag} {G G' H H' G1 H1 G2 H2 : Hp}
theorem SqT.mono {a : Addr} {xs : List V} (e : Same G G') (h : SqT K G a xs) : SqT K G' a xs := by
  rcases h with (h | ⟨o, h⟩) | h
  · exact .inl (.inl (e _ _ h))
  · exact .inl (.inr ⟨o, e _ _ h⟩)
  · exact .inr h
theorem SqL.mono {a : Addr} {xs : List V} (e : Same G G') (h : SqL K G a xs) : SqL K G' a xs := e.seq h
mutual
theorem Rep.mono (e : Same G G') : ∀ {v : V} {d : D}, Rep K G v d → Rep K G' v d
  | _, _, .non => .non
  | _, _, .bl b => .bl b
  | _, _, .int i => .int i
  | _, _, .str x h => .str x h
  | _, _, .tup h r => .tup (h.mono e) (Reps.mono e r)
  | _, _, .lst h r => .lst (e _ _ h) (Reps.mono e r)
  | _, _, .fls h r => .fls (h.mono e) (Reps.mono e r)
  | _, _, .exc h => .exc (e _ _ h)
theorem Reps.mono (e : Same G G') : ∀ {vs : List V} {ds : List D}, Reps K G vs ds → Reps K G' vs ds
  | _, _, .nil => .nil
  | _, _, .cons r t => .cons (Rep.mono e r) (Reps.mono e t)
end
section inv
variable {v : V}
theorem Rep.int_inv {i : Int} (r : Rep K G v (.int i)) : v = .int i := by cases r; rfl
theorem Rep.bl_inv {b : Bool} (r : Rep K G v (.bl b)) : v = .bl b := by cases r; rfl
theorem Rep.non_inv (r : Rep K G v .non) : v = .non := by cases r; rfl
theorem Rep.str_inv {x : List Nat} (r : Rep K G v (.str x)) : ∃ y : Str, v = .str y ∧ y.cps.toList = x ∧ y.length ≤ sizeLine := by
  generalize e : D.str x = d at r
  cases r with
  | str y h => cases e; exact ⟨y, rfl, rfl, h⟩
  | _ => cases e
theorem Rep.tup_inv {ds : List D} (r : Rep K G v (.tup ds)) : ∃ a vs, v = .ref a ∧ SqT K G a vs ∧ Reps K G vs ds := by
  cases r with
  | tup h t => exact ⟨_, _, rfl, h, t⟩
theorem Rep.lst_inv {ds : List D} (r : Rep K G v (.lst false ds)) : ∃ a vs, v = .ref a ∧ G a = some (.lst vs) ∧ Reps K G vs ds := by
  cases r with
  | lst h t => exact ⟨_, _, rfl, h, t⟩
theorem Rep.seq_inv {f : Bool} {ds : List D} (r : Rep K G v (.lst f ds)) : ∃ a vs, v = .ref a ∧ SqL K G a vs ∧ Reps K G vs ds := by
  cases r with
  | lst h t => exact ⟨_, _, rfl, .of h, t⟩
  | fls h t => exact ⟨_, _, rfl, h, t⟩
theorem Rep.strL {x : List Nat} {y : Str} (e : y.cps.toList = x) (h : x.length ≤ sizeLine) : Rep K G (.str y) (.str x) := by
  subst e; exact .str y (by simpa [Str.length] using h)
end inv
theorem Reps.length : ∀ {vs : List V} {ds : List D}, Reps K G vs ds → vs.length = ds.length
  | _, _, .nil => rfl
  | _, _, .cons _ t => by simp [Reps.length t]
theorem Reps.get : ∀ {vs : List V} {ds : List D} {i : Nat} {d : D}, Reps K G vs ds → ds[i]? = some d → ∃ v, vs[i]? = some v ∧ Rep K G v d
  | _, _, _, _, .nil, e => by simp at e
  | _, _, 0, _, .cons r _, e => by simp at e; subst e; exact ⟨_, rfl, r⟩
  | _, _, i + 1, d, .cons _ t, e => by
    obtain ⟨v, h1, h2⟩ := Reps.get (i := i) (d := d) t (by simpa using e)
    exact ⟨v, by simpa using h1, h2⟩
theorem Reps.append : ∀ {vs ws : List V} {ds es : List D}, Reps K G vs ds → Reps K G ws es → Reps K G (vs ++ ws) (ds ++ es)
  | _, _, _, _, .nil, s => s
  | _, _, _, _, .cons r t, s => .cons r (Reps.append t s)
theorem Reps.take : ∀ {vs : List V} {ds : List D} (n : Nat), Reps K G vs ds → Reps K G (vs.take n) (ds.take n)
  | _, _, 0, _ => by simpa using Reps.nil
  | _, _, _ + 1, .nil => .nil
  | _, _, n + 1, .cons r t => .cons r (Reps.take n t)
theorem Reps.drop : ∀ {vs : List V} {ds : List D} (n : Nat), Reps K G vs ds → Reps K G (vs.drop n) (ds.drop n)
  | _, _, 0, r => r
  | _, _, _ + 1, .nil => .nil
  | _, _, n + 1, .cons _ t => Reps.drop n t
theorem Reps.rep {vs : List V} {ds : List D} (r : Reps K G vs ds) : ∀ n : Nat, Reps K G (List.replicate n vs).flatten (List.replicate n ds).flatten
  | 0 => .nil
  | n + 1 => by
    simp only [List.replicate_succ, List.flatten_cons]
    exact Reps.append r (Reps.rep r n)

structure Up (G H G' H' : Hp) : Prop where
  sub : Same G' H'
  gg : Same G G'
  hh : Same H H'
  fr : ∀ a o, G' a = some o → G a = some o ∨ H a = none
theorem Up.refl (s : Same G H) : Up G H G H := ⟨s, .refl _, .refl _, fun _ _ h => .inl h⟩
theorem Up.trans (a : Up G H G1 H1) (b : Up G1 H1 G2 H2) : Up G H G2 H2 := ⟨b.sub, a.gg.trans b.gg, a.hh.trans b.hh, fun c o h => by
  rcases b.fr c o h with h | h
  · exact a.fr c o h
  · exact .inr (a.hh.free h)⟩
theorem Same.both {p : Addr} {o : HO} (s : Same G H) : Same (upd G p o) (upd H p o) := fun a u h => by
  unfold L2.upd at h ⊢
  split
  · rename_i e; rw [if_pos e] at h; exact h
  · rename_i e; rw [if_neg e] at h; exact s a u h
theorem Same.into {p : Addr} {o : HO} (h : H p = none) : Same H (upd H p o) := fun a u e => by
  rw [upd_ne (ne_of_none e h)]; exact e
theorem Up.new {p : Addr} {o : HO} (s : Same G H) (hp : H p = none) : Up G H (upd G p o) (upd H p o) :=
  ⟨s.both, .into (s.free hp), .into hp, fun a u h => by
    by_cases e : a = p
    · subst e; exact .inr hp
    · rw [upd_ne e] at h; exact .inl h⟩
end

inductive R (α : Type) where
  | ok (a : α) | ex (C : Addr) | no
noncomputable def R.bind {α β : Type} : R α → (α → R β) → R β
  | .ok a, f => f a
  | .ex C, _ => .ex C
  | .no, _ => .no
noncomputable instance : Monad R where
  pure := .ok
  bind := R.bind
section
variable {α β : Type}
@[simp] theorem R.ok_bind (a : α) (f : α → R β) : (R.ok a >>= f) = f a := rfl
@[simp] theorem R.ex_bind (C : Addr) (f : α → R β) : ((R.ex C : R α) >>= f) = .ex C := rfl
noncomputable def R.post (m : R α) (P : α → Prop) (E : Addr → Prop) : Prop := match m with
  | .ok a => P a
  | .ex C => E C
  | .no => False
theorem R.post.mono {m : R α} {P P' : α → Prop} {E E' : Addr → Prop} (h : m.post P E) (hp : ∀ a, P a → P' a) (he : ∀ C, E C → E' C) : m.post P' E' := by
  cases m with
  | ok a => exact hp a h
  | ex C => exact he C h
  | no => exact h
noncomputable def ofO : Option α → R α
  | some a => .ok a
  | none => .no
@[simp] theorem ofO_some (a : α) : ofO (some a) = R.ok a := rfl
theorem ofO.ok {o : Option α} {P : α → Prop} {E : Addr → Prop} (h : (ofO o).post P E) : ∃ a, o = some a ∧ P a := by
  cases o with
  | none => exact h.elim
  | some a => exact ⟨a, rfl, h⟩
end

inductive Fd where
  | val (d : D) | own (ds : List D)
inductive Sl where
  | val (d : D)
  /-- a list that no other name, and no datum, holds -/
  | own (ds : List D)
  /-- an instance of the class at C, at p, that no other name, and no datum, holds; m: it may be changed -/
  | obj (m : Bool) (C p : Addr) (fs : List (Nat × Fd))
noncomputable abbrev Ev := List (Option Sl)
noncomputable def rdV (ρ : Ev) (i : Nat) : R D := match ρ[i]? with
  | some (some (.val d)) => .ok d
  | _ => .no
noncomputable def fnames : List Str := ["states", "taken_back", "width", "screen", "last_notes", "tasks", "numbers_given"]
noncomputable def fname (k : Nat) : Str := fnames.getD k ""
noncomputable abbrev Owns := Addr → Option (Nat × Nat)
noncomputable def FdAt (K : PySem.W.Frag) (H₀ G H : Hp) (ow : Owns) (i : Nat) (m : Bool) (k : Nat) : Fd → V → Prop
  | .val d, v => Rep K G v d
  | .own ds, v => ∃ l ws, v = .ref l ∧ H l = some (.lst ws) ∧ G l = none ∧ (m = true → H₀ l = none) ∧ Reps K G ws ds ∧ ow l = some (i, k + 1)
inductive FdsAt (K : PySem.W.Frag) (H₀ G H : Hp) (ow : Owns) (i : Nat) (m : Bool) : List (Nat × Fd) → List (Str × V) → Prop
  | nil : FdsAt K H₀ G H ow i m [] []
  | cons {k : Nat} {fd : Fd} {v : V} {fs : List (Nat × Fd)} {vs : List (Str × V)} (h : k < fnames.length) (nk : fs.lookup k = none) (r : FdAt K H₀ G H ow i m k fd v) (t : FdsAt K H₀ G H ow i m fs vs) : FdsAt K H₀ G H ow i m ((k, fd) :: fs) ((fname k, v) :: vs)
noncomputable def ObjAt (K : PySem.W.Frag) (H₀ G H : Hp) (ow : Owns) (i : Nat) (m : Bool) (C p : Addr) (fs : List (Nat × Fd)) : Prop :=
  ∃ dx vs, H p = some (.ins C dx vs) ∧ H dx = some (.own p) ∧ G p = none ∧ G dx = none ∧ (m = true → H₀ p = none ∧ H₀ dx = none) ∧ ow p = some (i, 0) ∧ ow dx = some (i, 0) ∧ FdsAt K H₀ G H ow i m fs vs
section
variable {K : PySem.W.Frag} {H₀ H₀' G H G' H' : Hp} {ow ow' : Owns} {i : Nat}
structure ObKeep (H₀ H₀' G H G' H' : Hp) (ow ow' : Owns) (i : Nat) : Prop where
  hh : ∀ a t o, ow a = some (i, t) → H a = some o → H' a = some o
  gg : Same G G'
  gn : ∀ a t o, ow a = some (i, t) → H a = some o → G a = none → G' a = none
  oo : ∀ a t o, ow a = some (i, t) → H a = some o → ow' a = some (i, t)
  h0 : ∀ a o, H a = some o → G a = none → H₀ a = none → H₀' a = none
theorem FdAt.keep (k : ObKeep H₀ H₀' G H G' H' ow ow' i) {m : Bool} {n : Nat} : ∀ {fd : Fd} {v : V}, FdAt K H₀ G H ow i m n fd v → FdAt K H₀' G' H' ow' i m n fd v
  | .val d, v, r => Rep.mono k.gg (show Rep K G v d from r)
  | .own ds, v, ⟨l, ws, e, h1, h2, h3, h4, h5⟩ => ⟨l, ws, e, k.hh l _ _ h5 h1, k.gn l _ _ h5 h1 h2, fun z => k.h0 l _ h1 h2 (h3 z), h4.mono k.gg, k.oo l _ _ h5 h1⟩
theorem FdsAt.keep (k : ObKeep H₀ H₀' G H G' H' ow ow' i) {m : Bool} : ∀ {fs : List (Nat × Fd)} {vs : List (Str × V)}, FdsAt K H₀ G H ow i m fs vs → FdsAt K H₀' G' H' ow' i m fs vs
  | _, _, .nil => .nil
  | _, _, .cons h nk r t => .cons h nk (FdAt.keep k r) (FdsAt.keep k t)
theorem ObjAt.keep (k : ObKeep H₀ H₀' G H G' H' ow ow' i) {m : Bool} {C p : Addr} {fs : List (Nat × Fd)} (h : ObjAt K H₀ G H ow i m C p fs) : ObjAt K H₀' G' H' ow' i m C p fs := by
  obtain ⟨dx, vs, h1, h2, h3, h4, h5, h6, h7, h8⟩ := h
  exact ⟨dx, vs, k.hh p _ _ h6 h1, k.hh dx _ _ h7 h2, k.gn p _ _ h6 h1 h3, k.gn dx _ _ h7 h2 h4, fun z => ⟨k.h0 p _ h1 h3 (h5 z).1, k.h0 dx _ h2 h4 (h5 z).2⟩, k.oo p _ _ h6 h1, k.oo dx _ _ h7 h2, h8.keep k⟩
theorem ObKeep.up (u : Up G H G' H') : ObKeep H₀ H₀ G H G' H' ow ow i := by
  have gn : ∀ a o, H a = some o → G a = none → G' a = none := fun a o e n => by
    cases q : G' a with
    | none => rfl
    | some o' =>
      rcases u.fr a o' q with z | z
      · rw [n] at z; cases z
      · rw [e] at z; cases z
  exact ⟨fun a t o _ e => u.hh a o e, u.gg, fun a t o _ e n => gn a o e n, fun a t o e _ => e, fun a o _ _ n => n⟩
end
theorem ObjAt.rd {K : PySem.W.Frag} {H₀ G H : Hp} {ow : Owns} {i : Nat} {m : Bool} {C p : Addr} {fs : List (Nat × Fd)} (h : ObjAt K H₀ G H ow i m C p fs) : ObjAt K (fun _ => none) G H ow i m C p fs :=
  h.keep ⟨fun _ _ _ _ e => e, .refl _, fun _ _ _ _ _ n => n, fun _ _ _ e _ => e, fun _ _ _ _ _ => rfl⟩
structure StE (K : PySem.W.Frag) (G H : Hp) (σ : St) (ρ : Ev) : Prop where
  sub : Same G H
  len : σ.length = ρ.length
  val : ∀ (i : Nat) d, ρ[i]? = some (some (.val d)) → ∃ v, σ[i]? = some (some v) ∧ Rep K G v d
  obs : ∀ (i : Nat) m C p fs, ρ[i]? = some (some (.obj m C p fs)) → σ[i]? = some (some (.ref p)) ∧ ∃ ow, ObjAt K (fun _ => none) G H ow i m C p fs
theorem StE.up {K : PySem.W.Frag} {G H G' H' : Hp} {σ : St} {ρ : Ev} (s : StE K G H σ ρ) (u : Up G H G' H') : StE K G' H' σ ρ :=
  ⟨u.sub, s.len, fun i d e => let ⟨v, h1, h2⟩ := s.val i d e; ⟨v, h1, h2.mono u.gg⟩, fun i m C p fs e => let ⟨h1, ow, h2⟩ := s.obs i m C p fs e; ⟨h1, ow, h2.keep (.up u)⟩⟩

noncomputable def Flown (P : Program) (w : World) (outer : List Env) (H : Hp) (s : Shared) (a C : Addr) (H' : Hp) (s' : Shared) : Prop :=
  s'.os = s.os ∧ AllBare s'.gens ∧ Un (frs outer) [] H H' s.heap s'.heap ∧ HOk P w H' s'.heap ∧ H' a = none ∧
  ∃ (B : Heap) (a0 : Value), Heap.FlyingW B outer a (.ref C) a0 s'.heap ∧ ∀ b o, b ∉ frs outer → ((∃ o0, s.heap.get? b = some o0) ∨ ∃ u, H' b = some u) → s'.heap.get? b = some o → B.get? b = some o
noncomputable def CXo (P : Program) (w : World) : CXT := fun outer H s E e s' => ∃ a C H', e = .ref a ∧ Flown P w outer H s a C H' s' ∧ E (.ref C) none H'
noncomputable def ChOk (X : Cx) (pins : List (Addr × Obj)) (b : Addr) : Prop :=
  (b ∈ X.ex ∨ X.s₀.heap.objs.size ≤ b) ∧ b ≠ X.env.locals ∧ (∀ x c, X.env.cells.lookup x = some c → c ≠ b) ∧ ∀ p ∈ X.pn ++ pins, p.1 ≠ b
noncomputable def FlownH (X : Cx) (pins : List (Addr × Obj)) (L : Addr) (H : Hp) (s : Shared) (a C : Addr) (H' : Hp) (s' : Shared) : Prop :=
  s'.os = s.os ∧ AllBare s'.gens ∧ (∃ ch, (∀ b ∈ ch, ChOk X pins b) ∧ Un (frs X.stack) ch H H' s.heap s'.heap) ∧ HOk X.prog X.w H' s'.heap ∧ H' a = none ∧ s.heap.get? a = none ∧
  ∃ (B : Heap) (a0 : Value), Heap.HeldW B X.stack a (.ref C) a0 L s'.heap ∧ ∀ b o, b ∉ frs X.stack → ((∃ o0, s.heap.get? b = some o0) ∨ ∃ u, H' b = some u) → s'.heap.get? b = some o → B.get? b = some o
noncomputable def FlyR (X : Cx) (σ : St) (G₁ H₁ : Hp) (C : Addr) (e : Value) (s' : Shared) : Prop :=
  ∃ pins s₁ a, e = .ref a ∧ Inv X pins σ H₁ s₁ ∧
    ((∃ h' vs, Heap.MadeExcOf s₁.heap h' a (.ref C) vs ∧ s' = { s₁ with heap := h' }) ∨ (∃ G' H', Flown X.prog X.w X.stack H₁ s₁ a C H' s' ∧ Up G₁ H₁ G' H') ∨ ∃ G' H' L, X.env.frame = some L ∧ FlownH X pins L H₁ s₁ a C H' s' ∧ Up G₁ H₁ G' H')
noncomputable def Fly (X : Cx) (σ : St) (G H : Hp) (C : Addr) (e : Value) (s' : Shared) : Prop := ∃ G₁ H₁, Up G H G₁ H₁ ∧ FlyR X σ G₁ H₁ C e s'
theorem Fly.up {X : Cx} {σ : St} {G H G1 H1 : Hp} {C : Addr} {e : Value} {s' : Shared} (u : Up G H G1 H1) (f : Fly X σ G1 H1 C e s') : Fly X σ G H C e s' :=
  let ⟨G2, H2, v, q⟩ := f; ⟨G2, H2, u.trans v, q⟩

section
variable {α β : Type}
noncomputable def Fin (G H : Hp) (rep : Hp → β → α → Prop) (Q : β → Hp → Prop) : α → Prop := fun d => ∀ v G' H', Up G H G' H' → rep G' v d → Q v H'
noncomputable def Exx (X : Cx) (σ : St) (G H : Hp) : Addr → Prop := fun C => ∀ e s', Fly X σ G H C e s' → X.xe e s'
theorem Fin.up {G H G1 H1 : Hp} {rep : Hp → β → α → Prop} {Q : β → Hp → Prop} {d : α} (u : Up G H G1 H1) (h : Fin G H rep Q d) : Fin G1 H1 rep Q d := fun v G' H' u' r => h v G' H' (u.trans u') r
theorem Exx.up {X : Cx} {σ : St} {G H G1 H1 : Hp} {C : Addr} (u : Up G H G1 H1) (h : Exx X σ G H C) : Exx X σ G1 H1 C := fun e s' f => h e s' (f.up u)
theorem post_up {X : Cx} {σ : St} {G H G1 H1 : Hp} {rep : Hp → β → α → Prop} {Q : β → Hp → Prop} {m : R α} (u : Up G H G1 H1) (h : m.post (Fin G H rep Q) (Exx X σ G H)) : m.post (Fin G1 H1 rep Q) (Exx X σ G1 H1) :=
  h.mono (fun _ => Fin.up u) fun _ => Exx.up u
noncomputable def tG (X : Cx) (rep : Hp → β → α → Prop) (g : Ev → R α) : St → Hp → (β → Hp → Prop) → Prop := fun σ H Q => ∃ G ρ, StE X.K G H σ ρ ∧ (g ρ).post (Fin G H rep Q) (Exx X σ G H)
theorem tG.intro {γ δ : Type} {X : Cx} {σ : St} {G H : Hp} {ρ : Ev} {rep : Hp → β → α → Prop} {rep' : Hp → δ → γ → Prop} {g : Ev → R α} {k : α → R γ} {Q : β → Hp → Prop} {Q' : δ → Hp → Prop} (st : StE X.K G H σ ρ)
    (h : (g ρ >>= k).post (Fin G H rep' Q') (Exx X σ G H)) (hk : ∀ a, ∀ v G1 H1, Up G H G1 H1 → StE X.K G1 H1 σ ρ → rep G1 v a → (k a).post (Fin G1 H1 rep' Q') (Exx X σ G1 H1) → Q v H1) : tG X rep g σ H Q := by
  refine ⟨G, ρ, st, ?_⟩
  cases e : g ρ with
  | ok a => rw [e] at h; exact fun v G' H' u r => hk a v G' H' u (st.up u) r (post_up u h)
  | ex C => rw [e] at h; exact h
  | no => rw [e] at h; exact h
theorem tG.last {X : Cx} {σ : St} {G H : Hp} {ρ : Ev} {rep : Hp → β → α → Prop} {g : Ev → R α} {Q : β → Hp → Prop} (st : StE X.K G H σ ρ) (h : (g ρ).post (Fin G H rep Q) (Exx X σ G H)) : tG X rep g σ H Q := ⟨G, ρ, st, h⟩
end
noncomputable abbrev tF (X : Cx) (g : Ev → R D) : TE := tG X (Rep X.K) g
noncomputable abbrev tTF (X : Cx) (g : Ev → R Bool) : TT := tG X (fun _ b c => b = c) g
noncomputable abbrev tAF (X : Cx) (g : Ev → R (List D)) : TA := tG X (Reps X.K) g
noncomputable def QF (X : Cx) (e : Expr) (g : Ev → R D) : Prop := PE X e (tF X g)
noncomputable def QB (X : Cx) (e : Expr) (g : Ev → R Bool) : Prop := PT X e (tTF X g)
noncomputable def QBW (X : Cx) (e : Expr) (g : Ev → R Bool) : Prop := PW X e (tTF X g)
noncomputable def QFA (X : Cx) (es : List Expr) (g : Ev → R (List D)) : Prop := PA X es (tAF X g)
end L2
namespace L2
open PySem PySem.Spec PyProof.Rows

theorem rdV.ok {ρ : Ev} {i : Nat} {P : D → Prop} {E : Addr → Prop} (h : (rdV ρ i).post P E) : ∃ d, ρ[i]? = some (some (.val d)) ∧ P d := by
  unfold rdV at h
  split at h
  · rename_i d e; exact ⟨d, e, h⟩
  · exact h.elim

section
variable {X : Cx} {e a b c : Expr} {ga gb gc : Ev → R D} {pos : Pos}
theorem pf_var_0 (i : Nat) {x : Str} (hN : X.N[i]? = some x := by rfl) (hv : Vis X.env.scope x := by first | exact Or.inl rfl | exact Or.inr (Or.inl rfl) | exact Or.inr (Or.inr rfl)) (hd : (x == ("__debug__" : Str)) = false := by decide)
    (hcd : (x == ("__classdict__" : Str)) = false := by decide) : QF X (.Name x pos) (fun ρ => rdV ρ i) := by
  intro pins s σ H Q I h
  obtain ⟨G, ρ, st, h⟩ := h
  refine pe_var hN hv hd hcd pins s σ H Q I ?_
  obtain ⟨d, e, q⟩ := rdV.ok h
  obtain ⟨v, e', r⟩ := st.val i d e
  exact ⟨v, e', q v G H (.refl st.sub) r⟩
theorem pf_const_0 {v : V} {d : D} (h : PE X e (tC v)) (hr : ∀ K G, Rep K G v d) : QF X e (fun _ => .ok d) := by
  intro pins s σ H Q I q
  obtain ⟨G, ρ, st, q⟩ := q
  exact h pins s σ H Q I (q v G H (.refl st.sub) (hr _ _))
theorem pf_int_0 {i : Int} {j : Nat} : QF X (.Constant (.int i) j pos) (fun _ => .ok (.int i)) := pf_const_0 pe_int fun _ _ => .int i
theorem pf_bl_0 {k : Bool} {j : Nat} : QF X (.Constant (.bool k) j pos) (fun _ => .ok (.bl k)) := pf_const_0 pe_bl fun _ _ => .bl k
theorem pf_str_0 {x : Str} {j : Nat} {l : List Nat} (hl : x.cps.toList = l := by rfl) (hz : l.length ≤ 1000 := by decide) : QF X (.Constant (.str x) j pos) (fun _ => .ok (.str l)) :=
  pf_const_0 pe_str fun _ _ => .strL hl (Nat.le_trans hz (by decide))
theorem pf_globI_0 {x : Str} {i : Int} {t : Tok} (hg : Gl X x) (hm : X.mg x = some (.int i t)) (hd : (x == ("__debug__" : Str)) = false := by decide) : QF X (.Name x pos) (fun _ => .ok (.int i)) :=
  pf_const_0 (pe_glob (v := .int i) hg hm ⟨t, rfl⟩ hd) fun _ _ => .int i

noncomputable def ROk (K : PySem.W.Frag) (r : R2) (f : D → D → Option D) : Prop := ∀ (G H : Hp) (x y : V) (dx dy d : D) (Q : VK), Same G H → Rep K G x dx → Rep K G y dy → f dx dy = some d → Fin G H (Rep K) Q d → r x y H Q
noncomputable def g2 (f : D → D → Option D) (ga gb : Ev → R D) : Ev → R D := fun ρ => ga ρ >>= fun x => gb ρ >>= fun y => ofO (f x y)
theorem t2_of {r : R2} {f : D → D → Option D} (hf : ROk X.K r f) {σ : St} {H : Hp} {Q : VK} (h : tF X (g2 f ga gb) σ H Q) : tOp r (tF X ga) (tF X gb) σ H Q := by
  obtain ⟨G, ρ, st, h⟩ := h
  refine tG.intro st h fun x v G1 H1 u1 st1 r1 h1 => ?_
  refine tG.intro st1 h1 fun y w G2 H2 u2 st2 r2 h2 => ?_
  obtain ⟨d, e, q⟩ := ofO.ok h2
  exact hf G2 H2 v w x y d Q st2.sub (r1.mono u2.gg) r2 e q
theorem pf_bin_0 {op : Operator} {r : R2} {f : D → D → Option D} (ho : OpR X (binaryOp op) r) (hf : ROk X.K r f) (ha : QF X a ga) (hb : QF X b gb) : QF X (.BinOp a op b pos) (g2 f ga gb) :=
  fun pins s σ H Q I h => pe_op ho ha hb pins s σ H Q I (t2_of hf h)
theorem pf_cmp_0 {op : CmpOp} {r : R2} {f : D → D → Option D} (ho : OpR X (compareOp op) r) (hf : ROk X.K r f) (ha : QF X a ga) (hb : QF X b gb) (hm : behindInMarks op b = false) : QF X (.Compare a [op] [b] pos) (g2 f ga gb) :=
  fun pins s σ H Q I h => pe_cmpR ho ha hb hm pins s σ H Q I (t2_of hf h)
noncomputable def g3 (f f' : D → D → Option D) (ga gb gc : Ev → R D) : Ev → R D := fun ρ => ga ρ >>= fun x => gb ρ >>= fun y => ofO (f x y) >>= fun z => match z with
  | .bl true => gc ρ >>= fun w => ofO (f' y w)
  | .bl false => .ok (.bl false)
  | _ => .no
theorem pf_chain_0 {op op' : CmpOp} {r r' : R2} {f f' : D → D → Option D} (ho : OpR X (compareOp op) r) (ho' : OpR X (compareOp op') r') (hf : ROk X.K r f) (hf' : ROk X.K r' f') (ha : QF X a ga) (hb : QF X b gb) (hc : QF X c gc)
    (hm : lastMarks [op, op'] [b, c] = false := by with_unfolding_all rfl) : QF X (.Compare a [op, op'] [b, c] pos) (g3 f f' ga gb gc) := by
  intro pins s σ H Q I h
  refine pe_chain ho ho' ha hb hc hm pins s σ H Q I ?_
  obtain ⟨G, ρ, st, h⟩ := h
  refine tG.intro st h fun x v G1 H1 u1 st1 r1 h1 => ?_
  refine tG.intro st1 h1 fun y w G2 H2 u2 st2 r2 h2 => ?_
  cases e : f x y with
  | none => rw [e] at h2; exact h2.elim
  | some d =>
    rw [e] at h2
    refine hf G2 H2 v w x y d _ st2.sub (r1.mono u2.gg) r2 e fun z G3 H3 u3 r3 => ?_
    have h3 := post_up u3 h2
    have st3 := st2.up u3
    cases r3 with
    | bl k =>
      refine ⟨k, rfl, ?_⟩
      cases k with
      | false => rw [if_neg Bool.false_ne_true]; exact h3 _ G3 H3 (.refl st3.sub) (.bl false)
      | true =>
        rw [if_pos rfl]
        refine tG.intro st3 (show (gc ρ >>= fun w => ofO (f' y w)).post _ _ from h3) fun q vq G4 H4 u4 st4 r4 h4 => ?_
        obtain ⟨d, e', q'⟩ := ofO.ok h4
        exact hf' G4 H4 w vq y q d Q st4.sub ((r2.mono u3.gg).mono u4.gg) r4 e' q'
    | _ => exact h3.elim
end

section
variable {X : Cx}
noncomputable def addD : D → D → Option D
  | .int i, .int j => some (.int (i + j))
  | .str x, .str y => if x.length + y.length ≤ sizeLine then some (.str (x ++ y)) else none
  | .lst false xs, .lst false ys => if xs.length + ys.length ≤ sizeLine then some (.lst false (xs ++ ys)) else none
  | .tup xs, .tup ys => if xs.length + ys.length ≤ sizeLine then some (.tup (xs ++ ys)) else none
  | _, _ => none
noncomputable def rCatT' (K : PySem.W.Frag) : R2 := fun x y H Q => ∃ a b xs ys, x = .ref a ∧ y = .ref b ∧ SqT K H a xs ∧ SqT K H b ys ∧ xs.length + ys.length ≤ sizeLine ∧
  (xs = [] → Q (.ref b) H) ∧ (xs ≠ [] → ys = [] → Q (.ref a) H) ∧ (xs ≠ [] → ys ≠ [] → ∀ p, H p = none → Q (.ref p) (upd H p (.tup (xs ++ ys))))
theorem op_catT' : OpR X (binaryOp .Add) (rCatT' X.K) := by
  intro pins s σ H x y v u Q I rx ry h
  obtain ⟨a, b, xs, ys, rfl, rfl, ha, hb, hz, q0, q1, q2⟩ := h
  by_cases hx : xs = []
  · cases rx
    cases ry
    obtain ⟨its, r1, p1, _⟩ := I.tuple ha
    obtain ⟨its2, r2, p2, _⟩ := I.tuple hb
    have hi : its = [] := r1.nil_iff.mpr hx
    obtain ⟨⟨cls, dd, data, sl⟩, ho, hc, n, hd⟩ := id p1
    obtain ⟨⟨cls2, dd2, data2, sl2⟩, ho2, hc2, n2, hd2⟩ := id p2
    simp only at hc hd hc2 hd2
    subst hc hd hc2 hd2
    exact concat_meets ⟨_, ho, rfl⟩ ⟨_, ho2, rfl⟩ noFill_tuple_add seq_tuple_add PySem.F.slot_tuple_add PySem.F.entry_tuple_add (PySem.F.args_tuple_add_2 _ _)
      (tuple_addW0 a b its.toArray its2.toArray n n2 dd dd2 sl sl2 (by simp [hi])) ⟨ho, ho2, .ref b, H, I, rfl, q0 hx⟩
  · exact op_catT pins s σ H _ _ v u Q I rx ry ⟨a, b, xs, ys, rfl, rfl, ha, hb, hx, hz, q1 hx, q2 hx⟩
noncomputable def rAdd' (K : PySem.W.Frag) : R2 := fun x y H Q => (rI0 fun i j => .int (i + j)) x y H Q ∨ (∃ i j, x = .str i ∧ y = .str j ∧ i.length + j.length ≤ sizeLine ∧ Q (.str (i ++ j)) H) ∨ rCat x y H Q ∨ rCatT' K x y H Q
theorem op_add' : OpR X (binaryOp .Add) (rAdd' X.K) := op_add.or (op_add_str.or (op_cat.or op_catT'))
theorem Str.app_list (x y : Str) : (x ++ y).cps.toList = x.cps.toList ++ y.cps.toList := by
  show (x.cps ++ y.cps).toList = _
  simp
theorem Str.len_list (x : Str) : x.cps.toList.length = x.length := by simp [Str.length]
theorem ok_add (K : PySem.W.Frag) : ROk K (rAdd' K) addD := by
  intro G H x y dx dy d Q s rx ry e q
  unfold addD at e
  split at e
  · cases e
    exact .inl ⟨_, _, rx.int_inv, ry.int_inv, q _ G H (.refl s) (.int _)⟩
  · split at e
    · rename_i hz
      cases e
      obtain ⟨i, rfl, ei, hi⟩ := rx.str_inv
      obtain ⟨j, rfl, ej, hj⟩ := ry.str_inv
      subst ei ej
      rw [Str.len_list, Str.len_list] at hz
      exact .inr (.inl ⟨i, j, rfl, rfl, hz, q _ G H (.refl s) (.strL (Str.app_list i j) (by rw [List.length_append, Str.len_list, Str.len_list]; exact hz))⟩)
    · cases e
  · split at e
    · rename_i hz
      cases e
      obtain ⟨a, vs, rfl, ha, ra⟩ := rx.lst_inv
      obtain ⟨b, ws, rfl, hb, rb⟩ := ry.lst_inv
      refine .inr (.inr (.inl ⟨a, b, vs, ws, rfl, rfl, s _ _ ha, s _ _ hb, by rw [ra.length, rb.length]; exact hz, fun p hp => q _ _ _ (.new s hp) (.lst upd_same ?_)⟩))
      exact (ra.append rb).mono (.into (s.free hp))
    · cases e
  · split at e
    · rename_i hz
      cases e
      obtain ⟨a, vs, rfl, ha, ra⟩ := rx.tup_inv
      obtain ⟨b, ws, rfl, hb, rb⟩ := ry.tup_inv
      refine .inr (.inr (.inr ⟨a, b, vs, ws, rfl, rfl, ha.mono s, hb.mono s, by rw [ra.length, rb.length]; exact hz, fun z => ?_, fun _ z => ?_, fun _ _ p hp => ?_⟩))
      · subst z
        cases ra
        exact q _ G H (.refl s) (.tup hb rb)
      · subst z
        cases rb
        rw [List.append_nil] at q
        exact q _ G H (.refl s) (.tup ha ra)
      · exact q _ _ _ (.new s hp) (.tup (.of upd_same) ((ra.append rb).mono (.into (s.free hp))))
    · cases e
  · cases e
theorem pf_add_0 {a b : Expr} {ga gb : Ev → R D} {pos : Pos} (ha : QF X a ga) (hb : QF X b gb) : QF X (.BinOp a .Add b pos) (g2 addD ga gb) := pf_bin_0 op_add' (ok_add _) ha hb
noncomputable def subD : D → D → Option D
  | .int i, .int j => some (.int (i - j))
  | _, _ => none
theorem pf_sub_0 {a b : Expr} {ga gb : Ev → R D} {pos : Pos} (ha : QF X a ga) (hb : QF X b gb) : QF X (.BinOp a .Sub b pos) (g2 subD ga gb) := pf_bin_0 op_sub (by
  intro G H x y dx dy d Q s rx ry e q
  unfold subD at e
  split at e
  · cases e
    exact ⟨_, _, rx.int_inv, ry.int_inv, q _ G H (.refl s) (.int _)⟩
  · cases e) ha hb
noncomputable def fdivD : D → D → Option D
  | .int i, .int j => if 0 < j ∧ j < 1073741824 then some (.int (i / j)) else none
  | _, _ => none
theorem pf_fdiv_0 {a b : Expr} {ga gb : Ev → R D} {pos : Pos} (ha : QF X a ga) (hb : QF X b gb) : QF X (.BinOp a .FloorDiv b pos) (g2 fdivD ga gb) := pf_bin_0 op_fdiv (by
  intro G H x y dx dy d Q s rx ry e q
  unfold fdivD at e
  split at e
  · split at e
    · rename_i hc
      cases e
      exact ⟨_, _, rx.int_inv, ry.int_inv, hc, q _ G H (.refl s) (.int _)⟩
    · cases e
  · cases e) ha hb
noncomputable def modD : D → D → Option D
  | .int i, .int j => if 0 < j then some (.int (i % j)) else none
  | _, _ => none
theorem pf_mod_0 {a b : Expr} {ga gb : Ev → R D} {pos : Pos} (ha : QF X a ga) (hb : QF X b gb) : QF X (.BinOp a .Mod b pos) (g2 modD ga gb) := pf_bin_0 op_mod (by
  intro G H x y dx dy d Q s rx ry e q
  unfold modD at e
  split at e
  · split at e
    · rename_i hc
      cases e
      exact ⟨_, _, rx.int_inv, ry.int_inv, hc, q _ G H (.refl s) (.int _)⟩
    · cases e
  · cases e) ha hb
end
end L2
namespace L2
open PySem PySem.Spec PyProof.Rows

section
variable {X : Cx} {a b c e : Expr} {ga gb gc : Ev → R D} {pos : Pos}
noncomputable def leD : D → D → Option D
  | .int i, .int j => some (.bl (decide (i ≤ j)))
  | .str x, .str y => some (.bl (!decide (y < x)))
  | _, _ => none
noncomputable def ltD : D → D → Option D
  | .int i, .int j => some (.bl (decide (i < j)))
  | .str x, .str y => some (.bl (decide (x < y)))
  | _, _ => none
noncomputable def gtD : D → D → Option D
  | .int i, .int j => some (.bl (decide (j < i)))
  | _, _ => none
noncomputable def geD : D → D → Option D
  | .int i, .int j => some (.bl (decide (j ≤ i)))
  | _, _ => none
theorem op_le_str : OpR X (compareOp .LtE) (fun x y H Q => ∃ i j : Str, x = .str i ∧ y = .str j ∧ Q (.bl (!decide (j.cps.toList < i.cps.toList))) H) := by
  intro pins s σ H x y v u Q I rx ry h
  obtain ⟨i, j, rfl, rfl, q⟩ := h
  obtain ⟨t, rfl⟩ := rx
  obtain ⟨t', rfl⟩ := ry
  exact PySem.P.le_str (fin_bl I q rfl)
theorem ok_le (K : PySem.W.Frag) : ROk K (fun x y H Q => (rI0 fun i j => .bl (decide (i ≤ j))) x y H Q ∨ ∃ i j : Str, x = .str i ∧ y = .str j ∧ Q (.bl (!decide (j.cps.toList < i.cps.toList))) H) leD := by
  intro G H x y dx dy d Q s rx ry e q
  unfold leD at e
  split at e
  · cases e
    exact .inl ⟨_, _, rx.int_inv, ry.int_inv, q _ G H (.refl s) (.bl _)⟩
  · cases e
    obtain ⟨i, rfl, ei, hi⟩ := rx.str_inv
    obtain ⟨j, rfl, ej, hj⟩ := ry.str_inv
    subst ei ej
    exact .inr ⟨i, j, rfl, rfl, q _ G H (.refl s) (.bl _)⟩
  · cases e
theorem ok_lt (K : PySem.W.Frag) : ROk K (fun x y H Q => (rI0 fun i j => .bl (decide (i < j))) x y H Q ∨ ∃ i j : Str, x = .str i ∧ y = .str j ∧ Q (.bl (decide (i.cps.toList < j.cps.toList))) H) ltD := by
  intro G H x y dx dy d Q s rx ry e q
  unfold ltD at e
  split at e
  · cases e
    exact .inl ⟨_, _, rx.int_inv, ry.int_inv, q _ G H (.refl s) (.bl _)⟩
  · cases e
    obtain ⟨i, rfl, ei, hi⟩ := rx.str_inv
    obtain ⟨j, rfl, ej, hj⟩ := ry.str_inv
    subst ei ej
    exact .inr ⟨i, j, rfl, rfl, q _ G H (.refl s) (.bl _)⟩
  · cases e
theorem ok_gt (K : PySem.W.Frag) : ROk K (rI0 fun i j => .bl (decide (j < i))) gtD := by
  intro G H x y dx dy d Q s rx ry e q
  unfold gtD at e
  split at e
  · cases e
    exact ⟨_, _, rx.int_inv, ry.int_inv, q _ G H (.refl s) (.bl _)⟩
  · cases e
theorem op_le' : OpR X (compareOp .LtE) (fun x y H Q => (rI0 fun i j => .bl (decide (i ≤ j))) x y H Q ∨ ∃ i j : Str, x = .str i ∧ y = .str j ∧ Q (.bl (!decide (j.cps.toList < i.cps.toList))) H) := op_le.or op_le_str
theorem op_lt' : OpR X (compareOp .Lt) (fun x y H Q => (rI0 fun i j => .bl (decide (i < j))) x y H Q ∨ ∃ i j : Str, x = .str i ∧ y = .str j ∧ Q (.bl (decide (i.cps.toList < j.cps.toList))) H) := op_lt.or op_lt_str
theorem pf_lele_0 (ha : QF X a ga) (hb : QF X b gb) (hc : QF X c gc) (hm : lastMarks [.LtE, .LtE] [b, c] = false := by with_unfolding_all rfl) : QF X (.Compare a [.LtE, .LtE] [b, c] pos) (g3 leD leD ga gb gc) := pf_chain_0 op_le' op_le' (ok_le _) (ok_le _) ha hb hc hm
end

noncomputable def eqZ (f : D → D → Option Bool) : List D → List D → Option (List Bool)
  | x :: xs, y :: ys => (f x y).bind fun b => (eqZ f xs ys).map (b :: ·)
  | _, _ => some []
noncomputable def eqD : Nat → D → D → Option Bool
  | 0, _, _ => none
  | n + 1, a, b => match a, b with
    | .non, .non => some true
    | .bl x, .bl y => some (x == y)
    | .int i, .int j => some (i == j)
    | .str x, .str y => some (x == y)
    | .bl x, .int j => some ((if x then 1 else 0) == j)
    | .int i, .bl y => some (i == (if y then 1 else 0))
    | .lst _ xs, .lst _ ys => if xs.length = ys.length then (eqZ (eqD n) xs ys).map fun bs => bs.all id else some false
    | .tup xs, .tup ys => (eqZ (eqD n) xs ys).map fun bs => bs.all id && xs.length == ys.length
    | .exc _, _ => none
    | _, .exc _ => none
    | _, _ => some false
theorem eqZ.get {f : D → D → Option Bool} : ∀ {xs ys : List D} {bs : List Bool}, eqZ f xs ys = some bs → bs.length = min xs.length ys.length ∧ ∀ (j : Nat) (x y : D), xs[j]? = some x → ys[j]? = some y → ∃ b, bs[j]? = some b ∧ f x y = some b
  | [], _, _, e => by simp [eqZ] at e; subst e; exact ⟨by simp, fun j x y h => by simp at h⟩
  | _ :: _, [], _, e => by simp [eqZ] at e; subst e; exact ⟨by simp, fun j x y _ h => by simp at h⟩
  | x :: xs, y :: ys, bs, e => by
    unfold eqZ at e
    cases e1 : f x y with
    | none => rw [e1] at e; cases e
    | some b =>
      rw [e1] at e
      cases e2 : eqZ f xs ys with
      | none => rw [e2] at e; cases e
      | some cs =>
        rw [e2] at e
        cases e
        obtain ⟨h1, h2⟩ := eqZ.get e2
        refine ⟨by simp [h1], fun j => ?_⟩
        cases j with
        | zero => intro x' y' hx hy; simp at hx hy; subst hx hy; exact ⟨b, rfl, e1⟩
        | succ j => intro x' y' hx hy; exact h2 j x' y' (by simpa using hx) (by simpa using hy)
theorem range_all {bs : List Bool} {n : Nat} (h : bs.length = n) : (List.range n).all (fun j => bs.getD j true) = bs.all id := by
  subst h
  rw [Bool.eq_iff_iff, List.all_eq_true, List.all_eq_true]
  constructor
  · intro h b hb
    obtain ⟨i, hi, rfl⟩ := List.mem_iff_getElem.mp hb
    have := h i (by simpa using hi)
    simpa [List.getD_eq_getElem?_getD, hi] using this
  · intro h j hj
    have hj' : j < bs.length := by simpa using hj
    have := h bs[j] (List.getElem_mem hj')
    simpa [List.getD_eq_getElem?_getD, hj'] using this
theorem list_ne_tuple : (Value.type "list" : Value) ≠ .type "tuple" := by
  intro h
  injection h with h
  exact absurd h (by decide)
section
variable {X : Cx} {pins : List (Addr × Obj)} {σ : St} {G H : Hp} {s : Shared}
open SeqAt
theorem eq_same (I : Inv X pins σ H s) (sub : Same G H) : ∀ (n : Nat) (a b : D) (k : Bool) (x : V), eqD n a b = some k → Rep X.K G x a → Rep X.K G x b → k = true := by
  intro n
  induction n with
  | zero => intro a b k x e; cases e
  | succ n ih =>
    have sq : ∀ (vs : List V) (xs ys : List D), Reps X.K G vs xs → Reps X.K G vs ys → ∀ bs, eqZ (eqD n) xs ys = some bs → bs.all id = true := by
      intro vs
      induction vs with
      | nil => intro xs ys h1 h2 bs e; cases h1; cases h2; simp [eqZ] at e; subst e; rfl
      | cons v vs ihv =>
        intro xs ys h1 h2 bs e
        cases h1 with
        | cons r1 t1 =>
          cases h2 with
          | cons r2 t2 =>
            unfold eqZ at e
            rename_i d1 ds1 d2 ds2
            cases e1 : eqD n d1 d2 with
            | none => rw [e1] at e; cases e
            | some b =>
              rw [e1] at e
              cases e2 : eqZ (eqD n) ds1 ds2 with
              | none => rw [e2] at e; cases e
              | some cs =>
                rw [e2] at e
                cases e
                rw [List.all_cons, ih _ _ _ _ e1 r1 r2, ihv _ _ t1 t2 _ e2]
                rfl
    intro a b k x e ra rb
    cases ra with
    | non => cases rb; simp [eqD] at e; exact e
    | bl y => cases rb; simp [eqD] at e; exact e
    | int i => cases rb; simp [eqD] at e; exact e
    | str y h =>
      cases rb with
      | str z h' => simp [eqD] at e; exact e
    | tup h r =>
      cases rb with
      | tup h' r' =>
        have q := I.tuple_inj (h.mono sub) (h'.mono sub)
        subst q
        simp only [eqD] at e
        rename_i ds es
        cases e2 : eqZ (eqD n) ds es with
        | none => rw [e2] at e; cases e
        | some cs =>
          rw [e2] at e
          have this : (cs.all id && ds.length == es.length) = k := Option.some.inj e
          rw [sq _ _ _ r r' _ e2, Bool.true_and] at this
          rw [← this, ← r.length, ← r'.length]
          simp
      | lst h' r' =>
        obtain ⟨its, _, ⟨o, e1, c1, _⟩, _⟩ := I.tuple (h.mono sub)
        obtain ⟨_, its', n', _, e2⟩ := I.hok _ _ (sub _ _ h')
        rw [e1] at e2; cases e2; exact absurd c1 list_ne_tuple
      | fls h' r' =>
        obtain ⟨its, _, ⟨o, e1, c1, _⟩, _⟩ := I.tuple (h.mono sub)
        obtain ⟨its', _, ⟨o', n', e2, c2, _⟩, _⟩ := I.list (h'.mono sub)
        rw [e1] at e2; cases e2; rw [c1] at c2; exact absurd c2.symm list_ne_tuple
      | exc h' => simp [eqD] at e
    | lst h r =>
      have hl : SqL X.K G _ _ := SqL.of h
      cases rb with
      | tup h' r' =>
        obtain ⟨its, _, ⟨o, e1, c1, _⟩, _⟩ := I.tuple (h'.mono sub)
        obtain ⟨_, its', n', _, e2⟩ := I.hok _ _ (sub _ _ h)
        rw [e1] at e2; cases e2; exact absurd c1 list_ne_tuple
      | lst h' r' =>
        rw [h] at h'; cases h'
        simp only [eqD] at e
        rw [if_pos (by rw [← r.length, ← r'.length])] at e
        rename_i ds es
        cases e2 : eqZ (eqD n) ds es with
        | none => rw [e2] at e; cases e
        | some cs => rw [e2] at e; have := Option.some.inj e; rw [← this]; exact sq _ _ _ r r' _ e2
      | fls h' r' =>
        have q := I.list_inj (hl.mono sub) (h'.mono sub)
        subst q
        simp only [eqD] at e
        rw [if_pos (by rw [← r.length, ← r'.length])] at e
        rename_i ds es
        cases e2 : eqZ (eqD n) ds es with
        | none => rw [e2] at e; cases e
        | some cs => rw [e2] at e; have := Option.some.inj e; rw [← this]; exact sq _ _ _ r r' _ e2
      | exc h' => simp [eqD] at e
    | fls h r =>
      cases rb with
      | tup h' r' =>
        obtain ⟨its, _, ⟨o, e1, c1, _⟩, _⟩ := I.tuple (h'.mono sub)
        obtain ⟨its', _, ⟨o', n', e2, c2, _⟩, _⟩ := I.list (h.mono sub)
        rw [e1] at e2; cases e2; rw [c1] at c2; exact absurd c2.symm list_ne_tuple
      | lst h' r' =>
        have q := I.list_inj (h.mono sub) ((SqL.of h' : SqL X.K G _ _).mono sub)
        subst q
        simp only [eqD] at e
        rw [if_pos (by rw [← r.length, ← r'.length])] at e
        rename_i ds es
        cases e2 : eqZ (eqD n) ds es with
        | none => rw [e2] at e; cases e
        | some cs => rw [e2] at e; have := Option.some.inj e; rw [← this]; exact sq _ _ _ r r' _ e2
      | fls h' r' =>
        have q := I.list_inj (h.mono sub) (h'.mono sub)
        subst q
        simp only [eqD] at e
        rw [if_pos (by rw [← r.length, ← r'.length])] at e
        rename_i ds es
        cases e2 : eqZ (eqD n) ds es with
        | none => rw [e2] at e; cases e
        | some cs => rw [e2] at e; have := Option.some.inj e; rw [← this]; exact sq _ _ _ r r' _ e2
      | exc h' => simp [eqD] at e
    | exc h => simp [eqD] at e

structure Eqs (A : Around) (s : Shared) (v u : Value) (k : Bool) : Prop where
  eq : EqAt A s v u k
  rc : RcAt A s v u k
  ne : RcNeAt A s v u (!k)
theorem list_of {f : Bool} {x : V} {u : Value} {ds : List D} (I : Inv X pins σ H s) (sub : Same G H) (r : Rep X.K G x (.lst f ds)) (ru : RelV x u) : ∃ a its vs, u = .ref a ∧ s.heap.IsList a (List.toArray its) ∧ Vals vs its ∧ Reps X.K G vs ds := by
  obtain ⟨a, vs, rfl, h, t⟩ := r.seq_inv
  cases ru
  obtain ⟨its, rv, ⟨o, n, e1, c1, _, d1⟩, _⟩ := I.list (h.mono sub)
  exact ⟨a, its, vs, rfl, ⟨o, e1, c1, n, d1⟩, rv, t⟩
theorem tup_of {x : V} {u : Value} {ds : List D} (I : Inv X pins σ H s) (sub : Same G H) (r : Rep X.K G x (.tup ds)) (ru : RelV x u) : ∃ a its vs, u = .ref a ∧ s.heap.IsTuple a (List.toArray its) ∧ Vals vs its ∧ Reps X.K G vs ds := by
  obtain ⟨a, vs, rfl, h, t⟩ := r.tup_inv
  cases ru
  obtain ⟨its, rv, p, _⟩ := I.tuple (h.mono sub)
  exact ⟨a, its, vs, rfl, p, rv, t⟩
theorem eq_main (I : Inv X pins σ H s) (sub : Same G H) : ∀ (n : Nat) (A : Around) (a b : D) (k : Bool) (x y : V) (v u : Value), A.units + n < cLine → eqD n a b = some k → Rep X.K G x a → Rep X.K G y b → RelV x v → RelV y u → Eqs A s v u k := by
  intro n
  induction n with
  | zero => intro A a b k x y v u _ e; cases e
  | succ n ih =>
    have sq : ∀ (A : Around) (vs ws : List V) (xs ys : List D) (is js : List Value) (bs : List Bool), A.units + (n + 1) < cLine → Reps X.K G vs xs → Reps X.K G ws ys → Vals vs is → Vals ws js → eqZ (eqD n) xs ys = some bs →
        bs.length = min is.length js.length ∧ ∀ j (h1 : j < is.toArray.size) (h2 : j < js.toArray.size), EqAt A.in1 s is.toArray[j] js.toArray[j] (bs.getD j true) := by
      intro A vs ws xs ys is js bs hA r1 r2 v1 v2 e
      obtain ⟨h1, h2⟩ := eqZ.get e
      refine ⟨by rw [h1, ← r1.length, ← r2.length, v1.length, v2.length], fun j q1 q2 => ?_⟩
      rw [List.size_toArray] at q1 q2
      have p1 : j < xs.length := by rw [← r1.length, v1.length]; exact q1
      have p2 : j < ys.length := by rw [← r2.length, v2.length]; exact q2
      obtain ⟨b, e1, e2⟩ := h2 j xs[j] ys[j] (by simp [p1]) (by simp [p2])
      obtain ⟨x', ex, rx⟩ := r1.get (i := j) (d := xs[j]) (by simp [p1])
      obtain ⟨y', ey, ry⟩ := r2.get (i := j) (d := ys[j]) (by simp [p2])
      obtain ⟨u1, eu1, ru1⟩ := v1.get ex
      obtain ⟨u2, eu2, ru2⟩ := v2.get ey
      have g1 : is.toArray[j] = u1 := by simpa [q1] using eu1
      have g2 : js.toArray[j] = u2 := by simpa [q2] using eu2
      rw [List.getD_eq_getElem?_getD, e1]
      simp only [List.getElem_toArray] at g1 g2 ⊢
      rw [g1, g2]
      exact (ih A.in1 _ _ b x' y' u1 u2 (by show A.units + 1 + n < cLine; omega) e2 rx ry ru1 ru2).eq
    intro A a b k x y v u hA e ra rb rv ru
    have hu : A.units < cLine := by omega
    have same : ∀ c d : Addr, v = .ref c → u = .ref d → c = d → k = true := fun c d h1 h2 h3 => by
      subst h1 h2 h3
      cases ra with
      | tup h r => cases rv; cases rb with
        | tup h' r' => cases ru; exact eq_same I sub (n + 1) _ _ k _ e (.tup h r) (.tup h' r')
        | lst h' r' => cases ru; exact eq_same I sub (n + 1) _ _ k _ e (.tup h r) (.lst h' r')
        | fls h' r' => cases ru; exact eq_same I sub (n + 1) _ _ k _ e (.tup h r) (.fls h' r')
        | exc h' => simp [eqD] at e
        | str _ _ => obtain ⟨t, z⟩ := ru; cases z
        | int _ => obtain ⟨t, z⟩ := ru; cases z
        | non => cases ru
        | bl _ => cases ru
      | lst h r => cases rv; cases rb with
        | tup h' r' => cases ru; exact eq_same I sub (n + 1) _ _ k _ e (.lst h r) (.tup h' r')
        | lst h' r' => cases ru; exact eq_same I sub (n + 1) _ _ k _ e (.lst h r) (.lst h' r')
        | fls h' r' => cases ru; exact eq_same I sub (n + 1) _ _ k _ e (.lst h r) (.fls h' r')
        | exc h' => simp [eqD] at e
        | str _ _ => obtain ⟨t, z⟩ := ru; cases z
        | int _ => obtain ⟨t, z⟩ := ru; cases z
        | non => cases ru
        | bl _ => cases ru
      | fls h r => cases rv; cases rb with
        | tup h' r' => cases ru; exact eq_same I sub (n + 1) _ _ k _ e (.fls h r) (.tup h' r')
        | lst h' r' => cases ru; exact eq_same I sub (n + 1) _ _ k _ e (.fls h r) (.lst h' r')
        | fls h' r' => cases ru; exact eq_same I sub (n + 1) _ _ k _ e (.fls h r) (.fls h' r')
        | exc h' => simp [eqD] at e
        | str _ _ => obtain ⟨t, z⟩ := ru; cases z
        | int _ => obtain ⟨t, z⟩ := ru; cases z
        | non => cases ru
        | bl _ => cases ru
      | exc h => simp [eqD] at e
      | str _ _ => obtain ⟨t, z⟩ := rv; cases z
      | int _ => obtain ⟨t, z⟩ := rv; cases z
      | non => cases rv
      | bl _ => cases rv
    have refs : ∀ c d : Addr, v = .ref c → u = .ref d → RcAt A s v u k → EqAt A s v u k := fun c d h1 h2 h => by
      subst h1 h2
      by_cases h3 : c = d
      · have := same c d rfl rfl h3
        subst h3 this
        exact EqAt.same _
      · exact EqAt.of_refs h3 h
    cases a with
    | exc C => simp [eqD] at e
    | non =>
      obtain rfl := ra.non_inv
      cases rv
      cases b with
      | exc C => simp [eqD] at e
      | non => obtain rfl := rb.non_inv; cases ru; simp [eqD] at e; subst e; exact ⟨EqAt.same _, RcAt.none_none, RcNeAt.none_none⟩
      | bl z => obtain rfl := rb.bl_inv; cases ru; simp [eqD] at e; subst e; exact ⟨EqAt.none_bool _, RcAt.none_bool _, RcNeAt.none_bool _⟩
      | int z => obtain rfl := rb.int_inv; obtain ⟨t, rfl⟩ := ru; simp [eqD] at e; subst e; exact ⟨EqAt.none_int _ _, RcAt.none_int _ _, RcNeAt.none_int _ _⟩
      | str z => obtain ⟨z, rfl, -, -⟩ := rb.str_inv; obtain ⟨t, rfl⟩ := ru; simp [eqD] at e; subst e; exact ⟨EqAt.none_str _ _, RcAt.none_str _ _, RcNeAt.none_str _ _⟩
      | tup ds => obtain ⟨c, its, vs, rfl, p, _, _⟩ := tup_of I sub rb ru; simp [eqD] at e; subst e; exact ⟨EqAt.none_tuple p hu, RcAt.none_tuple p hu, RcNeAt.none_tuple p hu⟩
      | lst f ds => obtain ⟨c, its, vs, rfl, p, _, _⟩ := list_of I sub rb ru; simp [eqD] at e; subst e; exact ⟨EqAt.none_list p hu, RcAt.none_list p hu, RcNeAt.none_list p hu⟩
    | bl w =>
      obtain rfl := ra.bl_inv
      cases rv
      cases b with
      | exc C => simp [eqD] at e
      | non => obtain rfl := rb.non_inv; cases ru; simp [eqD] at e; subst e; exact ⟨EqAt.bool_none _, RcAt.bool_none _, RcNeAt.bool_none _⟩
      | bl z => obtain rfl := rb.bl_inv; cases ru; simp only [eqD] at e; cases e; exact ⟨EqAt.bool_bool _ _, RcAt.bool_bool _ _, RcNeAt.bool_bool _ _⟩
      | int z => obtain rfl := rb.int_inv; obtain ⟨t, rfl⟩ := ru; simp only [eqD] at e; cases e; exact ⟨EqAt.bool_int _ _ _, RcAt.bool_int _ _ _, RcNeAt.bool_int _ _ _⟩
      | str z => obtain ⟨z, rfl, -, -⟩ := rb.str_inv; obtain ⟨t, rfl⟩ := ru; simp [eqD] at e; subst e; exact ⟨EqAt.bool_str _ _ _, RcAt.bool_str _ _ _, RcNeAt.bool_str _ _ _⟩
      | tup ds => obtain ⟨c, its, vs, rfl, p, _, _⟩ := tup_of I sub rb ru; simp [eqD] at e; subst e; exact ⟨EqAt.bool_tuple _ p hu, RcAt.bool_tuple _ p hu, RcNeAt.bool_tuple _ p hu⟩
      | lst f ds => obtain ⟨c, its, vs, rfl, p, _, _⟩ := list_of I sub rb ru; simp [eqD] at e; subst e; exact ⟨EqAt.bool_list _ p hu, RcAt.bool_list _ p hu, RcNeAt.bool_list _ p hu⟩
    | int w =>
      obtain rfl := ra.int_inv
      obtain ⟨t0, rfl⟩ := rv
      cases b with
      | exc C => simp [eqD] at e
      | non => obtain rfl := rb.non_inv; cases ru; simp [eqD] at e; subst e; exact ⟨EqAt.int_none _ _, RcAt.int_none _ _, RcNeAt.int_none _ _⟩
      | bl z => obtain rfl := rb.bl_inv; cases ru; simp only [eqD] at e; cases e; exact ⟨EqAt.int_bool _ _ _, RcAt.int_bool _ _ _, RcNeAt.int_bool _ _ _⟩
      | int z => obtain rfl := rb.int_inv; obtain ⟨t, rfl⟩ := ru; simp only [eqD] at e; cases e; exact ⟨EqAt.int_int _ _ _ _, RcAt.int_int _ _ _ _, RcNeAt.int_int _ _ _ _⟩
      | str z => obtain ⟨z, rfl, -, -⟩ := rb.str_inv; obtain ⟨t, rfl⟩ := ru; simp [eqD] at e; subst e; exact ⟨EqAt.int_str _ _ _ _, RcAt.int_str _ _ _ _, RcNeAt.int_str _ _ _ _⟩
      | tup ds => obtain ⟨c, its, vs, rfl, p, _, _⟩ := tup_of I sub rb ru; simp [eqD] at e; subst e; exact ⟨EqAt.int_tuple _ _ p hu, RcAt.int_tuple _ _ p hu, RcNeAt.int_tuple _ _ p hu⟩
      | lst f ds => obtain ⟨c, its, vs, rfl, p, _, _⟩ := list_of I sub rb ru; simp [eqD] at e; subst e; exact ⟨EqAt.int_list _ _ p hu, RcAt.int_list _ _ p hu, RcNeAt.int_list _ _ p hu⟩
    | str w =>
      obtain ⟨w, rfl, ew, -⟩ := ra.str_inv
      obtain ⟨t0, rfl⟩ := rv
      cases b with
      | exc C => simp [eqD] at e
      | non => obtain rfl := rb.non_inv; cases ru; simp [eqD] at e; subst e; exact ⟨EqAt.str_none _ _, RcAt.str_none _ _, RcNeAt.str_none _ _⟩
      | bl z => obtain rfl := rb.bl_inv; cases ru; simp [eqD] at e; subst e; exact ⟨EqAt.str_bool _ _ _, RcAt.str_bool _ _ _, RcNeAt.str_bool _ _ _⟩
      | int z => obtain rfl := rb.int_inv; obtain ⟨t, rfl⟩ := ru; simp [eqD] at e; subst e; exact ⟨EqAt.str_int _ _ _ _, RcAt.str_int _ _ _ _, RcNeAt.str_int _ _ _ _⟩
      | str z =>
        obtain ⟨z, rfl, ez, -⟩ := rb.str_inv; obtain ⟨t, rfl⟩ := ru
        simp only [eqD] at e
        subst ew ez
        rw [str_beq] at e
        cases e
        exact ⟨EqAt.str_str _ _ _ _, RcAt.str_str _ _ _ _, RcNeAt.str_str _ _ _ _⟩
      | tup ds => obtain ⟨c, its, vs, rfl, p, _, _⟩ := tup_of I sub rb ru; simp [eqD] at e; subst e; exact ⟨EqAt.str_tuple _ _ p hu, RcAt.str_tuple _ _ p hu, RcNeAt.str_tuple _ _ p hu⟩
      | lst f ds => obtain ⟨c, its, vs, rfl, p, _, _⟩ := list_of I sub rb ru; simp [eqD] at e; subst e; exact ⟨EqAt.str_list _ _ p hu, RcAt.str_list _ _ p hu, RcNeAt.str_list _ _ p hu⟩
    | tup ds1 =>
      obtain ⟨c1, its1, vs1, rfl, p1, w1, q1⟩ := tup_of I sub ra rv
      cases b with
      | exc C => simp [eqD] at e
      | non => obtain rfl := rb.non_inv; cases ru; simp [eqD] at e; subst e; exact ⟨EqAt.tuple_none p1 hu, RcAt.tuple_none p1 hu, RcNeAt.tuple_none p1 hu⟩
      | bl z => obtain rfl := rb.bl_inv; cases ru; simp [eqD] at e; subst e; exact ⟨EqAt.tuple_bool _ p1 hu, RcAt.tuple_bool _ p1 hu, RcNeAt.tuple_bool _ p1 hu⟩
      | int z => obtain rfl := rb.int_inv; obtain ⟨t, rfl⟩ := ru; simp [eqD] at e; subst e; exact ⟨EqAt.tuple_int _ _ p1 hu, RcAt.tuple_int _ _ p1 hu, RcNeAt.tuple_int _ _ p1 hu⟩
      | str z => obtain ⟨z, rfl, -, -⟩ := rb.str_inv; obtain ⟨t, rfl⟩ := ru; simp [eqD] at e; subst e; exact ⟨EqAt.tuple_str _ _ p1 hu, RcAt.tuple_str _ _ p1 hu, RcNeAt.tuple_str _ _ p1 hu⟩
      | lst f ds => obtain ⟨c, its, vs, rfl, p, _, _⟩ := list_of I sub rb ru; simp [eqD] at e; subst e; exact ⟨EqAt.tuple_list p1 p hu, RcAt.tuple_list p1 p hu, RcNeAt.tuple_list p1 p hu⟩
      | tup ds2 =>
        obtain ⟨c2, its2, vs2, rfl, p2, w2, q2⟩ := tup_of I sub rb ru
        simp only [eqD] at e
        cases e2 : eqZ (eqD n) ds1 ds2 with
        | none => rw [e2] at e; cases e
        | some bs =>
          rw [e2] at e
          have ek := Option.some.inj e
          obtain ⟨hl, he⟩ := sq A _ _ _ _ _ _ bs hA q1 q2 w1 w2 e2
          have e3 : ((List.range (min its1.toArray.size its2.toArray.size)).all (fun j => bs.getD j true) && its1.toArray.size == its2.toArray.size) = k := by
            rw [← ek, List.size_toArray, List.size_toArray, range_all hl, ← w1.length, ← w2.length, q1.length, q2.length]
          have hrc : RcAt A s (.ref c1) (.ref c2) k := by rw [← e3]; exact RcAt.tuples p1 p2 hu he
          have hne : RcNeAt A s (.ref c1) (.ref c2) (!k) := by rw [← e3]; exact RcNeAt.tuples p1 p2 hu he
          exact ⟨refs _ _ rfl rfl hrc, hrc, hne⟩
    | lst f1 ds1 =>
      obtain ⟨c1, its1, vs1, rfl, p1, w1, q1⟩ := list_of I sub ra rv
      cases b with
      | exc C => simp [eqD] at e
      | non => obtain rfl := rb.non_inv; cases ru; simp [eqD] at e; subst e; exact ⟨EqAt.list_none p1 hu, RcAt.list_none p1 hu, RcNeAt.list_none p1 hu⟩
      | bl z => obtain rfl := rb.bl_inv; cases ru; simp [eqD] at e; subst e; exact ⟨EqAt.list_bool _ p1 hu, RcAt.list_bool _ p1 hu, RcNeAt.list_bool _ p1 hu⟩
      | int z => obtain rfl := rb.int_inv; obtain ⟨t, rfl⟩ := ru; simp [eqD] at e; subst e; exact ⟨EqAt.list_int _ _ p1 hu, RcAt.list_int _ _ p1 hu, RcNeAt.list_int _ _ p1 hu⟩
      | str z => obtain ⟨z, rfl, -, -⟩ := rb.str_inv; obtain ⟨t, rfl⟩ := ru; simp [eqD] at e; subst e; exact ⟨EqAt.list_str _ _ p1 hu, RcAt.list_str _ _ p1 hu, RcNeAt.list_str _ _ p1 hu⟩
      | tup ds => obtain ⟨c, its, vs, rfl, p, _, _⟩ := tup_of I sub rb ru; simp [eqD] at e; subst e; exact ⟨EqAt.list_tuple p1 p hu, RcAt.list_tuple p1 p hu, RcNeAt.list_tuple p1 p hu⟩
      | lst f2 ds2 =>
        obtain ⟨c2, its2, vs2, rfl, p2, w2, q2⟩ := list_of I sub rb ru
        simp only [eqD] at e
        by_cases hlen : ds1.length = ds2.length
        · rw [if_pos hlen] at e
          cases e2 : eqZ (eqD n) ds1 ds2 with
          | none => rw [e2] at e; cases e
          | some bs =>
            rw [e2] at e
            have ek := Option.some.inj e
            obtain ⟨hl, he⟩ := sq A _ _ _ _ _ _ bs hA q1 q2 w1 w2 e2
            have hz : its1.toArray.size = its2.toArray.size := by rw [List.size_toArray, List.size_toArray, ← w1.length, ← w2.length, q1.length, q2.length]; exact hlen
            have e3 : (List.range its1.toArray.size).all (fun j => bs.getD j true) = k := by
              rw [← ek, range_all]
              rw [hl, List.size_toArray]
              simp only [List.size_toArray] at hz
              omega
            have hrc : RcAt A s (.ref c1) (.ref c2) k := by rw [← e3]; exact RcAt.lists p1 p2 hz hu he
            have hne : RcNeAt A s (.ref c1) (.ref c2) (!k) := by rw [← e3]; exact RcNeAt.lists p1 p2 hz hu he
            exact ⟨refs _ _ rfl rfl hrc, hrc, hne⟩
        · rw [if_neg hlen] at e
          cases e
          have hz : (its1.toArray.size != its2.toArray.size) = true := by
            rw [List.size_toArray, List.size_toArray, ← w1.length, ← w2.length, q1.length, q2.length]
            simpa using hlen
          have hrc : RcAt A s (.ref c1) (.ref c2) false := RcAt.lists_lengths p1 p2 hz hu
          exact ⟨refs _ _ rfl rfl hrc, hrc, RcNeAt.lists_lengths p1 p2 hz hu⟩
end
section
variable {X : Cx} {a b : Expr} {ga gb : Ev → R D} {pos : Pos}
noncomputable def eqF (x y : D) : Option D := (eqD 40 x y).map .bl
noncomputable def neF (x y : D) : Option D := (eqD 40 x y).map fun k => .bl (!k)
noncomputable def rEqD (K : PySem.W.Frag) (neg : Bool) : R2 := fun x y H Q => ∃ G dx dy k, Same G H ∧ Rep K G x dx ∧ Rep K G y dy ∧ eqD 40 dx dy = some k ∧ Q (.bl (if neg then !k else k)) H
theorem op_eqD (hu : X.A.units + 64 < cLine) : OpR X (compareOp .Eq) (rEqD X.K false) := by
  intro pins s σ H x y v u Q I rx ry h
  obtain ⟨G, dx, dy, k, sub, r1, r2, e, q⟩ := h
  exact (eq_main I sub 40 X.A dx dy k x y v u (by omega) e r1 r2 rx ry).rc _ _ _ _ ⟨.bl k, H, I, rfl, q⟩
theorem op_neD (hu : X.A.units + 64 < cLine) : OpR X (compareOp .NotEq) (rEqD X.K true) := by
  intro pins s σ H x y v u Q I rx ry h
  obtain ⟨G, dx, dy, k, sub, r1, r2, e, q⟩ := h
  exact (eq_main I sub 40 X.A dx dy k x y v u (by omega) e r1 r2 rx ry).ne _ _ _ _ ⟨.bl (!k), H, I, rfl, q⟩
theorem pf_eq_0 (hu : X.A.units + 64 < cLine) (ha : QF X a ga) (hb : QF X b gb) : QF X (.Compare a [.Eq] [b] pos) (g2 eqF ga gb) := pf_cmp_0 (op_eqD hu) (by
  intro G H x y dx dy d Q s rx ry e q
  unfold eqF at e
  cases e1 : eqD 40 dx dy with
  | none => rw [e1] at e; cases e
  | some k => rw [e1] at e; cases e; exact ⟨G, dx, dy, k, s, rx, ry, e1, q _ G H (.refl s) (.bl k)⟩) ha hb (nomark _)
end
end L2
namespace L2
open PySem PySem.Spec PyProof.Rows
section
variable {X : Cx} {a b c e : Expr} {es rest : List Expr} {ga gb gc : Ev → R D} {gt gu : Ev → R Bool} {gl : Ev → R (List D)} {pos : Pos}

noncomputable def asB : D → R Bool
  | .bl k => .ok k
  | _ => .no
noncomputable def gAnd (ga gb : Ev → R D) : Ev → R D := fun ρ => ga ρ >>= fun x => asB x >>= fun k => if k = true then gb ρ else .ok (.bl false)
noncomputable def gOr (ga gb : Ev → R D) : Ev → R D := fun ρ => ga ρ >>= fun x => asB x >>= fun k => if k = true then .ok (.bl true) else gb ρ
noncomputable def gNot (ga : Ev → R D) : Ev → R D := fun ρ => ga ρ >>= fun x => asB x >>= fun k => .ok (.bl (!k))
theorem asB.ok {β : Type} {K : PySem.W.Frag} {G : Hp} {v : V} {d : D} {k : Bool → R β} {P : β → Prop} {E : Addr → Prop} (r : Rep K G v d) (h : (asB d >>= k).post P E) : ∃ c, v = .bl c ∧ d = .bl c ∧ (k c).post P E := by
  cases r with
  | bl c => exact ⟨c, rfl, rfl, h⟩
  | _ => exact h.elim
theorem pf_one_0 {op : BoolOp} (h : QF X a ga) : QF X (.BoolOp op [a] pos) ga := pe_one h
theorem pf_and_0 (ha : QF X a ga) (hb : QF X (.BoolOp .And (b :: rest) pos) gb) : QF X (.BoolOp .And (a :: b :: rest) pos) (gAnd ga gb) := by
  intro pins s σ H Q I h
  refine pe_and ha hb pins s σ H Q I ?_
  obtain ⟨G, ρ, st, h⟩ := h
  refine tG.intro st h fun x v G1 H1 u1 st1 r1 h1 => ?_
  obtain ⟨c, ec, ed, h2⟩ := asB.ok r1 h1
  subst ec ed
  refine ⟨c, rfl, ?_⟩
  cases c with
  | true => rw [if_pos rfl] at h2 ⊢; exact tG.last st1 h2
  | false => rw [if_neg Bool.false_ne_true] at h2 ⊢; exact h2 _ G1 H1 (.refl st1.sub) (.bl false)
theorem pf_not_0 (ha : QF X a ga) : QF X (.UnaryOp .Not a pos) (gNot ga) := by
  intro pins s σ H Q I h
  refine pe_not ha pins s σ H Q I ?_
  obtain ⟨G, ρ, st, h⟩ := h
  refine tG.intro st h fun x v G1 H1 u1 st1 r1 h1 => ?_
  obtain ⟨c, ec, ed, h2⟩ := asB.ok r1 h1
  subst ec ed
  exact ⟨c, rfl, h2 _ G1 H1 (.refl st1.sub) (.bl _)⟩
noncomputable def negD : D → R D
  | .int i => .ok (.int (-i))
  | _ => .no
theorem pf_neg_0 (ha : QF X a ga) : QF X (.UnaryOp .USub a pos) (fun ρ => ga ρ >>= negD) := by
  intro pins s σ H Q I h
  refine pe_un un_neg ha pins s σ H Q I ?_
  obtain ⟨G, ρ, st, h⟩ := h
  refine tG.intro st h fun x v G1 H1 u1 st1 r1 h1 => ?_
  cases r1 with
  | int i => exact ⟨i, rfl, h1 _ G1 H1 (.refl st1.sub) (.int _)⟩
  | _ => exact h1.elim

noncomputable def truD : D → R Bool
  | .non => .ok false
  | .bl k => .ok k
  | .int i => .ok (i != 0)
  | .str x => .ok (!x.isEmpty)
  | .tup xs => .ok (!xs.isEmpty)
  | .lst _ xs => .ok (!xs.isEmpty)
  | .exc _ => .no
theorem Reps.isEmpty {K : PySem.W.Frag} {G : Hp} {vs : List V} {ds : List D} (r : Reps K G vs ds) : vs.isEmpty = ds.isEmpty := by cases r <;> rfl
theorem pb_val_0 (h : QF X e ga) (he : ∀ whole, isTrue e X.env whole = (do let v ← whole; standAt e.pos; holding [v] (truthy v)) := by intro _; rfl) : QB X e (fun ρ => ga ρ >>= truD) := by
  intro pins s σ H Q I hq
  refine pt_truth h he pins s σ H Q I ?_
  obtain ⟨G, ρ, st, hq⟩ := hq
  refine tG.intro st hq fun x v G1 H1 u1 st1 r1 h1 => ?_
  have fin : ∀ k, truD x = .ok k → Q k H1 := fun k ek => by rw [ek] at h1; exact h1 k G1 H1 (.refl st1.sub) rfl
  cases r1 with
  | non => exact ⟨_, rfl, fin _ rfl⟩
  | bl k => exact ⟨_, rfl, fin _ rfl⟩
  | int i => exact ⟨_, rfl, fin _ rfl⟩
  | str y hy =>
    refine ⟨_, ⟨hy, rfl⟩, fin _ ?_⟩
    show R.ok _ = R.ok _
    congr 1
    have : y.cps.toList.length = y.length := Str.len_list y
    cases h : y.cps.toList with
    | nil => rw [h] at this; rw [← this]; rfl
    | cons c cs => rw [h] at this; rw [← this]; simp; omega
  | tup h r => exact ⟨_, .inr (.inl ⟨_, h.mono st1.sub, rfl⟩), fin _ (by show R.ok _ = R.ok _; rw [r.isEmpty])⟩
  | lst h r => exact ⟨_, .inl ⟨_, .of (st1.sub _ _ h), rfl⟩, fin _ (by show R.ok _ = R.ok _; rw [r.isEmpty])⟩
  | fls h r => exact ⟨_, .inl ⟨_, h.mono st1.sub, rfl⟩, fin _ (by show R.ok _ = R.ok _; rw [r.isEmpty])⟩
  | exc h => exact h1.elim
theorem pb_cmp_0 {op : CmpOp} {r : R2} {f : D → D → Option D} (ho : OpR X (compareOp op) r) (hf : ROk X.K r f) (ha : QF X a ga) (hb : QF X b gb) (hm : behindInMarks op b = false) : QB X (.Compare a [op] [b] pos) (fun ρ => g2 f ga gb ρ >>= asB) := by
  intro pins s σ H Q I h
  refine pt_cmpR ho ha hb hm pins s σ H Q I ?_
  obtain ⟨G, ρ, st, h⟩ := h
  refine t2_of hf ?_
  refine tG.intro st h fun x v G1 H1 u1 st1 r1 h1 => ?_
  cases r1 with
  | bl k => exact ⟨k, rfl, h1 k G1 H1 (.refl st1.sub) rfl⟩
  | _ => exact h1.elim
theorem pb_lt_0 (ha : QF X a ga) (hb : QF X b gb) : QB X (.Compare a [.Lt] [b] pos) (fun ρ => g2 ltD ga gb ρ >>= asB) := pb_cmp_0 op_lt' (ok_lt _) ha hb (nomark _)
theorem pb_gt_0 (ha : QF X a ga) (hb : QF X b gb) : QB X (.Compare a [.Gt] [b] pos) (fun ρ => g2 gtD ga gb ρ >>= asB) := pb_cmp_0 op_gt (ok_gt _) ha hb (nomark _)
theorem ok_eqD (K : PySem.W.Frag) (neg : Bool) : ROk K (rEqD K neg) (fun x y => (eqD 40 x y).map fun k => .bl (if neg then !k else k)) := by
  intro G H x y dx dy d Q s rx ry e q
  dsimp only at e
  cases e1 : eqD 40 dx dy with
  | none => rw [e1] at e; cases e
  | some k => rw [e1] at e; cases e; exact ⟨G, dx, dy, k, s, rx, ry, e1, q _ G H (.refl s) (.bl _)⟩
theorem pb_eq_0 (hu : X.A.units + 64 < cLine) (ha : QF X a ga) (hb : QF X b gb) : QB X (.Compare a [.Eq] [b] pos) (fun ρ => g2 eqF ga gb ρ >>= asB) := pb_cmp_0 (op_eqD hu) (ok_eqD _ false) ha hb (nomark _)
theorem pb_ne_0 (hu : X.A.units + 64 < cLine) (ha : QF X a ga) (hb : QF X b gb) : QB X (.Compare a [.NotEq] [b] pos) (fun ρ => g2 neF ga gb ρ >>= asB) := pb_cmp_0 (op_neD hu) (ok_eqD _ true) ha hb (nomark _)
theorem pb_chain_0 {op op' : CmpOp} {r r' : R2} {f f' : D → D → Option D} (ho : OpR X (compareOp op) r) (ho' : OpR X (compareOp op') r') (hf : ROk X.K r f) (hf' : ROk X.K r' f') (ha : QF X a ga) (hb : QF X b gb) (hc : QF X c gc)
    (hm : lastMarks [op, op'] [b, c] = false := by with_unfolding_all rfl) : QB X (.Compare a [op, op'] [b, c] pos) (fun ρ => g3 f f' ga gb gc ρ >>= asB) := by
  intro pins s σ H Q I h
  refine pt_chain ho ho' ha hb hc hm pins s σ H Q I ?_
  obtain ⟨G, ρ, st, h⟩ := h
  have h' : (ga ρ >>= fun x => gb ρ >>= fun y => ofO (f x y) >>= fun z => (match z with | .bl true => gc ρ >>= fun w => ofO (f' y w) | .bl false => .ok (.bl false) | _ => .no) >>= asB).post (Fin G H (fun _ b c => b = c) Q) (Exx X σ G H) := by
    have e : (g3 f f' ga gb gc ρ >>= asB) = (ga ρ >>= fun x => gb ρ >>= fun y => ofO (f x y) >>= fun z => (match z with | .bl true => gc ρ >>= fun w => ofO (f' y w) | .bl false => .ok (.bl false) | _ => .no) >>= asB) := by
      unfold g3
      cases ga ρ with
      | ok x => cases gb ρ with
        | ok y => simp only [R.ok_bind]; cases ofO (f x y) <;> rfl
        | _ => rfl
      | _ => rfl
    rw [← e]; exact h
  refine tG.intro st h' fun x v G1 H1 u1 st1 r1 h1 => ?_
  refine tG.intro st1 h1 fun y w G2 H2 u2 st2 r2 h2 => ?_
  cases e : f x y with
  | none => rw [e] at h2; exact h2.elim
  | some d =>
    rw [e] at h2
    refine hf G2 H2 v w x y d _ st2.sub (r1.mono u2.gg) r2 e fun z G3 H3 u3 r3 => ?_
    have h3 := post_up u3 h2
    have st3 := st2.up u3
    cases r3 with
    | bl k =>
      refine ⟨k, rfl, ?_⟩
      cases k with
      | false => rw [if_neg Bool.false_ne_true]; exact ⟨false, rfl, h3 _ G3 H3 (.refl st3.sub) rfl⟩
      | true =>
        rw [if_pos rfl]
        have h3' : (gc ρ >>= fun w => ofO (f' y w) >>= asB).post (Fin G3 H3 (fun _ b c => b = c) Q) (Exx X σ G3 H3) := by
          have e : ((gc ρ >>= fun w => ofO (f' y w)) >>= asB) = (gc ρ >>= fun w => ofO (f' y w) >>= asB) := by cases gc ρ <;> rfl
          rw [← e]; exact h3
        refine tG.intro st3 h3' fun q vq G4 H4 u4 st4 r4 h4 => ?_
        cases e' : f' y q with
        | none => rw [e'] at h4; exact h4.elim
        | some d' =>
          rw [e'] at h4
          refine hf' G4 H4 w vq y q d' _ st4.sub ((r2.mono u3.gg).mono u4.gg) r4 e' fun z' G5 H5 u5 r5 => ?_
          have h5 := post_up u5 h4
          cases r5 with
          | bl k' => exact ⟨k', rfl, h5 k' G5 H5 (.refl u5.sub) rfl⟩
          | _ => exact h5.elim
    | _ => exact h3.elim
theorem pb_lele_0 (ha : QF X a ga) (hb : QF X b gb) (hc : QF X c gc) (hm : lastMarks [.LtE, .LtE] [b, c] = false := by with_unfolding_all rfl) : QB X (.Compare a [.LtE, .LtE] [b, c] pos) (fun ρ => g3 leD leD ga gb gc ρ >>= asB) := pb_chain_0 op_le' op_le' (ok_le _) (ok_le _) ha hb hc hm
noncomputable def tAndB (t u : Ev → R Bool) : Ev → R Bool := fun ρ => t ρ >>= fun k => if k = true then u ρ else .ok false
noncomputable def tOrB (t u : Ev → R Bool) : Ev → R Bool := fun ρ => t ρ >>= fun k => if k = true then .ok true else u ρ
theorem pbw_and1_0 (ha : QB X a gt) : QBW X (.BoolOp .And [a] pos) gt := pw_and1 ha
theorem pbw_or1_0 (ha : QB X a gt) : QBW X (.BoolOp .Or [a] pos) gt := pw_or1 ha
theorem pbw_and_0 (ha : QB X a gt) (hb : QBW X (.BoolOp .And (b :: rest) pos) gu) : QBW X (.BoolOp .And (a :: b :: rest) pos) (tAndB gt gu) := by
  intro whole pins s σ H Q I h
  refine pw_and ha hb whole pins s σ H Q I ?_
  obtain ⟨G, ρ, st, h⟩ := h
  refine tG.intro st h fun x v G1 H1 u1 st1 r1 h1 => ?_
  subst r1
  cases v with
  | true => rw [if_pos rfl] at h1 ⊢; exact tG.last st1 h1
  | false => rw [if_neg Bool.false_ne_true] at h1 ⊢; exact h1 _ G1 H1 (.refl st1.sub) rfl
theorem pbw_or_0 (ha : QB X a gt) (hb : QBW X (.BoolOp .Or (b :: rest) pos) gu) : QBW X (.BoolOp .Or (a :: b :: rest) pos) (tOrB gt gu) := by
  intro whole pins s σ H Q I h
  refine pw_or ha hb whole pins s σ H Q I ?_
  obtain ⟨G, ρ, st, h⟩ := h
  refine tG.intro st h fun x v G1 H1 u1 st1 r1 h1 => ?_
  subst r1
  cases v with
  | true => rw [if_pos rfl] at h1 ⊢; exact h1 _ G1 H1 (.refl st1.sub) rfl
  | false => rw [if_neg Bool.false_ne_true] at h1 ⊢; exact tG.last st1 h1
theorem pb_not_0 (ha : QB X a gt) : QB X (.UnaryOp .Not a pos) (fun ρ => gt ρ >>= fun k => .ok (!k)) := by
  intro pins s σ H Q I h
  refine pt_not ha pins s σ H Q I ?_
  obtain ⟨G, ρ, st, h⟩ := h
  refine tG.intro st h fun x v G1 H1 u1 st1 r1 h1 => ?_
  subst r1
  exact h1 _ G1 H1 (.refl st1.sub) rfl
noncomputable def gIf (gt : Ev → R Bool) (ga gb : Ev → R D) : Ev → R D := fun ρ => gt ρ >>= fun k => if k = true then ga ρ else gb ρ
theorem pf_if_0 (hc : QB X c gt) (ha : QF X a ga) (hb : QF X b gb) : QF X (.IfExp c a b pos) (gIf gt ga gb) := by
  intro pins s σ H Q I h
  refine pe_ifExp hc ha hb pins s σ H Q I ?_
  obtain ⟨G, ρ, st, h⟩ := h
  refine tG.intro st h fun x v G1 H1 u1 st1 r1 h1 => ?_
  subst r1
  cases v with
  | true => rw [if_pos rfl] at h1 ⊢; exact tG.last st1 h1
  | false => rw [if_neg Bool.false_ne_true] at h1 ⊢; exact tG.last st1 h1

theorem pfa_nil_0 : QFA X [] (fun _ => .ok []) := by
  intro pos pins s σ H Q I h
  obtain ⟨G, ρ, st, h⟩ := h
  exact pa_nil pos pins s σ H Q I (h [] G H (.refl st.sub) .nil)
theorem pfa_cons_0 (ha : QF X e ga) (hr : QFA X es gl) (hs : starEach (e :: es) X.env = (false, eval e X.env) :: starEach es X.env := by rfl) : QFA X (e :: es) (fun ρ => ga ρ >>= fun x => gl ρ >>= fun xs => .ok (x :: xs)) := by
  intro pos pins s σ H Q I h
  refine pa_cons ha hr hs pos pins s σ H Q I ?_
  obtain ⟨G, ρ, st, h⟩ := h
  refine tG.intro st h fun x v G1 H1 u1 st1 r1 h1 => ?_
  refine tG.intro st1 h1 fun y w G2 H2 u2 st2 r2 h2 => ?_
  exact h2 _ G2 H2 (.refl st2.sub) (.cons (r1.mono u2.gg) r2)
noncomputable def mkT (ds : List D) : R D := if ds.length ≤ sizeLine then .ok (.tup ds) else .no
theorem pf_tup_0 {k : Nat} (h : QFA X es gl) : QF X (.Tuple es k pos) (fun ρ => gl ρ >>= mkT) := by
  intro pins s σ H Q I hq
  refine pe_tup h pins s σ H Q I ?_
  obtain ⟨G, ρ, st, hq⟩ := hq
  refine tG.intro st hq fun ds vs G1 H1 u1 st1 r1 h1 => ?_
  unfold mkT at h1
  split at h1
  · rename_i hz
    exact ⟨by rw [r1.length]; exact hz, fun p hp => h1 _ _ _ (.new st1.sub hp) (.tup (.of upd_same) (r1.mono (.into (st1.sub.free hp))))⟩
  · exact h1.elim
theorem one_le {c : Nat} : [c].length ≤ sizeLine := by show 1 ≤ sizeLine; decide
noncomputable def ixD : D → D → Option D
  | .lst _ xs, .int i => atI xs i
  | .tup xs, .int i => atI xs i
  | .str x, .int i => (atI x i).map fun c => .str [c]
  | _, _ => none
theorem Reps.atI {K : PySem.W.Frag} {G : Hp} {vs : List V} {ds : List D} {i : Int} {d : D} (r : Reps K G vs ds) (h : atI ds i = some d) : ∃ v, atI vs i = some v ∧ Rep K G v d := by
  unfold L2.atI at h ⊢
  rw [r.length]
  cases e : ixN ds.length i with
  | none => rw [e] at h; cases h
  | some j => rw [e] at h; exact r.get h
theorem ok_ix (K : PySem.W.Frag) : ROk K (rIx K) ixD := by
  intro G H x y dx dy d Q s rx ry e q
  unfold ixD at e
  split at e
  · obtain ⟨a, vs, rfl, h, r⟩ := rx.seq_inv
    obtain ⟨v, e1, r1⟩ := r.atI e
    exact .inl ⟨a, vs, _, v, rfl, ry.int_inv, h.mono s, e1, q v G H (.refl s) r1⟩
  · obtain ⟨a, vs, rfl, h, r⟩ := rx.tup_inv
    obtain ⟨v, e1, r1⟩ := r.atI e
    exact .inr (.inl ⟨a, vs, _, v, rfl, ry.int_inv, h.mono s, e1, q v G H (.refl s) r1⟩)
  · rename_i z i
    obtain ⟨y', rfl, ey, hy⟩ := rx.str_inv
    subst ey
    cases e1 : L2.atI y'.cps.toList i with
    | none => rw [e1] at e; cases e
    | some c =>
      rw [e1] at e
      cases e
      exact .inr (.inr ⟨y', i, c, rfl, ry.int_inv, hy, e1, q _ G H (.refl s) (.strL (by simp) one_le)⟩)
  · cases e
theorem pf_ix_0 (ha : QF X a ga) (hb : QF X b gb) (hs : PlainIx b := by exact fun _ _ => rfl) : QF X (.Subscript a b pos) (g2 ixD ga gb) :=
  fun pins s σ H Q I h => pe_ix ix_seq ha hb hs pins s σ H Q I (t2_of (ok_ix _) h)
end
end L2
namespace L2
open PySem PySem.Spec PyProof.Rows
noncomputable def cutL {α : Type} (xs : List α) (lo hi : Option Int) : List α := (xs.drop (HT.sIx xs.length 0 lo)).take (HT.sIx xs.length xs.length hi - HT.sIx xs.length 0 lo)
theorem cutL_le {α : Type} (xs : List α) (lo hi : Option Int) : (cutL xs lo hi).length ≤ xs.length := by
  unfold cutL
  rw [List.length_take, List.length_drop]
  omega
theorem Reps.cut {K : PySem.W.Frag} {G : Hp} {vs : List V} {ds : List D} (r : Reps K G vs ds) (lo hi : Option Int) : Reps K G (cutV vs lo hi) (cutL ds lo hi) := by
  unfold cutV cutL
  rw [r.length]
  exact (r.drop _).take _
section
variable {X : Cx} {a b c e : Expr} {es rest : List Expr} {lo hi : Option Expr} {ga gb gc : Ev → R D} {go gp : Ev → R (Option Int)} {gl : Ev → R (List D)} {pos p2 : Pos}
noncomputable def rSlT' (K : PySem.W.Frag) : V → Option Int → Option Int → Hp → VK → Prop := fun x lo hi H Q => ∃ a xs, x = .ref a ∧ SqT K H a xs ∧
  (HT.sIx xs.length 0 lo = 0 ∧ HT.sIx xs.length xs.length hi = xs.length) ∧ Q (.ref a) H
theorem sl_tup_whole : SlR X (rSlT' X.K) := by
  intro pins s σ H x v vl vu lo hi sl Q I rx hs pl pu h
  obtain ⟨a, xs, rfl, hx, ⟨hw1, hw2⟩, q⟩ := h
  cases rx
  obtain ⟨its, r, ht, hz⟩ := I.tuple hx
  have hlen : its.toArray.size = xs.length := by rw [List.size_toArray]; exact r.length.symm
  refine ⟨"tuple", _, PyProof.Rows.slot_tuple_getitem.lookup, ht.typeIs, ?_⟩
  obtain ⟨os, hos, hcs, hds⟩ := id hs
  have hTs : s.TypeIs (.ref sl) "slice" := ⟨os, hos, hcs⟩
  unfold getItem
  try with_reducible refine wpAny_holding ?_
  first | refine wpAny_bind (wpAny_pure ?_) | skip
  refine wpAny_bind (wpAny_sequenceKey ht.typeIs (by decide) ?_)
  refine wpAny_bind (wpAny_callSpecial?_slot (name := Str.ofString "__getitem__") ht.typeIs PyProof.Rows.slot_tuple_getitem
    (wpAny_call_entry PyProof.Rows.slot_tuple_getitem ht.typeIs entry_tuple_getitem ?_ (args_tuple_getitem _ _)))
  show wpAny _ _ (Builtin.Tuple.tupleItemsOf (.ref a) >>= _) _ _ s
  refine wpAny_bind (tupleItemsOf_ ht ?_)
  refine wpAny_bind (wpAny_typeOf hTs ?_)
  rw [if_pos (by decide)]
  refine wpAny_bind (HT.sliceApplied_gen hs pl pu ?_)
  rw [hlen, hw1, hw2]
  dsimp only
  rw [if_pos (by simp)]
  have fin : EP X pins σ Q (.ref a) s := ⟨.ref a, H, I, rfl, q⟩
  obtain ⟨o, ho, hc, n, hd⟩ := id ht
  unfold Builtin.Tuple.tupleIsExact
  refine wpAny_bind (wpAny_bind (wpAny_typeOf ht.typeIs (wpAny_pure ?_)))
  rw [if_pos (by decide)]
  exact wpAny_bind (wpAny_rule (wpAny_pure ⟨_, rfl, wpAny_pure fin⟩))
theorem pickL {α : Type} (xs : List α) (a : Nat) : ∀ k : Nat, ((List.range k).map (a + ·)).filterMap (fun i : Nat => xs[i]?) = (xs.drop a).take k
  | 0 => by simp
  | k + 1 => by
    rw [List.range_succ, List.map_append, List.filterMap_append, pickL xs a k, List.take_add_one, List.getElem?_drop]
    congr 1
    try (simp only [List.map_cons, List.map_nil, List.filterMap_cons, List.filterMap_nil]; cases xs[a + k]? <;> rfl)
theorem clip_sIx (n d : Nat) (v : Option Int) : (match v with | none => (d : Int) | some i => max 0 (min (if i < 0 then i + (n : Int) else i) (n : Int))) = ((HT.sIx n d v : Nat) : Int) := by
  cases v with
  | none => rfl
  | some i =>
    show max 0 (min (if i < 0 then i + (n : Int) else i) (n : Int)) = (((if i < 0 then (i + (n : Int)).toNat else min i.toNat n) : Nat) : Int)
    split <;> omega
theorem sliceIx (lo hi : Option Int) (n : Nat) : Builtin.Str.strSliceIndices lo hi 1 n = (List.range (HT.sIx n n hi - HT.sIx n 0 lo)).map (HT.sIx n 0 lo + ·) := by
  have e : Builtin.Str.strSliceIndices lo hi 1 n = sliceRange ((HT.sIx n 0 lo : Nat) : Int) ((HT.sIx n n hi : Nat) : Int) 1 := by
    rw [← clip_sIx n 0 lo, ← clip_sIx n n hi]
    rfl
  rw [e]
  generalize HT.sIx n 0 lo = a
  generalize HT.sIx n n hi = b
  unfold sliceRange
  have hc : (if (1 : Int) > 0 then (if (a : Int) < (b : Int) then ((b : Int) - (a : Int) + 1 - 1) / 1 else 0) else (if (a : Int) > (b : Int) then ((a : Int) - (b : Int) - 1 - 1) / (-1) else 0)).toNat = b - a := by
    rw [if_pos (by decide)]
    split
    · rw [Int.ediv_one]; omega
    · omega
  simp only [hc]
  apply List.map_congr_left
  intro k _
  omega
theorem txt_slice (x : Str) (lo hi : Option Int) : (Txt.slice x lo hi).cps.toList = cutL x.cps.toList lo hi := by
  have hn : x.cps.toList.length = x.length := Str.len_list x
  unfold Txt.slice cutL
  rw [hn, sliceIx]
  have hb : HT.sIx x.length x.length hi ≤ x.length := HT.sIx_le _ _ (Nat.le_refl _) hi
  by_cases hc : ((1 : Int) == 1 && ((List.range (HT.sIx x.length x.length hi - HT.sIx x.length 0 lo)).map (HT.sIx x.length 0 lo + ·)).length == x.length) = true
  · rw [if_pos hc]
    have h2 : HT.sIx x.length x.length hi - HT.sIx x.length 0 lo = x.length := by simpa using hc
    have h3 : HT.sIx x.length 0 lo = 0 ∨ x.length = 0 := by omega
    rw [h2]
    rcases h3 with h3 | h3
    · rw [h3, List.drop_zero, ← hn, List.take_length]
    · have : x.cps.toList = [] := List.eq_nil_of_length_eq_zero (by rw [hn]; exact h3)
      rw [this]; simp
  · rw [if_neg hc]
    have e : (fun i : Nat => x.cps[i]?) = (fun i : Nat => x.cps.toList[i]?) := by funext i; simp
    show (List.filterMap (fun i : Nat => x.cps[i]?) _).toArray.toList = _
    rw [List.toList_toArray, e, pickL]
noncomputable def rSlS : V → Option Int → Option Int → Hp → VK → Prop := fun x lo hi H Q => ∃ y : Str, x = .str y ∧ y.length ≤ sizeLine ∧ Q (.str (Txt.slice y lo hi)) H
theorem sl_str : SlR X rSlS := by
  intro pins s σ H x v vl vu lo hi sl Q I rx hs pl pu h
  obtain ⟨y, rfl, hz, q⟩ := h
  obtain ⟨t, rfl⟩ := rx
  refine ⟨"str", _, F.slot_str_getitem.lookup, typeIs_str _ _ _, ?_⟩
  cases pl with
  | none =>
    cases pu with
    | none => exact wpAny_getItem_str_slice (l := none) (u := none) (st := none) hs rfl (post_val_or_str ⟨Nat.le_trans (Txt.slice_le y _ _) hz, fun t' k => ⟨.str _, H, I.tok k, ⟨t', rfl⟩, q⟩⟩)
    | int j uj => exact wpAny_getItem_str_slice (l := none) (u := some (j, uj)) (st := none) hs rfl (post_val_or_str ⟨Nat.le_trans (Txt.slice_le y _ _) hz, fun t' k => ⟨.str _, H, I.tok k, ⟨t', rfl⟩, q⟩⟩)
  | int i ui =>
    cases pu with
    | none => exact wpAny_getItem_str_slice (l := some (i, ui)) (u := none) (st := none) hs rfl (post_val_or_str ⟨Nat.le_trans (Txt.slice_le y _ _) hz, fun t' k => ⟨.str _, H, I.tok k, ⟨t', rfl⟩, q⟩⟩)
    | int j uj => exact wpAny_getItem_str_slice (l := some (i, ui)) (u := some (j, uj)) (st := none) hs rfl (post_val_or_str ⟨Nat.le_trans (Txt.slice_le y _ _) hz, fun t' k => ⟨.str _, H, I.tok k, ⟨t', rfl⟩, q⟩⟩)
noncomputable def cutD (lo hi : Option Int) : D → Option D
  | .str x => some (.str (cutL x lo hi))
  | .tup xs => some (.tup (cutL xs lo hi))
  | .lst _ xs => some (.lst false (cutL xs lo hi))
  | _ => none
noncomputable def rSl (K : PySem.W.Frag) : V → Option Int → Option Int → Hp → VK → Prop := fun x lo hi H Q => rSlS x lo hi H Q ∨ rSlT' K x lo hi H Q ∨ rSlT K x lo hi H Q ∨ rSlL K x lo hi H Q
theorem sl_any : SlR X (rSl X.K) := sl_str.or (sl_tup_whole.or (sl_tup.or sl_list))
noncomputable def QFO (X : Cx) (o : Option Expr) (g : Ev → R (Option Int)) : Prop := PO X o (tG X (fun _ b c => b = c) g)
theorem pfo_none_0 : QFO X none (fun _ => .ok none) := by
  intro pins s σ H Q I h
  obtain ⟨G, ρ, st, h⟩ := h
  exact po_none pins s σ H Q I (h none G H (.refl st.sub) rfl)
noncomputable def asI : D → R Int
  | .int i => .ok i
  | _ => .no
theorem pfo_some_0 (h : QF X e ga) : QFO X (some e) (fun ρ => ga ρ >>= fun x => asI x >>= fun i => .ok (some i)) := by
  intro pins s σ H Q I hq
  refine po_some h pins s σ H Q I ?_
  obtain ⟨G, ρ, st, hq⟩ := hq
  refine tG.intro st hq fun x v G1 H1 u1 st1 r1 h1 => ?_
  cases r1 with
  | int i => exact ⟨i, rfl, h1 (some i) G1 H1 (.refl st1.sub) rfl⟩
  | _ => exact h1.elim
noncomputable def gSl (ga : Ev → R D) (go gp : Ev → R (Option Int)) : Ev → R D := fun ρ => ga ρ >>= fun x => go ρ >>= fun l => gp ρ >>= fun u => ofO (cutD l u x)
theorem pf_slice_0 (ha : QF X a ga) (hl : QFO X lo go) (hu : QFO X hi gp) : QF X (.Subscript a (.Slice lo hi none p2) pos) (gSl ga go gp) := by
  intro pins s σ H Q I h
  refine pe_slice sl_any ha hl hu pins s σ H Q I ?_
  obtain ⟨G, ρ, st, h⟩ := h
  refine tG.intro st h fun x v G1 H1 u1 st1 r1 h1 => ?_
  refine tG.intro st1 h1 fun l l' G2 H2 u2 st2 r2 h2 => ?_
  subst r2
  refine tG.intro st2 h2 fun u u' G3 H3 u3 st3 r3 h3 => ?_
  subst r3
  obtain ⟨d, e, q⟩ := ofO.ok h3
  have r := (r1.mono u2.gg).mono u3.gg
  unfold cutD at e
  split at e
  · cases e
    obtain ⟨y, rfl, ey, hy⟩ := r.str_inv
    subst ey
    exact .inl ⟨y, rfl, hy, q _ G3 H3 (.refl st3.sub) (.strL (txt_slice y _ _) (Nat.le_trans (cutL_le _ _ _) (by rw [Str.len_list]; exact hy)))⟩
  · rename_i xs0
    cases e
    obtain ⟨a, vs, rfl, h, t⟩ := r.tup_inv
    by_cases hw : HT.sIx vs.length 0 l' = 0 ∧ HT.sIx vs.length vs.length u' = vs.length
    · refine .inr (.inl ⟨a, vs, rfl, h.mono st3.sub, hw, q _ G3 H3 (.refl st3.sub) ?_⟩)
      have e1 : cutL xs0 l' u' = xs0 := by
        unfold cutL
        rw [← t.length, hw.1, hw.2, List.drop_zero, Nat.sub_zero, t.length, List.take_length]
      rw [e1]
      exact .tup h t
    · exact .inr (.inr (.inl ⟨a, vs, rfl, h.mono st3.sub, hw, fun p hp => q _ _ _ (.new st3.sub hp) (.tup (.of upd_same) ((t.cut _ _).mono (.into (st3.sub.free hp))))⟩))
  · cases e
    obtain ⟨a, vs, rfl, h, t⟩ := r.seq_inv
    exact .inr (.inr (.inr ⟨a, vs, rfl, h.mono st3.sub, fun p hp => q _ _ _ (.new st3.sub hp) (.lst upd_same ((t.cut _ _).mono (.into (st3.sub.free hp))))⟩))
  · cases e

noncomputable def CROk (K : PySem.W.Frag) (r : List V → Hp → VK → Prop) (f : List D → Option D) : Prop := ∀ (G H : Hp) (xs : List V) (ds : List D) (d : D) (Q : VK), Same G H → Reps K G xs ds → f ds = some d → Fin G H (Rep K) Q d → r xs H Q
theorem pf_callB_0 {id : String} {x : Str} {p : Pos} {r : List V → Hp → VK → Prop} {f : List D → Option D} (hc : CallR X (.builtin id) r) (hf : CROk X.K r f) (hg : Gl X x) (hm : X.mg x = none) (hv : bootBuiltins x = some (.builtin id)) (ha : QFA X (e :: es) gl)
    (hn : x ≠ "__name__" := by decide) (hdb : (x == ("__debug__" : Str)) = false := by decide)
    (he : starEach (e :: es) X.env = (false, eval e X.env) :: starEach es X.env := by rfl) (hpl : (backTo pos (starEach es X.env)).any (·.1) = false := by rfl) : QF X (.Call (.Name x p) (e :: es) [] pos) (fun ρ => gl ρ >>= fun ds => ofO (f ds)) := by
  intro pins s σ H Q I h
  refine pe_callB hc hg hm hv ha hn hdb he hpl pins s σ H Q I ?_
  obtain ⟨G, ρ, st, h⟩ := h
  refine tG.intro st h fun ds vs G1 H1 u1 st1 r1 h1 => ?_
  obtain ⟨d, e, q⟩ := ofO.ok h1
  exact hf G1 H1 vs ds d Q st1.sub r1 e q
theorem pf_callTy_0 {T : String} {x : Str} {p : Pos} {r : List V → Hp → VK → Prop} {f : List D → Option D} (hc : CallR X (.type T) r) (hf : CROk X.K r f) (hg : Gl X x) (hm : X.mg x = none) (hv : bootBuiltins x = some (.type T)) (ha : QFA X (e :: es) gl)
    (hn : x ≠ "__name__" := by decide) (hdb : (x == ("__debug__" : Str)) = false := by decide)
    (he : starEach (e :: es) X.env = (false, eval e X.env) :: starEach es X.env := by rfl) (hpl : (backTo pos (starEach es X.env)).any (·.1) = false := by rfl) : QF X (.Call (.Name x p) (e :: es) [] pos) (fun ρ => gl ρ >>= fun ds => ofO (f ds)) := by
  intro pins s σ H Q I h
  refine pe_callTy hc hg hm hv ha hn hdb he hpl pins s σ H Q I ?_
  obtain ⟨G, ρ, st, h⟩ := h
  refine tG.intro st h fun ds vs G1 H1 u1 st1 r1 h1 => ?_
  obtain ⟨d, e, q⟩ := ofO.ok h1
  exact hf G1 H1 vs ds d Q st1.sub r1 e q
theorem Reps.one {K : PySem.W.Frag} {G : Hp} {vs : List V} {d : D} (r : Reps K G vs [d]) : ∃ v, vs = [v] ∧ Rep K G v d := by
  cases r with
  | cons r t => cases t; exact ⟨_, rfl, r⟩
theorem Reps.two {K : PySem.W.Frag} {G : Hp} {vs : List V} {d d' : D} (r : Reps K G vs [d, d']) : ∃ v w, vs = [v, w] ∧ Rep K G v d ∧ Rep K G w d' := by
  cases r with
  | cons r t => obtain ⟨w, rfl, r'⟩ := t.one; exact ⟨_, w, rfl, r, r'⟩
noncomputable def lenF : List D → Option D
  | [.str x] => some (.int x.length)
  | [.tup xs] => some (.int xs.length)
  | [.lst _ xs] => some (.int xs.length)
  | _ => none
theorem pf_len_0 {p : Pos} (hg : Gl X "len") (hm : X.mg "len" = none) (ha : QFA X [e] gl) (he : starEach [e] X.env = [(false, eval e X.env)] := by rfl) : QF X (.Call (.Name "len" p) [e] [] pos) (fun ρ => gl ρ >>= fun ds => ofO (lenF ds)) :=
  pf_callB_0 call_len (by
    intro G H xs ds d Q s r e q
    unfold lenF at e
    split at e
    · cases e
      obtain ⟨v, rfl, r1⟩ := r.one
      obtain ⟨y, rfl, ey, hy⟩ := r1.str_inv
      subst ey
      exact ⟨_, y.length, rfl, ⟨hy, rfl⟩, by rw [← Str.len_list]; exact q _ G H (.refl s) (.int _)⟩
    · cases e
      obtain ⟨v, rfl, r1⟩ := r.one
      obtain ⟨a, vs, rfl, h, t⟩ := r1.tup_inv
      exact ⟨_, vs.length, rfl, .inr ⟨vs, h.mono s, rfl⟩, by rw [t.length]; exact q _ G H (.refl s) (.int _)⟩
    · cases e
      obtain ⟨v, rfl, r1⟩ := r.one
      obtain ⟨a, vs, rfl, h, t⟩ := r1.seq_inv
      exact ⟨_, vs.length, rfl, .inl ⟨vs, h.mono s, rfl⟩, by rw [t.length]; exact q _ G H (.refl s) (.int _)⟩
    · cases e) hg hm PySem.boot_len ha (he := by rw [he]; rfl)
noncomputable def tupleF : List D → Option D
  | [.lst _ xs] => some (.tup xs)
  | [.tup xs] => some (.tup xs)
  | _ => none
theorem ok_tuple (K : PySem.W.Frag) : CROk K (fun xs H Q => ∃ p ys, xs = [.ref p] ∧ ((SqL K H p ys ∧ ∀ l, H l = none → Q (.ref l) (upd H l (.tup ys))) ∨ (SqT K H p ys ∧ Q (.ref p) H))) tupleF := by
  intro G H xs ds d Q s r e q
  unfold tupleF at e
  split at e
  · cases e
    obtain ⟨v, rfl, r1⟩ := r.one
    obtain ⟨a, vs, rfl, h, t⟩ := r1.seq_inv
    exact ⟨a, vs, rfl, .inl ⟨h.mono s, fun l hl => q _ _ _ (.new s hl) (.tup (.of upd_same) (t.mono (.into (s.free hl))))⟩⟩
  · cases e
    obtain ⟨v, rfl, r1⟩ := r.one
    obtain ⟨a, vs, rfl, h, t⟩ := r1.tup_inv
    exact ⟨a, vs, rfl, .inr ⟨h.mono s, q _ G H (.refl s) (.tup h t)⟩⟩
  · cases e
end
end L2
namespace L2
open PySem PySem.Spec PyProof.Rows
noncomputable def ItOk (K : PySem.W.Frag) (G₁ : Hp) (J : It) (items : List D) : Prop := ∀ (i : Nat) (G H : Hp), Same G₁ G → Same G H →
  (∀ d, items[i]? = some d → J.go i H ∧ ∀ x H', J.yld i H x H' → ∃ G', Up G H G' H' ∧ Rep K G' x d) ∧ (items.length ≤ i → J.stop i H)
noncomputable def QIF (X : Cx) (tg iter : Expr) (g : Ev → R (List D)) : Prop := PI X tg iter (tG X (fun G J items => ItOk X.K G J items) g)
noncomputable def Its (x : Str) : It := ⟨fun i _ => i < x.cps.size, fun i H v H' => H' = H ∧ ∃ c, x.cps[i]? = some c ∧ v = .str ⟨#[c]⟩, fun i _ => x.cps.size ≤ i⟩
section
variable {X : Cx} {tg a e : Expr} {ga : Ev → R D} {gl : Ev → R (List D)} {pos : Pos}
theorem it_list {pins : List (Addr × Obj)} {σ : St} {H : Hp} {s : Shared} {l : Addr} {xs : List V} {Rr : It → Hp → Prop} (I : Inv X pins σ H s) (h : SqL X.K H l xs) (q : Rr (Itl X.K l) H) :
    wpAny (model X.prog X.w) X.A (pyIter (.ref l)) (PIE X pins σ tg Rr) X.xe s := by
  obtain ⟨its, rv, p, hz⟩ := I.list h
  refine wpAny_pyIter_list p.isList ?_
  refine ⟨s.heap.objs.size, [s.heap.objs.size], _, _, H, rfl, I.kept (t' := s.toks) fun b o e => Heap.get?_push_of_some _ e, turn_list l _, ⟨_, Heap.get?_push_size _ rfl, rfl, rfl⟩, fun b hb => ?_, q⟩
  have e : b = s.heap.objs.size := by simpa using hb
  subst e
  exact I.fpOk (Nat.le_refl _) (I.hok.fresh (Nat.le_refl _))
theorem it_tup {pins : List (Addr × Obj)} {σ : St} {H : Hp} {s : Shared} {l : Addr} {xs : List V} {Rr : It → Hp → Prop} (I : Inv X pins σ H s) (h : SqT X.K H l xs) (q : Rr (Itt X.K l) H) :
    wpAny (model X.prog X.w) X.A (pyIter (.ref l)) (PIE X pins σ tg Rr) X.xe s := by
  obtain ⟨its, rv, p, hz⟩ := I.tuple h
  refine wpAny_pyIter_tuple (show s.heap.IsTuple l its.toArray from p) ?_
  refine ⟨s.heap.objs.size, [s.heap.objs.size], _, _, H, rfl, I.kept (t' := s.toks) fun b o e => Heap.get?_push_of_some _ e, turn_tuple l _, ⟨_, Heap.get?_push_size _ rfl, rfl, rfl⟩, fun b hb => ?_, q⟩
  have e : b = s.heap.objs.size := by simpa using hb
  subst e
  exact I.fpOk (Nat.le_refl _) (I.hok.fresh (Nat.le_refl _))
theorem turn_ascii {P : Program} {w : World} {K : PySem.W.Frag} {tg : Expr} (it : Addr) (x : Str) (t : Tok) : Turn P w K tg (Its x) [it] it (fun i h => h.IsStrIter it "str_ascii_iterator" x t i) where
  mem := by simp
  obj := fun i h st b hb => by
    have e : b = it := by simpa using hb
    subst e
    obtain ⟨o, e, c, d⟩ := st
    exact ⟨o, e, fun v z => by rw [d] at z; cases z⟩
  keep := fun i h h' st k => let ⟨o, ho, r⟩ := st; ⟨o, k it (by simp) o ho, r⟩
  item := by
    intro X hP hw hK hc i pins s σ H E I hf st hg
    subst hP hw hK
    have hg' : i < x.cps.size := hg
    obtain ⟨f0, f1, f2, f3, f4, f5⟩ := hf it (by simp)
    refine wpAny_pyNext_ascii_item st (c := x.cps[i]) (by simp [hg']) fun h' st' sb => ?_
    have I1 : Inv X pins σ H { s with heap := h', toks := s.toks + 1 } := I.turned (t' := s.toks + 1) (fun b o hb e => (sb.2 b hb).trans e) f0 f1 f3 f4 f5
    obtain ⟨o, e, c, d⟩ := id st'
    exact ⟨_, rfl, go_of (s := { s with heap := h', toks := s.toks + 1 }) e c d (by decide) ⟨.str ⟨#[x.cps[i]]⟩, H, I1, ⟨_, rfl⟩, ⟨rfl, _, by simp [hg'], rfl⟩, st', fun b hb => (hf b hb).1⟩⟩
  done := by
    intro X hP hw hK hc i pins s σ H E I hf st hg
    subst hP hw hK
    obtain ⟨f0, f1, f2, f3, f4, f5⟩ := hf it (by simp)
    have hg' : x.cps.size ≤ i := hg
    exact wpAny_pyNext_ascii_end (I.ok.hd hc) st (by simp; omega) fun h' eb => ⟨rfl, I.turned (t' := s.toks) (fun b o hb e => eb b o hb e) f0 f1 f3 f4 f5⟩
  self := fun _ _ _ _ _ st h => wpAny_pyIter_striter_ascii st h
theorem turn_wide {P : Program} {w : World} {K : PySem.W.Frag} {tg : Expr} (it : Addr) (x : Str) (t : Tok) : Turn P w K tg (Its x) [it] it (fun i h => h.IsStrIter it "str_iterator" x t i) where
  mem := by simp
  obj := fun i h st b hb => by
    have e : b = it := by simpa using hb
    subst e
    obtain ⟨o, e, c, d⟩ := st
    exact ⟨o, e, fun v z => by rw [d] at z; cases z⟩
  keep := fun i h h' st k => let ⟨o, ho, r⟩ := st; ⟨o, k it (by simp) o ho, r⟩
  item := by
    intro X hP hw hK hc i pins s σ H E I hf st hg
    subst hP hw hK
    have hg' : i < x.cps.size := hg
    obtain ⟨f0, f1, f2, f3, f4, f5⟩ := hf it (by simp)
    refine wpAny_pyNext_wide_item st (c := x.cps[i]) (by simp [hg']) fun h' st' sb => ?_
    have I1 : Inv X pins σ H { s with heap := h', toks := s.toks + 1 } := I.turned (t' := s.toks + 1) (fun b o hb e => (sb.2 b hb).trans e) f0 f1 f3 f4 f5
    obtain ⟨o, e, c, d⟩ := id st'
    exact ⟨_, rfl, go_of (s := { s with heap := h', toks := s.toks + 1 }) e c d (by decide) ⟨.str ⟨#[x.cps[i]]⟩, H, I1, ⟨_, rfl⟩, ⟨rfl, _, by simp [hg'], rfl⟩, st', fun b hb => (hf b hb).1⟩⟩
  done := by
    intro X hP hw hK hc i pins s σ H E I hf st hg
    subst hP hw hK
    obtain ⟨f0, f1, f2, f3, f4, f5⟩ := hf it (by simp)
    have hg' : x.cps.size ≤ i := hg
    exact wpAny_pyNext_wide_end (I.ok.hd hc) st (by simp; omega) fun h' eb => ⟨rfl, I.turned (t' := s.toks) (fun b o hb e => eb b o hb e) f0 f1 f3 f4 f5⟩
  self := fun _ _ _ _ _ st h => wpAny_pyIter_striter_wide st h
theorem it_str {pins : List (Addr × Obj)} {σ : St} {H : Hp} {s : Shared} {x : Str} {t : Tok} {Rr : It → Hp → Prop} (I : Inv X pins σ H s) (q : Rr (Its x) H) :
    wpAny (model X.prog X.w) X.A (pyIter (.str x t)) (PIE X pins σ tg Rr) X.xe s := by
  have fp : ∀ (o : Obj), ∀ b ∈ [s.heap.objs.size], FpOk X pins H b := fun o b hb => by
    have e : b = s.heap.objs.size := by simpa using hb
    subst e
    exact I.fpOk (Nat.le_refl _) (I.hok.fresh (Nat.le_refl _))
  cases ha : x.cps.all (· < 128)
  · refine wpAny_pyIter_wide ha ⟨s.heap.objs.size, [s.heap.objs.size], _, _, H, rfl, I.kept (t' := s.toks) fun b o e => Heap.get?_push_of_some _ e, turn_wide _ x t, ⟨_, Heap.get?_push_size _ rfl, rfl, rfl⟩, fp default, q⟩
  · refine wpAny_pyIter_ascii ha ⟨s.heap.objs.size, [s.heap.objs.size], _, _, H, rfl, I.kept (t' := s.toks) fun b o e => Heap.get?_push_of_some _ e, turn_ascii _ x t, ⟨_, Heap.get?_push_size _ rfl, rfl, rfl⟩, fp default, q⟩
noncomputable def itemsD : D → R (List D)
  | .lst _ xs => .ok xs
  | .tup xs => .ok xs
  | .str x => .ok (x.map fun c => .str [c])
  | _ => .no
theorem ItOk.list {K : PySem.W.Frag} {G : Hp} {l : Addr} {vs : List V} {ds : List D} (h : SqL K G l vs) (r : Reps K G vs ds) : ItOk K G (Itl K l) ds := by
  intro i G1 H1 s1 s2
  refine ⟨fun d e => ?_, fun hl => ⟨vs, (h.mono s1).mono s2, by rw [r.length]; exact hl⟩⟩
  obtain ⟨v, ev, rv⟩ := r.get e
  refine ⟨⟨vs, v, (h.mono s1).mono s2, ev⟩, fun x H' y => ?_⟩
  obtain ⟨rfl, y⟩ := y
  have := y vs ((h.mono s1).mono s2)
  rw [ev] at this
  cases this
  exact ⟨G1, .refl s2, rv.mono s1⟩
theorem ItOk.tup {K : PySem.W.Frag} {G : Hp} {l : Addr} {vs : List V} {ds : List D} (h : SqT K G l vs) (r : Reps K G vs ds) : ItOk K G (Itt K l) ds := by
  intro i G1 H1 s1 s2
  refine ⟨fun d e => ?_, fun hl => ⟨vs, (h.mono s1).mono s2, by rw [r.length]; exact hl⟩⟩
  obtain ⟨v, ev, rv⟩ := r.get e
  refine ⟨⟨vs, v, (h.mono s1).mono s2, ev⟩, fun x H' y => ?_⟩
  obtain ⟨rfl, y⟩ := y
  have := y vs ((h.mono s1).mono s2)
  rw [ev] at this
  cases this
  exact ⟨G1, .refl s2, rv.mono s1⟩
theorem ItOk.str {K : PySem.W.Frag} {G : Hp} (x : Str) : ItOk K G (Its x) (x.cps.toList.map fun c => .str [c]) := by
  intro i G1 H1 s1 s2
  refine ⟨fun d e => ?_, fun hl => show x.cps.size ≤ i by simpa using hl⟩
  rw [List.getElem?_map] at e
  cases ec : x.cps.toList[i]? with
  | none => rw [ec] at e; cases e
  | some c =>
    rw [ec] at e
    cases e
    have hi : i < x.cps.size := by
      have := (List.getElem?_eq_some_iff.mp ec).1
      simpa using this
    refine ⟨hi, fun v H' y => ?_⟩
    obtain ⟨rfl, c', e', rfl⟩ := y
    have : c' = c := by
      have h2 : x.cps.toList[i]? = x.cps[i]? := by simp
      rw [h2, e'] at ec
      exact Option.some.inj ec
    subst this
    exact ⟨G1, .refl s2, .strL rfl one_le⟩
theorem ItOk.range {K : PySem.W.Frag} {G : Hp} (lo : Int) (n : Nat) : ItOk K G (Itr lo n) ((List.range n).map fun i => .int (lo + (i : Nat))) := by
  intro i G1 H1 s1 s2
  refine ⟨fun d e => ?_, fun hl => show n ≤ i by simpa using hl⟩
  rw [List.getElem?_map] at e
  by_cases hi : i < n
  · rw [List.getElem?_range hi] at e
    cases e
    refine ⟨hi, fun v H' y => ?_⟩
    obtain ⟨rfl, rfl⟩ := y
    exact ⟨G1, .refl s2, .int _⟩
  · rw [List.getElem?_eq_none (by simpa using hi)] at e
    cases e
theorem pif_val_0 (ha : QF X a ga) : QIF X tg a (fun ρ => ga ρ >>= itemsD) := by
  intro pins s σ H Rr I h
  obtain ⟨G, ρ, st, h⟩ := h
  have t : tF X ga σ H (fun x H1 => ∃ G1 d, Same G1 H1 ∧ Rep X.K G1 x d ∧ (itemsD d).post (Fin G1 H1 (fun G J items => ItOk X.K G J items) Rr) (Exx X σ G1 H1)) :=
    tG.intro st h fun x v G1 H1 u1 st1 r1 h1 => ⟨G1, x, st1.sub, r1, h1⟩
  refine thn (ha pins s σ H _ I t) fun v s1 ⟨x, H1, I1, r1, G1, d, sub, rd, h1⟩ => ?_
  cases rd with
  | lst hh r => cases r1; exact it_list I1 (.of (sub _ _ hh)) (h1 _ G1 H1 (.refl sub) (.list (.of hh) r))
  | fls hh r => cases r1; exact it_list I1 (hh.mono sub) (h1 _ G1 H1 (.refl sub) (.list hh r))
  | tup hh r => cases r1; exact it_tup I1 (hh.mono sub) (h1 _ G1 H1 (.refl sub) (.tup hh r))
  | str y hy => obtain ⟨t, rfl⟩ := r1; exact it_str I1 (h1 _ G1 H1 (.refl sub) (.str y))
  | _ => exact h1.elim
noncomputable def rangeD1 : List D → R (List D)
  | [.int j] => if -(2 ^ 62) ≤ j ∧ j < 2 ^ 62 then .ok ((List.range j.toNat).map fun i => .int (0 + (i : Nat))) else .no
  | _ => .no
noncomputable def rangeD2 : List D → R (List D)
  | [.int i, .int j] => if -(2 ^ 62) ≤ i ∧ i < 2 ^ 62 ∧ -(2 ^ 62) ≤ j ∧ j < 2 ^ 62 then .ok ((List.range (j - i).toNat).map fun k => .int (i + (k : Nat))) else .no
  | _ => .no
theorem pif_range1_0 {p : Pos} (hg : Gl X "range") (hm : X.mg "range" = none) (ha : QFA X [a] gl) (hs : starEach [a] X.env = [(false, eval a X.env)] := by rfl) : QIF X tg (.Call (.Name "range" p) [a] [] pos) (fun ρ => gl ρ >>= rangeD1) := by
  intro pins s σ H Rr I h
  refine pi_range1 hg hm ha hs pins s σ H Rr I ?_
  obtain ⟨G, ρ, st, h⟩ := h
  refine tG.intro st h fun ds vs G1 H1 u1 st1 r1 h1 => ?_
  unfold rangeD1 at h1
  split at h1
  · split at h1
    · rename_i hj
      obtain ⟨v, rfl, r⟩ := r1.one
      obtain rfl := r.int_inv
      exact ⟨_, rfl, hj.1, hj.2, h1 _ G1 H1 (.refl st1.sub) (.range 0 _)⟩
    · exact h1.elim
  · exact h1.elim
theorem pif_range2_0 {b : Expr} {p : Pos} (hg : Gl X "range") (hm : X.mg "range" = none) (ha : QFA X [a, b] gl) (hs : starEach [a, b] X.env = [(false, eval a X.env), (false, eval b X.env)] := by rfl) (hs2 : starEach [b] X.env = [(false, eval b X.env)] := by rfl) :
    QIF X tg (.Call (.Name "range" p) [a, b] [] pos) (fun ρ => gl ρ >>= rangeD2) := by
  intro pins s σ H Rr I h
  refine pi_range2 hg hm ha hs hs2 pins s σ H Rr I ?_
  obtain ⟨G, ρ, st, h⟩ := h
  refine tG.intro st h fun ds vs G1 H1 u1 st1 r1 h1 => ?_
  unfold rangeD2 at h1
  split at h1
  · split at h1
    · rename_i hj
      obtain ⟨v, w, rfl, r, r'⟩ := r1.two
      obtain rfl := r.int_inv
      obtain rfl := r'.int_inv
      exact ⟨_, _, rfl, hj, h1 _ G1 H1 (.refl st1.sub) (.range _ _)⟩
    · exact h1.elim
  · exact h1.elim
end

noncomputable def ObSt (K : PySem.W.Frag) (H₀ G H : Hp) (σ : St) (ρ : Ev) : Prop :=
  ∃ ow : Owns, (∀ (i : Nat) ds l, ρ[i]? = some (some (.own ds)) → σ[i]? = some (some (.ref l)) → ow l = some (i, 0)) ∧
    ∀ (i : Nat) m C p fs, ρ[i]? = some (some (.obj m C p fs)) → σ[i]? = some (some (.ref p)) ∧ ObjAt K H₀ G H ow i m C p fs
theorem ObSt.rd {K : PySem.W.Frag} {H₀ G H : Hp} {σ : St} {ρ : Ev} (h : ObSt K H₀ G H σ ρ) : ∀ (i : Nat) m C p fs, ρ[i]? = some (some (.obj m C p fs)) → σ[i]? = some (some (.ref p)) ∧ ∃ ow, ObjAt K (fun _ => none) G H ow i m C p fs := fun i m C p fs e => by
  obtain ⟨ow, _, o2⟩ := h
  exact ⟨(o2 i m C p fs e).1, ow, (o2 i m C p fs e).2.rd⟩
noncomputable def NoOwn (ρ : Ev) : Prop := ∀ (j : Nat) (x : Sl), ρ[j]? = some (some x) → ∃ d, x = .val d
theorem NoOwn.own {ρ : Ev} (h : NoOwn ρ) (j : Nat) (ds : List D) : ρ[j]? ≠ some (some (.own ds)) := fun e => by obtain ⟨d, z⟩ := h j _ e; cases z
theorem NoOwn.obj {ρ : Ev} (h : NoOwn ρ) (j : Nat) (m : Bool) (C p : Addr) (fs : List (Nat × Fd)) : ρ[j]? ≠ some (some (.obj m C p fs)) := fun e => by obtain ⟨d, z⟩ := h j _ e; cases z
theorem NoOwn.ob {K : PySem.W.Frag} {H₀ G H : Hp} {σ : St} {ρ : Ev} (h : NoOwn ρ) : ObSt K H₀ G H σ ρ :=
  ⟨fun _ => none, fun i ds l e => absurd e (h.own i ds), fun i m C p fs e => absurd e (h.obj i m C p fs)⟩
structure StR (K : PySem.W.Frag) (G₀ H₀ G H : Hp) (σ : St) (ρ : Ev) : Prop where
  e : StE K G H σ ρ
  sub0 : Same G₀ H₀
  up : Up G₀ H₀ G H
  own : ∀ (i : Nat) ds, ρ[i]? = some (some (.own ds)) → ∃ l vs, σ[i]? = some (some (.ref l)) ∧ H l = some (.lst vs) ∧ G l = none ∧ H₀ l = none ∧ Reps K G vs ds
  inj : ∀ (i j : Nat) ds es l, ρ[i]? = some (some (.own ds)) → ρ[j]? = some (some (.own es)) → σ[i]? = some (some (.ref l)) → σ[j]? = some (some (.ref l)) → i = j
  ob : ObSt K H₀ G H σ ρ
section
variable {K : PySem.W.Frag} {G₀ H₀ G H G' H' : Hp} {σ : St} {ρ : Ev}
theorem StR.ups (s : StR K G₀ H₀ G H σ ρ) (u : Up G H G' H') : StR K G₀ H₀ G' H' σ ρ := ⟨s.e.up u, s.sub0, s.up.trans u, (fun i ds e => by
  obtain ⟨l, vs, h1, h2, h3, h4, h5⟩ := s.own i ds e
  refine ⟨l, vs, h1, u.hh _ _ h2, ?_, h4, h5.mono u.gg⟩
  cases q : G' l with
  | none => rfl
  | some o =>
    rcases u.fr l o q with z | z
    · rw [h3] at z; cases z
    · rw [h2] at z; cases z), s.inj, by
  obtain ⟨ow, o1, o2⟩ := s.ob
  exact ⟨ow, o1, fun i m C p fs e => ⟨(o2 i m C p fs e).1, (o2 i m C p fs e).2.keep (.up u)⟩⟩⟩
theorem StR.set (s : StR K G₀ H₀ G H σ ρ) {v : V} {d : D} (r : Rep K G v d) (i : Nat) : StR K G₀ H₀ G H (σ.set i (some v)) (ρ.set i (some (.val d))) := by
  have get : ∀ (j : Nat) x, (ρ.set i (some (.val d)))[j]? = some (some x) → (j = i ∧ x = .val d ∧ i < σ.length) ∨ (j ≠ i ∧ ρ[j]? = some (some x) ∧ (σ.set i (some v))[j]? = σ[j]?) := fun j x h => by
    by_cases e : i = j
    · subst e
      have hl : i < ρ.length := by
        have := (List.getElem?_eq_some_iff.mp h).1
        simpa using this
      rw [List.getElem?_set_self hl] at h
      exact .inl ⟨rfl, by injection (Option.some.inj h) with q; exact q.symm, by rw [s.e.len]; exact hl⟩
    · rw [List.getElem?_set_ne e] at h
      exact .inr ⟨fun z => e z.symm, h, List.getElem?_set_ne e⟩
  have ob : ObSt K H₀ G H (σ.set i (some v)) (ρ.set i (some (.val d))) := by
    obtain ⟨ow, o1, o2⟩ := s.ob
    refine ⟨ow, fun j ds l h1 h2 => ?_, fun j m C p fs h1 => ?_⟩
    · rcases get j _ h1 with ⟨_, e, _⟩ | ⟨_, e, e'⟩
      · cases e
      · exact o1 j ds l e (e' ▸ h2)
    · rcases get j _ h1 with ⟨_, e, _⟩ | ⟨_, e, e'⟩
      · cases e
      · rw [e']; exact o2 j m C p fs e
  refine ⟨⟨s.e.sub, by simp [s.e.len], fun j d' h => ?_, ob.rd⟩, s.sub0, s.up, fun j ds h => ?_, fun j k ds es l h1 h2 h3 h4 => ?_, ob⟩
  · rcases get j _ h with ⟨rfl, e, hl⟩ | ⟨_, e, e'⟩
    · cases e
      exact ⟨v, List.getElem?_set_self hl, r⟩
    · rw [e']; exact s.e.val j d' e
  · rcases get j _ h with ⟨_, e, _⟩ | ⟨_, e, e'⟩
    · cases e
    · rw [e']; exact s.own j ds e
  · rcases get j _ h1 with ⟨_, e, _⟩ | ⟨_, e, e'⟩
    · cases e
    · rcases get k _ h2 with ⟨_, f, _⟩ | ⟨_, f, f'⟩
      · cases f
      · exact s.inj j k ds es l e f (e' ▸ h3) (f' ▸ h4)
end
noncomputable def PGF (X : Cx) (tg : Expr) (asg : D → Ev → R Ev) : Prop := PG X tg (fun v σ H Q => ∃ G₀ H₀ G ρ d ρ', StR X.K G₀ H₀ G H σ ρ ∧ Rep X.K G v d ∧ asg d ρ = .ok ρ' ∧ ∀ σ', StR X.K G₀ H₀ G H σ' ρ' → Q σ' H)
section
variable {X : Cx} {pos : Pos}
noncomputable def setV (i : Nat) : D → Ev → R Ev := fun d ρ => .ok (ρ.set i (some (.val d)))
theorem pgf_name (i : Nat) {x : Str} (hN : X.N.Nodup) (hi : X.N[i]? = some x := by rfl) (hx : Loc X.env.scope x := by first | exact Or.inl rfl | exact Or.inr rfl)
    (hf : X.fn x = true ∨ X.env.scope.names.lookup x = some .local := by first | exact .inl rfl | exact .inr rfl) : PGF X (.Name x pos) (setV i) := by
  intro pins s σ H v u Q I r h
  obtain ⟨G₀, H₀, G, ρ, d, ρ', st, rd, e, q⟩ := h
  cases e
  exact pg_name hN hi hx hf pins s σ H v u Q I r (q _ (st.set rd i))
end
end L2
namespace L2
open PySem PySem.Spec PyProof.Rows

noncomputable def FinL (K : PySem.W.Frag) (G H : Hp) (Q : VK) : List D → Prop := fun ds => ∀ l vs G' H', Up G H G' H' → H' l = none → Reps K G' vs ds → Q (.ref l) (upd H' l (.lst vs))
noncomputable def tL (X : Cx) (g : Ev → R (List D)) : TE := fun σ H Q => ∃ G ρ, StE X.K G H σ ρ ∧ (g ρ).post (FinL X.K G H Q) (Exx X σ G H)
noncomputable def QFL (X : Cx) (e : Expr) (g : Ev → R (List D)) : Prop := PE X e (tL X g)
theorem pf_fresh_0 {X : Cx} {e : Expr} {g : Ev → R (List D)} (h : QFL X e g) : QF X e (fun ρ => g ρ >>= fun ds => .ok (.lst false ds)) := by
  intro pins s σ H Q I hq
  refine h pins s σ H Q I ?_
  obtain ⟨G, ρ, st, hq⟩ := hq
  try dsimp only at hq
  refine ⟨G, ρ, st, ?_⟩
  cases e : g ρ with
  | ok ds =>
    rw [e] at hq
    intro l vs G' H' u hl r
    exact hq _ _ _ (u.trans (.new u.sub hl)) (.lst upd_same (r.mono (.into (u.sub.free hl))))
  | ex C => rw [e] at hq; exact hq
  | no => rw [e] at hq; exact hq
theorem pfl_lst_0 {X : Cx} {es : List Expr} {gl : Ev → R (List D)} {pos : Pos} (h : QFA X es gl) : QFL X (.List es pos) (fun ρ => gl ρ >>= fun ds => if ds.length ≤ sizeLine then .ok ds else .no) := by
  intro pins s σ H Q I hq
  refine pe_lst h pins s σ H Q I ?_
  obtain ⟨G, ρ, st, hq⟩ := hq
  try dsimp only at hq
  refine ⟨G, ρ, st, ?_⟩
  cases e : gl ρ with
  | ok ds =>
    rw [e] at hq
    intro vs G' H' u r
    simp only [R.ok_bind] at hq
    split at hq
    · rename_i hz
      exact ⟨by rw [r.length]; exact hz, fun p hp => hq p vs G' H' u hp r⟩
    · exact hq.elim
  | ex C => rw [e] at hq; exact hq
  | no => rw [e] at hq; exact hq

noncomputable def clOf (env : Env) : List (Str × NameKind) → List (Str × Addr) → List (Str × Addr)
  | [], cs => cs
  | (n, k) :: r, cs => clOf env r (if (k == .free) = true then (match env.cells.lookup n with | some c => (n, c) :: cs | none => cs) else cs)
theorem forIn_cl {env : Env} {F : Str × NameKind → List (Str × Addr) → Sem (ForInStep (List (Str × Addr)))}
    (hF : ∀ n k r, (k = NameKind.free → ∃ c, env.cells.lookup n = some c) → F (n, k) r = pure (ForInStep.yield (if (k == .free) = true then (match env.cells.lookup n with | some c => (n, c) :: r | none => r) else r))) :
    ∀ (l : List (Str × NameKind)) (cs : List (Str × Addr)), (∀ x ∈ l, x.2 = .free → ∃ c, env.cells.lookup x.1 = some c) → forIn l cs F = pure (clOf env l cs)
  | [], cs, _ => rfl
  | (n, k) :: l, cs, h => by
    rw [List.forIn_cons, hF n k cs (h (n, k) List.mem_cons_self), pure_bind]
    exact forIn_cl hF l _ fun y hy => h y (List.mem_cons_of_mem _ hy)
theorem closureFor_eq {scope : Scope} {env : Env} (h : ∀ x ∈ scope.names, x.2 = .free → ∃ c, env.cells.lookup x.1 = some c) : closureFor scope env = pure (clOf env scope.names []) := by
  simp only [closureFor]
  rw [forIn_cl (env := env) (fun n k r hk => ?_) scope.names [] h]
  · rfl
  · by_cases hf : (k == NameKind.free) = true
    · obtain ⟨c, hc⟩ := hk (by simpa using hf)
      simp only [hf, if_true, cellOf, hc, pure_bind]
    · simp only [hf, if_false]
      rfl
theorem clOf_sub {env : Env} : ∀ (l : List (Str × NameKind)) (cs : List (Str × Addr)), (∀ x c, cs.lookup x = some c → env.cells.lookup x = some c) → ∀ x c, (clOf env l cs).lookup x = some c → env.cells.lookup x = some c
  | [], cs, h, x, c, e => h x c e
  | (n, k) :: l, cs, h, x, c, e => by
    unfold clOf at e
    refine clOf_sub l _ (fun y d ed => ?_) x c e
    split at ed
    · split at ed
      · rename_i c' hc'
        rw [List.lookup_cons] at ed
        split at ed
        · rename_i q; rw [eq_of_beq q]; rw [← Option.some.inj ed]; exact hc'
        · exact h y d ed
      · exact h y d ed
    · exact h y d ed
theorem clOf_has {env : Env} : ∀ (l : List (Str × NameKind)) (cs : List (Str × Addr)) (x : Str), ((∃ c, cs.lookup x = some c) ∨ ((x, NameKind.free) ∈ l ∧ ∃ c, env.cells.lookup x = some c)) → ∃ c, (clOf env l cs).lookup x = some c
  | [], cs, x, h => by
    rcases h with h | ⟨h, _⟩
    · exact h
    · cases h
  | (n, k) :: l, cs, x, h => by
    unfold clOf
    refine clOf_has l _ x ?_
    rcases h with ⟨c, h⟩ | ⟨h, c, hc⟩
    · left
      split
      · split
        · rename_i c' _
          rw [List.lookup_cons]
          split
          · exact ⟨_, rfl⟩
          · exact ⟨c, h⟩
        · exact ⟨c, h⟩
      · exact ⟨c, h⟩
    · rcases List.mem_cons.mp h with e | h
      · cases e
        left
        rw [if_pos (by rfl), hc]
        exact ⟨c, by simp [List.lookup_cons]⟩
      · exact .inr ⟨h, c, hc⟩

noncomputable def compCx (X : Cx) (N' : List Str) (scope : Scope) (C : Addr) (s₂ : Shared) (H₂ : Hp) (fp : List Addr) : Cx :=
  { X with N := N', s₀ := s₂, H₀ := H₂, env := compEnvC scope (clOf X.env scope.names []) C X.env, outer := X.stack, stack := X.stack, ex := fp, fn := fun _ => false, pn := [], xe := fun _ _ => False }
noncomputable def noEx {α : Type} : R α → R α
  | .ok a => .ok a
  | _ => .no
noncomputable def inner (ix : List Nat) (ρ : Ev) : Ev := none :: ix.map fun (i : Nat) => match ρ[i]? with
  | some (some (.val d)) => some (.val d)
  | _ => none
noncomputable def innerN (n : Nat) (ix : List Nat) (ρ : Ev) : Ev := List.replicate n none ++ ix.map fun (i : Nat) => match ρ[i]? with
  | some (some (.val d)) => some (.val d)
  | _ => none
noncomputable def compG (asg : D → Ev → R Ev) (gt : Ev → R Bool) (ge : Ev → R D) : List D → Ev → R (List D)
  | [], _ => .ok []
  | d :: ds, ρ => noEx (asg d ρ) >>= fun ρ1 => noEx (gt ρ1) >>= fun k => if k = true then noEx (ge ρ1) >>= fun x => compG asg gt ge ds ρ1 >>= fun xs => .ok (x :: xs) else compG asg gt ge ds ρ1
noncomputable def compD (gt : Ev → R Bool) (ge : Ev → R D) : List D → Ev → R (List D) := compG (setV 0) gt ge
theorem compG_noEx {asg : D → Ev → R Ev} {gt : Ev → R Bool} {ge : Ev → R D} : ∀ (ds : List D) (ρ : Ev), (∃ xs, compG asg gt ge ds ρ = .ok xs) ∨ compG asg gt ge ds ρ = .no
  | [], ρ => .inl ⟨[], rfl⟩
  | d :: ds, ρ => by
    unfold compG
    cases asg d ρ with
    | ok ρ1 =>
      simp only [noEx, R.ok_bind]
      cases gt ρ1 with
      | ok k =>
        simp only [noEx, R.ok_bind]
        cases k with
        | true =>
          simp only [if_true]
          cases ge ρ1 with
          | ok x =>
            simp only [noEx, R.ok_bind]
            rcases compG_noEx (asg := asg) ds ρ1 with ⟨xs, e⟩ | e
            · rw [e]; exact .inl ⟨_, rfl⟩
            · rw [e]; exact .inr rfl
          | ex C => exact .inr rfl
          | no => exact .inr rfl
        | false => simp only [Bool.false_eq_true, if_false]; exact compG_noEx ds _
      | ex C => exact .inr rfl
      | no => exact .inr rfl
    | ex C => exact .inr rfl
    | no => exact .inr rfl
noncomputable def gComp (gi : Ev → R (List D)) (ix : List Nat) (gt : Ev → R Bool) (ge : Ev → R D) : Ev → R (List D) := fun ρ => gi ρ >>= fun items => compD gt ge items (inner ix ρ) >>= fun ds => if ds.length ≤ sizeLine then .ok ds else .no
noncomputable def gCompT (n : Nat) (asg : D → Ev → R Ev) (gi : Ev → R (List D)) (ix : List Nat) (gt : Ev → R Bool) (ge : Ev → R D) : Ev → R (List D) := fun ρ => gi ρ >>= fun items => compG asg gt ge items (innerN n ix ρ) >>= fun ds => if ds.length ≤ sizeLine then .ok ds else .no
noncomputable def PTs (X : Cx) (ifs : List Expr) (gt : Ev → R Bool) : Prop := ∀ (pins : List (Addr × Obj)) (s : Shared) (σ : St) (H : Hp) (Q : Bool → Hp → Prop), Inv X pins σ H s → tTF X gt σ H Q →
  wpAny (model X.prog X.w) X.A (forIn ifs true fun c r => if r = true then do let ok ← isTrue c X.env (eval c X.env); pure (ForInStep.yield ok) else pure (ForInStep.yield r)) (TP X pins σ Q) X.xe s
theorem pts_nil {X : Cx} : PTs X [] (fun _ => .ok true) := by
  intro pins s σ H Q I h
  obtain ⟨G, ρ, st, h⟩ := h
  exact wpAny_pure ⟨H, I, h true G H (.refl st.sub) rfl⟩
theorem pts_one_0 {X : Cx} {c : Expr} {gt : Ev → R Bool} (h : QB X c gt) : PTs X [c] gt := fun pins s σ H Q I q => wpAny_tests_one (h pins s σ H Q I q)
theorem Un.sameBut {fs ex : List Addr} {H H' : Hp} {h h1 h2 : Heap} {C : Addr} (u : Un fs ex H H' h h1) (k : ∀ b o, b ≠ C → h1.get? b = some o → h2.get? b = some o) (hC : h.objs.size ≤ C) : Un fs ex H H' h h2 := by
  have ne : ∀ b o, h.get? b = some o → b ≠ C := fun b o e => Nat.ne_of_lt (Nat.lt_of_lt_of_le (Heap.lt_size e) hC)
  exact ⟨fun b o e n hb hx => k b o (ne b o e) (u.keep b o e n hb hx), fun b o e n hb hx => let ⟨sl, q⟩ := u.slot b o e n hb hx; ⟨sl, k b _ (ne b o e) q⟩, u.free, fun b o e hx => let ⟨o', q⟩ := u.there b o e hx; ⟨o', k b o' (ne b o e) q⟩, u.tups, u.frzs, u.tbls⟩
theorem HOk.sameBut {P : Program} {w : World} {H : Hp} {h h' : Heap} {C : Addr} (x : HOk P w H h) (k : ∀ b o, b ≠ C → h.get? b = some o → h'.get? b = some o) (hC : H C = none) : HOk P w H h' := fun a o e => by
  refine (x a o e).stay (fun b u hb q => k b u ?_ q) (fun _ z => z) (fun _ _ z => z)
  rcases hb with rfl | hb
  · exact ne_of_none e hC
  · exact ne_of_none hb hC
end L2
namespace L2
open PySem PySem.Spec PyProof.Rows
section
variable {X : Cx} {elt iter : Expr} {ifs : List Expr} {x : Str} {px pos : Pos} {scope : Scope} {N' : List Str} {ix : List Nat} {gi : Ev → R (List D)} {gt : Ev → R Bool} {ge : Ev → R D}
structure CompOk (X : Cx) (scope : Scope) (x : Str) (N' : List Str) (ix : List Nat) : Prop where
  kind : scope.kind = .function
  cell : ∀ y ∈ scope.names, y.2 ≠ .cell
  names : ∀ y ∈ scope.names, y.2 = .local → scope.names.lookup y.1 = some .local
  loc : scope.names.lookup x = some .local
  fr : ∀ y ∈ scope.names, y.2 = .free → X.env.kindOf y.1 = some .cell
  nd : N'.Nodup
  hd : N'[0]? = some x
  tl : N'.tail = ix.map fun (i : Nat) => X.N.getD i Str.empty
  lt : ∀ i ∈ ix, i < X.N.length
  fre : ∀ y ∈ N'.tail, scope.names.lookup y = some .free ∧ (y, NameKind.free) ∈ scope.names
structure CompOkT (X : Cx) (scope : Scope) (n : Nat) (N' : List Str) (ix : List Nat) : Prop where
  kind : scope.kind = .function
  cell : ∀ y ∈ scope.names, y.2 ≠ .cell
  names : ∀ y ∈ scope.names, y.2 = .local → scope.names.lookup y.1 = some .local
  fr : ∀ y ∈ scope.names, y.2 = .free → X.env.kindOf y.1 = some .cell
  le : n ≤ N'.length
  tl : N'.drop n = ix.map fun (i : Nat) => X.N.getD i Str.empty
  lt : ∀ i ∈ ix, i < X.N.length
  fre : ∀ y ∈ N'.drop n, scope.names.lookup y = some .free ∧ (y, NameKind.free) ∈ scope.names
theorem CompOk.t (ok : CompOk X scope x N' ix) : CompOkT X scope 1 N' ix :=
  ⟨ok.kind, ok.cell, ok.names, ok.fr, (List.getElem?_eq_some_iff.mp ok.hd).1, List.drop_one ▸ ok.tl, ok.lt, List.drop_one ▸ ok.fre⟩
theorem relabel_free {env : Env} (hk : env.scope.kind = .function) : ∀ {names : List (Str × NameKind)} {x : Str}, names.lookup x = some .free → env.kindOf x = some .cell →
    (names.map fun (n, k) => if (k == NameKind.free && env.scope.kind == .function && env.kindOf n == some .cell) then (n, NameKind.cell) else (n, k)).lookup x = some .cell
  | [], _, h, _ => by simp at h
  | (n, k) :: r, x, h, hc => by
    have ih := @relabel_free env hk r x
    show List.lookup x ((if (k == NameKind.free && env.scope.kind == .function && env.kindOf n == some .cell) = true then (n, NameKind.cell) else (n, k)) :: _) = _
    cases hx : x == n with
    | true =>
      simp only [List.lookup_cons, hx] at h
      cases h
      have e := eq_of_beq hx
      subst e
      rw [if_pos (by rw [hk, hc]; rfl)]
      simp [List.lookup_cons]
    | false =>
      simp only [List.lookup_cons, hx] at h
      by_cases hc' : (k == NameKind.free && env.scope.kind == .function && env.kindOf n == some .cell) = true
      · rw [if_pos hc']; simp only [List.lookup_cons, hx]; exact ih h hc
      · rw [if_neg hc']; simp only [List.lookup_cons, hx]; exact ih h hc
theorem inner_get {n : Nat} {ix : List Nat} {ρ : Ev} {j : Nat} {d : D} (h : (innerN n ix ρ)[j]? = some (some (.val d))) : ∃ k i, j = k + n ∧ ix[k]? = some i ∧ ρ[i]? = some (some (.val d)) := by
  unfold innerN at h
  by_cases hj : j < n
  · rw [List.getElem?_append_left (by simpa using hj), List.getElem?_replicate, if_pos hj] at h; cases h
  · rw [List.getElem?_append_right (by simpa using Nat.not_lt.1 hj), List.length_replicate, List.getElem?_map] at h
    cases e : ix[j - n]? with
    | none => rw [e] at h; cases h
    | some i =>
      rw [e] at h
      refine ⟨j - n, i, by omega, e, ?_⟩
      simp only [Option.map_some, Option.some.injEq] at h
      split at h
      · rename_i d' e'; cases h; exact e'
      · cases h
noncomputable def innerS (n : Nat) (ix : List Nat) (σ : St) : St := List.replicate n none ++ ix.map fun (i : Nat) => (σ[i]?).join
theorem inner_own {n : Nat} {ix : List Nat} {ρ : Ev} : NoOwn (innerN n ix ρ) := fun j x h => by
  unfold innerN at h
  by_cases hj : j < n
  · rw [List.getElem?_append_left (by simpa using hj), List.getElem?_replicate, if_pos hj] at h; cases h
  · rw [List.getElem?_append_right (by simpa using Nat.not_lt.1 hj), List.length_replicate, List.getElem?_map] at h
    cases e : ix[j - n]? with
    | none => rw [e] at h; cases h
    | some i =>
      rw [e] at h
      simp only [Option.map_some, Option.some.injEq] at h
      split at h
      · cases h; exact ⟨_, rfl⟩
      · cases h
theorem inner_st {K : PySem.W.Frag} {G H : Hp} {σ : St} {ρ : Ev} (st : StE K G H σ ρ) (n : Nat) (ix : List Nat) : StE K G H (innerS n ix σ) (innerN n ix ρ) := by
  refine ⟨st.sub, by simp [innerN, innerS], fun j d h => ?_, fun j m C p fs h => absurd h (NoOwn.obj inner_own j m C p fs)⟩
  obtain ⟨k, i, rfl, e1, e2⟩ := inner_get h
  obtain ⟨v, h1, h2⟩ := st.val i d e2
  refine ⟨v, ?_, h2⟩
  unfold innerS
  rw [List.getElem?_append_right (by simp), List.length_replicate, Nat.add_sub_cancel, List.getElem?_map, e1]
  simp [h1]
theorem comp_inv {pins : List (Addr × Obj)} {σ : St} {H : Hp} {s : Shared} {fp : List Addr} {h₁ : Heap} {tk : Nat} {m : Str → Option Value} {C : Addr} {H' : Hp} {n : Nat} (ok : CompOkT X scope n N' ix) (hcalm : X.calm = true) (I : Inv X pins σ H s) (hf : ∀ b ∈ fp, FpOk X pins H b) (hfl : ∀ b ∈ fp, b < s.heap.objs.size)
    (hC : s.heap.objs.size ≤ C) (hn : h₁.Ns C m) (old : ∀ b o, s.heap.get? b = some o → h₁.get? b = some o) (un : Un (frs X.stack) fp H H' s.heap h₁) (hok : HOk X.prog X.w H' h₁) (hfC : H' C = none) (hfc : ∀ c : Addr, c < s.heap.objs.size → H c = none → H' c = none) :
    Inv (compCx X N' scope C s H fp) [] (innerS n ix σ) H' { s with heap := h₁, toks := tk } := by
  have cl : ∀ y c, (clOf X.env scope.names []).lookup y = some c → X.env.cells.lookup y = some c := clOf_sub scope.names [] (fun y c h => by simp at h)
  have nlt : N'.length = n + ix.length := by
    have h1 := congrArg List.length ok.tl
    rw [List.length_drop, List.length_map] at h1
    have := ok.le
    omega
  refine ⟨⟨I.ok.mod, by show (relabel scope X.env).kind = _; exact ok.kind, I.ok.glob, I.ok.blt, hC, ?_, ?_, ?_, I.ok.hd, I.ok.frames, .inl rfl, ?_, I.bs, Nat.le_trans I.ok.bsz I.sz, ?_, ?_, I.stack, I.stkFree, I.ok.tabs.un I.base⟩, rfl, I.bare, un, ?_, ?_, hfC, ?_, ?_, hok, ?_⟩
  · intro y z c h1 h2
    exact I.ok.inj y z c (cl y c h1) (cl z c h2)
  · intro y hy
    have h1 : (y, NameKind.free) ∈ scope.names := by
      have hy' : (relabel scope X.env).names.lookup y = some .cell ∨ (relabel scope X.env).names.lookup y = some .free := hy
      have mem : ∀ k, (relabel scope X.env).names.lookup y = some k → (k = .cell ∨ k = .free) → (y, NameKind.free) ∈ scope.names := fun k e hk => by
        have hm := PySem.mem_of_lookup e
        obtain ⟨⟨n, k'⟩, hm1, hm2⟩ := List.mem_map.mp hm
        dsimp only at hm2
        split at hm2
        · rename_i hc
          cases hm2
          have : k' = .free := by
            have := (Bool.and_eq_true _ _ ▸ (Bool.and_eq_true _ _ ▸ hc).1).1
            simpa using this
          rw [← this]; exact hm1
        · cases hm2
          rcases hk with rfl | rfl
          · exact absurd rfl (ok.cell _ hm1)
          · exact hm1
      rcases hy' with h | h
      · exact mem _ h (.inl rfl)
      · exact mem _ h (.inr rfl)
    have hc := I.ok.has y (.inl (ok.fr _ h1 rfl))
    exact clOf_has scope.names [] y (.inr ⟨h1, hc⟩)
  · intro y c hfn; cases hfn
  · intro b hb
    obtain ⟨f0, f1, f2, f3, f4, f5⟩ := hf b hb
    exact ⟨fun z => absurd (hfl b hb) (by rw [z]; exact Nat.not_lt.mpr hC), fun y c h => f4 y c (cl y c h)⟩
  · intro b o e hb
    obtain ⟨f0, f1, f2, f3, f4, f5⟩ := hf b hb
    rcases f3 with f3 | f3
    · exact I.ok.noex b o e f3
    · exact absurd (Heap.lt_size (I.ok.bs b o e).1) (Nat.not_lt.mpr f3)
  · intro b hb hb'
    obtain ⟨f0, f1, f2, f3, f4, f5⟩ := hf b hb
    rcases List.mem_cons.mp (I.stkSub b hb') with e | e
    · exact f1 e
    · exact f2 e
  · refine ⟨m, hn, fun i y v h1 h2 h3 => ?_⟩
    have h1 : N'[i]? = some y := h1
    have h2 : (innerS n ix σ)[i]? = some (some v) := h2
    by_cases hi : i < n
    · unfold innerS at h2
      rw [List.getElem?_append_left (by simpa using hi), List.getElem?_replicate, if_pos hi] at h2; cases h2
    · unfold innerS at h2
      rw [List.getElem?_append_right (by simpa using Nat.not_lt.1 hi), List.length_replicate, List.getElem?_map] at h2
      cases e : ix[i - n]? with
      | none => rw [e] at h2; cases h2
      | some i0 =>
        rw [e] at h2
        have h2' : σ[i0]? = some (some v) := by
          cases q : σ[i0]? with
          | none => rw [Option.map_some, q] at h2; cases h2
          | some z => rw [Option.map_some, q] at h2; have := Option.some.inj h2; rw [← this]; rfl
        have ht : (N'.drop n)[i - n]? = some y := by rw [List.getElem?_drop, Nat.add_sub_cancel' (Nat.not_lt.1 hi)]; exact h1
        have hy : X.N[i0]? = some y := by
          have ht2 := ht
          rw [ok.tl, List.getElem?_map, e] at ht2
          have hl := ok.lt i0 (List.mem_of_getElem? e)
          have q := Option.some.inj ht2
          rw [List.getElem?_eq_getElem hl]
          rw [← q]
          show some X.N[i0] = some (X.N.getD i0 Str.empty)
          rw [List.getD_eq_getElem?_getD, List.getElem?_eq_getElem hl]
          rfl
        obtain ⟨fr1, fr2⟩ := ok.fre y (List.mem_of_getElem? ht)
        have kc := ok.fr _ fr2 rfl
        obtain ⟨m0, hn0, hl⟩ := I.loc
        obtain ⟨u, ru, lk⟩ := hl i0 y v hy h2' (.inr (.inl kc))
        refine ⟨u, ru, .inr ⟨.inl (relabel_free I.ok.kind fr1 kc), ?_⟩⟩
        rcases lk with ⟨z, _⟩ | ⟨_, c, hc, hcell⟩
        · rw [kc] at z; cases z
        · obtain ⟨c', hc'⟩ := clOf_has scope.names [] y (.inr ⟨fr2, c, hc⟩)
          have := cl y c' hc'
          rw [hc] at this
          cases this
          exact ⟨c, hc', hcell.keeps old⟩
  · intro y c h
    obtain ⟨v, q⟩ := I.cell y c (cl y c h)
    exact ⟨v, q.keeps old⟩
  · intro y c h
    obtain ⟨v, q⟩ := I.cell y c (cl y c h)
    exact hfc c q.lt (I.freeC y c (cl y c h))
  · intro p hp
    exact absurd (show p ∈ ([] : List (Addr × Obj)) from hp) (by simp)
  · show (innerS n ix σ).length = N'.length
    rw [nlt]; simp [innerS]

theorem compLoop_L {prog : Program} {w : World} {A : Around} {R' : Result → Shared → Prop} {s : Shared} {elt target iter : Expr} {ifs : List Expr} {scope : Scope} {pos : Pos} {it acc : Value} {env : Env} (I : Nat → Shared → Prop)
    (turn : ∀ n s, I n s → wpAny (model prog w) A (pyNext it) (fun r s₁ => match r with
      | none => R' (.ok .next) s₁
      | some v => wpAny (model prog w) A (letOwnedTupleGo target it v) (fun _ s₁' => wpAny (model prog w) A (assign target env v) (fun _ s₂ =>
          wpAny (model prog w) A (forIn ifs true fun c r => if r = true then do let ok ← isTrue c env (eval c env); pure (ForInStep.yield ok) else pure (ForInStep.yield r)) (fun ok s₃ =>
            if ok = true then wpAny (model prog w) A (eval elt env) (fun x s₄ =>
              wpAny (model prog w) A (call (.builtin "list.append") [acc, x]) (fun _ s₅ => ∃ m, m < n ∧ I m s₅) (fun _ _ => False) s₄) (fun _ _ => False) s₃
            else ∃ m, m < n ∧ I m s₃) (fun _ _ => False) s₂) (fun _ _ => False) s₁') (fun _ _ => False) s₁) (fun _ _ => False) s)
    (n : Nat) (h : I n s) :
    codeAny (model prog w) A (.compLoop (.ListComp elt [⟨target, iter, ifs, 0⟩] scope pos) 0 it acc env) R' s := by
  refine codeAny_loop rfl I (fun n s hI => ?_) n h
  show wpAny _ A ((compTurn (.ListComp elt [⟨target, iter, ifs, 0⟩] scope pos) 0 it acc env).onRaise (fun x => do noteFrame x env; theTreesLotGoes x)) _ _ s
  refine wpAny_noted ?_
  rw [compTurn_list]
  refine wpAny_bind (wpAny_standAt (wpAny_bind (wpAny_mono (turn n s hI) (fun r s₁ h₁ => ?_) fun _ _ z => z.elim)))
  cases r with
  | none => exact wpAny_pure h₁
  | some v =>
    refine wpAny_bind (wpAny_mono h₁ (fun _ s₁' h₁' => ?_) fun _ _ z => z.elim)
    refine wpAny_bind (wpAny_mono h₁' (fun _ s₂ h₂ => wpAny_bind (wpAny_mono h₂ (fun ok s₃ h₃ => ?_) fun _ _ z => z.elim)) fun _ _ z => z.elim)
    cases ok with
    | false => exact wpAny_pure ⟨rfl, h₃⟩
    | true =>
      exact wpAny_bind (wpAny_bind (wpAny_mono h₃ (fun x s₄ h₄ => wpAny_bind (wpAny_mono h₄ (fun _ s₅ h₅ => wpAny_pure (wpAny_pure ⟨rfl, h₅⟩)) fun _ _ z => z.elim)) fun _ _ z => z.elim))

theorem setV_own {i : Nat} : ∀ d ρ ρ', setV i d ρ = .ok ρ' → NoOwn ρ → NoOwn ρ' := by
  intro d ρ ρ' e h j x q
  have e' : ρ.set i (some (.val d)) = ρ' := R.ok.inj e
  rw [← e', List.getElem?_set] at q
  split at q
  · split at q
    · cases q; exact ⟨d, rfl⟩
    · cases q
  · exact h j x q
theorem comp_blockT_0 {tgt : Expr} {asg : D → Ev → R Ev} {n : Nat} {pins : List (Addr × Obj)} {σ : St} {H : Hp} {s : Shared} {it : Addr} {fp : List Addr} {tn : Nat → Heap → Prop} {J : It} {G : Hp} {ρ : Ev} {items : List D} {Q : VK} {RR : Value → Addr → Result → Shared → Prop} {E : Value → Shared → Prop} (ok : CompOkT X scope n N' ix) (hcalm : X.calm = true) (hg : ∀ C s₂ H₂ fp, PGF (compCx X N' scope C s₂ H₂ fp) tgt asg) (hown : ∀ d ρ ρ', asg d ρ = .ok ρ' → (NoOwn ρ) → NoOwn ρ')
    (he : ∀ C s₂ H₂ fp, QF (compCx X N' scope C s₂ H₂ fp) elt ge) (ht : ∀ C s₂ H₂ fp, PTs (compCx X N' scope C s₂ H₂ fp) ifs gt)
    (I : Inv X pins σ H s) (T : Turn X.prog X.w X.K tgt J fp it tn) (st0 : tn 0 s.heap) (hf : ∀ b ∈ fp, FpOk X pins H b) (st : StE X.K G H σ ρ) (hi : ItOk X.K G J items)
    (h : (compG asg gt ge items (innerN n ix ρ) >>= fun ds => if ds.length ≤ sizeLine then R.ok ds else .no).post (FinL X.K G H Q) (Exx X σ G H))
    (hR : ∀ (Dd C : Addr) (s' : Shared) (m : Str → Option Value) (vs : List V) (G' H' : Hp), Up G H G' H' → H' Dd = none → C ≠ Dd → (∀ ds, Reps X.K G' vs ds → True) → Q (.ref Dd) (upd H' Dd (.lst vs)) → s'.heap.Ns C m → s'.os = s.os → AllBare s'.gens → H' C = none → s.heap.objs.size ≤ C →
      Un (frs X.stack) fp H (upd H' Dd (.lst vs)) s.heap s'.heap → HOk X.prog X.w (upd H' Dd (.lst vs)) s'.heap → RR (.ref Dd) C (.ok .next) s') :
    wpAny (model X.prog X.w) X.A (newList []) (fun acc s₃ => wpAny (model X.prog X.w) X.A (newFunctionEnv scope X.env.globals (clOf X.env scope.names []) [] X.env.qual none .none (some X.env)) (fun cenv s₄ =>
      codeAny (model X.prog X.w) X.A (.compStart (.ListComp elt [⟨tgt, iter, ifs, 0⟩] scope pos) 0 (.ref it) acc { cenv with scope := relabel scope X.env }) (RR acc cenv.locals) s₄) E s₃) E s := by
  have hfl : ∀ b ∈ fp, b < s.heap.objs.size := fun b hb => let ⟨o, e, _⟩ := T.obj 0 s.heap st0 b hb; Heap.lt_size e
  refine wpAny_newObj_type (wpAny_newFunctionEnv ok.cell (by intro y hy; simp at hy) (fun h₁ hns₁ hsb₁ => ?_) ok.kind)
  dsimp only at hns₁ hsb₁ ⊢
  generalize hH2 : s.heap.push { cls := .type "list", dict := none, data := .seq ([] : List Value).toArray } = Hq at hns₁ hsb₁ ⊢
  have hC : Hq.objs.size = s.heap.objs.size + 1 := by rw [← hH2, Heap.size_push]
  have hDC : s.heap.objs.size ≠ Hq.objs.size := by rw [hC]; exact Nat.ne_of_lt (Nat.lt_succ_self _)
  have hCle : s.heap.objs.size ≤ Hq.objs.size := by rw [hC]; exact Nat.le_succ _
  have old : ∀ b o, s.heap.get? b = some o → h₁.get? b = some o := fun b o e =>
    hsb₁.extBut b o (by rw [hC]; exact Nat.ne_of_lt (Nat.lt_succ_of_lt (Heap.lt_size e))) (Heap.get?_push_of_some _ (hH2 ▸ Heap.get?_push_of_some _ e))
  have hacc : h₁.get? s.heap.objs.size = some { cls := .type "list", data := .seq ([] : List Value).toArray } := hsb₁.extBut _ _ hDC (Heap.get?_push_of_some _ (hH2 ▸ Heap.get?_push_size _ rfl))
  have hD0 : H s.heap.objs.size = none := I.fresh
  have hC0 : H Hq.objs.size = none := I.hok.fresh hCle
  have st0' : tn 0 h₁ := T.keep 0 _ _ st0 fun b hb o e => old b o e
  -- the block's state at its beginning
  have I0 : ∀ tk, Inv (compCx X N' scope Hq.objs.size s H fp) [] (innerS n ix σ) (upd H s.heap.objs.size (.lst [])) { s with heap := h₁, toks := tk } := fun tk => by
    refine comp_inv ok hcalm I hf hfl hCle hns₁ old (Un.laid old (Nat.le_refl _) hD0) (I.hok.laid old (Nat.le_refl _) ⟨Nat.zero_le _, [], 0, .nil, hacc⟩) (by rw [upd_ne hDC.symm]; exact hC0) fun c hc e => ?_
    rw [upd_ne (Nat.ne_of_lt hc)]; exact e
  have loop : ∀ tk, codeAny (model X.prog X.w) X.A (.compLoop (.ListComp elt [⟨tgt, iter, ifs, 0⟩] scope pos) 0 (.ref it) (.ref s.heap.objs.size) (compEnvC scope (clOf X.env scope.names []) Hq.objs.size X.env))
      (RR (.ref s.heap.objs.size) Hq.objs.size) { s with heap := h₁, toks := tk } := fun tk => by
    have fpk : ∀ {pins' : List (Addr × Obj)} {σ' : St} {H' : Hp} {s' : Shared}, Inv (compCx X N' scope Hq.objs.size s H fp) pins' σ' H' s' → pins' = [] → (∀ b ∈ fp, H' b = none) → ∀ b ∈ fp, FpOk (compCx X N' scope Hq.objs.size s H fp) pins' H' b := fun I' e hn b hb =>
      ⟨hn b hb, (I'.ok.exf b hb).1, I'.ok.exfs b hb, .inl hb, (I'.ok.exf b hb).2, by subst e; intro p hp; exact absurd (show p ∈ ([] : List (Addr × Obj)) from hp) (by simp)⟩
    refine compLoop_L (fun nn s' => ∃ (i : Nat) (σ' : St) (G' H' : Hp) (ρ' : Ev) (vs : List V) (ys : List D), nn = items.length - i ∧ i ≤ items.length ∧ Inv (compCx X N' scope Hq.objs.size s H fp) [] σ' H' s' ∧ tn i s'.heap ∧ (∀ b ∈ fp, H' b = none) ∧
      H' s.heap.objs.size = some (.lst vs) ∧ G' s.heap.objs.size = none ∧ Up G H G' H' ∧ StE X.K G' H' σ' ρ' ∧ (NoOwn ρ') ∧ Reps X.K G' vs ys ∧
      (compG asg gt ge (items.drop i) ρ' >>= fun zs => if (ys ++ zs).length ≤ sizeLine then R.ok (ys ++ zs) else .no).post (FinL X.K G H Q) (Exx X σ G H)) ?_ items.length
      ⟨0, innerS n ix σ, G, upd H s.heap.objs.size (.lst []), innerN n ix ρ, [], [], by simp, Nat.zero_le _, I0 tk, st0', fun b hb => by rw [upd_ne (Nat.ne_of_lt (hfl b hb))]; exact (hf b hb).1, upd_same, st.sub.free hD0,
        ⟨fun a o e => by rw [upd_ne (ne_of_none e (st.sub.free hD0))]; exact st.sub a o e, .refl _, .into hD0, fun _ _ e => .inl e⟩,
        ⟨fun a o e => by rw [upd_ne (ne_of_none e (st.sub.free hD0))]; exact st.sub a o e, (inner_st st n ix).len, (inner_st st n ix).val, fun j m C p fs h => absurd h (NoOwn.obj inner_own j m C p fs)⟩, inner_own, .nil, by simpa using h⟩
    rintro nn s' ⟨i, σ', G', H', ρ', vs, ys, rfl, hil, I', tn', fr', hD', gD', up', st', no', rp', h'⟩
    have hIt := hi i G' H' up'.gg st'.sub
    by_cases hlt : i < items.length
    · -- a turn
      have hd : items.drop i = items[i] :: items.drop (i + 1) := List.drop_eq_getElem_cons hlt
      rw [hd] at h'
      obtain ⟨go, yl⟩ := hIt.1 items[i] (by simp [hlt])
      refine wpAny_mono (T.item (compCx X N' scope Hq.objs.size s H fp) rfl rfl rfl hcalm i [] s' σ' H' (fun _ _ => False) I' (fpk I' rfl fr') tn' go) (fun r s1 ⟨u, hr, h1⟩ => ?_) fun _ _ z => z
      subst hr
      refine wpAny_mono h1 (fun _ s2 ⟨x2, H2, I2, r2, y2, tn2, fr2⟩ => ?_) fun _ _ z => z
      obtain ⟨G2, up2, rep2⟩ := yl x2 H2 y2
      have I2p := I2.pinned (fpk I2 rfl fr2) (T.obj _ _ tn2)
      have st2 : StE X.K G2 H2 σ' ρ' := st'.up up2
      have sr2 : StR X.K G2 H2 G2 H2 σ' ρ' := ⟨st2, up2.sub, .refl up2.sub, fun j ds e => absurd e (no'.own j ds), fun j k ds es l e => absurd e (no'.own j ds), no'.ob⟩
      have ea : ∃ ρ1, asg items[i] ρ' = .ok ρ1 := by
        unfold compG at h'
        cases q : asg items[i] ρ' with
        | ok k => exact ⟨k, rfl⟩
        | ex C => rw [q] at h'; exact h'.elim
        | no => rw [q] at h'; exact h'.elim
      obtain ⟨ρ1, ea⟩ := ea
      unfold compG at h'
      rw [ea] at h'
      simp only [noEx, R.ok_bind] at h'
      refine wpAny_mono (hg Hq.objs.size s H fp _ s2 σ' H2 x2 u (fun σ3 H3 => H3 = H2 ∧ StR X.K G2 H2 G2 H2 σ3 ρ1) I2p r2
        ⟨G2, H2, G2, ρ', items[i], _, sr2, rep2, ea, fun σ3 q => ⟨rfl, q⟩⟩) (fun _ s3 ⟨σ3, H3, I3, e3, sr3⟩ => ?_) fun _ _ z => z
      subst e3
      have no3 := hown _ _ _ ea no'
      have hD2 : H3 s.heap.objs.size = some (.lst vs) := up2.hh _ _ hD'
      have gD2 : G2 s.heap.objs.size = none := by
        cases q : G2 s.heap.objs.size with
        | none => rfl
        | some o =>
          rcases up2.fr _ _ q with z | z
          · rw [gD'] at z; cases z
          · rw [hD'] at z; cases z
      -- the tests
      have ek : ∃ k, gt ρ1 = .ok k := by
        cases q : gt ρ1 with
        | ok k => exact ⟨k, rfl⟩
        | ex C => rw [q] at h'; exact h'.elim
        | no => rw [q] at h'; exact h'.elim
      obtain ⟨k, ek⟩ := ek
      rw [ek] at h'
      simp only [noEx, R.ok_bind] at h'
      refine wpAny_mono (ht Hq.objs.size s H fp _ s3 σ3 H3 (fun b H4 => b = k ∧ ∃ G4, Up G2 H3 G4 H4) I3 ⟨G2, _, sr3.e, by rw [ek]; exact fun b G4 H4 u4 e4 => ⟨e4, G4, u4⟩⟩) (fun b s4 ⟨H4, I4, eb, G4, up4⟩ => ?_) fun _ _ z => z
      subst eb
      have next : ∀ {H7 : Hp} {s7 : Shared} {G7 : Hp} {vs7 : List V} {ys7 : List D}, Inv (compCx X N' scope Hq.objs.size s H fp) ([] ++ pinsAt fp s2.heap) σ3 H7 s7 → H7 s.heap.objs.size = some (.lst vs7) → G7 s.heap.objs.size = none → Up G H G7 H7 → StE X.K G7 H7 σ3 ρ1 → Reps X.K G7 vs7 ys7 →
          (compG asg gt ge (items.drop (i + 1)) ρ1 >>= fun zs => if (ys7 ++ zs).length ≤ sizeLine then R.ok (ys7 ++ zs) else .no).post (FinL X.K G H Q) (Exx X σ G H) →
          ∃ m, m < items.length - i ∧ ∃ (i : Nat) (σ' : St) (G' H' : Hp) (ρ' : Ev) (vs : List V) (ys : List D), m = items.length - i ∧ i ≤ items.length ∧ Inv (compCx X N' scope Hq.objs.size s H fp) [] σ' H' s7 ∧ tn i s7.heap ∧ (∀ b ∈ fp, H' b = none) ∧
            H' s.heap.objs.size = some (.lst vs) ∧ G' s.heap.objs.size = none ∧ Up G H G' H' ∧ StE X.K G' H' σ' ρ' ∧ (NoOwn ρ') ∧ Reps X.K G' vs ys ∧
            (compG asg gt ge (items.drop i) ρ' >>= fun zs => if (ys ++ zs).length ≤ sizeLine then R.ok (ys ++ zs) else .no).post (FinL X.K G H Q) (Exx X σ G H) := fun {H7 s7 G7 vs7 ys7} I7 hD7 gD7 up7 st7 rp7 h7 => by
        have pin : ∀ b ∈ fp, ∀ o, s2.heap.get? b = some o → s7.heap.get? b = some o ∧ H7 b = none := fun b hb o e => by
          have := I7.pin (b, o) (List.mem_append_right _ (List.mem_append_right _ (mem_pinsAt hb e)))
          exact ⟨this.1, this.2.1⟩
        refine ⟨items.length - (i + 1), by omega, i + 1, σ3, G7, H7, _, vs7, ys7, rfl, hlt, I7.unpinned, T.keep _ _ _ tn2 fun b hb o e => (pin b hb o e).1, fun b hb => ?_, hD7, gD7, up7, st7, no3, rp7, h7⟩
        obtain ⟨o, e, _⟩ := T.obj _ _ tn2 b hb
        exact (pin b hb o e).2
      have hD4 : H4 s.heap.objs.size = some (.lst vs) := up4.hh _ _ hD2
      have gD4 : G4 s.heap.objs.size = none := by
        cases q : G4 s.heap.objs.size with
        | none => rfl
        | some o =>
          rcases up4.fr _ _ q with z | z
          · rw [gD2] at z; cases z
          · rw [hD2] at z; cases z
      cases b with
      | false =>
        simp only [Bool.false_eq_true, if_false] at h' ⊢
        exact next I4 hD4 gD4 ((up'.trans up2).trans up4) (sr3.e.up up4) ((rp'.mono up2.gg).mono up4.gg) h'
      | true =>
        simp only [if_true] at h' ⊢
        have ex : ∃ y, ge ρ1 = .ok y := by
          cases q : ge ρ1 with
          | ok y => exact ⟨y, rfl⟩
          | ex C => rw [q] at h'; exact h'.elim
          | no => rw [q] at h'; exact h'.elim
        obtain ⟨y, ey⟩ := ex
        rw [ey] at h'
        simp only [noEx, R.ok_bind] at h'
        refine wpAny_mono (he Hq.objs.size s H fp _ s4 σ3 H4 (fun v H5 => ∃ G5, Up G4 H4 G5 H5 ∧ Rep X.K G5 v y) I4 ⟨G4, _, sr3.e.up up4, by rw [ey]; exact fun v G5 H5 u5 r5 => ⟨G5, u5, r5⟩⟩) (fun u5 s5 ⟨v5, H5, I5, r5, G5, up5, rep5⟩ => ?_) fun _ _ z => z
        have hD5 : H5 s.heap.objs.size = some (.lst vs) := up5.hh _ _ hD4
        have gD5 : G5 s.heap.objs.size = none := by
          cases q : G5 s.heap.objs.size with
          | none => rfl
          | some o =>
            rcases up5.fr _ _ q with z | z
            · rw [gD4] at z; cases z
            · rw [hD4] at z; cases z
        have ups := ((up'.trans up2).trans up4).trans up5
        rcases compG_noEx (asg := asg) (gt := gt) (ge := ge) (items.drop (i + 1)) ρ1 with ⟨zs, ez⟩ | ez
        · rw [ez] at h'
          simp only [R.ok_bind] at h'
          have hz : (ys ++ y :: zs).length ≤ sizeLine := by
            by_cases hz : (ys ++ y :: zs).length ≤ sizeLine
            · exact hz
            · rw [if_neg hz] at h'; exact h'.elim
          have hvl : vs.length < sizeLine := by
            rw [rp'.length]
            rw [List.length_append, List.length_cons] at hz
            omega
          refine wpAny_mono (mt_append (X := compCx X N' scope Hq.objs.size s H fp) _ s5 σ3 H5 (.ref s.heap.objs.size) [v5] (.ref s.heap.objs.size) [u5] (fun _ H6 => H6 = upd H5 s.heap.objs.size (.lst (vs ++ [v5]))) I5 rfl (.cons r5 .nil)
            ⟨_, vs, v5, rfl, rfl, hD5, hvl, rfl⟩) (fun _ s6 ⟨_, H6, I6, _, e6⟩ => ?_) fun _ _ z => z
          subst e6
          have sub6 : Same G5 (upd H5 s.heap.objs.size (.lst (vs ++ [v5]))) := fun a o e => by rw [upd_ne (ne_of_none e gD5)]; exact up5.sub a o e
          refine next I6 upd_same gD5 ⟨sub6, ups.gg, fun a o e => ?_, ups.fr⟩ ?_ (ys7 := ys ++ [y]) ((((rp'.mono up2.gg).mono up4.gg).mono up5.gg).append (.cons rep5 .nil)) ?_
          · rw [upd_ne (ne_of_none e hD0)]; exact ups.hh a o e
          · exact ⟨sub6, ((sr3.e.up up4).up up5).len, ((sr3.e.up up4).up up5).val, fun j m C p fs h => absurd h (no3.obj j m C p fs)⟩
          · rw [ez]
            simp only [R.ok_bind, List.append_assoc, List.singleton_append]
            exact h'
        · rw [ez] at h'; exact h'.elim
    · -- the end
      have hie : i = items.length := by omega
      subst hie
      rw [List.drop_length] at h'
      unfold compG at h'
      simp only [R.ok_bind, List.append_nil] at h'
      refine wpAny_mono (T.done (compCx X N' scope Hq.objs.size s H fp) rfl rfl rfl hcalm items.length [] s' σ' H' (fun _ _ => False) I' (fpk I' rfl fr') tn' (hIt.2 (Nat.le_refl _))) (fun r s1 ⟨hr, I1⟩ => ?_) fun _ _ z => z
      subst hr
      have hz : ys.length ≤ sizeLine := by
        by_cases hz : ys.length ≤ sizeLine
        · exact hz
        · rw [if_neg hz] at h'; exact h'.elim
      rw [if_pos hz] at h'
      have eH : upd (fun a => if a = s.heap.objs.size then none else H' a) s.heap.objs.size (.lst vs) = H' := by
        funext a
        unfold upd
        by_cases e : a = s.heap.objs.size
        · subst e; rw [if_pos rfl]; exact hD'.symm
        · rw [if_neg e]
          show (if a = s.heap.objs.size then none else H' a) = _
          rw [if_neg e]
      have hn : (fun a => if a = s.heap.objs.size then none else H' a) s.heap.objs.size = none := by simp
      have upn : Up G H G' (fun a => if a = s.heap.objs.size then none else H' a) := by
        refine ⟨fun a o e => ?_, up'.gg, fun a o e => ?_, up'.fr⟩
        · have : a ≠ s.heap.objs.size := ne_of_none e gD'
          simp only [this, if_false]; exact up'.sub a o e
        · have : a ≠ s.heap.objs.size := ne_of_none e hD0
          simp only [this, if_false]; exact up'.hh a o e
      obtain ⟨m1, hm1, _⟩ := I1.loc
      refine hR s.heap.objs.size Hq.objs.size s1 m1 vs G' _ upn hn hDC.symm (fun _ _ => trivial) (h' _ vs G' _ upn hn rp') hm1 I1.os I1.bare ?_ hCle (by rw [eH]; exact I1.base) (by rw [eH]; exact I1.hok)
      have := I1.free
      show (if Hq.objs.size = s.heap.objs.size then none else H' Hq.objs.size) = none
      rw [if_neg hDC.symm]; exact this
  exact codeAny_compStart_list (loop _) (T.self X.A 0 _ _ _ st0' (loop _))

theorem comp_block_0 {pins : List (Addr × Obj)} {σ : St} {H : Hp} {s : Shared} {it : Addr} {fp : List Addr} {tn : Nat → Heap → Prop} {J : It} {G : Hp} {ρ : Ev} {items : List D} {Q : VK} {RR : Value → Addr → Result → Shared → Prop} {E : Value → Shared → Prop} (ok : CompOk X scope x N' ix) (hcalm : X.calm = true)
    (he : ∀ C s₂ H₂ fp, QF (compCx X N' scope C s₂ H₂ fp) elt ge) (ht : ∀ C s₂ H₂ fp, PTs (compCx X N' scope C s₂ H₂ fp) ifs gt)
    (I : Inv X pins σ H s) (T : Turn X.prog X.w X.K (.Name x px) J fp it tn) (st0 : tn 0 s.heap) (hf : ∀ b ∈ fp, FpOk X pins H b) (st : StE X.K G H σ ρ) (hi : ItOk X.K G J items)
    (h : (compD gt ge items (inner ix ρ) >>= fun ds => if ds.length ≤ sizeLine then R.ok ds else .no).post (FinL X.K G H Q) (Exx X σ G H))
    (hR : ∀ (Dd C : Addr) (s' : Shared) (m : Str → Option Value) (vs : List V) (G' H' : Hp), Up G H G' H' → H' Dd = none → C ≠ Dd → (∀ ds, Reps X.K G' vs ds → True) → Q (.ref Dd) (upd H' Dd (.lst vs)) → s'.heap.Ns C m → s'.os = s.os → AllBare s'.gens → H' C = none → s.heap.objs.size ≤ C →
      Un (frs X.stack) fp H (upd H' Dd (.lst vs)) s.heap s'.heap → HOk X.prog X.w (upd H' Dd (.lst vs)) s'.heap → RR (.ref Dd) C (.ok .next) s') :
    wpAny (model X.prog X.w) X.A (newList []) (fun acc s₃ => wpAny (model X.prog X.w) X.A (newFunctionEnv scope X.env.globals (clOf X.env scope.names []) [] X.env.qual none .none (some X.env)) (fun cenv s₄ =>
      codeAny (model X.prog X.w) X.A (.compStart (.ListComp elt [⟨.Name x px, iter, ifs, 0⟩] scope pos) 0 (.ref it) acc { cenv with scope := relabel scope X.env }) (RR acc cenv.locals) s₄) E s₃) E s :=
  comp_blockT_0 (n := 1) (asg := setV 0) ok.t hcalm (fun C s₂ H₂ fp => pgf_name (X := compCx X N' scope C s₂ H₂ fp) (pos := px) 0 ok.nd ok.hd (.inl (lookup_relabel_local ok.loc)) (.inr (lookup_relabel_local ok.loc))) setV_own he ht I T st0 hf st hi h hR

theorem pfl_comp_0 (ok : CompOk X scope x N' ix) (hcalm : X.calm = true) (hi : QIF X (.Name x px) iter gi) (he : ∀ C s₂ H₂ fp, QF (compCx X N' scope C s₂ H₂ fp) elt ge) (ht : ∀ C s₂ H₂ fp, PTs (compCx X N' scope C s₂ H₂ fp) ifs gt)
    (hs : ∀ x, foldedSetIterable iter X.env x = pure x := by intro _; rfl) : QFL X (.ListComp elt [⟨.Name x px, iter, ifs, 0⟩] scope pos) (gComp gi ix gt ge) := by
  intro pins s σ H Q I h
  obtain ⟨G, ρ, st, h⟩ := h
  rw [eval_ListComp]
  refine wpAny_comprehension_free (use := none) rfl hs (closureFor_eq fun y hy hy2 => I.ok.has y.1 (.inl (ok.fr y hy hy2))) ok.kind ok.names ?_
  have t : tG X (fun G J items => ItOk X.K G J items) gi σ H (fun J H1 => ∃ G1 items, Up G H G1 H1 ∧ StE X.K G1 H1 σ ρ ∧ ItOk X.K G1 J items ∧ (compD gt ge items (inner ix ρ) >>= fun ds => if ds.length ≤ sizeLine then R.ok ds else .no).post (FinL X.K G H Q) (Exx X σ G H)) := by
    refine ⟨G, ρ, st, ?_⟩
    unfold gComp at h
    cases e : gi ρ with
    | ok items => rw [e] at h; exact fun J G1 H1 u r => ⟨G1, items, u, st.up u, r, h⟩
    | ex C => rw [e] at h; exact h
    | no => rw [e] at h; exact h
  refine thn (hi pins s σ H _ I t) fun v s1 h1 => thn h1 fun itv s2 h2 => ?_
  obtain ⟨it, fp, tn, J, H2, e, I2, T, st2, f2, G2, items, u2, sE2, iok, h2⟩ := h2
  subst e
  have h2' : (compD gt ge items (inner ix ρ) >>= fun ds => if ds.length ≤ sizeLine then R.ok ds else .no).post (FinL X.K G2 H2 Q) (Exx X σ G2 H2) :=
    h2.mono (fun ds q l vs G' H' u hl r => q l vs G' H' (u2.trans u) hl r) fun C q => q.up u2
  refine comp_block_0 (iter := iter) (pos := pos) (RR := fun acc C => compPost (model X.prog X.w) X.A X.xe none (EP X pins σ Q) acc C) ok hcalm he ht I2 T st2 f2 sE2 iok h2' ?_
  intro Dd C s' m vs G' H' up hd hCD _ q hm hos hb hC hCl un hok
  refine ⟨m, hm, fun h' hs' => ?_⟩
  have I3 := I2.call' (H' := upd H' Dd (.lst vs)) (s' := { s' with heap := h' }) (ch := fp) hos (un.sameBut (fun b o hbc e => hs'.extBut b o hbc e) hCl) (hok.sameBut (fun b o hbc e => hs'.extBut b o hbc e) (by rw [upd_ne hCD]; exact hC)) hb fun b hb' => by
    obtain ⟨f0, f1, f2', f3, f4, f5⟩ := f2 b hb'
    exact ⟨f3, f1, f4, f5⟩
  exact ⟨.ref Dd, _, I3, rfl, q⟩
end
end L2
namespace L2
open PySem PySem.Spec PyProof.Rows
inductive O where
  | nx (ρ : Ev) | rt (d : D) | re (d : D) (ρ : Ev) | bk (ρ : Ev) | ct (ρ : Ev) | ex (C : Addr) (ρ : Ev) | no
noncomputable def FlyS (X : Cx) (G₀ H₀ : Hp) (ρ : Ev) (C : Addr) (e : Value) (s' : Shared) : Prop := ∃ σ H₁ pins s₁ a, e = .ref a ∧ Inv X pins σ H₁ s₁ ∧
  ((∃ G₁ h' vs, StR X.K G₀ H₀ G₁ H₁ σ ρ ∧ Heap.MadeExcOf s₁.heap h' a (.ref C) vs ∧ s' = { s₁ with heap := h' }) ∨ (∃ G' H', Flown X.prog X.w X.stack H₁ s₁ a C H' s' ∧ StR X.K G₀ H₀ G' H' σ ρ) ∨
    ∃ G' H' L, X.env.frame = some L ∧ FlownH X pins L H₁ s₁ a C H' s' ∧ StR X.K G₀ H₀ G' H' σ ρ)
theorem FlyS.of {X : Cx} {G₀ H₀ G₁ H₁ : Hp} {σ : St} {ρ : Ev} {C : Addr} {e : Value} {s' : Shared} (sr : StR X.K G₀ H₀ G₁ H₁ σ ρ) (f : FlyR X σ G₁ H₁ C e s') : FlyS X G₀ H₀ ρ C e s' := by
  obtain ⟨pins, s₁, a, e, I, way⟩ := f
  refine ⟨σ, H₁, pins, s₁, a, e, I, ?_⟩
  rcases way with ⟨h', vs, m, z⟩ | ⟨G', H', fl, u⟩ | ⟨G', H', L, hL, fl, u⟩
  · exact .inl ⟨G₁, h', vs, sr, m, z⟩
  · exact .inr (.inl ⟨G', H', fl, sr.ups u⟩)
  · exact .inr (.inr ⟨G', H', L, hL, fl, sr.ups u⟩)
theorem FlyS.map {X : Cx} {A B A' B' : Hp} {ρ ρ' : Ev} {C : Addr} {e : Value} {s' : Shared} (f : FlyS X A B ρ C e s') (h : ∀ σ G H, StR X.K A B G H σ ρ → StR X.K A' B' G H σ ρ') : FlyS X A' B' ρ' C e s' := by
  obtain ⟨σ, H₁, pins, s₁, a, e, I, way⟩ := f
  refine ⟨σ, H₁, pins, s₁, a, e, I, ?_⟩
  rcases way with ⟨G₁, h', vs, sr, m, z⟩ | ⟨G', H', fl, sr⟩ | ⟨G', H', L, hL, fl, sr⟩
  · exact .inl ⟨G₁, h', vs, h _ _ _ sr, m, z⟩
  · exact .inr (.inl ⟨G', H', fl, h _ _ _ sr⟩)
  · exact .inr (.inr ⟨G', H', L, hL, fl, h _ _ _ sr⟩)
noncomputable def OutR (X : Cx) (G₀ H₀ : Hp) (D : Ends) (o : O) : Prop := match o with
  | .nx ρ => ∀ σ G H, StR X.K G₀ H₀ G H σ ρ → D.nx σ H
  | .rt d => ∀ v G H, Up G₀ H₀ G H → Rep X.K G v d → D.rt v H
  | .re d ρ => ∀ v σ G H, StR X.K G₀ H₀ G H σ ρ → Rep X.K G v d → D.rt v H
  | .bk ρ => ∀ σ G H, StR X.K G₀ H₀ G H σ ρ → D.bk σ H
  | .ct ρ => ∀ σ G H, StR X.K G₀ H₀ G H σ ρ → D.ct σ H
  | .ex C ρ => ∀ e s', FlyS X G₀ H₀ ρ C e s' → X.xe e s'
  | .no => False
noncomputable def tS (X : Cx) (G₀ H₀ : Hp) (g : Ev → O) : TS := fun D σ H => ∃ G ρ, StR X.K G₀ H₀ G H σ ρ ∧ OutR X G₀ H₀ D (g ρ)
noncomputable def QSF (X : Cx) (st : Stmt) (g : Ev → O) : Prop := ∀ G₀ H₀, PS X st (tS X G₀ H₀ g)
noncomputable def QSsF (X : Cx) (st : List Stmt) (g : Ev → O) : Prop := ∀ G₀ H₀, PSs X st (tS X G₀ H₀ g)
noncomputable def R.out {α : Type} (m : R α) (ρ : Ev) (k : α → O) : O := match m with
  | .ok a => k a
  | .ex C => .ex C ρ
  | .no => .no
noncomputable def O.seq (o : O) (k : Ev → O) : O := match o with
  | .nx ρ => k ρ
  | o => o
section
variable {X : Cx} {st : Stmt} {rest body a b : List Stmt} {e c tg : Expr} {g g1 g2 : Ev → O} {ga : Ev → R D} {gt : Ev → R Bool} {gl : Ev → R (List D)} {pos : Pos}
theorem Exx.of {G₀ H₀ G H : Hp} {D : Ends} {σ : St} {ρ : Ev} {C : Addr} (sr : StR X.K G₀ H₀ G H σ ρ) (h : OutR X G₀ H₀ D (.ex C ρ)) : Exx X σ G H C := fun e s' ⟨G1, H1, u, f⟩ => h e s' (.of (sr.ups u) f)
theorem pss_f_nil_0 : QSsF X [] (fun ρ => .nx ρ) := fun G₀ H₀ pins s σ H D I h => by
  obtain ⟨G, ρ, sr, h⟩ := h
  try dsimp only at h
  exact pss_nil pins s σ H D I (h σ G H sr)
theorem pss_f_cons_0 (h1 : QSF X st g1) (h2 : QSsF X rest g2) : QSsF X (st :: rest) (fun ρ => (g1 ρ).seq g2) := fun G₀ H₀ pins s σ H D I h => by
  refine pss_cons (h1 G₀ H₀) (h2 G₀ H₀) pins s σ H D I ?_
  obtain ⟨G, ρ, sr, h⟩ := h
  try dsimp only at h
  refine ⟨G, ρ, sr, ?_⟩
  cases q : g1 ρ with
  | nx ρ' => rw [q] at h; exact fun σ' G' H' sr' => ⟨G', ρ', sr', h⟩
  | rt d => rw [q] at h; exact h
  | re d ρ' => rw [q] at h; exact h
  | bk ρ' => rw [q] at h; exact h
  | ct ρ' => rw [q] at h; exact h
  | ex C ρ' => rw [q] at h; exact h
  | no => rw [q] at h; exact h
theorem ps_f_ret_0 (he : QF X e ga) : QSF X (.Return (some e) pos) (fun ρ => (ga ρ).out ρ .rt) := fun G₀ H₀ pins s σ H D I h => by
  refine ps_ret he pins s σ H D I ?_
  obtain ⟨G, ρ, sr, h⟩ := h
  try dsimp only at h
  refine ⟨G, ρ, sr.e, ?_⟩
  cases q : ga ρ with
  | ok d => rw [q] at h; exact fun v G' H' u r => h v G' H' (sr.up.trans u) r
  | ex C => rw [q] at h; exact Exx.of sr h
  | no => rw [q] at h; exact h
theorem ps_f_expr_0 (he : QF X e ga) (hs : swapsWith e none pos.line X.env = pure false := by rfl) : QSF X (.Expr e pos) (fun ρ => (ga ρ).out ρ fun _ => .nx ρ) := fun G₀ H₀ pins s σ H D I h => by
  refine ps_expr he hs pins s σ H D I ?_
  obtain ⟨G, ρ, sr, h⟩ := h
  try dsimp only at h
  refine ⟨G, ρ, sr.e, ?_⟩
  cases q : ga ρ with
  | ok d => rw [q] at h; exact fun v G' H' u r => h σ G' H' (sr.ups u)
  | ex C => rw [q] at h; exact Exx.of sr h
  | no => rw [q] at h; exact h
theorem ps_f_if_0 (hc : QB X c gt) (ha : QSsF X a g1) (hb : QSsF X b g2) : QSF X (.If c a b pos) (fun ρ => (gt ρ).out ρ fun k => if k = true then g1 ρ else g2 ρ) := fun G₀ H₀ pins s σ H D I h => by
  refine ps_if hc (ha G₀ H₀) (hb G₀ H₀) pins s σ H D I ?_
  obtain ⟨G, ρ, sr, h⟩ := h
  try dsimp only at h
  refine ⟨G, ρ, sr.e, ?_⟩
  cases q : gt ρ with
  | ok k =>
    rw [q] at h
    intro b' G' H' u r
    subst r
    cases b' with
    | true => rw [if_pos rfl]; exact ⟨G', ρ, sr.ups u, by simpa [R.out] using h⟩
    | false => rw [if_neg Bool.false_ne_true]; exact ⟨G', ρ, sr.ups u, by simpa [R.out] using h⟩
  | ex C => rw [q] at h; exact Exx.of sr h
  | no => rw [q] at h; exact h
theorem ps_f_asg_0 {asg : D → Ev → R Ev} (he : QF X e ga) (hg : PGF X tg asg) (hs : swapsWithSole [tg] e pos.line X.env = pure false := by rfl) (hw : swappedStores [tg] e X.env = pure none := by rfl)
    (hn : ∀ d ρ C, asg d ρ ≠ .ex C := by intro _ _ _ z; cases z) (h1 : (assignEach [tg] X.env).map (·.2) = [assign tg X.env] := by rfl) : QSF X (.Assign [tg] e pos) (fun ρ => (ga ρ).out ρ fun d => (asg d ρ).out ρ .nx) := fun G₀ H₀ pins s σ H D I h => by
  refine ps_asg he hg hs hw h1 pins s σ H D I ?_
  obtain ⟨G, ρ, sr, h⟩ := h
  try dsimp only at h
  refine ⟨G, ρ, sr.e, ?_⟩
  cases q : ga ρ with
  | ok d =>
    rw [q] at h
    simp only [R.out] at h
    intro v G' H' u r
    cases q2 : asg d ρ with
    | ok ρ' => rw [q2] at h; exact ⟨G₀, H₀, G', ρ, d, ρ', sr.ups u, r, q2, fun σ' sr' => h σ' G' H' sr'⟩
    | ex C => exact absurd q2 (hn d ρ C)
    | no => rw [q2] at h; exact h.elim
  | ex C => rw [q] at h; exact Exx.of sr h
  | no => rw [q] at h; exact h
theorem ps_f_set_0 (i : Nat) {x : Str} {p : Pos} (hN : X.N.Nodup) (he : QF X e ga) (hi : X.N[i]? = some x := by rfl) (hx : Loc X.env.scope x := by first | exact Or.inl rfl | exact Or.inr rfl)
    (hs : swapsWithSole [.Name x p] e pos.line X.env = pure false := by rfl) (hw : swappedStores [.Name x p] e X.env = pure none := by rfl) (hf : X.fn x = true ∨ X.env.scope.names.lookup x = some .local := by first | exact .inl rfl | exact .inr rfl) :
    QSF X (.Assign [.Name x p] e pos) (fun ρ => (ga ρ).out ρ fun d => .nx (ρ.set i (some (.val d)))) := ps_f_asg_0 he (pgf_name i hN hi hx hf) hs hw
theorem StR.setOwn {K : PySem.W.Frag} {G₀ H₀ G H : Hp} {σ : St} {ρ : Ev} (s : StR K G₀ H₀ G H σ ρ) {l : Addr} {vs : List V} {ds : List D} (hl : H l = none) (r : Reps K G vs ds) (i : Nat) :
    StR K G₀ H₀ G (upd H l (.lst vs)) (σ.set i (some (.ref l))) (ρ.set i (some (.own ds))) := by
  have gl : G l = none := s.e.sub.free hl
  have sub : Same G (upd H l (.lst vs)) := fun a o e => by rw [upd_ne (ne_of_none e gl)]; exact s.e.sub a o e
  have get : ∀ (j : Nat) x, (ρ.set i (some (.own ds)))[j]? = some (some x) → (j = i ∧ x = .own ds ∧ i < σ.length) ∨ (j ≠ i ∧ ρ[j]? = some (some x) ∧ (σ.set i (some (.ref l)))[j]? = σ[j]?) := fun j x h => by
    by_cases e : i = j
    · subst e
      have hl : i < ρ.length := by
        have := (List.getElem?_eq_some_iff.mp h).1
        simpa using this
      rw [List.getElem?_set_self hl] at h
      exact .inl ⟨rfl, by injection (Option.some.inj h) with q; exact q.symm, by rw [s.e.len]; exact hl⟩
    · rw [List.getElem?_set_ne e] at h
      exact .inr ⟨fun z => e z.symm, h, List.getElem?_set_ne e⟩
  have ob : ObSt K H₀ G (upd H l (.lst vs)) (σ.set i (some (.ref l))) (ρ.set i (some (.own ds))) := by
    obtain ⟨ow, o1, o2⟩ := s.ob
    have nl : ∀ {a : Addr} {o : HO}, H a = some o → a ≠ l := fun e z => by rw [z, hl] at e; cases e
    refine ⟨fun a => if a = l then some (i, 0) else ow a, fun j es l' h1 h2 => ?_, fun j m C p fs h1 => ?_⟩
    · rcases get j _ h1 with ⟨rfl, e, hj⟩ | ⟨_, e, e'⟩
      · rw [List.getElem?_set_self hj] at h2; cases h2; exact if_pos rfl
      · rw [e'] at h2
        obtain ⟨l2, vs2, q1, q2, _⟩ := s.own j es e
        rw [h2] at q1; cases q1
        exact (if_neg (nl q2)).trans (o1 j es l' e h2)
    · rcases get j _ h1 with ⟨_, e, _⟩ | ⟨_, e, e'⟩
      · cases e
      · rw [e']
        refine ⟨(o2 j m C p fs e).1, (o2 j m C p fs e).2.keep ⟨fun a t o _ q => ?_, .refl _, fun a t o _ _ n => n, fun a t o q1 q2 => ?_, fun a o _ _ n => n⟩⟩
        · rw [upd_ne (nl q)]; exact q
        · exact (if_neg (nl q2)).trans q1
  refine ⟨⟨sub, by simp [s.e.len], fun j d' h => ?_, ob.rd⟩, s.sub0, ⟨sub, s.up.gg, fun a o e => ?_, s.up.fr⟩, fun j es h => ?_, fun j k es fs l' h1 h2 h3 h4 => ?_, ob⟩
  · rcases get j _ h with ⟨_, e, _⟩ | ⟨_, e, e'⟩
    · cases e
    · rw [e']; exact s.e.val j d' e
  · rw [upd_ne (ne_of_none (s.up.hh a o e) hl)]; exact s.up.hh a o e
  · rcases get j _ h with ⟨rfl, e, hj⟩ | ⟨_, e, e'⟩
    · cases e
      exact ⟨l, vs, List.getElem?_set_self hj, upd_same, gl, s.up.hh.free hl, r⟩
    · obtain ⟨l', vs', h1, h2, h3, h4, h5⟩ := s.own j es e
      exact ⟨l', vs', by rw [e']; exact h1, by rw [upd_ne (ne_of_none h2 hl)]; exact h2, h3, h4, h5⟩
  · rcases get j _ h1 with ⟨rfl, e, hj⟩ | ⟨nj, e, e'⟩
    · rcases get k _ h2 with ⟨rfl, f, _⟩ | ⟨nk, f, f'⟩
      · rfl
      · obtain ⟨l2, vs2, q1, q2, _⟩ := s.own k fs f
        rw [List.getElem?_set_self hj] at h3
        rw [f', q1] at h4
        cases h3
        cases h4
        rw [hl] at q2; cases q2
    · rcases get k _ h2 with ⟨rfl, f, hk⟩ | ⟨nk, f, f'⟩
      · obtain ⟨l2, vs2, q1, q2, _⟩ := s.own j es e
        rw [List.getElem?_set_self hk] at h4
        rw [e', q1] at h3
        cases h3
        cases h4
        rw [hl] at q2; cases q2
      · exact s.inj j k es fs l' e f (e' ▸ h3) (f' ▸ h4)
theorem ps_f_own_0 (i : Nat) {x : Str} {p : Pos} (hN : X.N.Nodup) (he : QFL X e gl) (hi : X.N[i]? = some x := by rfl) (hx : Loc X.env.scope x := by first | exact Or.inl rfl | exact Or.inr rfl)
    (hs : swapsWithSole [.Name x p] e pos.line X.env = pure false := by rfl) (hw : swappedStores [.Name x p] e X.env = pure none := by rfl) (hf : X.fn x = true ∨ X.env.scope.names.lookup x = some .local := by first | exact .inl rfl | exact .inr rfl) :
    QSF X (.Assign [.Name x p] e pos) (fun ρ => (gl ρ).out ρ fun ds => .nx (ρ.set i (some (.own ds)))) := fun G₀ H₀ pins s σ H D I h => by
  refine ps_asg he (pg_name (i := i) hN hi hx hf) hs hw rfl pins s σ H D I ?_
  obtain ⟨G, ρ, sr, h⟩ := h
  try dsimp only at h
  refine ⟨G, ρ, sr.e, ?_⟩
  cases q : gl ρ with
  | ok ds => rw [q] at h; exact fun l vs G' H' u hl r => h _ G' _ ((sr.ups u).setOwn hl r i)
  | ex C => rw [q] at h; exact Exx.of sr h
  | no => rw [q] at h; exact h
theorem StR.mut {K : PySem.W.Frag} {G₀ H₀ G H : Hp} {σ : St} {ρ : Ev} (s : StR K G₀ H₀ G H σ ρ) {i : Nat} {l : Addr} {ds es : List D} {vs : List V} (e : ρ[i]? = some (some (.own ds))) (hs : σ[i]? = some (some (.ref l))) (r : Reps K G vs es) :
    StR K G₀ H₀ G (upd H l (.lst vs)) σ (ρ.set i (some (.own es))) := by
  obtain ⟨l0, vs0, h1, h2, h3, h4, h5⟩ := s.own i ds e
  rw [hs] at h1
  cases h1
  have sub : Same G (upd H l (.lst vs)) := fun a o e => by rw [upd_ne (ne_of_none e h3)]; exact s.e.sub a o e
  have hl : i < ρ.length := (List.getElem?_eq_some_iff.mp e).1
  have get : ∀ (j : Nat) x, (ρ.set i (some (.own es)))[j]? = some (some x) → (j = i ∧ x = .own es) ∨ (j ≠ i ∧ ρ[j]? = some (some x)) := fun j x h => by
    by_cases e : i = j
    · subst e
      rw [List.getElem?_set_self hl] at h
      exact .inl ⟨rfl, by injection (Option.some.inj h) with q; exact q.symm⟩
    · rw [List.getElem?_set_ne e] at h
      exact .inr ⟨fun z => e z.symm, h⟩
  have ob : ObSt K H₀ G (upd H l (.lst vs)) σ (ρ.set i (some (.own es))) := by
    obtain ⟨ow, o1, o2⟩ := s.ob
    have ol := o1 i ds l e hs
    refine ⟨ow, fun j fs l' q1 q2 => ?_, fun j m C p fs q1 => ?_⟩
    · rcases get j _ q1 with ⟨rfl, _⟩ | ⟨nj, f1⟩
      · exact o1 j ds l' e q2
      · exact o1 j fs l' f1 q2
    · rcases get j _ q1 with ⟨_, e'⟩ | ⟨nj, f1⟩
      · cases e'
      · have ne : ∀ a t, ow a = some (j, t) → a ≠ l := fun a t q z => by rw [z, ol] at q; cases q; exact nj rfl
        refine ⟨(o2 j m C p fs f1).1, (o2 j m C p fs f1).2.keep ⟨fun a t o q1 q => ?_, .refl _, fun a t o _ _ n => n, fun a t o q1 _ => q1, fun a o _ _ n => n⟩⟩
        · rw [upd_ne (ne a t q1)]; exact q
  refine ⟨⟨sub, by simp [s.e.len], fun j d' h => ?_, ob.rd⟩, s.sub0, ⟨sub, s.up.gg, fun a o e => ?_, s.up.fr⟩, fun j fs h => ?_, fun j k fs gs l' q1 q2 q3 q4 => ?_, ob⟩
  · rcases get j _ h with ⟨_, e⟩ | ⟨_, e⟩
    · cases e
    · exact s.e.val j d' e
  · rw [upd_ne (ne_of_none e h4)]; exact s.up.hh a o e
  · rcases get j _ h with ⟨rfl, e'⟩ | ⟨nj, e'⟩
    · cases e'
      exact ⟨l, vs, hs, upd_same, h3, h4, r⟩
    · obtain ⟨l', vs', p1, p2, p3, p4, p5⟩ := s.own j fs e'
      have : l' ≠ l := fun z => by subst z; exact nj (s.inj j i fs ds l' e' e p1 hs)
      exact ⟨l', vs', p1, by rw [upd_ne this]; exact p2, p3, p4, p5⟩
  · rcases get j _ q1 with ⟨rfl, _⟩ | ⟨nj, f1⟩
    · rcases get k _ q2 with ⟨rfl, _⟩ | ⟨nk, f2⟩
      · rfl
      · exact s.inj j k ds gs l' e f2 q3 q4
    · rcases get k _ q2 with ⟨rfl, _⟩ | ⟨nk, f2⟩
      · exact s.inj j k fs ds l' f1 e q3 q4
      · exact s.inj j k fs gs l' f1 f2 q3 q4
noncomputable def frz (i : Nat) (ρ : Ev) : Ev := match ρ[i]? with
  | some (some (.own ds)) => ρ.set i (some (.val (.lst false ds)))
  | _ => ρ
theorem StR.frzTo {K : PySem.W.Frag} {G₀ H₀ G H : Hp} {σ : St} {ρ : Ev} (s : StR K G₀ H₀ G H σ ρ) (i : Nat) : ∃ G', StR K G₀ H₀ G' H σ (L2.frz i ρ) ∧ (G' = G ∨ ∃ l vs, G l = none ∧ G' = upd G l (.lst vs)) := by
  unfold L2.frz
  split
  · rename_i ds e
    obtain ⟨l, vs, h1, h2, h3, h4, h5⟩ := s.own i ds e
    have hl : i < ρ.length := (List.getElem?_eq_some_iff.mp e).1
    have g0 : G₀ l = none := s.sub0.free h4
    have into : Same G (upd G l (.lst vs)) := .into h3
    have sub : Same (upd G l (.lst vs)) H := fun a o q => by
      by_cases ea : a = l
      · subst ea; rw [upd_same] at q; rw [← q]; exact h2
      · rw [upd_ne ea] at q; exact s.e.sub a o q
    have get : ∀ (j : Nat) x, (ρ.set i (some (.val (.lst false ds))))[j]? = some (some x) → (j = i ∧ x = .val (.lst false ds)) ∨ (j ≠ i ∧ ρ[j]? = some (some x)) := fun j x h => by
      by_cases e : i = j
      · subst e
        rw [List.getElem?_set_self hl] at h
        exact .inl ⟨rfl, by injection (Option.some.inj h) with q; exact q.symm⟩
      · rw [List.getElem?_set_ne e] at h
        exact .inr ⟨fun z => e z.symm, h⟩
    have ob : ObSt K H₀ (upd G l (.lst vs)) H σ (ρ.set i (some (.val (.lst false ds)))) := by
      obtain ⟨ow, o1, o2⟩ := s.ob
      have ol := o1 i ds l e h1
      refine ⟨ow, fun j fs l' q1 q2 => ?_, fun j m C p fs q1 => ?_⟩
      · rcases get j _ q1 with ⟨_, e'⟩ | ⟨nj, f1⟩
        · cases e'
        · exact o1 j fs l' f1 q2
      · rcases get j _ q1 with ⟨_, e'⟩ | ⟨nj, f1⟩
        · cases e'
        · have ne : ∀ a t, ow a = some (j, t) → a ≠ l := fun a t q z => by rw [z, ol] at q; cases q; exact nj rfl
          refine ⟨(o2 j m C p fs f1).1, (o2 j m C p fs f1).2.keep ⟨fun a t o _ q => q, into, fun a t o q1 _ n => ?_, fun a t o q1 _ => q1, fun a o _ _ n => n⟩⟩
          · rw [upd_ne (ne a t q1)]; exact n
    refine ⟨upd G l (.lst vs), ⟨⟨sub, by simp [s.e.len], fun j d' h => ?_, ob.rd⟩, s.sub0, ⟨sub, s.up.gg.trans into, s.up.hh, fun a o q => ?_⟩, fun j fs h => ?_, fun j k fs gs l' q1 q2 q3 q4 => ?_, ob⟩, .inr ⟨l, vs, h3, rfl⟩⟩
    · rcases get j _ h with ⟨rfl, e'⟩ | ⟨_, e'⟩
      · cases e'
        exact ⟨.ref l, h1, .lst upd_same (h5.mono into)⟩
      · obtain ⟨v, p1, p2⟩ := s.e.val j d' e'
        exact ⟨v, p1, p2.mono into⟩
    · by_cases ea : a = l
      · subst ea; exact .inr h4
      · rw [upd_ne ea] at q; exact s.up.fr a o q
    · rcases get j _ h with ⟨_, e'⟩ | ⟨nj, e'⟩
      · cases e'
      · obtain ⟨l', vs', p1, p2, p3, p4, p5⟩ := s.own j fs e'
        have : l' ≠ l := fun z => by subst z; exact nj (s.inj j i fs ds l' e' e p1 h1)
        exact ⟨l', vs', p1, p2, by rw [upd_ne this]; exact p3, p4, p5.mono into⟩
    · rcases get j _ q1 with ⟨_, e'⟩ | ⟨nj, f1⟩
      · cases e'
      · rcases get k _ q2 with ⟨_, e'⟩ | ⟨nk, f2⟩
        · cases e'
        · exact s.inj j k fs gs l' f1 f2 q3 q4
  · exact ⟨G, s, .inl rfl⟩
theorem StR.frz {K : PySem.W.Frag} {G₀ H₀ G H : Hp} {σ : St} {ρ : Ev} (s : StR K G₀ H₀ G H σ ρ) (i : Nat) : ∃ G', StR K G₀ H₀ G' H σ (L2.frz i ρ) :=
  let ⟨G', h, _⟩ := s.frzTo i; ⟨G', h⟩
theorem pss_f_frz_0 {sts : List Stmt} (i : Nat) (h : QSsF X sts g) : QSsF X sts (fun ρ => g (frz i ρ)) := fun G₀ H₀ pins s σ H D I q => by
  obtain ⟨G, ρ, sr, q⟩ := q
  obtain ⟨G', sr'⟩ := sr.frz i
  exact h G₀ H₀ pins s σ H D I ⟨G', _, sr', q⟩
noncomputable def ownAt (ρ : Ev) (i : Nat) : R (List D) := match ρ[i]? with
  | some (some (.own ds)) => .ok ds
  | _ => .no
theorem ownAt.ok {ρ : Ev} {i : Nat} {k : List D → O} {D : Ends} {G₀ H₀ : Hp} (h : OutR X G₀ H₀ D ((ownAt ρ i).out ρ k)) : ∃ ds, ρ[i]? = some (some (.own ds)) ∧ OutR X G₀ H₀ D (k ds) := by
  unfold ownAt at h
  split at h
  · rename_i ds e; exact ⟨ds, e, h⟩
  · exact h.elim
theorem ps_f_append_0 (i : Nat) {x : Str} {p ap cp : Pos} (he : QF X e ga) (hi : X.N[i]? = some x := by rfl) (hv : Vis X.env.scope x := by first | exact Or.inl rfl | exact Or.inr (Or.inl rfl))
    (hd : (x == ("__debug__" : Str)) = false := by decide) (hcd : (x == ("__classdict__" : Str)) = false := by decide) (hs1 : starEach [e] X.env = (false, eval e X.env) :: starEach [] X.env := by rfl)
    (hbase : attributeBase (.Name x p) "append" X.env (eval (.Name x p) X.env) = eval (.Name x p) X.env := by rfl)
    (hfew : ((backTo cp (starEach [e] X.env)).all (fun x => !x.1) && (backToKw cp (keywordEach [] X.env)).all (fun x => x.1.isSome)
      && decide ([e].length + ([] : List Keyword).length + (if ([] : List Keyword).isEmpty then 0 else 1) < 30)) = true := by rfl)
    (hline : (ap.endLine == cp.line) = true := by rfl)
    (hs : swapsWith (.Call (.Attribute (.Name x p) "append" ap) [e] [] cp) none pos.line X.env = pure false := by rfl) :
    QSF X (.Expr (.Call (.Attribute (.Name x p) "append" ap) [e] [] cp) pos) (fun ρ => (ownAt ρ i).out ρ fun ds => (ga ρ).out ρ fun d => if ds.length < sizeLine then .nx (ρ.set i (some (.own (ds ++ [d])))) else .no) := fun G₀ H₀ pins s σ H D I h => by
  refine ps_expr (pe_bm PySem.F.plainAttrs_list PySem.F.slot_list_append PySem.F.type_list_append mt_append (pe_var hi hv hd hcd) (pa_cons he pa_nil hs1) hbase hfew hline hs1 rfl) hs pins s σ H D I ?_
  obtain ⟨G, ρ, sr, h⟩ := h
  try dsimp only at h
  obtain ⟨ds, e1, h⟩ := ownAt.ok h
  obtain ⟨l, vs, h1, h2, h3, h4, h5⟩ := sr.own i ds e1
  refine ⟨.ref l, h1, .inl ⟨rfl, vs, .of h2⟩, G, ρ, sr.e, ?_⟩
  cases q : ga ρ with
  | ok d =>
    rw [q] at h
    simp only [R.out] at h
    intro v G' H' u r
    by_cases hz : ds.length < sizeLine
    · rw [if_pos hz] at h
      refine ⟨l, vs, v, rfl, rfl, u.hh _ _ h2, by rw [h5.length]; exact hz, h _ G' _ ?_⟩
      exact (sr.ups u).mut e1 h1 ((h5.mono u.gg).append (.cons r .nil))
    · rw [if_neg hz] at h; exact h.elim
  | ex C => rw [q] at h; exact Exx.of sr h
  | no => rw [q] at h; exact h
noncomputable def asL : D → R (List D)
  | .lst false xs => .ok xs
  | _ => .no
noncomputable def loopD (asg : D → Ev → R Ev) (g : Ev → O) : List D → Ev → O
  | [], ρ => .nx ρ
  | d :: ds, ρ => (asg d ρ).out ρ fun ρ1 => match g ρ1 with
    | .nx ρ2 => loopD asg g ds ρ2
    | .ct ρ2 => loopD asg g ds ρ2
    | .bk ρ2 => .nx ρ2
    | .rt d => .rt d
    | .re d ρ2 => .re d ρ2
    | .ex C ρ2 => .ex C ρ2
    | .no => .no
noncomputable def mix (H₀ G₁ : Hp) : Hp := fun a => match G₁ a with
  | some o => some o
  | none => H₀ a
theorem mix_none {H₀ G₁ : Hp} {a : Addr} (h : mix H₀ G₁ a = none) : G₁ a = none ∧ H₀ a = none := by
  unfold mix at h
  cases q : G₁ a with
  | none => rw [q] at h; exact ⟨rfl, h⟩
  | some o => rw [q] at h; cases h
section
variable {K : PySem.W.Frag} {G₀ H₀ G₁ H₁ G H : Hp} {σ : St} {ρ : Ev}
theorem StR.to (s : StR K G₀ H₀ G₁ H₁ σ ρ) : StR K G₁ (mix H₀ G₁) G₁ H₁ σ ρ := by
  refine ⟨s.e, fun a o e => ?_, ⟨s.e.sub, .refl _, fun a o e => ?_, fun _ _ e => .inl e⟩, fun i ds e => ?_, s.inj, ?_⟩
  · unfold mix; rw [e]
  · unfold mix at e
    cases q : G₁ a with
    | none => rw [q] at e; exact s.up.hh a o e
    | some o' => rw [q] at e; cases e; exact s.e.sub a o q
  · obtain ⟨l, vs, h1, h2, h3, h4, h5⟩ := s.own i ds e
    exact ⟨l, vs, h1, h2, h3, by unfold mix; rw [h3]; exact h4, h5⟩
  · obtain ⟨ow, o1, o2⟩ := s.ob
    exact ⟨ow, o1, fun i m C p fs e => ⟨(o2 i m C p fs e).1, (o2 i m C p fs e).2.keep ⟨fun a t o _ q => q, .refl _, fun a t o _ _ n => n, fun a t o q1 _ => q1, fun a o _ g n => by unfold mix; rw [g]; exact n⟩⟩⟩
theorem Up.back (u : Up G₀ H₀ G₁ H₁) (v : Up G₁ (mix H₀ G₁) G H) : Up G₀ H₀ G H := by
  refine ⟨v.sub, u.gg.trans v.gg, fun a o e => ?_, fun a o e => ?_⟩
  · cases q : G₁ a with
    | none => exact v.hh a o (by unfold mix; rw [q]; exact e)
    | some o' =>
      have h1 := u.sub a o' q
      have h2 := u.hh a o e
      rw [h1] at h2
      cases h2
      exact v.hh a o (by unfold mix; rw [q])
  · rcases v.fr a o e with h | h
    · exact u.fr a o h
    · exact .inr (mix_none h).2
theorem StR.back (s0 : Same G₀ H₀) (u : Up G₀ H₀ G₁ H₁) (s : StR K G₁ (mix H₀ G₁) G H σ ρ) : StR K G₀ H₀ G H σ ρ :=
  ⟨s.e, s0, u.back s.up, fun i ds e => let ⟨l, vs, h1, h2, h3, h4, h5⟩ := s.own i ds e; ⟨l, vs, h1, h2, h3, (mix_none h4).2, h5⟩, s.inj, by
  obtain ⟨ow, o1, o2⟩ := s.ob
  exact ⟨ow, o1, fun i m C p fs e => ⟨(o2 i m C p fs e).1, (o2 i m C p fs e).2.keep ⟨fun a t o _ q => q, .refl _, fun a t o _ _ n => n, fun a t o q1 _ => q1, fun a o _ _ n => (mix_none n).2⟩⟩⟩⟩
end
theorem ps_f_for_0 {iter : Expr} {gi : Ev → R (List D)} {asg : D → Ev → R Ev} (hp : PassesOwn (model X.prog X.w) X.A X.env X.xe) (hcalm : X.calm = true) (hi : QIF X tg iter gi) (hg : PGF X tg asg) (hb : QSsF X body g)
    (hs : ∀ x, foldedSetIterable iter X.env x = pure x := by intro _; rfl) (hn : ∀ d ρ C, asg d ρ ≠ .ex C := by intro _ _ _ z; cases z) : QSF X (.For tg iter body [] pos) (fun ρ => (gi ρ).out ρ fun items => loopD asg g items ρ) := fun G₀ H₀ pins s σ H D I h => by
  obtain ⟨G, ρ, sr, h⟩ := h
  try dsimp only at h
  cases q : gi ρ with
  | ok items =>
    rw [q] at h
    simp only [R.out] at h
    -- the loop by its invariant, whatever the iterator's heap is
    have key : ∀ (J : It) (G1 H1 : Hp), Up G H G1 H1 → ItOk X.K G1 J items → ∃ W : Nat → Nat → St → Hp → Prop, (∃ m, W 0 m σ H1) ∧ ∀ i m σ H, W i m σ H →
        (J.stop i H ∧ D.nx σ H) ∨ (J.go i H ∧ ∃ N : St → Hp → Prop, (∀ σ' H', N σ' H' → ∃ m', m' < m ∧ W (i + 1) m' σ' H') ∧ ∀ x H', J.yld i H x H' → (fun v σ H Q => ∃ G₀ H₀ G ρ d ρ', StR X.K G₀ H₀ G H σ ρ ∧ Rep X.K G v d ∧ asg d ρ = .ok ρ' ∧ ∀ σ', StR X.K G₀ H₀ G H σ' ρ' → Q σ' H) x σ H' fun σ2 H2 => (fun D σ H => ∃ G₀ H₀, tS X G₀ H₀ g D σ H) { D with nx := N, ct := N, bk := D.nx } σ2 H2) := by
      intro J G1 H1 u1 iok
      have sr1 := sr.ups u1
      refine ⟨fun i m σ' H' => m = items.length - i ∧ i ≤ items.length ∧ ∃ G' ρ', StR X.K G1 (mix H₀ G1) G' H' σ' ρ' ∧ OutR X G₀ H₀ D (loopD asg g (items.drop i) ρ'), ⟨items.length, by simp, Nat.zero_le _, G1, ρ, sr1.to, by simpa using h⟩, ?_⟩
      rintro i m σ' H' ⟨rfl, hil, G', ρ', sr', h'⟩
      have hIt := iok i G' H' sr'.up.gg sr'.e.sub
      by_cases hlt : i < items.length
      · have hd : items.drop i = items[i] :: items.drop (i + 1) := List.drop_eq_getElem_cons hlt
        rw [hd] at h'
        obtain ⟨go, yl⟩ := hIt.1 items[i] (by simp [hlt])
        refine .inr ⟨go, fun σ2 H2 => i + 1 ≤ items.length ∧ ∃ G2 ρ2, StR X.K G1 (mix H₀ G1) G2 H2 σ2 ρ2 ∧ OutR X G₀ H₀ D (loopD asg g (items.drop (i + 1)) ρ2), fun σ2 H2 q2 => ⟨items.length - (i + 1), by omega, rfl, q2⟩, fun x H2 y => ?_⟩
        obtain ⟨G2, up2, rep2⟩ := yl x H2 y
        unfold loopD at h'
        cases q2 : asg items[i] ρ' with
        | ok ρ1 =>
          rw [q2] at h'
          simp only [R.out] at h'
          refine ⟨G1, mix H₀ G1, G2, ρ', items[i], ρ1, sr'.ups up2, rep2, q2, fun σ3 sr3 => ⟨G1, mix H₀ G1, G2, ρ1, sr3, ?_⟩⟩
          cases q3 : g ρ1 with
          | nx ρ2 => rw [q3] at h'; exact fun σ4 G4 H4 sr4 => ⟨hlt, G4, ρ2, sr4, h'⟩
          | ct ρ2 => rw [q3] at h'; exact fun σ4 G4 H4 sr4 => ⟨hlt, G4, ρ2, sr4, h'⟩
          | bk ρ2 => rw [q3] at h'; exact fun σ4 G4 H4 sr4 => h' σ4 G4 H4 (sr4.back sr.sub0 sr1.up)
          | rt d => rw [q3] at h'; exact fun v G4 H4 u4 r4 => h' v G4 H4 (sr1.up.back u4) r4
          | re d ρ2 => rw [q3] at h'; exact fun v σ4 G4 H4 sr4 r4 => h' v σ4 G4 H4 (sr4.back sr.sub0 sr1.up) r4
          | ex C ρ2 => rw [q3] at h'; exact fun e s' f4 => h' e s' (f4.map fun σ4 G4 H4 sr4 => sr4.back sr.sub0 sr1.up)
          | no => rw [q3] at h'; exact h'
        | ex C => exact absurd q2 (hn _ _ C)
        | no => rw [q2] at h'; exact h'.elim
      · have hie : i = items.length := by omega
        subst hie
        rw [List.drop_length] at h'
        exact .inl ⟨hIt.2 (Nat.le_refl _), h' σ' G' H' (sr'.back sr.sub0 sr1.up)⟩
    have hb' : PSs X body (fun D σ H => ∃ G₀ H₀, tS X G₀ H₀ g D σ H) := fun pins s σ H D I ⟨G₀, H₀, q⟩ => hb G₀ H₀ pins s σ H D I q
    refine ps_for hp hcalm hi hg hb' hs pins s σ H D I ⟨G, ρ, sr.e, ?_⟩
    rw [q]
    exact fun J G1 H1 u1 iok => key J G1 H1 u1 iok
  | ex C =>
    rw [q] at h
    have hb' : PSs X body (fun D σ H => ∃ G₀ H₀, tS X G₀ H₀ g D σ H) := fun pins s σ H D I ⟨G₀, H₀, q⟩ => hb G₀ H₀ pins s σ H D I q
    refine ps_for hp hcalm hi hg hb' hs pins s σ H D I ⟨G, ρ, sr.e, ?_⟩
    rw [q]
    exact Exx.of sr h
  | no => rw [q] at h; exact h.elim
end
end L2
namespace L2
open PySem PySem.Spec PyProof.Rows
noncomputable def spF (K : PySem.W.Frag) (f : List D → R D) : Sp := fun vs H Q E => ∃ G ds, Same G H ∧ Reps K G vs ds ∧ (f ds).post (Fin G H (Rep K) Q) (fun C => ∀ G' H', Up G H G' H' → E (.ref C) none H')
noncomputable abbrev FnF (P : Program) (w : World) (K : PySem.W.Frag) (mg : Str → Option Value) (base : Heap) (k : Nat) (f : Addr) (fd : FuncData) (ps : List Str) (g : List D → R D) : Prop := FnOk P w K mg base (CXo P w) k f fd ps (fun vs H Q E => vs.length = ps.length ∧ spF K g vs H Q E)
section
variable {X : Cx} {k : Nat} {f : Addr} {fd : FuncData} {ps : List Str} {x : Str} {p pos : Pos} {e : Expr} {es : List Expr} {gl : Ev → R (List D)} {g : List D → R D}
theorem pf_call_0 (F : FnF X.prog X.w X.K X.mg X.base k f fd ps g) (hr : Room k X.A) (hg : Gl X x) (hm : X.mg x = some (.ref f)) (hk : PySem.W.keepIn X.K (.ref f) = true) (hb : Binds X.K fd ps []) (ha : QFA X (e :: es) gl)
    (hdb : (x == ("__debug__" : Str)) = false := by decide) (he : starEach (e :: es) X.env = (false, eval e X.env) :: starEach es X.env := by rfl) (hpl : (backTo pos (starEach es X.env)).any (·.1) = false := by rfl) :
    QF X (.Call (.Name x p) (e :: es) [] pos) (fun ρ => gl ρ >>= fun ds => if ds.length = ps.length then g ds else .no) := by
  intro pins s σ H Q I h
  obtain ⟨G, ρ, st, h⟩ := h
  have t : tAF X gl σ H (fun vs H1 => ∃ G1 ds, Up G H G1 H1 ∧ Same G1 H1 ∧ Reps X.K G1 vs ds ∧ ds.length = ps.length ∧ (g ds).post (Fin G1 H1 (Rep X.K) Q) (Exx X σ G1 H1)) := by
    refine tG.intro st h fun ds vs G1 H1 u1 st1 r1 h1 => ?_
    by_cases hl : ds.length = ps.length
    · rw [if_pos hl] at h1; exact ⟨G1, ds, u1, st1.sub, r1, hl, h1⟩
    · rw [if_neg hl] at h1; exact h1.elim
  refine wpAny_Call_Name_kw (ld_glob I hg hm ?_ hdb)
  refine PySem.W.callWith_K (h₀ := X.base) I.ok.mod.kin hk (thn (ha pos pins s σ H _ I t) fun us s1 q => ⟨?_, ?_⟩) he hpl
  · obtain ⟨vs, H1, I1, r, _⟩ := q; exact I1.kIn
  obtain ⟨vs, H1, I1, r, G1, ds, u1, sub1, rp, hl, h1⟩ := q
  have hvl : vs.length = ps.length := by rw [rp.length]; exact hl
  have hul : (us ++ []).length = ps.length := by rw [List.append_nil, ← r.length]; exact hvl
  have hbb := hb s1 us I1.kIn hul
  rw [List.append_nil] at hbb
  refine wpAny_call (codeAny_mono (F.run X.A X.stack s1 H1 ⟨us, []⟩ us vs Q (fun c _ H' => ∃ C G', c = .ref C ∧ Up G1 H1 G' H' ∧ Exx X σ G1 H1 C) hr I1.env0 hbb r ⟨hvl, G1, ds, sub1, rp, h1.mono (fun _ q => q) fun C q G' H' u => ⟨C, G', rfl, u, q⟩⟩) fun r' s' hq => ?_)
  cases r' with
  | error e' =>
    obtain ⟨a, C, H', rfl, fl, C', G', ec, u, q⟩ := hq
    cases ec
    exact q _ _ ⟨G1, H1, .refl sub1, pins, s1, a, rfl, I1, .inr (.inl ⟨G', H', fl, u⟩)⟩
  | ok fl =>
    cases fl with
    | ret u => exact I1.after hq
    | next => exact False.elim hq
    | brk => exact False.elim hq
    | cont => exact False.elim hq
end

theorem ObjOk.there {P : Program} {w : World} {H : Hp} {h : Heap} {a : Addr} {o : HO} (x : ObjOk P w H h a o) : ∃ ob, h.get? a = some ob := by
  cases o with
  | lst xs => obtain ⟨_, _, _, _, e⟩ := x; exact ⟨_, e⟩
  | tup xs => obtain ⟨_, _, _, o, e, _⟩ := x; exact ⟨_, e⟩
  | dK kvs => obtain ⟨_, _, _, _, o, _, _, e, _⟩ := x; exact ⟨_, e⟩
  | dT kvs => obtain ⟨_, _, _, _, o, _, _, e, _⟩ := x; exact ⟨_, e⟩
  | set S n => obtain ⟨o, _, _, _, e, _⟩ := x; exact ⟨_, e⟩
  | ins C dx fs => obtain ⟨_, _, _, e, _⟩ := x; exact ⟨_, e⟩
  | own y => obtain ⟨_, e⟩ := x; exact ⟨_, e⟩
  | xd fs => obtain ⟨_, ⟨_, _, _, e, _⟩, _⟩ := x; exact ⟨_, e⟩
  | rng lo hi => obtain ⟨_, _, _, e⟩ := x; exact ⟨_, e⟩
  | frz ob u => obtain ⟨e, _⟩ := x; exact ⟨_, e⟩
  | tbl ps => obtain ⟨_, e, _⟩ := x; exact ⟨_, e⟩
  | met f y => exact ⟨_, show h.get? a = some _ from x⟩
  | ext φ => obtain ⟨_, ⟨_, e⟩, _⟩ := x; exact ⟨_, e⟩
theorem frs_cons {env : Env} {outer : List Env} {L : Addr} (h : env.frame = some L) : frs (env :: outer) = L :: frs outer := by
  unfold frs
  rw [List.filterMap_cons, h]
section
variable {P : Program} {w : World} {H H' : Hp} {h h1 h2 hm : Heap} {l l' : List Addr} {B : Heap}
theorem HOk.flight (x : HOk P w H' h1) (hb : B.StaysIn h2) (hk : ∀ b o, b ∉ l → ((∃ o0, hm.get? b = some o0) ∨ ∃ u, H' b = some u) → h1.get? b = some o → B.get? b = some o) (hl : ∀ b ∈ l, H' b = none) : HOk P w H' h2 := fun a o e => by
  refine (x a o e).stay (fun b u hbb q => hb b u (hk b u (fun z => ?_) (.inr ?_) q)) (fun _ z => z) (fun _ _ z => z)
  · rcases hbb with rfl | hbb
    · rw [hl _ z] at e; cases e
    · rw [hl _ z] at hbb; cases hbb
  · rcases hbb with rfl | hbb
    · exact ⟨_, e⟩
    · exact ⟨_, hbb⟩
theorem Un.flight {ex : List Addr} (u : Un l' ex H H' h h1) (hb : B.StaysIn h2) (sm : h1.UpToSlots h2) (hk : ∀ b o, b ∉ l → ((∃ o0, hm.get? b = some o0) ∨ ∃ u, H' b = some u) → h1.get? b = some o → B.get? b = some o) (lt : ∀ b o, h.get? b = some o → ∃ o0, hm.get? b = some o0)
    (hl : ∀ b ∈ l, b ∈ l' ∨ h.objs.size ≤ b) (hd : ∀ b ∈ l, ∀ o, h1.get? b = some o → ∀ vs, o.data ≠ .fields vs) : Un l' ex H H' h h2 := by
  refine ⟨fun b o e nn hb' hx => ?_, fun b o e nn hb' hx => ?_, u.free, fun b o e hx => ?_, u.tups, u.frzs, u.tbls⟩
  · have q := u.keep b o e nn hb' hx
    refine hb b o (hk b o (fun z => ?_) (.inl (lt b o e)) q)
    rcases hl b z with z | z
    · exact hb' z
    · exact absurd (Heap.lt_size e) (Nat.not_lt.mpr z)
  · obtain ⟨sl, q⟩ := u.slot b o e nn hb' hx
    by_cases z : b ∈ l
    · obtain ⟨sl', q'⟩ := sm b _ q (hd b z _ q)
      exact ⟨sl', q'⟩
    · exact ⟨sl, hb b _ (hk b _ z (.inl (lt b o e)) q)⟩
  · obtain ⟨o', q⟩ := u.there b o e hx
    by_cases z : b ∈ l
    · obtain ⟨sl', q'⟩ := sm b _ q (hd b z _ q)
      exact ⟨_, q'⟩
    · exact ⟨o', hb b _ (hk b _ z (.inl (lt b o e)) q)⟩
end
theorem FunFrames.data {h base : Heap} : ∀ {l : List Env}, h.FunFrames base l → ∀ b ∈ frs l, ∃ o, h.get? b = some o ∧ (∀ vs, o.data ≠ .fields vs) ∧ base.get? b = none := fun {l} hf b hb => by
  obtain ⟨h1, o, h2, h3⟩ := hf.mem hb
  exact ⟨o, h2, h3, h1⟩

noncomputable def gCx (P : Program) (w : World) (K : PySem.W.Frag) (mg : Str → Option Value) (base : Heap) (N : List Str) (env : Env) (fn : Str → Bool) (A : Around) (outer : List Env) (s : Shared) (H : Hp) (E : XK) : Cx where
  prog := P
  w := w
  K := K
  mg := mg
  base := base
  A := A.deeper env
  N := N
  s₀ := s
  H₀ := H
  env := env
  outer := outer
  stack := env :: outer
  ex := []
  calm := true
  fn := fn
  pn := []
  xe := fun e s' => wpAny (model P w) (A.deeper env) (leaving env e) (fun _ s'' => CXo P w outer H s E e s'') (fun e' s'' => CXo P w outer H s E e' s'') s'
theorem leave_g {P : Program} {w : World} {K : PySem.W.Frag} {mg : Str → Option Value} {base : Heap} {N : List Str} {env : Env} {fn : Str → Bool} {A : Around} {outer : List Env} {s : Shared} {H : Hp} {E : XK} {G : Hp} {ρ : Ev} {C : Addr} {e : Value} {s' : Shared}
    (hloc : env.locals = s.heap.objs.size) (hf : env.frame = some s.heap.objs.size) (fl : FlyS (gCx P w K mg base N env fn A outer s H E) G H ρ C e s') (hE : ∀ G' H', Up G H G' H' → E (.ref C) none H') : (gCx P w K mg base N env fn A outer s H E).xe e s' := by
  obtain ⟨σ, H₁, pins, s₁, a, rfl, I, way⟩ := fl
  have hfr : (A.deeper (env)).frames = some (env :: outer) := I.ok.frames
  have hst : frs (env :: outer) = s.heap.objs.size :: frs outer := frs_cons hf
  have old : ∀ b o, s.heap.get? b = some o → ∃ o0, s₁.heap.get? b = some o0 := fun b o e => I.base.there b o e (by show b ∉ ([] : List Addr); simp)
  show wpAny (model P w) (A.deeper (env)) (leaving (env) (.ref a)) (fun _ s'' => CXo P w outer H s E (.ref a) s'') (fun e' s'' => CXo P w outer H s E e' s'') s'
  -- the end, from the heap behind
  have fin : ∀ {H' : Hp} {G' : Hp} {s' : Shared} {h'' B : Heap} {a0 : Value}, Inv (gCx P w K mg base N env fn A outer s H E) pins σ H' s' → StR K G H G' H' σ ρ → H' a = none → Heap.FlyingW B outer a (.ref C) a0 h'' → s'.heap.UpToSlots h'' →
      (∀ b o, b ∉ s.heap.objs.size :: frs outer → ((∃ o0, s₁.heap.get? b = some o0) ∨ ∃ u, H' b = some u) → s'.heap.get? b = some o → B.get? b = some o) → CXo P w outer H s E (.ref a) { s' with heap := h'' } := by
    intro H' G' s' h'' B a0 J up ha fl sm hk
    have J0 : H' s.heap.objs.size = none := by have q : H' env.locals = none := J.free; rw [hloc] at q; exact q
    have fr0 : ∀ b ∈ frs outer, H' b = none := fun b hb => J.stkFree b (by show b ∈ frs (env :: outer); rw [hst]; exact List.mem_cons_of_mem _ hb)
    have frA : ∀ b ∈ s.heap.objs.size :: frs outer, H' b = none := fun b hb => by
      rcases List.mem_cons.mp hb with rfl | hb
      · exact J0
      · exact fr0 b hb
    have dat : ∀ b ∈ s.heap.objs.size :: frs outer, ∀ o, s'.heap.get? b = some o → ∀ vs, o.data ≠ .fields vs := fun b hb o e => by
      obtain ⟨o', e', d', _⟩ := FunFrames.data J.stack b (by show b ∈ frs (env :: outer); rw [hst]; exact hb)
      rw [e] at e'; cases e'; exact d'
    have hok : HOk P w H' h'' := J.hok.flight fl.1 hk frA
    have un : Un (frs outer) [] H H' s.heap h'' := Un.flight J.base fl.1 sm hk old (fun b hb => (List.mem_cons.mp hb).elim (fun z => .inr (by rw [z]; exact Nat.le_refl _)) .inl) dat
    refine ⟨a, C, H', rfl, ⟨J.os, J.bare, un, hok, ha, B, a0, fl, fun b o hb ho e => ?_⟩, hE G' H' up.up⟩
    have nb : b ∉ s.heap.objs.size :: frs outer := fun z => by
      rcases List.mem_cons.mp z with z | z
      · rcases ho with ⟨o0, ho⟩ | ⟨u, ho⟩
        · rw [z] at ho; exact Nat.lt_irrefl _ (Heap.lt_size ho)
        · rw [z, J0] at ho; cases ho
      · exact hb z
    have ho' : (∃ o0, s₁.heap.get? b = some o0) ∨ ∃ u, H' b = some u := ho.imp (fun ⟨o0, z⟩ => old b o0 z) id
    have ex : ∃ o', s'.heap.get? b = some o' := by
      rcases ho with ⟨o0, ho⟩ | ⟨u, ho⟩
      · exact J.base.there b o0 ho (by show b ∉ ([] : List Addr); simp)
      · exact (J.hok b u ho).there
    obtain ⟨o', e'⟩ := ex
    have q := hk b o' nb ho' e'
    have q2 := fl.1 b o' q
    have e2 : h''.get? b = some o := e
    rw [q2] at e2
    cases e2
    exact q
  rcases way with ⟨G₁, h', vs, sr, made, rfl⟩ | ⟨G', H', ⟨os, bare, un, hok, ha, B, a0, fl, hk⟩, up⟩ | ⟨G', H', L', hL, ⟨os, bare, ⟨ch, hch, un⟩, hok, ha, _, B, a0, fl, hk⟩, up⟩
  · -- made here
    have J : Inv (gCx P w K mg base N env fn A outer s H E) pins σ H₁ { s₁ with heap := h' } := I.kept (t' := s₁.toks) made.keeps
    have hin : ∀ en ∈ (env :: outer), ∀ b, en.frame = some b → b ∈ s.heap.objs.size :: frs outer := fun en he b hb => by
      rw [← hst]; exact List.mem_filterMap.mpr ⟨en, he, hb⟩
    refine wpAny_leaves_madeW (base := PySem.W.hideAll s₁.heap (s.heap.objs.size :: frs outer)) hfr hf (fun b o q => PySem.W.of_hideAll _ q) (PySem.W.funFrames_hide I.stack hin) made fun h'' t fl' _ _ sm => ?_
    have ha : H₁ a = none := by
      cases q : H₁ a with
      | none => rfl
      | some u =>
        obtain ⟨ob, e⟩ := (I.hok a u q).there
        rw [made.new] at e; cases e
    refine fin J sr ha fl' sm fun b o hb ho e => ?_
    have e1 : s₁.heap.get? b = some o := by
      rcases ho with ⟨o0, ho⟩ | ⟨u, ho⟩
      · have q := made.keeps b o0 ho
        have e' : h'.get? b = some o := e
        rw [q] at e'; cases e'; exact ho
      · obtain ⟨ob, ho⟩ := (I.hok b u ho).there
        have q := made.keeps b ob ho
        have e' : h'.get? b = some o := e
        rw [q] at e'; cases e'; exact ho
    exact PySem.W.hideAll_get _ e1 hb
  · have J := I.call' (s' := s') (ch := []) os un hok bare (fun b z => absurd z (by simp))
    exact wpAny_leaves_onW hfr hf fl fun h'' fl' sm => fin J up ha fl' sm fun b o hb ho e => hk b o (by show b ∉ frs (env :: outer); rw [hst]; exact hb) ho e
  · have J := I.call' (s' := s') (ch := ch) os un hok bare hch
    have eL : s.heap.objs.size = L' := Option.some.inj (hf.symm.trans hL)
    rw [← eL] at fl
    refine wpAny_bind (wpAny_noteFrame_againW hf fl.2.2.2 (wpAny_landsW fl fun h'' fl' sm => ?_))
    obtain ⟨k1, k2, ⟨_, _, k3⟩, k4⟩ := fl'
    exact fin J up ha ⟨k1, k2, k3, k4⟩ sm fun b o hb ho e => hk b o (by show b ∉ frs (env :: outer); rw [hst]; exact hb) ho e

theorem leave_ok {P : Program} {w : World} {K : PySem.W.Frag} {mg : Str → Option Value} {base : Heap} {N : List Str} {qual : Str} {scope : Scope} {f : Addr} {cd : Value} {A : Around} {outer : List Env} {s : Shared} {H : Hp} {E : XK} {G : Hp} {ρ : Ev} {C : Addr} {e : Value} {s' : Shared}
    (fl : FlyS (cxOf (CXo P w) P w K mg base N qual scope f cd A outer s H E) G H ρ C e s') (hE : ∀ G' H', Up G H G' H' → E (.ref C) none H') : (cxOf (CXo P w) P w K mg base N qual scope f cd A outer s H E).xe e s' :=
  leave_g (env := envOfC qual scope s.heap.objs.size f cd) (fn := fun _ => true) rfl rfl fl hE

noncomputable def startE (n : Nat) (ds : List D) : Ev := ds.map (fun d => some (.val d)) ++ List.replicate (n - ds.length) none
noncomputable def bodyR (o : O) : R D := match o with
  | .rt d => .ok d
  | .re d _ => .ok d
  | .nx _ => .ok .non
  | .ex C _ => .ex C
  | _ => .no
theorem start_st {K : PySem.W.Frag} {G H : Hp} {N : List Str} {vs : List V} {ds : List D} (sub : Same G H) (r : Reps K G vs ds) : StR K G H G H (start N vs) (startE N.length ds) := by
  have hl := r.length
  have get : ∀ (i : Nat) x, (startE N.length ds)[i]? = some (some x) → ∃ d, ds[i]? = some d ∧ x = .val d := fun i x e => by
    unfold startE at e
    by_cases hi : i < ds.length
    · rw [List.getElem?_append_left (by simpa using hi), List.getElem?_map] at e
      cases q : ds[i]? with
      | none => rw [q] at e; cases e
      | some d => rw [q] at e; cases e; exact ⟨d, rfl, rfl⟩
    · rw [List.getElem?_append_right (by simpa using hi), List.getElem?_replicate] at e
      split at e <;> cases e
  have no : NoOwn (startE N.length ds) := fun i x e => by obtain ⟨d', _, q⟩ := get i _ e; exact ⟨d', q⟩
  refine ⟨⟨sub, by simp [start, startE, hl], fun i d e => ?_, fun i m C p fs e => absurd e (no.obj i m C p fs)⟩, sub, .refl sub, fun i es e => ?_, fun i j es fs l e => ?_, no.ob⟩
  · obtain ⟨d', e', q⟩ := get i _ e
    cases q
    obtain ⟨v, ev, rv⟩ := r.get e'
    refine ⟨v, ?_, rv⟩
    unfold start
    rw [List.getElem?_append_left (by have := (List.getElem?_eq_some_iff.mp ev).1; simpa using this), List.getElem?_map, ev]
    rfl
  · obtain ⟨d', _, q⟩ := get i _ e; cases q
  · obtain ⟨d', _, q⟩ := get i _ e; cases q
theorem Fun.okF_0 {P : Program} {w : World} {K : PySem.W.Frag} {mg : Str → Option Value} {base : Heap} {x qual : Str} {st : Stmt} {f : Addr} {fd : FuncData} {N ps : List Str} {k : Nat} (F : Fun K x qual st f fd) (S : FnScope N ps (defScope st)) {g : Ev → O}
    (hbody : ∀ (cdv : Value) (A : Around) (outer : List Env) (s : Shared) (H : Hp) (E : XK), Room k (A.deeper (envOfC qual (defScope st) s.heap.objs.size f cdv)) → QSsF (cxOf (CXo P w) P w K mg base N qual (defScope st) f cdv A outer s H E) (defBody st) g) :
    FnF P w K mg base (k + 1) f fd ps (fun ds => bodyR (g (startE N.length ds))) := by
  obtain ⟨oc, od, kV, doc, pm, an, cdv, ct, osl, rfl, lk, hcd⟩ := F.ex
  refine fn_of lk hcd S (fun vs H Q E h => h.1) fun A outer s H vs Q E hr hsp => ?_
  obtain ⟨hl, G, ds, sub, r, h⟩ := hsp
  refine ⟨_, hbody cdv A outer s H E hr G H, G, startE N.length ds, start_st sub r, ?_⟩
  dsimp only at h
  cases q : g (startE N.length ds) with
  | nx ρ => rw [q] at h; exact fun σ G' H' sr => h .non G' H' sr.up .non
  | rt d => rw [q] at h; exact fun v G' H' u rv => h v G' H' u rv
  | re d ρ => rw [q] at h; exact fun v σ G' H' sr rv => h v G' H' sr.up rv
  | bk ρ => rw [q] at h; exact h.elim
  | ct ρ => rw [q] at h; exact h.elim
  | ex C ρ => rw [q] at h; exact fun e s' fl => leave_ok fl h
  | no => rw [q] at h; exact h.elim
end L2
namespace L2
open PySem PySem.Spec PyProof.Rows
theorem noFill_tup_mul : fillsNumberSlot (.type "tuple") "mul" = pure false :=
  PySem.fillsNumberSlot_seq (id := "tuple.__mul__") (r := some (.builtin "tuple.__rmul__")) F.slot_tuple_mul.lookup (by decide +kernel) F.slot_tuple_rmul.lookup (by decide +kernel)
theorem rep_tup : seqRepeat? (.type "tuple") = pure (some (.builtin "tuple.__mul__")) := by
  unfold seqRepeat?
  rw [PySem.seqSlot_of (T := "tuple") (name := "__mul__") (id := "tuple.__mul__") F.slot_tuple_mul.lookup (by decide +kernel), PySem.seqSlot_of (T := "tuple") (name := "__rmul__") (id := "tuple.__rmul__") F.slot_tuple_rmul.lookup (by decide +kernel)]
  rfl
open Builtin in
theorem int_rmul_tup (a : Int) (t : Tok) (l : Addr) (items : Array Value) (n : Nat) (dd : Option Addr) (sl : Array (Option Value)) :
    Meets (Builtin.«int.__rmul__» ⟨[.int a t, .ref l], []⟩) (fun _ Rr s => s.heap.get? l = some { cls := .type "tuple", dict := dd, data := .seq items n, slots := sl } ∧ Rr (.ok (.ret Value.notImplemented)) s) :=
  .of_wp fun prog w A Rr s h => by obtain ⟨hp, g, d, tk, os⟩ := s; obtain ⟨hl, h⟩ := h; wp_walk; exact ⟨_, rfl, h⟩
section
open Builtin AutoSeq1
variable (l : Addr) (items : Array Value) (n : Nat) (dd : Option Addr) (sl : Array (Option Value)) (x : Int) (u : Tok) (h1 : (decide (x < -(2 ^ 63)) || decide (x ≥ 2 ^ 63)) = false)
include h1
theorem tup_mul0 (hc : (items.isEmpty || x == 1) = true) :
    Meets (Builtin.«tuple.__mul__» ⟨[.ref l, .int x u], []⟩) (fun _ Rr s => s.heap.get? l = some { cls := .type "tuple", dict := dd, data := .seq items n, slots := sl } ∧ Rr (.ok (.ret (.ref l))) s) :=
  .of_wp fun prog w A Rr s h => by
    obtain ⟨hp, g, d, tk, os⟩ := s; obtain ⟨hl, h⟩ := h
    have f1 := idx_int
    wp_walk
    refine wpAny_ite_false (by rw [h1]; rfl) ?_
    refine wpAny_bind (tupleItemsOf_ (show IsTup hp l items from ⟨_, hl, rfl, n, rfl⟩) ?_)
    dsimp only
    rw [if_pos hc]
    unfold Tuple.tupleIsExact
    refine wpAny_bind (wpAny_bind (wpAny_typeOf ⟨_, hl, rfl⟩ (wpAny_pure ?_)))
    rw [if_pos (by decide)]
    exact wpAny_bind (wpAny_rule (wpAny_pure ⟨_, rfl, h⟩))
theorem tup_mul1 (hc : ¬ (items.isEmpty || x == 1) = true) (h2 : (decide (x ≤ 0) || items.isEmpty) = true) :
    Meets (Builtin.«tuple.__mul__» ⟨[.ref l, .int x u], []⟩) (fun _ Rr s => s.heap.get? l = some { cls := .type "tuple", dict := dd, data := .seq items n, slots := sl } ∧ Rr (.ok (.ret (.ref s.heap.objs.size))) { s with heap := s.heap.push { cls := .type "tuple", data := .seq #[] } }) :=
  .of_wp fun prog w A Rr s h => by
    obtain ⟨hp, g, d, tk, os⟩ := s; obtain ⟨hl, h⟩ := h
    have f1 := idx_int
    wp_walk
    refine wpAny_ite_false (by rw [h1]; rfl) ?_
    refine wpAny_bind (tupleItemsOf_ (show IsTup hp l items from ⟨_, hl, rfl, n, rfl⟩) ?_)
    dsimp only
    rw [if_neg hc, if_pos h2]
    exact wpAny_bind (m := Builtin.Tuple.tupleExact _) (wpAny_newObj_type (wpAny_pure ⟨_, rfl, h⟩) (Nat.zero_le _))
theorem tup_mul2 (hc : ¬ (items.isEmpty || x == 1) = true) (h2 : ¬ (decide (x ≤ 0) || items.isEmpty) = true) (hz : items.size * x.toNat ≤ sizeLine) :
    Meets (Builtin.«tuple.__mul__» ⟨[.ref l, .int x u], []⟩) (fun _ Rr s => s.heap.get? l = some { cls := .type "tuple", dict := dd, data := .seq items n, slots := sl } ∧
      Rr (.ok (.ret (.ref s.heap.objs.size))) { s with heap := s.heap.push { cls := .type "tuple", data := .seq (List.foldl (fun x1 x2 => x1 ++ x2) #[] (List.replicate x.toNat items)) } }) :=
  .of_wp fun prog w A Rr s h => by
    obtain ⟨hp, g, d, tk, os⟩ := s; obtain ⟨hl, h⟩ := h
    have f1 := idx_int
    have hx : 0 < x := by
      cases q : decide (x ≤ 0) with
      | true => rw [q] at h2; exact absurd rfl h2
      | false => exact Int.not_le.mp (of_decide_eq_false q)
    have ez : (items.size : Int) * x = ((items.size * x.toNat : Nat) : Int) := by
      rw [Int.natCast_mul, Int.toNat_of_nonneg (Int.le_of_lt hx)]
    have hlim : (sizeLine : Nat) ≤ (2 ^ 63 - 1) / 8 := by decide
    have h3 : ¬ ((items.size : Int) * x > (2 ^ 63 - 1) / 8) := by
      rw [ez]
      have : ((sizeLine : Nat) : Int) ≤ (2 ^ 63 - 1) / 8 := by decide
      omega
    have h4 : ¬ (Tuple.tupleTooMany ((items.size : Int) * x) = true) := by
      unfold Tuple.tupleTooMany
      rw [ez]
      intro q
      have := of_decide_eq_true q
      omega
    have hfz : (List.foldl (fun x1 x2 => x1 ++ x2) #[] (List.replicate x.toNat items)).size ≤ sizeLine := by
      have e := foldl_rep items.toList x.toNat []
      simp only [List.nil_append, Array.toArray_toList] at e
      rw [e, List.size_toArray, len_rep, Array.length_toList, Nat.mul_comm]
      exact hz
    wp_walk
    refine wpAny_ite_false (by rw [h1]; rfl) ?_
    refine wpAny_bind (tupleItemsOf_ (show IsTup hp l items from ⟨_, hl, rfl, n, rfl⟩) ?_)
    dsimp only
    rw [if_neg hc, if_neg h2, if_neg h3, if_neg h4]
    exact wpAny_bind (m := Builtin.Tuple.tupleExact _) (wpAny_newObj_type (wpAny_pure ⟨_, rfl, h⟩) hfz)
end
section
variable {X : Cx}
noncomputable def rRepT (K : PySem.W.Frag) : R2 := fun x y H Q => ∃ l k xs, x = .ref l ∧ y = .int k ∧ SqT K H l xs ∧ -(2 ^ 63) ≤ k ∧ k < 2 ^ 63 ∧ xs.length * k.toNat ≤ sizeLine ∧
  (xs = [] ∨ k = 1 → Q (.ref l) H) ∧ (xs ≠ [] → k ≠ 1 → ∀ p, H p = none → Q (.ref p) (upd H p (.tup (List.replicate k.toNat xs).flatten)))
theorem op_repT : OpR X (binaryOp .Mult) (rRepT X.K) := by
  intro pins s σ H x y v u Q I rx ry h
  obtain ⟨l, k, xs, rfl, rfl, hH, h1, h2, hz, q0, q1⟩ := h
  cases rx
  obtain ⟨t, rfl⟩ := ry
  obtain ⟨its, r, p, hzz⟩ := I.tuple hH
  obtain ⟨⟨cls, dd, data, sl⟩, ho, hc, n, hd⟩ := id p
  simp only at hc hd
  subst hc hd
  have hlen : its.length = xs.length := r.length.symm
  have hin : (decide (k < -(2 ^ 63)) || decide (k ≥ 2 ^ 63)) = false := by
    rw [decide_eq_false (by omega), decide_eq_false (by omega)]; rfl
  have emp : its.toArray.isEmpty = decide (xs = []) := by
    cases its with
    | nil => cases r; rfl
    | cons a b => cases r; rfl
  refine wpAny_binaryOp_repeat_ref (T := "tuple") (U := "int") (by decide) ⟨_, ho, rfl⟩ (fun s' => typeIs_int s' k t) noFill_tup_mul F.fills_int_mul F.slot_int_rmul rep_tup F.slot_int_index.lookup
    (call_meets F.slot_int_rmul (typeIs_int s k t) F.entry_int_rmul (F.args_int_rmul_2 _ _) (int_rmul_tup k t l its.toArray n dd sl) ⟨ho, rfl, ⟨_, ho, rfl⟩, ?_⟩)
  by_cases hc : (its.toArray.isEmpty || k == 1) = true
  · refine call_meets F.slot_tuple_mul ⟨_, ho, rfl⟩ F.entry_tuple_mul (F.args_tuple_mul_2 _ _) (tup_mul0 l its.toArray n dd sl k t hin hc) ⟨ho, .ref l, H, I, rfl, q0 ?_⟩
    rw [emp] at hc
    simpa using hc
  · have hne : xs ≠ [] ∧ k ≠ 1 := by
      rw [emp] at hc
      simpa using hc
    have fin : ∀ its', its' = (List.replicate k.toNat its).flatten → EP X pins σ Q (.ref s.heap.objs.size) { s with heap := s.heap.push { cls := .type "tuple", data := .seq its'.toArray } } := fun its' e => by
      subst e
      refine ⟨.ref s.heap.objs.size, _, I.laid (t' := s.toks) (o := .tup (List.replicate k.toNat xs).flatten) (fun b ob q => Heap.get?_push_of_some _ q) (Nat.le_refl _) ?_, rfl, q1 hne.1 hne.2 _ I.fresh⟩
      exact ⟨by rw [len_rep, Nat.mul_comm]; exact hz, _, r.rep k.toNat, IsTup.new _ _⟩
    by_cases h0 : (decide (k ≤ 0) || its.toArray.isEmpty) = true
    · refine call_meets F.slot_tuple_mul ⟨_, ho, rfl⟩ F.entry_tuple_mul (F.args_tuple_mul_2 _ _) (tup_mul1 l its.toArray n dd sl k t hin hc h0) ⟨ho, ?_⟩
      refine fin [] ?_
      have : k ≤ 0 := by
        rw [emp, decide_eq_false hne.1, Bool.or_false] at h0
        exact of_decide_eq_true h0
      rw [Int.toNat_of_nonpos this]
      rfl
    · refine call_meets F.slot_tuple_mul ⟨_, ho, rfl⟩ F.entry_tuple_mul (F.args_tuple_mul_2 _ _) (tup_mul2 l its.toArray n dd sl k t hin hc h0 (by rw [List.size_toArray, hlen]; exact hz)) ⟨ho, ?_⟩
      have e := foldl_rep its k.toNat []
      simp only [List.nil_append] at e
      rw [e]
      exact fin _ rfl
theorem txt_mul (x : Str) (n : Int) : (Txt.mul x n).cps.toList = (List.replicate n.toNat x.cps.toList).flatten := by
  unfold Txt.mul
  by_cases h1 : n < 1
  · rw [if_pos h1, Int.toNat_of_nonpos (by omega)]; rfl
  · rw [if_neg h1]
    by_cases h2 : (n == 1 || x.length == 0) = true
    · rw [if_pos h2]
      rcases Bool.or_eq_true_iff.mp h2 with h | h
      · have : n = 1 := by simpa using h
        subst this
        show _ = (List.replicate 1 x.cps.toList).flatten
        simp
      · have : x.cps.toList = [] := List.eq_nil_of_length_eq_zero (by rw [Str.len_list]; simpa using h)
        rw [this]; simp
    · rw [if_neg h2]
      have : ∀ (m : Nat) (acc : Array Nat), ((List.replicate m x.cps).foldl (· ++ ·) acc).toList = acc.toList ++ (List.replicate m x.cps.toList).flatten := by
        intro m
        induction m with
        | zero => intro acc; simp
        | succ m ih => intro acc; rw [List.replicate_succ, List.foldl_cons, ih, List.replicate_succ, List.flatten_cons]; simp
      simpa using this n.toNat #[]
theorem op_mul_str : OpR X (binaryOp .Mult) (fun x y H Q => ∃ (i : Str) (k : Int), x = .str i ∧ y = .int k ∧ -(2 ^ 63) ≤ k ∧ k < 2 ^ 63 ∧ i.length * k.toNat ≤ sizeLine ∧ Q (.str (Txt.mul i k)) H) := by
  intro pins s σ H x y v u Q I rx ry h
  obtain ⟨i, k, rfl, rfl, h1, h2, hz, q⟩ := h
  obtain ⟨t, rfl⟩ := rx
  obtain ⟨t', rfl⟩ := ry
  refine SB.mul ⟨by rw [decide_eq_false (by omega), decide_eq_false (by omega)]; rfl, fun h3 h4 => ?_, fun h3 h4 => ?_⟩ fun t'' n => ⟨.str _, H, I.tok _, ⟨_, rfl⟩, q⟩
  · have hk : 0 < k := by omega
    intro h5
    have h6 : (2 ^ 63 - 1) / k * k ≤ 2 ^ 63 - 1 := Int.ediv_mul_le _ (by omega)
    have h7 : (((i.length * k.toNat : Nat)) : Int) = (i.length : Int) * k := by rw [Int.natCast_mul, Int.toNat_of_nonneg (by omega)]
    have h8 : ((2 ^ 63 - 1) / k + 1) * k ≤ (i.length : Int) * k := Int.mul_le_mul_of_nonneg_right (by omega) (by omega)
    have h9 : 2 ^ 63 - 1 < ((2 ^ 63 - 1) / k + 1) * k := Int.lt_ediv_add_one_mul_self _ hk
    have h10 : ((sizeLine : Nat) : Int) < 2 ^ 63 - 1 := by decide
    omega
  · unfold Builtin.Str.tooLong
    exact decide_eq_false (by omega)
noncomputable def mulD : D → D → Option D
  | .int i, .int j => if (-(2 ^ 64) < i ∧ i < 2 ^ 64) ∨ (-(2 ^ 64) < j ∧ j < 2 ^ 64) then some (.int (i * j)) else none
  | .str x, .int k => if -(2 ^ 63) ≤ k ∧ k < 2 ^ 63 ∧ x.length * k.toNat ≤ sizeLine then some (.str (List.replicate k.toNat x).flatten) else none
  | .tup xs, .int k => if -(2 ^ 63) ≤ k ∧ k < 2 ^ 63 ∧ xs.length * k.toNat ≤ sizeLine then some (.tup (List.replicate k.toNat xs).flatten) else none
  | .lst false xs, .int k => if -(2 ^ 63) ≤ k ∧ k < 2 ^ 63 ∧ xs.length * k.toNat ≤ sizeLine then some (.lst false (List.replicate k.toNat xs).flatten) else none
  | _, _ => none
noncomputable def rMul' (K : PySem.W.Frag) : R2 := fun x y H Q => rI CMul (fun i j => .int (i * j)) x y H Q ∨ (∃ (i : Str) (k : Int), x = .str i ∧ y = .int k ∧ -(2 ^ 63) ≤ k ∧ k < 2 ^ 63 ∧ i.length * k.toNat ≤ sizeLine ∧ Q (.str (Txt.mul i k)) H) ∨ rRepT K x y H Q ∨ rRep x y H Q
theorem op_mul' : OpR X (binaryOp .Mult) (rMul' X.K) := op_mul.or (op_mul_str.or (op_repT.or op_rep))
theorem ok_mul (K : PySem.W.Frag) : ROk K (rMul' K) mulD := by
  intro G H x y dx dy d Q s rx ry e q
  unfold mulD at e
  split at e
  · split at e
    · rename_i hc
      cases e
      exact .inl ⟨_, _, rx.int_inv, ry.int_inv, hc, q _ G H (.refl s) (.int _)⟩
    · cases e
  · split at e
    · rename_i hc
      cases e
      obtain ⟨i, rfl, ei, hi⟩ := rx.str_inv
      subst ei
      rw [Str.len_list] at hc
      exact .inr (.inl ⟨i, _, rfl, ry.int_inv, hc.1, hc.2.1, hc.2.2, q _ G H (.refl s) (.strL (txt_mul i _) (by rw [len_rep, Str.len_list, Nat.mul_comm]; exact hc.2.2))⟩)
    · cases e
  · split at e
    · rename_i k hc
      cases e
      obtain ⟨a, vs, rfl, ha, ra⟩ := rx.tup_inv
      refine .inr (.inr (.inl ⟨a, _, vs, rfl, ry.int_inv, ha.mono s, hc.1, hc.2.1, by rw [ra.length]; exact hc.2.2, fun z => ?_, fun _ _ p hp => q _ _ _ (.new s hp) (.tup (.of upd_same) ((ra.rep _).mono (.into (s.free hp))))⟩))
      rcases z with z | z
      · subst z
        cases ra
        have e : (List.replicate k.toNat ([] : List D)).flatten = [] := by simp
        rw [e] at q
        exact q _ G H (.refl s) (.tup ha .nil)
      · subst z
        have e : ∀ l : List D, (List.replicate (1 : Int).toNat l).flatten = l := fun l => by show (List.replicate 1 l).flatten = l; simp
        rw [e] at q
        exact q _ G H (.refl s) (.tup ha ra)
    · cases e
  · split at e
    · rename_i hc
      cases e
      obtain ⟨a, vs, rfl, ha, ra⟩ := rx.lst_inv
      exact .inr (.inr (.inr ⟨a, _, vs, rfl, ry.int_inv, s _ _ ha, hc.1, hc.2.1, by rw [ra.length]; exact hc.2.2, fun p hp => q _ _ _ (.new s hp) (.lst upd_same ((ra.rep _).mono (.into (s.free hp))))⟩))
    · cases e
  · cases e
theorem pf_mul_0 {a b : Expr} {ga gb : Ev → R D} {pos : Pos} (ha : QF X a ga) (hb : QF X b gb) : QF X (.BinOp a .Mult b pos) (g2 mulD ga gb) := pf_bin_0 op_mul' (ok_mul _) ha hb
end
end L2
namespace L2
open PySem PySem.W PySem.Spec PySem.Calls PyProof.Rows
structure ExcCls (K : Frag) (C : Addr) : Prop where
  ga : findIn K (.ref C) "__getattribute__" = some (some (.builtin "BaseException.__getattribute__"))
  gt : findIn K (.ref C) "__getattr__" = some none
  cl : findIn K (.ref C) "__class__" = some (some (.builtin "object.__class__"))
  sp : specialIn K (.builtin "object.__class__") "__get__" = some (some (.builtin "getset_descriptor.__get__"))
  tk : takesIn K (.builtin "object.__class__") = some true
  mo : mroIn K C (.type "object") = some true
  be : subIn K (.ref C) (.type "BaseException") = some true
  some : (clsIn K C).isSome = true
section
variable {prog : Program} {w : World} {A : Around} {E : Value → Shared → Prop} {s : Shared} {K : Frag} {a C : Addr}
section
open Builtin Builtin.ObjectAttr Builtin.Getset_descriptor
end
end
section
variable {X : Cx} {pins : List (Addr × Obj)} {σ : St} {G H : Hp} {s : Shared} {A : Around} {E : Value → Shared → Prop} {Q : Value → Shared → Prop}
noncomputable def tyN : D → Option String
  | .non => some "NoneType"
  | .bl _ => some "bool"
  | .int _ => some "int"
  | .str _ => some "str"
  | .tup _ => some "tuple"
  | .lst _ _ => some "list"
  | .exc _ => none
theorem inst_D {d : D} {x : V} {u c : Value} {T : String} {b : Bool} (I : Inv X pins σ H s) (sub : Same G H) (r : Rep X.K G x d) (ru : RelV x u) (ht : tyN d = some T) (e : kitOne X.K (.type T) c = some b) (h : ∀ tk, Q (.bool b) { s with toks := tk }) :
    wpAny (model X.prog X.w) A (call (.builtin "isinstance") [u, c]) Q E s := by
  cases r with
  | non => cases ht; cases ru; exact kia_one kitx_none I.kIn True.intro e (fun z => nomatch z) h
  | bl y => cases ht; cases ru; exact kia_one kitx_bool I.kIn True.intro e (fun z => nomatch z) h
  | int i => cases ht; obtain ⟨t, rfl⟩ := ru; exact kia_one kitx_int I.kIn True.intro e (fun z => nomatch z) h
  | str y hy => cases ht; obtain ⟨t, rfl⟩ := ru; exact kia_one kitx_str I.kIn True.intro e (fun z => nomatch z) h
  | tup hh t =>
    cases ht; cases ru
    obtain ⟨its, rv, ⟨o, h1, h2, _⟩, _⟩ := I.tuple (hh.mono sub)
    exact kia_one kitx_tuple I.kIn ⟨o, h1, h2⟩ e (fun z => nomatch z) h
  | lst hh t =>
    cases ht; cases ru
    obtain ⟨its, rv, ⟨o, n, h1, h2, _⟩, _⟩ := I.list ((SqL.of hh : SqL X.K G _ _).mono sub)
    exact kia_one kitx_list I.kIn ⟨o, h1, h2⟩ e (fun z => nomatch z) h
  | fls hh t =>
    cases ht; cases ru
    obtain ⟨its, rv, ⟨o, n, h1, h2, _⟩, _⟩ := I.list (hh.mono sub)
    exact kia_one kitx_list I.kIn ⟨o, h1, h2⟩ e (fun z => nomatch z) h
  | exc hh => cases ht
end
section
variable {X : Cx} {e : Expr} {ga : Ev → R D} {y : Str} {p p2 pos : Pos}
noncomputable def isTy (f : String → Bool) (d : D) : R D := match tyN d with
  | some t => .ok (.bl (f t))
  | none => .no
theorem pf_isTy_0 {T : String} (f : String → Bool) (hf : ∀ K : Frag, ∀ t ∈ ["NoneType", "bool", "int", "str", "tuple", "list"], kitOne K (.type t) (.type T) = some (f t)) (hg : Gl X "isinstance") (hm : X.mg "isinstance" = none) (hg2 : Gl X y) (hm2 : X.mg y = none)
    (hv : bootBuiltins y = some (.type T)) (ha : QF X e ga) (hs1 : starEach [e, .Name y p2] X.env = (false, eval e X.env) :: starEach [.Name y p2] X.env := by rfl)
    (hn : y ≠ "__name__" := by decide) (hdb : (y == ("__debug__" : Str)) = false := by decide) :
    QF X (.Call (.Name "isinstance" p) [e, .Name y p2] [] pos) (fun ρ => ga ρ >>= isTy f) := by
  intro pins s σ H Q I h
  have hc : CallR X (.builtin "isinstance") (fun xs H Q => ∃ x G d, xs = [x, .ty T] ∧ Same G H ∧ Rep X.K G x d ∧ ∃ t, tyN d = some t ∧ Q (.bl (f t)) H) := by
    intro pins s σ H xs us Q I r ⟨x, G, d, ex, sub, rd, t, et, q⟩
    subst ex
    obtain ⟨u, u2, rfl, r1, r2⟩ := r.two
    cases r2
    refine inst_D I sub rd r1 et (hf X.K t ?_) fun tk => ⟨.bl (f t), H, I.tok tk, rfl, q⟩
    cases d <;> cases et <;> simp
  refine pe_callB hc hg hm PyProof.Rows.Boot.«isinstance» (pa_cons ha (pa_cons (pe_bltn (v := .ty T) hg2 hm2 hv rfl hn hdb) pa_nil) hs1) (by decide) (by decide) hs1 rfl pins s σ H Q I ?_
  obtain ⟨G, ρ, st, h⟩ := h
  refine tG.intro st h fun x v G1 H1 u1 st1 r1 h1 => ?_
  refine ⟨v, G1, x, rfl, st1.sub, r1, ?_⟩
  unfold isTy at h1
  cases et : tyN x with
  | none => rw [et] at h1; exact h1.elim
  | some t => rw [et] at h1; exact ⟨t, rfl, h1 _ G1 H1 (.refl st1.sub) (.bl _)⟩
end
end L2
namespace L2
open PySem PySem.Spec PyProof.Rows
noncomputable def blsD : List D → Option (List Bool)
  | [] => some []
  | .bl b :: ds => (blsD ds).map (b :: ·)
  | _ => none
theorem Reps.bls {K : PySem.W.Frag} {G : Hp} : ∀ {vs : List V} {ds : List D} {bs : List Bool}, Reps K G vs ds → blsD ds = some bs → vs = bs.map .bl
  | _, _, bs, .nil, e => by cases e; rfl
  | _, _, bs, .cons r t, e => by
    cases r with
    | bl b =>
      rename_i ds
      unfold blsD at e
      cases q : blsD ds with
      | none => rw [q] at e; cases e
      | some cs => rw [q] at e; cases e; rw [Reps.bls t q]; rfl
    | _ => simp [blsD] at e
theorem Vals.bls : ∀ {bs : List Bool} {us : List Value}, Vals (bs.map V.bl) us → us = bs.map Value.bool
  | [], _, .nil => rfl
  | b :: bs, _, .cons r t => by rw [Vals.bls t, show _ = Value.bool b from r]; rfl
section
variable {X : Cx} {e o : Expr} {es : List Expr} {ga gb : Ev → R D} {gl : Ev → R (List D)} {pos : Pos}
noncomputable def rAll (K : PySem.W.Frag) (f : List Bool → Bool) : List V → Hp → VK → Prop := fun xs H Q => ∃ p bs, xs = [.ref p] ∧ SqL K H p (bs.map V.bl) ∧ Q (.bl (f bs)) H
theorem truth_bls (A : Around) (prog : Program) (w : World) (bs : List Bool) : TruthOf prog w A (fun i v => (bs.map Value.bool).toArray[i]? = some v) (fun i => bs.getD i true) := by
  intro i v s Q E hP hQ
  rw [List.getElem?_toArray, List.getElem?_map] at hP
  cases q : bs[i]? with
  | none => rw [q] at hP; cases hP
  | some b =>
    rw [q] at hP
    cases hP
    have e : bs.getD i true = b := by rw [List.getD_eq_getElem?_getD, q]; rfl
    have hQ : Q (bs.getD i true) s := hQ
    rw [e] at hQ
    exact wpAny_truthy_bool hQ
theorem call_all' (hc : X.calm = true) : CallR X (.builtin "all") (rAll X.K fun bs => bs.all id) := by
  intro pins s σ H xs us Q I r ⟨p, bs, ex, hs, q⟩
  subst ex
  obtain ⟨u, rfl, r1⟩ := r.one
  cases r1
  obtain ⟨its, rv, pl, hz⟩ := I.list hs
  obtain rfl := rv.bls
  have hh : X.A.in1.handled = none := I.ok.hd hc
  have hlt : p < s.heap.objs.size := by obtain ⟨o, n, e, _⟩ := id pl; exact Heap.lt_size e
  refine call_all_walk (wpAny_pyIter_list pl.isList ?_)
  refine ⟨s.heap.objs.size, [s.heap.objs.size, p], [s.heap.objs.size], _, _, _, fun i => bs.getD i true, rfl, Walks.list hh s.heap.objs.size p (Nat.ne_of_lt hlt) (bs.map Value.bool).toArray, ⟨⟨_, Heap.get?_push_size _ rfl, rfl, rfl⟩, ?_⟩, truth_bls _ _ _ bs, fun h' tk hk => ?_⟩
  · obtain ⟨o, n, e, c, _, d⟩ := id pl
    exact ⟨o, Heap.get?_push_of_some _ e, c, n, d⟩
  · have e : (List.range (bs.map Value.bool).toArray.size).all (fun i => bs.getD i true) = bs.all id := by
      rw [List.size_toArray, List.length_map]; exact range_all rfl
    rw [e]
    refine ⟨.bl _, H, I.kept (t' := tk) fun b o eb => hk b o (fun z => ?_) (Heap.get?_push_of_some _ eb), rfl, q⟩
    have : b = s.heap.objs.size := by simpa using z
    exact Nat.lt_irrefl _ (this ▸ Heap.lt_size eb)
noncomputable def allF : List D → Option D
  | [.lst _ ds] => (blsD ds).map fun bs => .bl (bs.all id)
  | _ => none
theorem pf_all_0 {p : Pos} (hc : X.calm = true) (hg : Gl X "all") (hm : X.mg "all" = none) (ha : QFA X [e] gl) (he : starEach [e] X.env = [(false, eval e X.env)] := by rfl) : QF X (.Call (.Name "all" p) [e] [] pos) (fun ρ => gl ρ >>= fun ds => ofO (allF ds)) :=
  pf_callB_0 (call_all' hc) (by
    intro G H xs ds d Q s r e q
    unfold allF at e
    split at e
    · rename_i f ds
      obtain ⟨v, rfl, r1⟩ := r.one
      obtain ⟨a, vs, rfl, h, t⟩ := r1.seq_inv
      cases eb : blsD ds with
      | none => rw [eb] at e; cases e
      | some bs =>
        rw [eb] at e
        cases e
        obtain rfl := t.bls eb
        exact ⟨a, bs, rfl, h.mono s, q _ G H (.refl s) (.bl _)⟩
    · cases e) hg hm PyProof.Rows.Boot.«all» ha (he := by rw [he]; rfl)
noncomputable def MROk (K : PySem.W.Frag) (T : String) (r : V → List V → Hp → VK → Prop) (f : D → List D → Option D) : Prop := ∀ (G H : Hp) (x : V) (xs : List V) (dx : D) (ds : List D) (d : D) (Q : VK), Same G H → Rep K G x dx → Reps K G xs ds → f dx ds = some d → Fin G H (Rep K) Q d → r x xs H Q
noncomputable def kindD (T : String) : D → Bool
  | .str _ => T == "str"
  | .lst _ _ => T == "list"
  | _ => false
theorem pf_meth_0 {T id : String} {name : Str} {ap cp : Pos} {r : V → List V → Hp → VK → Prop} {f : D → List D → Option D} (pa : PlainAttrs T) (slot : PySem.Slot T name id) (hty : typeOf (.builtin id) = pure (.type "method_descriptor")) (hm : MtR X id r) (hf : MROk X.K T r f) (ho : QF X o ga) (ha : QFA X (e :: es) gl)
    (hbase : attributeBase o name X.env (eval o X.env) = eval o X.env := by rfl)
    (hfew : ((backTo cp (starEach (e :: es) X.env)).all (fun x => !x.1) && (backToKw cp (keywordEach [] X.env)).all (fun x => x.1.isSome)
      && decide ((e :: es).length + ([] : List Keyword).length + (if ([] : List Keyword).isEmpty then 0 else 1) < 30)) = true := by rfl)
    (hline : (ap.endLine == cp.line) = true := by rfl) (hs : starEach (e :: es) X.env = (false, eval e X.env) :: starEach es X.env := by rfl) (hplain : (backTo cp (starEach es X.env)).any (·.1) = false := by rfl) :
    QF X (.Call (.Attribute o name ap) (e :: es) [] cp) (fun ρ => ga ρ >>= fun x => if kindD T x = true then gl ρ >>= fun ds => ofO (f x ds) else .no) := by
  intro pins s σ H Q I h
  refine pe_bm pa slot hty hm ho ha hbase hfew hline hs hplain pins s σ H Q I ?_
  obtain ⟨G, ρ, st, h⟩ := h
  refine tG.intro st h fun x v G1 H1 u1 st1 r1 h1 => ?_
  by_cases hk : kindD T x = true
  · rw [if_pos hk] at h1
    have ty : tyV X.K T v H1 := by
      cases r1 with
      | str y hy => exact show T = "str" by simpa [kindD] using hk
      | lst hh t => exact .inl ⟨by simpa [kindD] using hk, _, .of (st1.sub _ _ hh)⟩
      | fls hh t => exact .inl ⟨by simpa [kindD] using hk, _, hh.mono st1.sub⟩
      | _ => cases hk
    refine ⟨ty, tG.intro st1 h1 fun ds vs G2 H2 u2 st2 r2 h2 => ?_⟩
    obtain ⟨d, e', q⟩ := ofO.ok h2
    exact hf G2 H2 v vs x ds d Q st2.sub (r1.mono u2.gg) r2 e' q
  · rw [if_neg hk] at h1; exact h1.elim
theorem Str.of_list {y : Str} {x : List Nat} (e : y.cps.toList = x) : (⟨x.toArray⟩ : Str) = y := by
  subst e; simp
end
end L2
namespace L2
open PySem PySem.Spec PyProof.Rows
noncomputable def setVs : List Nat → List D → Ev → R Ev
  | [], [], ρ => .ok ρ
  | i :: is, d :: ds, ρ => setVs is ds (ρ.set i (some (.val d)))
  | _, _, _ => .no
section
variable {X : Cx} {e : Expr} {es : List Expr} {ga : Ev → R D} {gl : Ev → R (List D)} {pos : Pos}
noncomputable def PGsF (X : Cx) (es : List Expr) (is : List Nat) : Prop := PGs X es (fun vs σ H Q => ∃ G₀ H₀ G ρ ds ρ', StR X.K G₀ H₀ G H σ ρ ∧ Reps X.K G vs ds ∧ setVs is ds ρ = .ok ρ' ∧ ∀ σ', StR X.K G₀ H₀ G H σ' ρ' → Q σ' H)
theorem pgsf_nil : PGsF X [] [] := by
  intro pins s σ H vs us Q I r h
  obtain ⟨G₀, H₀, G, ρ, ds, ρ', sr, rd, e, q⟩ := h
  refine pgs_nil pins s σ H vs us Q I r ?_
  cases rd with
  | nil => cases e; exact ⟨rfl, q σ sr⟩
  | cons _ _ => cases e
theorem pgsf_cons (i : Nat) {x : Str} {p : Pos} {is : List Nat} (hN : X.N.Nodup) (h2 : PGsF X es is) (hi : X.N[i]? = some x := by rfl) (hx : Loc X.env.scope x := by first | exact Or.inl rfl | exact Or.inr rfl)
    (hs : (assignEach (.Name x p :: es) X.env).map (·.2) = assign (.Name x p) X.env :: (assignEach es X.env).map (·.2) := by rfl) (hf : X.fn x = true ∨ X.env.scope.names.lookup x = some .local := by first | exact .inl rfl | exact .inr rfl) :
    PGsF X (.Name x p :: es) (i :: is) := by
  intro pins s σ H vs us Q I r h
  obtain ⟨G₀, H₀, G, ρ, ds, ρ', sr, rd, e, q⟩ := h
  refine pgs_cons (pg_name (i := i) hN hi hx hf) h2 hs pins s σ H vs us Q I r ?_
  cases rd with
  | nil => cases e
  | cons r1 t1 => exact ⟨_, _, rfl, G₀, H₀, G, _, _, ρ', sr.set r1 i, t1, e, q⟩
noncomputable def setT (is : List Nat) (d : D) (ρ : Ev) : R Ev := match d with
  | .tup ds => setVs is ds ρ
  | _ => .no
theorem setVs_len : ∀ (is : List Nat) (ds : List D) (ρ ρ' : Ev), setVs is ds ρ = .ok ρ' → ds.length = is.length
  | [], [], _, _, _ => rfl
  | [], _ :: _, _, _, e => by cases e
  | _ :: _, [], _, _, e => by cases e
  | i :: is, d :: ds, ρ, ρ', e => by simp [setVs_len is ds _ ρ' e]
theorem pgf_tup {k : Nat} {is : List Nat} (hc : X.calm = true) (h : PGsF X es is) (hn : (assignEach es X.env).length = is.length := by rfl) (hst : (assignEach es X.env).findIdx? (·.1) = none := by rfl) : PGF X (.Tuple es k pos) (setT is) := by
  intro pins s σ H v u Q I r q
  obtain ⟨G₀, H₀, G, ρ, d, ρ', sr, rd, e, q⟩ := q
  refine pg_tup hc h hn hst pins s σ H v u Q I r ?_
  cases rd with
  | tup hh t =>
    rename_i ds
    exact ⟨_, _, rfl, hh.mono sr.e.sub, by rw [t.length]; exact setVs_len is ds ρ ρ' e, G₀, H₀, G, ρ, ds, ρ', sr, t, e, q⟩
  | _ => cases e
theorem ps_f_raise_0 {x : Str} {np cp : Pos} {C : Addr} {bm : List Value} {B newId initId : String} (Oc : OwnCls x C bm newId X.mg X.base) (FB : ExcBaseFacts B newId initId bm) (hh : X.A.handled = none) (hg : Gl X x) (ha : QFA X [e] gl)
    (hdb : (x == ("__debug__" : Str)) = false := by decide) (hs : starEach [e] X.env = (false, eval e X.env) :: starEach [] X.env := by rfl) (hz : ∀ ρ ds, gl ρ = .ok ds → ds.length ≤ 1 := by intro _ _ z; first | (cases z; decide) | skip) :
    QSF X (.Raise (some (.Call (.Name x np) [e] [] cp)) none pos) (fun ρ => (gl ρ).out ρ fun _ => .ex C ρ) := fun G₀ H₀ pins s σ H D I h => by
  obtain ⟨G, ρ, sr, h⟩ := h
  dsimp only at h
  obtain ⟨tl, N, nm, qn, bs, hdct, sn, sub, ab, col, dd, k0, k1, k2, k3, k5, mN, hC, hN, hni, T⟩ := Oc.obj
  refine wpAny_Raise_call_subT (C := C) (nm := nm) (q := qn) (N := N) (bs := bs) (bm := tl) (hdct := hdct) (sn := sn) (sub := sub) (ab := ab) (col := col) (dd := dd) (k0 := k0) (k1 := k1) (k2 := k2) (k3 := k3) (k5 := k5)
    FB (mN := mN) (T.hasType FB.hasBase) hh (by rw [hs]; rfl) hni (ld_glob I hg Oc.bound ⟨rfl, ?_⟩ hdb)
  have t : tAF X gl σ H (fun vs H1 => vs.length ≤ sizeLine ∧ ∃ G1, Up G H G1 H1 ∧ OutR X G₀ H₀ D (.ex C ρ)) := by
    refine ⟨G, ρ, sr.e, ?_⟩
    cases q : gl ρ with
    | ok ds =>
      rw [q] at h
      intro vs G1 H1 u r
      exact ⟨by rw [r.length]; exact Nat.le_trans (hz ρ ds q) (by decide), G1, u, h⟩
    | ex C' => rw [q] at h; exact Exx.of sr h
    | no => rw [q] at h; exact h
  have hA := ha cp pins s σ H _ I t
  rw [hs] at hA ⊢
  refine Calls.evalArgs_plain (wpAny_mono hA (fun vs s₂ q => ?_) fun _ _ y => y)
  obtain ⟨vs', H1, I1, r, hz, G1, u, h⟩ := q
  exact ⟨rfl, by show vs.length ≤ sizeLine; rw [← r.length]; exact hz, I1.bk _ _ hC, hN.keeps I1.bk, T.keeps I1.bk, fun h' a made => h _ _ (.of (sr.ups u) ⟨pins, s₂, a, rfl, I1, .inl ⟨h', vs, made, rfl⟩⟩)⟩
end
section
variable {X : Cx} {pins : List (Addr × Obj)} {σ : St} {H : Hp} {s : Shared}
theorem Inv.cx {A' : Around} {calm' : Bool} {pn' pins' : List (Addr × Obj)} {xe' : Value → Shared → Prop} (I : Inv X pins σ H s) (hp : ∀ p ∈ pn' ++ pins', p ∈ X.pn ++ pins) (hA : A'.frames = X.A.frames) (hd : calm' = true → A'.handled = none) :
    Inv { X with A := A', calm := calm', pn := pn', xe := xe' } pins' σ H s :=
  ⟨⟨I.ok.mod, I.ok.kind, I.ok.glob, I.ok.blt, I.ok.above, I.ok.inj, I.ok.has, I.ok.cab, hd, hA.trans I.ok.frames, I.ok.stk, I.ok.exf, I.ok.bs, I.ok.bsz, I.ok.noex, I.ok.exfs, I.ok.funs, I.ok.frf, I.ok.tabs⟩,
    I.os, I.bare, I.base, I.loc, I.cell, I.free, I.freeC, fun p q => I.pin p (hp p q), I.hok, I.len⟩
end
end L2
namespace L2
open PySem PySem.Spec PyProof.Rows
noncomputable def tryO (gb gs : Ev → O) (f : Addr → Option Bool) (i : Nat) : Ev → O := fun ρ => match gb ρ with
  | .ex C ρ' => (match f C with
    | some true => (match gs (ρ'.set i (some (.val (.exc C)))) with
      | .nx ρ'' => .nx (ρ''.set i none)
      | .rt d => .rt d
      | _ => .no)
    | _ => .no)
  | o => o
section
variable {X : Cx} {body suite : List Stmt} {b₀ : Stmt} {gb gs : Ev → O} {pos hp tp : Pos} {tn nm : Str} {Ct : Addr}
end
end L2
namespace L2
open PySem PySem.Spec PyProof.Rows
structure Callee (P : Program) (w : World) (K : PySem.W.Frag) (mg : Str → Option Value) (base : Heap) (x : Str) (k n : Nat) (g : List D → R D) : Prop where
  ex : ∃ f fd ps, FnF P w K mg base k f fd ps g ∧ mg x = some (.ref f) ∧ PySem.W.keepIn K (.ref f) = true ∧ Binds K fd ps [] ∧ ps.length = n
theorem pf_callC_0 {X : Cx} {x : Str} {k n : Nat} {g : List D → R D} {e : Expr} {es : List Expr} {gl : Ev → R (List D)} {p pos : Pos} (c : Callee X.prog X.w X.K X.mg X.base x k n g) (hr : Room k X.A) (ha : QFA X (e :: es) gl) (hg : Gl X x := by rfl)
    (hdb : (x == ("__debug__" : Str)) = false := by decide) (he : starEach (e :: es) X.env = (false, eval e X.env) :: starEach es X.env := by rfl) (hpl : (backTo pos (starEach es X.env)).any (·.1) = false := by rfl) :
    QF X (.Call (.Name x p) (e :: es) [] pos) (fun ρ => gl ρ >>= fun ds => if ds.length = n then g ds else .no) := by
  obtain ⟨f, fd, ps, F, hm, hk, hb, rfl⟩ := c.ex
  exact pf_call_0 F hr hg hm hk hb ha hdb he hpl
theorem FnF.to {P : Program} {w : World} {K : PySem.W.Frag} {mg : Str → Option Value} {base : Heap} {k : Nat} {f : Addr} {fd : FuncData} {ps : List Str} {g g' : List D → R D} (F : FnF P w K mg base k f fd ps g) (h : ∀ ds, ds.length = ps.length → g' ds = .no ∨ g ds = g' ds) : FnF P w K mg base k f fd ps g' := by
  refine F.imp fun vs H Q E ⟨hl, G, ds, sub, r, q⟩ => ⟨hl, G, ds, sub, r, ?_⟩
  rcases h ds (by rw [← r.length]; exact hl) with z | z
  · rw [z] at q; exact q.elim
  · rw [z]; exact q
theorem Fun.callee {P : Program} {w : World} {K : PySem.W.Frag} {mg : Str → Option Value} {base : Heap} {x : Str} {st : Stmt} {f : Addr} {fd : FuncData} {ps : List Str} {k : Nat} {g : List D → R D} (F : Fun K x x st f fd) (hm : mg x = some (.ref f)) (ok : FnF P w K mg base k f fd ps g)
    (h : ∀ (kV doc pm : Value) (an : Option Addr) (cdv ct : Value) (us : List Value), us.length = ps.length → bindArgs (PySem.W.fnOf x x (defArgs st) (defBody st) (defScope st) .none kV doc pm an cdv ct) ⟨us, []⟩ = pure (ps.zip us)) : Callee P w K mg base x k ps.length g :=
  ⟨f, fd, ps, ok, hm, F.kp, F.binds h, rfl⟩
theorem isTy_fact {T : String} {f : String → Bool} (h : ∀ K : PySem.W.Frag, PySem.W.kitOne K (.type "NoneType") (.type T) = some (f "NoneType") ∧ PySem.W.kitOne K (.type "bool") (.type T) = some (f "bool") ∧ PySem.W.kitOne K (.type "int") (.type T) = some (f "int") ∧
    PySem.W.kitOne K (.type "str") (.type T) = some (f "str") ∧ PySem.W.kitOne K (.type "tuple") (.type T) = some (f "tuple") ∧ PySem.W.kitOne K (.type "list") (.type T) = some (f "list")) :
    ∀ K : PySem.W.Frag, ∀ t ∈ ["NoneType", "bool", "int", "str", "tuple", "list"], PySem.W.kitOne K (.type t) (.type T) = some (f t) := fun K t ht => by
  obtain ⟨h1, h2, h3, h4, h5, h6⟩ := h K
  simp only [List.mem_cons, List.mem_nil_iff, or_false] at ht
  rcases ht with rfl | rfl | rfl | rfl | rfl | rfl <;> assumption
noncomputable def isInt (t : String) : Bool := t == "int" || t == "bool"
section
variable {X : Cx} {e : Expr} {ga : Ev → R D} {p p2 pos : Pos}
theorem pf_isInt_0 (hm : X.mg "isinstance" = none) (ha : QF X e ga) (hm2 : X.mg "int" = none) (hg2 : Gl X "int" := by rfl) (hg : Gl X "isinstance" := by rfl) (hs1 : starEach [e, .Name "int" p2] X.env = (false, eval e X.env) :: starEach [.Name "int" p2] X.env := by rfl) : QF X (.Call (.Name "isinstance" p) [e, .Name "int" p2] [] pos) (fun ρ => ga ρ >>= isTy isInt) :=
  pf_isTy_0 (T := "int") isInt (isTy_fact fun K => ⟨rfl, rfl, rfl, rfl, rfl, rfl⟩) hg hm hg2 hm2 PyProof.Rows.Boot.«int» ha hs1
theorem pf_isBool_0 (hm : X.mg "isinstance" = none) (ha : QF X e ga) (hm2 : X.mg "bool" = none) (hg2 : Gl X "bool" := by rfl) (hg : Gl X "isinstance" := by rfl) (hs1 : starEach [e, .Name "bool" p2] X.env = (false, eval e X.env) :: starEach [.Name "bool" p2] X.env := by rfl) : QF X (.Call (.Name "isinstance" p) [e, .Name "bool" p2] [] pos) (fun ρ => ga ρ >>= isTy (· == "bool")) :=
  pf_isTy_0 (T := "bool") (· == "bool") (isTy_fact fun K => ⟨rfl, rfl, rfl, rfl, rfl, rfl⟩) hg hm hg2 hm2 PyProof.Rows.Boot.«bool» ha hs1
theorem pf_isStr_0 (hm : X.mg "isinstance" = none) (ha : QF X e ga) (hm2 : X.mg "str" = none) (hg2 : Gl X "str" := by rfl) (hg : Gl X "isinstance" := by rfl) (hs1 : starEach [e, .Name "str" p2] X.env = (false, eval e X.env) :: starEach [.Name "str" p2] X.env := by rfl) : QF X (.Call (.Name "isinstance" p) [e, .Name "str" p2] [] pos) (fun ρ => ga ρ >>= isTy (· == "str")) :=
  pf_isTy_0 (T := "str") (· == "str") (isTy_fact fun K => ⟨rfl, rfl, rfl, rfl, rfl, rfl⟩) hg hm hg2 hm2 PyProof.Rows.Boot.«str» ha hs1
theorem pf_isTuple_0 (hm : X.mg "isinstance" = none) (ha : QF X e ga) (hm2 : X.mg "tuple" = none) (hg2 : Gl X "tuple" := by rfl) (hg : Gl X "isinstance" := by rfl) (hs1 : starEach [e, .Name "tuple" p2] X.env = (false, eval e X.env) :: starEach [.Name "tuple" p2] X.env := by rfl) : QF X (.Call (.Name "isinstance" p) [e, .Name "tuple" p2] [] pos) (fun ρ => ga ρ >>= isTy (· == "tuple")) :=
  pf_isTy_0 (T := "tuple") (· == "tuple") (isTy_fact fun K => ⟨rfl, rfl, rfl, rfl, rfl, rfl⟩) hg hm hg2 hm2 PyProof.Rows.Boot.«tuple» ha hs1
end
end L2
namespace L2
open PySem PySem.Spec PyProof.Rows
noncomputable def oRet (ga : Ev → R D) : Ev → O := fun ρ => (ga ρ).out ρ .rt
noncomputable def oSeq (g1 g2 : Ev → O) : Ev → O := fun ρ => (g1 ρ).seq g2
noncomputable def oIf (gt : Ev → R Bool) (g1 g2 : Ev → O) : Ev → O := fun ρ => (gt ρ).out ρ fun k => if k = true then g1 ρ else g2 ρ
noncomputable def oNx : Ev → O := fun ρ => .nx ρ
noncomputable def oSet (i : Nat) (ga : Ev → R D) : Ev → O := fun ρ => (ga ρ).out ρ fun d => .nx (ρ.set i (some (.val d)))
noncomputable def oOwn (i : Nat) (gl : Ev → R (List D)) : Ev → O := fun ρ => (gl ρ).out ρ fun ds => .nx (ρ.set i (some (.own ds)))
noncomputable def oExpr (ga : Ev → R D) : Ev → O := fun ρ => (ga ρ).out ρ fun _ => .nx ρ
noncomputable def oFor (asg : D → Ev → R Ev) (gi : Ev → R (List D)) (g : Ev → O) : Ev → O := fun ρ => (gi ρ).out ρ fun items => loopD asg g items ρ
noncomputable def oRaise (C : Addr) (gl : Ev → R (List D)) : Ev → O := fun ρ => (gl ρ).out ρ fun _ => .ex C ρ
noncomputable def oAsg (asg : D → Ev → R Ev) (ga : Ev → R D) : Ev → O := fun ρ => (ga ρ).out ρ fun d => (asg d ρ).out ρ .nx
noncomputable def oFrz (i : Nat) (g : Ev → O) : Ev → O := fun ρ => g (frz i ρ)
noncomputable def gThen {α β : Type} (f : α → R β) (ga : Ev → R α) : Ev → R β := fun ρ => ga ρ >>= f
noncomputable def gOf (f : List D → Option D) (gl : Ev → R (List D)) : Ev → R D := fun ρ => gl ρ >>= fun ds => ofO (f ds)
noncomputable def gACons (ga : Ev → R D) (gl : Ev → R (List D)) : Ev → R (List D) := fun ρ => ga ρ >>= fun x => gl ρ >>= fun xs => .ok (x :: xs)
noncomputable def gCall (n : Nat) (g : List D → R D) (gl : Ev → R (List D)) : Ev → R D := fun ρ => gl ρ >>= fun ds => if ds.length = n then g ds else .no
noncomputable def gFresh (gl : Ev → R (List D)) : Ev → R D := fun ρ => gl ρ >>= fun ds => .ok (.lst false ds)
noncomputable def gLst (gl : Ev → R (List D)) : Ev → R (List D) := fun ρ => gl ρ >>= fun ds => if ds.length ≤ sizeLine then .ok ds else .no
noncomputable def gB2 (f : D → D → Option D) (ga gb : Ev → R D) : Ev → R Bool := fun ρ => g2 f ga gb ρ >>= asB
noncomputable def gB3 (f f' : D → D → Option D) (ga gb gc : Ev → R D) : Ev → R Bool := fun ρ => g3 f f' ga gb gc ρ >>= asB
noncomputable def gBn (gt : Ev → R Bool) : Ev → R Bool := fun ρ => gt ρ >>= fun k => .ok (!k)
noncomputable def gSome (ga : Ev → R D) : Ev → R (Option Int) := fun ρ => ga ρ >>= fun x => asI x >>= fun i => .ok (some i)
noncomputable def gMeth (T : String) (f : D → List D → Option D) (ga : Ev → R D) (gl : Ev → R (List D)) : Ev → R D := fun ρ => ga ρ >>= fun x => if kindD T x = true then gl ρ >>= fun ds => ofO (f x ds) else .no
theorem Callee.mono {P : Program} {w : World} {K : PySem.W.Frag} {mg : Str → Option Value} {base : Heap} {x : Str} {k n : Nat} {g : List D → R D} (c : Callee P w K mg base x k n g) (k' : Nat) (h : k ≤ k' := by decide) : Callee P w K mg base x k' n g := by
  obtain ⟨f, fd, ps, F, hm, hk, hb, e⟩ := c.ex
  exact ⟨f, fd, ps, { F with run := fun A outer s H args us vs Q E hr => F.run A outer s H args us vs Q E (hr.mono h) }, hm, hk, hb, e⟩
section
variable {X : Cx} {st : Stmt} {rest body sa sb : List Stmt} {e a b c o tg : Expr} {es : List Expr} {g gs1 gs2 : Ev → O} {ga gb gc : Ev → R D} {gt : Ev → R Bool} {gl : Ev → R (List D)} {pos p p2 : Pos} {x : Str}
theorem k_cons_0 (h1 : QSF X st gs1) (h2 : QSsF X rest gs2) : QSsF X (st :: rest) (oSeq gs1 gs2) := pss_f_cons_0 h1 h2
theorem k_nil_0 : QSsF X [] oNx := pss_f_nil_0
theorem k_ret_0 (he : QF X e ga) : QSF X (.Return (some e) pos) (oRet ga) := ps_f_ret_0 he
theorem k_if_0 (hc : QB X c gt) (ha : QSsF X sa gs1) (hb : QSsF X sb gs2) : QSF X (.If c sa sb pos) (oIf gt gs1 gs2) := ps_f_if_0 hc ha hb
theorem k_set_0 (i : Nat) (hN : X.N.Nodup) (he : QF X e ga) (hi : X.N[i]? = some x := by rfl) (hx : Loc X.env.scope x := by first | exact Or.inl rfl | exact Or.inr rfl)
    (hs : swapsWithSole [.Name x p] e pos.line X.env = pure false := by rfl) (hw : swappedStores [.Name x p] e X.env = pure none := by rfl) (hf : X.fn x = true ∨ X.env.scope.names.lookup x = some .local := by first | exact .inl rfl | exact .inr rfl) :
    QSF X (.Assign [.Name x p] e pos) (oSet i ga) := ps_f_set_0 i hN he hi hx hs hw hf
theorem k_own_0 (i : Nat) (hN : X.N.Nodup) (he : QFL X e gl) (hi : X.N[i]? = some x := by rfl) (hx : Loc X.env.scope x := by first | exact Or.inl rfl | exact Or.inr rfl)
    (hs : swapsWithSole [.Name x p] e pos.line X.env = pure false := by rfl) (hw : swappedStores [.Name x p] e X.env = pure none := by rfl) (hf : X.fn x = true ∨ X.env.scope.names.lookup x = some .local := by first | exact .inl rfl | exact .inr rfl) :
    QSF X (.Assign [.Name x p] e pos) (oOwn i gl) := ps_f_own_0 i hN he hi hx hs hw hf
theorem k_expr_0 (he : QF X e ga) (hs : swapsWith e none pos.line X.env = pure false := by rfl) : QSF X (.Expr e pos) (oExpr ga) := ps_f_expr_0 he hs
theorem k_for_0 {iter : Expr} {gi : Ev → R (List D)} {asg : D → Ev → R Ev} (hp : PassesOwn (model X.prog X.w) X.A X.env X.xe) (hcalm : X.calm = true) (hi : QIF X tg iter gi) (hg : PGF X tg asg) (hb : QSsF X body g)
    (hs : ∀ x, foldedSetIterable iter X.env x = pure x := by intro _; rfl) (hn : ∀ d ρ C, asg d ρ ≠ .ex C := by intro _ _ _ z; cases z) : QSF X (.For tg iter body [] pos) (oFor asg gi g) := ps_f_for_0 hp hcalm hi hg hb hs hn
theorem k_len_0 (hg : Gl X "len") (hm : X.mg "len" = none) (ha : QFA X [e] gl) (he : starEach [e] X.env = [(false, eval e X.env)] := by rfl) : QF X (.Call (.Name "len" p) [e] [] pos) (gOf lenF gl) := pf_len_0 hg hm ha he
theorem k_all_0 (hc : X.calm = true) (hg : Gl X "all") (hm : X.mg "all" = none) (ha : QFA X [e] gl) (he : starEach [e] X.env = [(false, eval e X.env)] := by rfl) : QF X (.Call (.Name "all" p) [e] [] pos) (gOf allF gl) := pf_all_0 hc hg hm ha he
theorem k_acons_0 (ha : QF X e ga) (hr : QFA X es gl) (hs : starEach (e :: es) X.env = (false, eval e X.env) :: starEach es X.env := by rfl) : QFA X (e :: es) (gACons ga gl) := pfa_cons_0 ha hr hs
theorem k_call_0 {k n : Nat} {f : List D → R D} (c : Callee X.prog X.w X.K X.mg X.base x k n f) (hr : Room k X.A) (ha : QFA X (e :: es) gl) (hg : Gl X x := by rfl)
    (hdb : (x == ("__debug__" : Str)) = false := by decide) (he : starEach (e :: es) X.env = (false, eval e X.env) :: starEach es X.env := by rfl) (hpl : (backTo pos (starEach es X.env)).any (·.1) = false := by rfl) :
    QF X (.Call (.Name x p) (e :: es) [] pos) (gCall n f gl) := pf_callC_0 c hr ha hg hdb he hpl
theorem k_comp_0 {gens : List Comprehension} {sc : Scope} (h : QFL X (.ListComp e gens sc pos) gl) : QF X (.ListComp e gens sc pos) (gFresh gl) := pf_fresh_0 h
theorem k_list_0 (h : QFL X (.List es pos) gl) : QF X (.List es pos) (gFresh gl) := pf_fresh_0 h
theorem k_lst_0 (h : QFA X es gl) : QFL X (.List es pos) (gLst gl) := pfl_lst_0 h
theorem k_tup_0 {k : Nat} (h : QFA X es gl) : QF X (.Tuple es k pos) (gThen mkT gl) := pf_tup_0 h
theorem k_neg_0 (ha : QF X a ga) : QF X (.UnaryOp .USub a pos) (gThen negD ga) := pf_neg_0 ha
theorem k_isInt_0 (hm : X.mg "isinstance" = none) (ha : QF X e ga) (hm2 : X.mg "int" = none) (hg2 : Gl X "int" := by rfl) (hg : Gl X "isinstance" := by rfl) (hs1 : starEach [e, .Name "int" p2] X.env = (false, eval e X.env) :: starEach [.Name "int" p2] X.env := by rfl) : QF X (.Call (.Name "isinstance" p) [e, .Name "int" p2] [] pos) (gThen (isTy isInt) ga) := pf_isInt_0 hm ha hm2 hg2 hg hs1
theorem k_isBool_0 (hm : X.mg "isinstance" = none) (ha : QF X e ga) (hm2 : X.mg "bool" = none) (hg2 : Gl X "bool" := by rfl) (hg : Gl X "isinstance" := by rfl) (hs1 : starEach [e, .Name "bool" p2] X.env = (false, eval e X.env) :: starEach [.Name "bool" p2] X.env := by rfl) : QF X (.Call (.Name "isinstance" p) [e, .Name "bool" p2] [] pos) (gThen (isTy (· == "bool")) ga) := pf_isBool_0 hm ha hm2 hg2 hg hs1
theorem k_isStr_0 (hm : X.mg "isinstance" = none) (ha : QF X e ga) (hm2 : X.mg "str" = none) (hg2 : Gl X "str" := by rfl) (hg : Gl X "isinstance" := by rfl) (hs1 : starEach [e, .Name "str" p2] X.env = (false, eval e X.env) :: starEach [.Name "str" p2] X.env := by rfl) : QF X (.Call (.Name "isinstance" p) [e, .Name "str" p2] [] pos) (gThen (isTy (· == "str")) ga) := pf_isStr_0 hm ha hm2 hg2 hg hs1
theorem k_isTuple_0 (hm : X.mg "isinstance" = none) (ha : QF X e ga) (hm2 : X.mg "tuple" = none) (hg2 : Gl X "tuple" := by rfl) (hg : Gl X "isinstance" := by rfl) (hs1 : starEach [e, .Name "tuple" p2] X.env = (false, eval e X.env) :: starEach [.Name "tuple" p2] X.env := by rfl) : QF X (.Call (.Name "isinstance" p) [e, .Name "tuple" p2] [] pos) (gThen (isTy (· == "tuple")) ga) := pf_isTuple_0 hm ha hm2 hg2 hg hs1
theorem k_some_0 (h : QF X e ga) : QFO X (some e) (gSome ga) := pfo_some_0 h
theorem k_blt_0 (ha : QF X a ga) (hb : QF X b gb) : QB X (.Compare a [.Lt] [b] pos) (gB2 ltD ga gb) := pb_lt_0 ha hb
theorem k_bgt_0 (ha : QF X a ga) (hb : QF X b gb) : QB X (.Compare a [.Gt] [b] pos) (gB2 gtD ga gb) := pb_gt_0 ha hb
theorem k_beq_0 (hu : X.A.units + 64 < cLine) (ha : QF X a ga) (hb : QF X b gb) : QB X (.Compare a [.Eq] [b] pos) (gB2 eqF ga gb) := pb_eq_0 hu ha hb
theorem k_bne_0 (hu : X.A.units + 64 < cLine) (ha : QF X a ga) (hb : QF X b gb) : QB X (.Compare a [.NotEq] [b] pos) (gB2 neF ga gb) := pb_ne_0 hu ha hb
theorem k_blele_0 (ha : QF X a ga) (hb : QF X b gb) (hc : QF X c gc) (hm : lastMarks [.LtE, .LtE] [b, c] = false := by with_unfolding_all rfl) : QB X (.Compare a [.LtE, .LtE] [b, c] pos) (gB3 leD leD ga gb gc) := pb_lele_0 ha hb hc hm
theorem k_bnot_0 (ha : QB X a gt) : QB X (.UnaryOp .Not a pos) (gBn gt) := pb_not_0 ha
theorem k_bval_0 (h : QF X (.Call a es [] pos) ga) : QB X (.Call a es [] pos) (gThen truD ga) := pb_val_0 h
theorem k_bop_0 {op : BoolOp} (h : QBW X (.BoolOp op es pos) gt) : QB X (.BoolOp op es pos) gt := fun pins s σ H Q I q => h _ pins s σ H Q I q
theorem k_ival_0 (ha : QF X a ga) : QIF X tg a (gThen itemsD ga) := pif_val_0 ha
theorem k_irange_0 (hg : Gl X "range") (hm : X.mg "range" = none) (ha : QFA X [a] gl) (hs : starEach [a] X.env = [(false, eval a X.env)] := by rfl) : QIF X tg (.Call (.Name "range" p) [a] [] pos) (gThen rangeD1 gl) := pif_range1_0 hg hm ha hs
end
end L2
namespace L2
open PySem PySem.Spec PyProof.Rows
@[simp] theorem R.ok_out {α : Type} (a : α) (ρ : Ev) (k : α → O) : (R.ok a).out ρ k = k a := rfl
@[simp] theorem R.ex_out {α : Type} (C : Addr) (ρ : Ev) (k : α → O) : (R.ex C : R α).out ρ k = .ex C ρ := rfl
@[simp] theorem noEx_ok {α : Type} (a : α) : noEx (R.ok a) = R.ok a := rfl
theorem compD_map {gt : Ev → R Bool} {ge : Ev → R D} (p : D → Bool) (h : D → D) (tl : Ev) : ∀ (ds : List D) (a : Option Sl), (∀ d ∈ ds, gt (some (.val d) :: tl) = .ok (p d) ∧ (p d = true → ge (some (.val d) :: tl) = .ok (h d))) → compD gt ge ds (a :: tl) = .ok ((ds.filter p).map h)
  | [], a, _ => rfl
  | d :: ds, a, H => by
    have ih := compD_map p h tl ds (some (.val d)) fun x m => H x (List.mem_cons_of_mem _ m)
    obtain ⟨e1, e2⟩ := H d (List.mem_cons_self ..)
    show (noEx (gt (some (.val d) :: tl)) >>= fun k => if k = true then noEx (ge (some (.val d) :: tl)) >>= fun x => compD gt ge ds (some (.val d) :: tl) >>= fun xs => .ok (x :: xs) else compD gt ge ds (some (.val d) :: tl)) = _
    rw [e1, noEx_ok, R.ok_bind, ih]
    cases q : p d with
    | true => rw [if_pos rfl, e2 q, noEx_ok, R.ok_bind, R.ok_bind, List.filter_cons_of_pos q]; rfl
    | false => rw [if_neg Bool.false_ne_true, List.filter_cons_of_neg (by rw [q]; exact Bool.false_ne_true)]
theorem compD_all {gt : Ev → R Bool} {ge : Ev → R D} (h : D → D) (tl : Ev) (ds : List D) (a : Option Sl) (H : ∀ d ∈ ds, gt (some (.val d) :: tl) = .ok true ∧ ge (some (.val d) :: tl) = .ok (h d)) : compD gt ge ds (a :: tl) = .ok (ds.map h) := by
  rw [compD_map (fun _ => true) h tl ds a fun d m => ⟨(H d m).1, fun _ => (H d m).2⟩, List.filter_eq_self.2 fun _ _ => rfl]
theorem blsD_map (f : D → Bool) : ∀ ds : List D, blsD (ds.map fun d => .bl (f d)) = some (ds.map f)
  | [] => rfl
  | d :: ds => by
    have ih := blsD_map f ds
    rw [List.map_cons, List.map_cons]
    unfold blsD
    first | (rw [ih]; rfl) | (simp only [ih]; rfl) | simp [ih]
theorem allF_map (f : D → Bool) (k : Bool) (ds : List D) : allF [.lst k (ds.map fun d => .bl (f d))] = some (.bl (ds.all f)) := by
  show (blsD (ds.map fun d => .bl (f d))).map _ = _
  rw [blsD_map]
  show some (D.bl ((ds.map f).all id)) = _
  rw [List.all_map]; rfl
theorem sign_le (a b : Nat) : (!decide (([b] : List Nat) < [a])) = decide (a ≤ b) := by
  have : (([b] : List Nat) < [a]) ↔ b < a := by
    constructor
    · intro h
      cases h with
      | rel h => exact h
      | cons h => cases h
    · intro h; exact .rel h
  by_cases h : a ≤ b
  · have h2 : ¬ ([b] : List Nat) < [a] := fun q => by have := this.1 q; omega
    simp [h, h2]
  · have h2 : ([b] : List Nat) < [a] := this.2 (by omega)
    simp [h, h2]
theorem comp_ok {X : Cx} {scope : Scope} {x : Str} {N' : List Str} {ix : List Nat} (hk : scope.kind = .function := by rfl)
    (h1 : (∀ y ∈ scope.names, y.2 ≠ .cell) ∧ (∀ y ∈ scope.names, y.2 = .local → scope.names.lookup y.1 = some .local) ∧ scope.names.lookup x = some .local ∧ (∀ y ∈ scope.names, y.2 = .free → y.1 ∈ N'.tail) ∧ N'.Nodup ∧ N'[0]? = some x ∧
      ∀ y ∈ N'.tail, scope.names.lookup y = some .free ∧ (y, NameKind.free) ∈ scope.names := by decide +kernel)
    (h2 : N'.tail.map X.env.kindOf = N'.tail.map fun _ => some NameKind.cell := by rfl) (h3 : N'.tail = ix.map (fun (i : Nat) => X.N.getD i Str.empty) := by rfl) (h4 : ix.all (fun i => decide (i < X.N.length)) = true := by rfl) : CompOk X scope x N' ix := by
  obtain ⟨a, b, c, d, e, f, g⟩ := h1
  refine ⟨hk, a, b, c, fun y hy h => ?_, e, f, h3, fun i hi => ?_, g⟩
  · exact List.map_inj_left.1 h2 _ (d y hy h)
  · exact of_decide_eq_true (List.all_eq_true.1 h4 i hi)
theorem rd0 (d : D) (ρ : Ev) : rdV (some (.val d) :: ρ) 0 = .ok d := rfl
theorem rd1 (a0 : Option Sl) (d : D) (ρ : Ev) : rdV (a0 :: some (.val d) :: ρ) 1 = .ok d := rfl
theorem rd2 (a0 a1 : Option Sl) (d : D) (ρ : Ev) : rdV (a0 :: a1 :: some (.val d) :: ρ) 2 = .ok d := rfl
theorem rd3 (a0 a1 a2 : Option Sl) (d : D) (ρ : Ev) : rdV (a0 :: a1 :: a2 :: some (.val d) :: ρ) 3 = .ok d := rfl
theorem rd4 (a0 a1 a2 a3 : Option Sl) (d : D) (ρ : Ev) : rdV (a0 :: a1 :: a2 :: a3 :: some (.val d) :: ρ) 4 = .ok d := rfl
theorem rd5 (a0 a1 a2 a3 a4 : Option Sl) (d : D) (ρ : Ev) : rdV (a0 :: a1 :: a2 :: a3 :: a4 :: some (.val d) :: ρ) 5 = .ok d := rfl
theorem rd6 (a0 a1 a2 a3 a4 a5 : Option Sl) (d : D) (ρ : Ev) : rdV (a0 :: a1 :: a2 :: a3 :: a4 :: a5 :: some (.val d) :: ρ) 6 = .ok d := rfl
section
variable {f : List D → R D} {ga gb gc gd : Ev → R D} {ρ : Ev}
theorem gCall1 : gCall 1 f (gACons ga fun _ => .ok []) ρ = ga ρ >>= fun x => f [x] := by
  unfold gCall gACons
  cases ga ρ <;> rfl
theorem gCall2 : gCall 2 f (gACons ga (gACons gb fun _ => .ok [])) ρ = ga ρ >>= fun x => gb ρ >>= fun y => f [x, y] := by
  unfold gCall gACons
  cases ga ρ <;> try rfl
  simp only [gACons, R.ok_bind]
  cases gb ρ <;> rfl
theorem gCall3 : gCall 3 f (gACons ga (gACons gb (gACons gc fun _ => .ok []))) ρ = ga ρ >>= fun x => gb ρ >>= fun y => gc ρ >>= fun z => f [x, y, z] := by
  unfold gCall gACons
  cases ga ρ <;> try rfl
  simp only [gACons, R.ok_bind]
  cases gb ρ <;> try rfl
  simp only [R.ok_bind]
  cases gc ρ <;> rfl
end
noncomputable def At (N : List Str) (i : Nat) (x : Str) : Prop := N[i]? = some x
theorem at0 {x : Str} {l : List Str} : At (x :: l) 0 x := rfl
theorem at1 {x : Str} {l : List Str} {y0 : Str} : At (y0 :: x :: l) 1 x := rfl
theorem at2 {x : Str} {l : List Str} {y0 y1 : Str} : At (y0 :: y1 :: x :: l) 2 x := rfl
theorem at3 {x : Str} {l : List Str} {y0 y1 y2 : Str} : At (y0 :: y1 :: y2 :: x :: l) 3 x := rfl
theorem at4 {x : Str} {l : List Str} {y0 y1 y2 y3 : Str} : At (y0 :: y1 :: y2 :: y3 :: x :: l) 4 x := rfl
theorem at5 {x : Str} {l : List Str} {y0 y1 y2 y3 y4 : Str} : At (y0 :: y1 :: y2 :: y3 :: y4 :: x :: l) 5 x := rfl
theorem at6 {x : Str} {l : List Str} {y0 y1 y2 y3 y4 y5 : Str} : At (y0 :: y1 :: y2 :: y3 :: y4 :: y5 :: x :: l) 6 x := rfl
theorem at7 {x : Str} {l : List Str} {y0 y1 y2 y3 y4 y5 y6 : Str} : At (y0 :: y1 :: y2 :: y3 :: y4 :: y5 :: y6 :: x :: l) 7 x := rfl
theorem at8 {x : Str} {l : List Str} {y0 y1 y2 y3 y4 y5 y6 y7 : Str} : At (y0 :: y1 :: y2 :: y3 :: y4 :: y5 :: y6 :: y7 :: x :: l) 8 x := rfl
theorem at9 {x : Str} {l : List Str} {y0 y1 y2 y3 y4 y5 y6 y7 y8 : Str} : At (y0 :: y1 :: y2 :: y3 :: y4 :: y5 :: y6 :: y7 :: y8 :: x :: l) 9 x := rfl
section
variable {X : Cx} {N : List Str} {i : Nat} {x : Str} {pos : Pos}
theorem k_var_0 {CX : CXT} {P : Program} {w : World} {K : PySem.W.Frag} {mg : Str → Option Value} {base : Heap} {qual : Str} {scope : Scope} {f : Addr} {cdv : Value} {A : Around} {outer : List Env} {s : Shared} {H : Hp} {E : XK} (h : At N i x)
    (hv : Vis (cxOf CX P w K mg base N qual scope f cdv A outer s H E).env.scope x := by first | exact Or.inl rfl | exact Or.inr (Or.inl rfl) | exact Or.inr (Or.inr rfl)) (hd : (x == ("__debug__" : Str)) = false := by decide)
    (hcd : (x == ("__classdict__" : Str)) = false := by decide) : QF (cxOf CX P w K mg base N qual scope f cdv A outer s H E) (.Name x pos) (fun ρ => rdV ρ i) := pf_var_0 i h hv hd hcd
theorem k_varC_0 {scope : Scope} {C : Addr} {s₂ : Shared} {H₂ : Hp} {fp : List Addr} (h : At N i x)
    (hv : Vis (compCx X N scope C s₂ H₂ fp).env.scope x := by first | exact Or.inl rfl | exact Or.inr (Or.inl rfl) | exact Or.inr (Or.inr rfl)) (hd : (x == ("__debug__" : Str)) = false := by decide)
    (hcd : (x == ("__classdict__" : Str)) = false := by decide) : QF (compCx X N scope C s₂ H₂ fp) (.Name x pos) (fun ρ => rdV ρ i) := pf_var_0 i h hv hd hcd
theorem k_put_0 {CX : CXT} {P : Program} {w : World} {K : PySem.W.Frag} {mg : Str → Option Value} {base : Heap} {qual : Str} {scope : Scope} {f : Addr} {cdv : Value} {A : Around} {outer : List Env} {s : Shared} {H : Hp} {E : XK} {e : Expr} {p : Pos} {ga : Ev → R D} (h : At N i x) (hN : N.Nodup)
    (he : QF (cxOf CX P w K mg base N qual scope f cdv A outer s H E) e ga) (hx : Loc (cxOf CX P w K mg base N qual scope f cdv A outer s H E).env.scope x := by first | exact Or.inl rfl | exact Or.inr rfl)
    (hs : swapsWithSole [.Name x p] e pos.line (cxOf CX P w K mg base N qual scope f cdv A outer s H E).env = pure false := by rfl) (hw : swappedStores [.Name x p] e (cxOf CX P w K mg base N qual scope f cdv A outer s H E).env = pure none := by rfl)
    (hf : (cxOf CX P w K mg base N qual scope f cdv A outer s H E).fn x = true ∨ (cxOf CX P w K mg base N qual scope f cdv A outer s H E).env.scope.names.lookup x = some .local := by first | exact .inl rfl | exact .inr rfl) :
    QSF (cxOf CX P w K mg base N qual scope f cdv A outer s H E) (.Assign [.Name x p] e pos) (oSet i ga) := k_set_0 i hN he h hx hs hw hf
end
end L2
namespace L2
open PySem PySem.Spec PyProof.Rows
theorem gA1_len {ga : Ev → R D} {ρ : Ev} {ds : List D} (h : gACons ga (fun _ => .ok []) ρ = .ok ds) : ds.length ≤ 1 := by
  unfold gACons at h
  cases e : ga ρ with
  | ok x => rw [e] at h; cases h; exact Nat.le_refl _
  | ex C => rw [e] at h; cases h
  | no => rw [e] at h; cases h
structure Ref (x : Str) (C : Addr) (mg : Str → Option Value) (base : Heap) : Prop where
  ex : ∃ bm B newId initId, OwnCls x C bm newId mg base ∧ ExcBaseFacts B newId initId bm
theorem k_raise_0 {X : Cx} {x : Str} {C : Addr} {e : Expr} {ga : Ev → R D} {np cp pos : Pos} (r : Ref x C X.mg X.base) (hh : X.A.handled = none) (ha : QF X e ga) (hg : Gl X x := by rfl)
    (hdb : (x == ("__debug__" : Str)) = false := by decide) (hs : starEach [e] X.env = (false, eval e X.env) :: starEach [] X.env := by rfl) :
    QSF X (.Raise (some (.Call (.Name x np) [e] [] cp)) none pos) (oRaise C (gACons ga fun _ => .ok [])) := by
  obtain ⟨bm, B, newId, initId, Oc, FB⟩ := r.ex
  exact ps_f_raise_0 Oc FB hh hg (k_acons_0 ha pfa_nil_0 hs) hdb hs (fun ρ ds h => gA1_len h)
theorem Un.but {fs : List Addr} {H : Hp} {h h' : Heap} {C : Addr} (hs : Heap.SameBut C h h') : Un fs [C] H H h h' := by
  have ne : ∀ b, b ∉ [C] → b ≠ C := fun b hb z => hb (by rw [z]; exact List.mem_singleton.2 rfl)
  exact ⟨fun b o e _ _ hx => (hs.2 b (ne b hx)).trans e, fun b o e _ _ hx => ⟨o.slots, (hs.2 b (ne b hx)).trans e⟩, fun _ _ _ n _ => n, fun b o e hx => ⟨o, (hs.2 b (ne b hx)).trans e⟩, fun _ _ e => e, fun _ _ _ e => e, fun _ ps e => ⟨#[], by rw [Array.append_empty]; exact e⟩⟩
section
variable {X : Cx} {elt iter : Expr} {ifs : List Expr} {x : Str} {px pos : Pos} {scope : Scope} {N' : List Str} {ix : List Nat} {gi : Ev → R (List D)} {gt : Ev → R Bool} {ge : Ev → R D}
theorem comp_core_0 {tgt : Expr} {asg : D → Ev → R Ev} {n : Nat} (i : Nat) {y : Str} {py spos : Pos} (hN : X.N.Nodup) (ok : CompOkT X scope n N' ix) (hcalm : X.calm = true) (hg : ∀ C s₂ H₂ fp, PGF (compCx X N' scope C s₂ H₂ fp) tgt asg) (hown : ∀ d ρ ρ', asg d ρ = .ok ρ' → (NoOwn ρ) → NoOwn ρ') (hi : QIF X tgt iter gi) (he : ∀ C s₂ H₂ fp, QF (compCx X N' scope C s₂ H₂ fp) elt ge) (ht : ∀ C s₂ H₂ fp, PTs (compCx X N' scope C s₂ H₂ fp) ifs gt)
    (hni : X.N[i]? = some y := by rfl) (hy : X.env.scope.names.lookup y = some .local := by rfl) (hs : ∀ x, foldedSetIterable iter X.env x = pure x := by intro _; rfl)
    (hsw : swapsWith (.ListComp elt [⟨tgt, iter, ifs, 0⟩] scope pos) (some (.Name y py)) spos.line X.env = pure true := by rfl)
    {pins : List (Addr × Obj)} {s : Shared} {σ : St} {H G : Hp} {ρ : Ev} {D : Ends} (I : Inv X pins σ H s) (sE : StE X.K G H σ ρ) (hq : (gCompT n asg gi ix gt ge ρ).post (FinL X.K G H fun v H1 => D.nx (σ.set i (some v)) H1) (Exx X σ G H)) :
    wpAny (model X.prog X.w) X.A (exec (.Assign [.Name y py] (.ListComp elt [⟨tgt, iter, ifs, 0⟩] scope pos) spos) X.env) (SP X pins D) X.xe s := by
  rw [exec_Assign_Name_used _ _ _ _ hsw]
  refine wpAny_bind (wpAny_standAt (wpAny_bind ?_))
  show wpAny _ X.A (do let _ ← comprehension (.ListComp elt [⟨tgt, iter, ifs, 0⟩] scope pos) scope X.env _ (newList []) false (eval iter X.env) (some (assign (.Name y py) X.env))) _ _ s
  refine wpAny_bind (wpAny_mono (wpAny_comprehension_free (use := some (assign (.Name y py) X.env)) (Q := fun _ s' => SP X pins D .next s') rfl hs (closureFor_eq fun z hz hz2 => I.ok.has z.1 (.inl (ok.fr z hz hz2))) ok.kind ok.names ?_) (fun _ s' hq => wpAny_pure (wpAny_pure hq)) fun _ _ e => e)
  have t : tG X (fun G J items => ItOk X.K G J items) gi σ H (fun J H1 => ∃ G1 items, Up G H G1 H1 ∧ StE X.K G1 H1 σ ρ ∧ ItOk X.K G1 J items ∧ (compG asg gt ge items (innerN n ix ρ) >>= fun ds => if ds.length ≤ sizeLine then R.ok ds else .no).post (FinL X.K G H fun v H1 => D.nx (σ.set i (some v)) H1) (Exx X σ G H)) := by
    refine ⟨G, ρ, sE, ?_⟩
    unfold gCompT at hq
    cases e : gi ρ with
    | ok items => rw [e] at hq; exact fun J G1 H1 u r => ⟨G1, items, u, sE.up u, r, hq⟩
    | ex C => rw [e] at hq; exact hq
    | no => rw [e] at hq; exact hq
  refine thn (hi pins s σ H _ I t) fun v s1 h1 => thn h1 fun itv s2 h2 => ?_
  obtain ⟨it, fp, tn, J, H2, e, I2, T, st2, f2, G2, items, u2, sE2, iok, h2⟩ := h2
  subst e
  have h2' : (compG asg gt ge items (innerN n ix ρ) >>= fun ds => if ds.length ≤ sizeLine then R.ok ds else .no).post (FinL X.K G2 H2 fun v H1 => D.nx (σ.set i (some v)) H1) (Exx X σ G2 H2) :=
    h2.mono (fun ds q l vs G' H' u hl r => q l vs G' H' (u2.trans u) hl r) fun C q => q.up u2
  refine comp_blockT_0 (iter := iter) (pos := pos) (RR := fun acc C => compPost (model X.prog X.w) X.A X.xe (some (assign (.Name y py) X.env)) (fun _ s' => SP X pins D .next s') acc C) ok hcalm hg hown he ht I2 T st2 f2 sE2 iok h2' ?_
  intro Dd C s' m vs G' H' up hd hCD _ q hm hos hb hC hCl un hok
  have I3 : Inv X pins σ (upd H' Dd (.lst vs)) s' := I2.call' (ch := fp) hos un hok hb fun b hb' => by
    obtain ⟨f0, f1, f2', f3, f4, f5⟩ := f2 b hb'
    exact ⟨f3, f1, f4, f5⟩
  have lc : X.env.locals ≠ C := Nat.ne_of_lt (Nat.lt_of_lt_of_le I2.lt hCl)
  have cc : ∀ z c, X.env.cells.lookup z = some c → c ≠ C := fun z c e => by
    obtain ⟨v, q⟩ := I2.cell z c e
    exact Nat.ne_of_lt (Nat.lt_of_lt_of_le q.lt hCl)
  show wpAny (model X.prog X.w) X.A (assign (.Name y py) X.env (.ref Dd)) _ X.xe s'
  refine wpAny_assign_Name (store_ok2 I3 hN hni (.inl hy) (v := .ref Dd) rfl (fun s'' I4 ⟨a, hsb, ha⟩ => ?_) (.inr hy))
  have na : C ≠ a := by
    rcases ha with rfl | ha
    · exact lc.symm
    · exact (cc _ _ ha).symm
  refine ⟨m, hm.sameBut hsb na, fun h' hs' => ?_⟩
  have I5 := I4.call' (s' := { s'' with heap := h' }) (H' := upd H' Dd (.lst vs)) (ch := [C]) rfl (Un.but hs') (I4.hok.sameBut (fun b o hbc e => (hs'.2 b hbc).trans e) (by rw [upd_ne hCD]; exact hC)) I4.bare fun b hb' => by
    rw [List.mem_singleton.1 hb']
    exact ⟨.inr (Nat.le_trans I2.sz hCl), lc.symm, cc, fun p hp z => Nat.lt_irrefl _ (Nat.lt_of_lt_of_le (z ▸ Heap.lt_size (I2.pin p hp).1) hCl)⟩
  exact ⟨_, _, I5, q⟩
theorem k_compAG_0 {tgt : Expr} {asg : D → Ev → R Ev} {n : Nat} (i : Nat) {y : Str} {py spos : Pos} (hN : X.N.Nodup) (ok : CompOkT X scope n N' ix) (hcalm : X.calm = true) (hg : ∀ C s₂ H₂ fp, PGF (compCx X N' scope C s₂ H₂ fp) tgt asg) (hown : ∀ d ρ ρ', asg d ρ = .ok ρ' → (NoOwn ρ) → NoOwn ρ') (hi : QIF X tgt iter gi) (he : ∀ C s₂ H₂ fp, QF (compCx X N' scope C s₂ H₂ fp) elt ge) (ht : ∀ C s₂ H₂ fp, PTs (compCx X N' scope C s₂ H₂ fp) ifs gt)
    (hni : X.N[i]? = some y := by rfl) (hy : X.env.scope.names.lookup y = some .local := by rfl) (hs : ∀ x, foldedSetIterable iter X.env x = pure x := by intro _; rfl)
    (hsw : swapsWith (.ListComp elt [⟨tgt, iter, ifs, 0⟩] scope pos) (some (.Name y py)) spos.line X.env = pure true := by rfl) :
    QSF X (.Assign [.Name y py] (.ListComp elt [⟨tgt, iter, ifs, 0⟩] scope pos) spos) (oOwn i (gCompT n asg gi ix gt ge)) := fun G₀ H₀ pins s σ H D I h => by
  obtain ⟨G, ρ, sr, h⟩ := h
  have h : OutR X G₀ H₀ D ((gCompT n asg gi ix gt ge ρ).out ρ fun ds => .nx (ρ.set i (some (.own ds)))) := h
  refine comp_core_0 i hN ok hcalm hg hown hi he ht hni hy hs hsw I sr.e ?_
  cases q : gCompT n asg gi ix gt ge ρ with
  | ok ds => rw [q] at h; exact fun l vs G' H' u hl r => h _ G' _ ((sr.ups u).setOwn hl r i)
  | ex C => rw [q] at h; exact Exx.of sr h
  | no => rw [q] at h; exact h
theorem k_compA_0 (i : Nat) {y : Str} {py spos : Pos} (hN : X.N.Nodup) (ok : CompOk X scope x N' ix) (hcalm : X.calm = true) (hi : QIF X (.Name x px) iter gi) (he : ∀ C s₂ H₂ fp, QF (compCx X N' scope C s₂ H₂ fp) elt ge) (ht : ∀ C s₂ H₂ fp, PTs (compCx X N' scope C s₂ H₂ fp) ifs gt)
    (hni : X.N[i]? = some y := by rfl) (hy : X.env.scope.names.lookup y = some .local := by rfl) (hs : ∀ x, foldedSetIterable iter X.env x = pure x := by intro _; rfl)
    (hsw : swapsWith (.ListComp elt [⟨.Name x px, iter, ifs, 0⟩] scope pos) (some (.Name y py)) spos.line X.env = pure true := by rfl) :
    QSF X (.Assign [.Name y py] (.ListComp elt [⟨.Name x px, iter, ifs, 0⟩] scope pos) spos) (oOwn i (gComp gi ix gt ge)) :=
  k_compAG_0 (n := 1) (asg := setV 0) i hN ok.t hcalm (fun C s₂ H₂ fp => pgf_name (X := compCx X N' scope C s₂ H₂ fp) (pos := px) 0 ok.nd ok.hd (.inl (lookup_relabel_local ok.loc)) (.inr (lookup_relabel_local ok.loc))) setV_own hi he ht hni hy hs hsw
end
noncomputable def oExt (i : Nat) (ga : Ev → R D) : Ev → O := fun ρ => (ownAt ρ i).out ρ fun ds => (ga ρ).out ρ fun d => (asL d).out ρ fun es => if ds.length + es.length ≤ sizeLine then .nx (ρ.set i (some (.own (ds ++ es)))) else .no
noncomputable def oApp (i : Nat) (ga : Ev → R D) : Ev → O := fun ρ => (ownAt ρ i).out ρ fun ds => (ga ρ).out ρ fun d => if ds.length < sizeLine then .nx (ρ.set i (some (.own (ds ++ [d])))) else .no
noncomputable def oPar (i j : Nat) (gl : Ev → R (List D)) : Ev → O := fun ρ => (gl ρ).out ρ fun ds => (setVs [i, j] ds ρ).out ρ .nx
section
variable {X : Cx} {st : Stmt} {rest body : List Stmt} {e c o : Expr} {es : List Expr} {g : Ev → O} {ga : Ev → R D} {gl : Ev → R (List D)} {pos p p2 : Pos}
theorem k_append_0 (i : Nat) {x : Str} {p ap cp : Pos} (he : QF X e ga) (hi : X.N[i]? = some x := by rfl) (hv : Vis X.env.scope x := by first | exact Or.inl rfl | exact Or.inr (Or.inl rfl))
    (hd : (x == ("__debug__" : Str)) = false := by decide) (hcd : (x == ("__classdict__" : Str)) = false := by decide) (hs1 : starEach [e] X.env = (false, eval e X.env) :: starEach [] X.env := by rfl)
    (hbase : attributeBase (.Name x p) "append" X.env (eval (.Name x p) X.env) = eval (.Name x p) X.env := by rfl)
    (hfew : ((backTo cp (starEach [e] X.env)).all (fun x => !x.1) && (backToKw cp (keywordEach [] X.env)).all (fun x => x.1.isSome)
      && decide ([e].length + ([] : List Keyword).length + (if ([] : List Keyword).isEmpty then 0 else 1) < 30)) = true := by rfl)
    (hline : (ap.endLine == cp.line) = true := by rfl)
    (hs : swapsWith (.Call (.Attribute (.Name x p) "append" ap) [e] [] cp) none pos.line X.env = pure false := by rfl) :
    QSF X (.Expr (.Call (.Attribute (.Name x p) "append" ap) [e] [] cp) pos) (oApp i ga) := ps_f_append_0 i he hi hv hd hcd hs1 hbase hfew hline hs
theorem k_frz_0 {sts : List Stmt} (i : Nat) (h : QSsF X sts g) : QSsF X sts (oFrz i g) := pss_f_frz_0 i h
end
structure Errs (K : PySem.W.Frag) (mg : Str → Option Value) (rs : List Addr) (ts : List (Str × Addr)) : Prop where
  na : ∀ t ∈ ts, mg t.1 = some (.ref t.2)
  ec : ∀ r ∈ rs, ExcCls K r
  kit : ∀ r ∈ rs, ∀ t ∈ ts, PySem.W.kitOne K (.ref r) (.ref t.2) = some (r == t.2)
  ve : ∀ r ∈ rs, PySem.W.kitOne K (.ref r) (.type "ValueError") = some true
  le : ∃ L, mg "LineError" = some (.ref L) ∧ ∀ r ∈ rs, PySem.W.exmOne K (.ref r) (.ref L) = some true
section
variable {X : Cx} {e : Expr} {ga : Ev → R D} {p p2 pos : Pos} {rs : List Addr} {ts : List (Str × Addr)}
end
section
variable {X : Cx} {e : Expr} {ga : Ev → R D} {p p2 pos : Pos} {rs : List Addr} {ts : List (Str × Addr)}
end
section
variable {CX : CXT} {P : Program} {w : World} {K : PySem.W.Frag} {mg : Str → Option Value} {base : Heap} {N : List Str} {i : Nat} {x : Str} {qual : Str} {scope : Scope} {f a : Addr} {cdv : Value} {A : Around} {outer : List Env} {s : Shared} {H : Hp} {E : XK} {pn : List (Addr × Obj)} {xe : Value → Shared → Prop} {pos p : Pos} {e : Expr} {ga : Ev → R D}
end
section
variable {X : Cx} {body suite : List Stmt} {b₀ : Stmt} {gb gs : Ev → O} {pos hp tp : Pos} {nm : Str} {rs : List Addr} {ts : List (Str × Addr)}
end
end L2
namespace L2
open PySem PySem.Spec PyProof.Rows
noncomputable def fl : Nat → D → Bool
  | 0, _ => false
  | n + 1, .tup xs => xs.all (fl n)
  | _ + 1, .lst _ _ => false
  | _ + 1, .exc _ => false
  | _ + 1, _ => true
section
variable {X : Cx} {st : Stmt} {rest body a b : List Stmt} {e c tg : Expr} {g g1 g2 : Ev → O} {ga gb : Ev → R D} {gt : Ev → R Bool} {gl : Ev → R (List D)} {pos : Pos}
noncomputable def oIfP (i : Nat) (gt : Ev → R Bool) (g1 g2 : Ev → O) : Ev → O := fun ρ => (noEx (gt (frz i ρ))).out ρ fun k => if k = true then g1 ρ else g2 ρ
noncomputable def oSetP (j i : Nat) (ga : Ev → R D) : Ev → O := fun ρ => (noEx (ga (frz j ρ))).out ρ fun d => if fl 10 d = true then .nx (ρ.set i (some (.val d))) else .no
noncomputable def oAppP (j i : Nat) (ga : Ev → R D) : Ev → O := fun ρ => (ownAt ρ i).out ρ fun ds => (noEx (ga (frz j ρ))).out ρ fun d => if ds.length < sizeLine ∧ fl 10 d = true then .nx (ρ.set i (some (.own (ds ++ [d])))) else .no
noncomputable def oItem (i : Nat) (gk ga : Ev → R D) : Ev → O := fun ρ => (ownAt ρ i).out ρ fun ds => (noEx (ga (frz i ρ))).out ρ fun d => (noEx (gk (frz i ρ) >>= asI)).out ρ fun k => match ixN ds.length k with
  | some n => if fl 10 d = true then .nx (ρ.set i (some (.own (ds.set n d)))) else .no
  | none => .no
noncomputable def seqD : D → R (List D)
  | .lst _ xs => .ok xs
  | .tup xs => .ok xs
  | _ => .no
noncomputable def oneK : List D → R (List D)
  | [d] => seqD d
  | _ => .no
noncomputable def gSeq1 (gl : Ev → R (List D)) : Ev → R (List D) := fun ρ => gl ρ >>= oneK
theorem k_blelt_0 {a b c : Expr} {ga gb gc : Ev → R D} (ha : QF X a ga) (hb : QF X b gb) (hc : QF X c gc) (hm : lastMarks [.LtE, .Lt] [b, c] = false := by with_unfolding_all rfl) : QB X (.Compare a [.LtE, .Lt] [b, c] pos) (gB3 leD ltD ga gb gc) := pb_chain_0 op_le' op_lt' (ok_le _) (ok_lt _) ha hb hc hm
theorem k_irange2_0 {a b : Expr} {p : Pos} (hg : Gl X "range") (hm : X.mg "range" = none) (ha : QFA X [a, b] gl) (hs : starEach [a, b] X.env = [(false, eval a X.env), (false, eval b X.env)] := by rfl) (hs2 : starEach [b] X.env = [(false, eval b X.env)] := by rfl) : QIF X tg (.Call (.Name "range" p) [a, b] [] pos) (gThen rangeD2 gl) := pif_range2_0 hg hm ha hs hs2
end
end L2
namespace L2
open PySem PySem.Spec PyProof.Rows PySem.W
section
variable {X : Cx} {pins : List (Addr × Obj)} {σ : St} {G H : Hp} {s : Shared} {A : Around} {E : Value → Shared → Prop} {Q : Value → Shared → Prop}
end
section
variable {X : Cx} {e : Expr} {ga : Ev → R D} {p p2 p3 p4 pos : Pos} {k : Nat}
end
section
variable {X : Cx}
end
end L2
namespace L2
open PySem PySem.Spec PyProof.Rows
open Sem (wp)
open AutoSeq1 (wpAny_loadPart')
theorem en_sub : isSubtype (.type "enumerate") (.type "enumerate") = pure true := PySem.sub_enumerate
theorem en_new0 (l : Addr) (its : Array Value) (n : Nat) (dct : Option Addr) (sl : Array (Option Value)) :
    Meets (Builtin.«enumerate.__new__» ⟨[.type "enumerate", .ref l], []⟩) (fun _ Rr s => s.heap.get? l = some { cls := .type "tuple", dict := dct, data := .seq its n, slots := sl } ∧
      Rr (.ok (.ret (.ref (s.heap.push { cls := .type "tuple_iterator", data := .fields #[.ref l, .int 0 0] }).objs.size)))
        { s with heap := (s.heap.push { cls := .type "tuple_iterator", data := .fields #[.ref l, .int 0 0] }).push { cls := .type "enumerate", data := .fields #[.none, .bool false, .ref s.heap.objs.size, rawInt 0, .none, .none] } }) :=
  .of_wp fun prog w A Rr s h => by
    obtain ⟨hp, g, d, tk, os⟩ := s; obtain ⟨hl, h⟩ := h
    have hsub := en_sub
    have hT : Heap.IsTuple (Shared.heap ⟨hp, g, d, tk, os⟩) l its := ⟨_, hl, rfl, n, rfl⟩
    wp_walk using wpAny_loadPart' hl
    refine wpAny_stack_any fun st => wpAny_pure ?_
    split
    · rename_i c _ _ _ _ _
      cases (c == Value.type "enumerate") <;> (wp_walk using wpAny_loadPart' hl, wpAny_pyIter_tuple hT; exact ⟨_, rfl, h⟩)
    · wp_walk using wpAny_loadPart' hl, wpAny_pyIter_tuple hT
      exact ⟨_, rfl, h⟩
section
variable {prog : Program} {w : World} {A : Around} {E : Value → Shared → Prop} {s : Shared}
end
section
variable {prog : Program} {w : World} {A : Around} {E : Value → Shared → Prop} {s : Shared}
theorem en_both {itT : String} {l : Addr} {c : Int} {Q : Value → Shared → Prop}
    (h : ∀ h', IsEnum h' (s.heap.objs.size + 1) s.heap.objs.size c .none → h'.get? s.heap.objs.size = some { cls := .type itT, data := .fields #[.ref l, .int 0 0] } → h'.objs.size = s.heap.objs.size + 2 →
      (∀ b o, s.heap.get? b = some o → h'.get? b = some o) → Q (.ref (s.heap.objs.size + 1)) { s with heap := h' }) :
    wants (fun obj s₁ => s₁.TypeIs obj "enumerate" ∧ Q obj s₁) E (.ok (.ret (.ref (s.heap.push { cls := .type itT, data := .fields #[.ref l, .int 0 0] }).objs.size)))
      { s with heap := (s.heap.push { cls := .type itT, data := .fields #[.ref l, .int 0 0] }).push { cls := .type "enumerate", data := .fields #[.none, .bool false, .ref s.heap.objs.size, rawInt c, .none, .none] } } := by
  have hz : (s.heap.push { cls := .type itT, data := .fields #[.ref l, .int 0 0] }).objs.size = s.heap.objs.size + 1 := Heap.size_push ..
  have he : IsEnum ((s.heap.push { cls := .type itT, data := .fields #[.ref l, .int 0 0] }).push { cls := .type "enumerate", data := .fields #[.none, .bool false, .ref s.heap.objs.size, rawInt c, .none, .none] }) (s.heap.objs.size + 1) s.heap.objs.size c .none := by
    have q := Heap.get?_push_size (s.heap.push { cls := .type itT, data := .fields #[.ref l, .int 0 0] }) (o := { cls := .type "enumerate", data := .fields #[.none, .bool false, .ref s.heap.objs.size, rawInt c, .none, .none] }) rfl
    rw [hz] at q
    exact q
  show _ ∧ _
  rw [hz]
  exact ⟨⟨_, he, rfl⟩, h _ he (Heap.get?_push_of_some _ (Heap.get?_push_size _ rfl)) (by rw [Heap.size_push, hz]) fun b o x => Heap.get?_push_of_some _ (Heap.get?_push_of_some _ x)⟩
theorem en_call0 {l : Addr} {its : Array Value} {n : Nat} {dct : Option Addr} {sl : Array (Option Value)} {Q : Value → Shared → Prop}
    (hl : s.heap.get? l = some { cls := .type "tuple", dict := dct, data := .seq its n, slots := sl })
    (h : ∀ h', IsEnum h' (s.heap.objs.size + 1) s.heap.objs.size 0 .none → h'.get? s.heap.objs.size = some { cls := .type "tuple_iterator", data := .fields #[.ref l, .int 0 0] } → h'.objs.size = s.heap.objs.size + 2 →
      (∀ b o, s.heap.get? b = some o → h'.get? b = some o) → Q (.ref (s.heap.objs.size + 1)) { s with heap := h' }) :
    wpAny (model prog w) A (call (.type "enumerate") [.ref l]) Q E s :=
  callType_new F.called_enumerate (by decide) (F.typeCall_enumerate_1 _) (F.newCall_enumerate_1 _) (fun obj => F.args_object_init_2 obj _) F.entry_enumerate_new (en_new0 l its n dct sl) ⟨hl, en_both h⟩
theorem nx_item {it t : Addr} {i : Nat} {its : Array Value} {x : Value} {Q : Value → Shared → Prop} (hit : s.heap.IsTupleIter it t i) (ht : s.heap.IsTuple t its) (hx : its[i]? = some x)
    (hQ : ∀ h', h'.IsTupleIter it t (i + 1) → Heap.SameBut it s.heap h' → Q x { s with heap := h' }) : wpAny (model prog w) A (Builtin.SmallTypes.nextOf (.ref it)) Q E s := by
  obtain ⟨ob, h1, h2, h3⟩ := id hit
  obtain ⟨ot, k1, _, m, k2⟩ := ht
  unfold Builtin.SmallTypes.nextOf
  refine wpAny_bind (wpAny_callSpecial?_slot (name := Str.ofString "__next__") hit.typeIs F.slot_tuple_iterator_next (wpAny_call_entry F.slot_tuple_iterator_next hit.typeIs F.entry_tuple_iterator_next ?_ (F.args_tuple_iterator_next_1 _)))
  refine wpAny_bind (m := field (.ref it) 0) (wpAny_field h1 h3 (x := .ref t) rfl ?_)
  show wpAny _ _ (if (Value.ref t == Value.none) = true then _ else _) _ _ s
  rw [if_neg (by exact Bool.false_ne_true)]
  refine wpAny_bind (m := field (.ref it) 1) (wpAny_field h1 h3 (x := .int i 0) rfl (wpAny_bind (m := seqItems? (.ref t)) (wpAny_seqItems k1 k2 ?_)))
  simp only [Int.toNat_natCast, hx]
  refine wpAny_bind (wpAny_setField h1 h3 (by simp) (wpAny_pure ⟨x, rfl, wpAny_pure (hQ _ ⟨_, Heap.get?_update_self _ h1 (Obj.isFreed_of_fields (Obj.data_mapFields h3 _)), (Obj.cls_mapFields ..).trans h2, ?_⟩ (Heap.SameBut.update ..))⟩))
  rw [Obj.data_mapFields h3]; simp [rawInt]
theorem nx_end {it t : Addr} {i : Nat} {its : Array Value} {Q : Value → Shared → Prop} (hh : A.handled = none) (hit : s.heap.IsTupleIter it t i) (ht : s.heap.IsTuple t its) (hx : its[i]? = none)
    (hE : ∀ h' e, Heap.ExtBut it s.heap h' → (∃ o, h'.get? e = some o ∧ o.cls = .type "StopIteration") → E (.ref e) { s with heap := h' }) : wpAny (model prog w) A (Builtin.SmallTypes.nextOf (.ref it)) Q E s := by
  obtain ⟨ob, h1, h2, h3⟩ := id hit
  obtain ⟨ot, k1, _, m, k2⟩ := ht
  unfold Builtin.SmallTypes.nextOf
  refine wpAny_bind (wpAny_callSpecial?_slot (name := Str.ofString "__next__") hit.typeIs F.slot_tuple_iterator_next (wpAny_call_entry F.slot_tuple_iterator_next hit.typeIs F.entry_tuple_iterator_next ?_ (F.args_tuple_iterator_next_1 _)))
  refine wpAny_bind (m := field (.ref it) 0) (wpAny_field h1 h3 (x := .ref t) rfl ?_)
  show wpAny _ _ (if (Value.ref t == Value.none) = true then _ else _) _ _ s
  rw [if_neg (by exact Bool.false_ne_true)]
  refine wpAny_bind (m := field (.ref it) 1) (wpAny_field h1 h3 (x := .int i 0) rfl (wpAny_bind (m := seqItems? (.ref t)) (wpAny_seqItems k1 k2 ?_)))
  simp only [Int.toNat_natCast, hx]
  refine wpAny_bind (wpAny_rule (wpAny_bind (wpAny_setField h1 h3 (by simp) (wpAny_bind (m := newExc (.type "StopIteration") []) ?_))))
  simp only [newExc, newTuple]
  refine wpAny_bind (wpAny_newObj_type (wpAny_bind (m := firstArgMember _ _) (wpAny_of_eq (a := Value.none) (by first | rfl | (simp only [firstArgMember]; rfl)) (wpAny_newObj_type ?_ (by size_fits)))) (by size_fits))
  simp only [raiseNew]
  refine wpAny_bind (wpAny_handled ?_)
  first | rw [show A.in1.handled = none from hh] | rw [hh]
  exact wpAny_bind (wpAny_pure (wpAny_throw (hE _ _ (((Heap.SameBut.update ..).extBut.push _).push _) ⟨_, Heap.get?_push_size _ rfl, rfl⟩)))
end
theorem drawsT {prog : Program} {w : World} {A : Around} (hh : A.handled = none) (it l : Addr) (hne : l ≠ it) (its : Array Value) (c : Nat) :
    Draws prog w A it [it, l] (c + its.size) (fun i v => ∃ k, i = c + k ∧ its[k]? = some v) (fun i h => ∃ k, i = c + k ∧ h.IsTupleIter it l k ∧ h.IsTuple l its) where
  live := fun _ _ ⟨_, _, st, _⟩ => let ⟨o, ho, _⟩ := st; ⟨o, ho⟩
  frame := fun _ _ _ ⟨k, e, st, t⟩ hk => ⟨k, e, st.at fun o e => hk it (by simp) o e, let ⟨o, ho, r⟩ := t; ⟨o, hk l (by simp) o ho, r⟩⟩
  item := fun i s Q E hi ⟨k, e, st, t⟩ hQ => by
    have hk : k < its.size := by omega
    refine nx_item st t (x := its[k]) (by simp [hk]) fun h' st' sb => hQ _ h' s.toks ⟨k, e, by simp [hk]⟩ ⟨k + 1, by omega, st', ?_⟩ sb
    obtain ⟨o, ho, r⟩ := t
    exact ⟨o, (sb.2 l hne).trans ho, r⟩
  done := fun s Q E ⟨k, e, st, t⟩ hE => nx_end hh st t (Array.getElem?_eq_none (by omega)) hE
theorem drawsL {prog : Program} {w : World} {A : Around} (hh : A.handled = none) (it l : Addr) (hne : l ≠ it) (its : Array Value) (c : Nat) :
    Draws prog w A it [it, l] (c + its.size) (fun i v => ∃ k, i = c + k ∧ its[k]? = some v) (fun i h => ∃ k, i = c + k ∧ h.IsListIter it l k ∧ h.IsList l its) where
  live := fun _ _ ⟨_, _, st, _⟩ => let ⟨o, ho, _⟩ := st; ⟨o, ho⟩
  frame := fun _ _ _ ⟨k, e, st, t⟩ hk => ⟨k, e, st.at fun o e => hk it (by simp) o e, t.at fun o e => hk l (by simp) o e⟩
  item := fun i s Q E hi ⟨k, e, st, t⟩ hQ => by
    have hk : k < its.size := by omega
    exact wpAny_nextOf_list_item st t (x := its[k]) (by simp [hk]) fun h' st' sb => hQ _ h' s.toks ⟨k, e, by simp [hk]⟩ ⟨k + 1, by omega, st', t.extBut sb.extBut hne⟩ sb
  done := fun s Q E ⟨k, e, st, t⟩ hE => wpAny_nextOf_list_end hh st t (Array.getElem?_eq_none (by omega)) hE
theorem Inv.turned2 {X : Cx} {pins : List (Addr × Obj)} {σ : List (Option V)} {H : Hp} {s : Shared} {h' : Heap} {t' : Nat} {it e : Addr} (I : Inv X pins σ H s) (k : ∀ b o, b ≠ it → b ≠ e → s.heap.get? b = some o → h'.get? b = some o) (f1 : FpOk X pins H it) (f2 : FpOk X pins H e) :
    Inv X pins σ H { s with heap := h', toks := t' } := by
  obtain ⟨a0, a1, a2, a3, a4, a5⟩ := f1
  obtain ⟨b0, b1, b2, b3, b4, b5⟩ := f2
  have n1 : ∀ b u, H b = some u → b ≠ it := fun b u q z => by rw [z, a0] at q; cases q
  have n2 : ∀ b u, H b = some u → b ≠ e := fun b u q z => by rw [z, b0] at q; cases q
  have kk : ∀ b o, b ∉ [it, e] → s.heap.get? b = some o → h'.get? b = some o := fun b o hb q => k b o (fun z => hb (by simp [z])) (fun z => hb (by simp [z])) q
  refine I.step (g' := s.gens) (d' := s.drawn) (ch := [it, e]) (fun b hb => ?_) (fun b o _ _ hc q _ => kk b o hc q) (fun b o _ _ hc q _ => ⟨o.slots, kk b o hc q⟩) (fun _ _ _ _ n => n) (fun b o hc q => ⟨o, kk b o hc q⟩) (fun _ _ q => q) (fun _ _ _ q => q) (fun b ps q => ⟨#[], by rw [q]; simp⟩) (fun m hm => ?_) (fun b u q => ?_) I.bare
  · simp only [List.mem_cons, List.mem_nil_iff, or_false] at hb
    rcases hb with rfl | rfl
    · exact ⟨a3, a1, a4, a5⟩
    · exact ⟨b3, b1, b4, b5⟩
  · obtain ⟨o, es, ep, ho, r⟩ := hm
    exact ⟨o, es, ep, k _ o (Ne.symm a1) (Ne.symm b1) ho, r⟩
  · refine (I.hok b u q).stay (fun c v hc q' => k c v ?_ ?_ q') (fun _ q' => q') fun _ _ q' => q'
    · rcases hc with z | z
      · rw [z]; exact n1 b u q
      · exact n1 c _ z
    · rcases hc with z | z
      · rw [z]; exact n2 b u q
      · exact n2 c _ z
noncomputable def Ite (sq : Hp → List V → Prop) (c : Nat) : It := ⟨fun i H => ∃ xs x, sq H xs ∧ xs[i]? = some x,
  fun i H v H' => ∃ p x, v = .ref p ∧ H p = none ∧ H' = upd H p (.tup [.int ((c + i : Nat) : Int), x]) ∧ ∀ xs, sq H xs → xs[i]? = some x, fun i H => ∃ xs, sq H xs ∧ xs.length ≤ i⟩
section
variable {P : Program} {w : World} {K : PySem.W.Frag} {elts : List Expr} {kt : Nat} {tp : Pos}
structure Inner (P : Program) (w : World) (K : PySem.W.Frag) (sq : Hp → List V → Prop) (a it : Addr) (iter : Nat → Heap → Prop) : Prop where
  obj : ∀ i h, iter i h → ∃ o, h.get? it = some o ∧ ∀ v, o.data ≠ .cell v
  at_ : ∀ i h h', iter i h → (∀ o, h.get? it = some o → h'.get? it = some o) → iter i h'
  inj : ∀ (X : Cx), X.K = K → ∀ (pins : List (Addr × Obj)) (σ : St) (H : Hp) (s : Shared) xs ys, Inv X pins σ H s → sq H xs → sq H ys → xs = ys
  dr : ∀ (X : Cx), X.prog = P → X.w = w → X.K = K → X.calm = true → ∀ (pins : List (Addr × Obj)) (σ : St) (H : Hp) (s : Shared) (xs : List V) (c : Nat), Inv X pins σ H s → sq H xs → (∀ i, iter i s.heap → a ≠ it) →
    ∃ its : List Value, Vals xs its ∧ xs.length ≤ sizeLine ∧ ∃ (Pd : Nat → Value → Prop) (St : Nat → Heap → Prop), Draws P w X.A.in1 it [it, a] (c + its.length) Pd St ∧ (∀ k v, Pd (c + k) v → its[k]? = some v) ∧
      (∀ k h, iter k h → (∀ o, s.heap.get? a = some o → h.get? a = some o) → a ≠ it → St (c + k) h) ∧ ∀ k h, St (c + k) h → iter k h
  fin : ∀ (X : Cx), X.prog = P → X.w = w → X.K = K → X.calm = true → ∀ (pins : List (Addr × Obj)) (σ : St) (H : Hp) (s : Shared) (xs : List V) (i : Nat) (Q : Value → Shared → Prop) (E : Value → Shared → Prop), Inv X pins σ H s → sq H xs → xs.length ≤ i → iter i s.heap →
    (∀ h' x, Heap.ExtBut it s.heap h' → (∃ o, h'.get? x = some o ∧ o.cls = .type "StopIteration") → E (.ref x) { s with heap := h' }) → wpAny (model P w) X.A.in1 (Builtin.SmallTypes.nextOf (.ref it)) Q E s
theorem push_back {h : Heap} {b : Addr} {ob o : Obj} (hb : b < h.objs.size) (q : (h.push ob).get? b = some o) : h.get? b = some o := by
  unfold Heap.get? Heap.push at *
  simpa [Array.getElem?_push, Nat.ne_of_lt hb] using q
theorem en_end {prog : Program} {A : Around} {E : Value → Shared → Prop} {s : Shared} {e it : Addr} {c : Int} {old : Value} {Q : Option Value → Shared → Prop} (he : IsEnum s.heap e it c old)
    (hn : ∀ (Q' : Value → Shared → Prop) (E' : Value → Shared → Prop), (∀ h' x, Heap.ExtBut it s.heap h' → (∃ o, h'.get? x = some o ∧ o.cls = .type "StopIteration") → E' (.ref x) { s with heap := h' }) → wpAny (model prog w) A.in1 (Builtin.SmallTypes.nextOf (.ref it)) Q' E' s)
    (hQ : ∀ h', Heap.ExtBut it s.heap h' → Q none { s with heap := h' }) : wpAny (model prog w) A (pyNext (.ref e)) Q E s := by
  have ht : s.TypeIs (.ref e) "enumerate" := ⟨_, he, rfl⟩
  unfold pyNext
  refine wpAny_bind (wpAny_attempt (wpAny_callSpecial?_slot (name := Str.ofString "__next__") ht F.slot_enumerate_next (wpAny_call_entry F.slot_enumerate_next ht F.entry_enumerate_next ?_ (F.args_enumerate_next_1 _))))
  refine wpAny_bind (m := field (.ref e) 2) (wpAny_field he rfl (x := .ref it) rfl (wpAny_bind (hn _ _ fun h' x hb hx => ?_)))
  obtain ⟨o, ho, hc⟩ := hx
  exact wpAny_bind (wpAny_isInstance (T := "StopIteration") (b := true) ⟨o, ho, hc⟩ isSubtype_stop (wpAny_pure (hQ _ hb)))
theorem turn_enum {sq : Hp → List V → Prop} {a it e : Addr} {iter : Nat → Heap → Prop} (N : Inner P w K sq a it iter) (c : Nat) (hei : e ≠ it) (hea : e ≠ a) (hai : a ≠ it) :
    Turn P w K (.Tuple elts kt tp) (Ite sq c) [e, it] e (fun i h => (∃ old, IsEnum h e it ((c + i : Nat) : Int) old) ∧ iter i h) where
  mem := by simp
  obj := fun i h st b hb => by
    simp only [List.mem_cons, List.mem_nil_iff, or_false] at hb
    rcases hb with rfl | rfl
    · obtain ⟨old, q⟩ := st.1
      exact ⟨_, q, fun v z => by cases z⟩
    · exact N.obj i h st.2
  keep := fun i h h' st k => ⟨st.1.imp fun old q => k e (by simp) _ q, N.at_ i h h' st.2 fun o q => k it (by simp) o q⟩
  item := by
    intro X hP hw hK hc i pins s σ H E I hf st hg
    obtain ⟨xs, x, hq, hx⟩ := hg
    obtain ⟨⟨old, he⟩, hi⟩ := st
    obtain ⟨its, rv, hz, Pd, St, Dr, p1, p2, p3⟩ := N.dr X hP hw hK hc pins σ H s xs c I hq fun _ _ => hai
    obtain ⟨u, hu, ru⟩ := rv.get hx
    have hil : i < its.length := (List.getElem?_eq_some_iff.mp hu).1
    have fe := hf e (by simp)
    have fi := hf it (by simp)
    subst hP hw
    refine wpAny_pyNext_enum_itemD Dr he (p2 i _ hi (fun _ q => q) hai) (by omega) hei (by simp only [List.mem_cons, List.mem_nil_iff, or_false, not_or]; exact ⟨hei, hea⟩) fun y h1 tk hy ho hs1 ht hsz hk => ?_
    have ey : y = u := by
      have q := p1 i y hy
      rw [hu] at q
      exact (Option.some.inj q).symm
    subst ey
    refine ⟨_, rfl, wpAny_letOwnedTupleGo_enum ho fun h2 he2 sb => ?_⟩
    have helt : e < s.heap.objs.size := Heap.lt_size he
    have hpe : s.heap.objs.size ≠ e := Nat.ne_of_gt helt
    obtain ⟨oi, hoi, _⟩ := N.obj i _ hi
    have hpi : s.heap.objs.size ≠ it := Nat.ne_of_gt (Heap.lt_size hoi)
    have hp : H s.heap.objs.size = none := I.hok.fresh (Nat.le_refl _)
    have Ia : Inv X pins σ (upd H s.heap.objs.size (.tup [.int ((c + i : Nat) : Int), x])) { s with heap := s.heap.push { cls := .type "tuple", data := .seq #[.int ((c + i : Nat) : Int) tk, y] } } := by
      refine I.laid (t' := s.toks) (fun b o q => Heap.get?_push_of_some _ q) (Nat.le_refl _) ?_
      exact ⟨by show 2 ≤ sizeLine; decide, [.int ((c + i : Nat) : Int) tk, y], .cons ⟨tk, rfl⟩ (.cons ru .nil), IsTup.new _ _⟩
    have fe' : FpOk X pins (upd H s.heap.objs.size (.tup [.int ((c + i : Nat) : Int), x])) e := ⟨by rw [upd_ne (Ne.symm hpe)]; exact fe.1, fe.2⟩
    have fi' : FpOk X pins (upd H s.heap.objs.size (.tup [.int ((c + i : Nat) : Int), x])) it := ⟨by rw [upd_ne (Ne.symm hpi)]; exact fi.1, fi.2⟩
    have ht2 : h2.get? s.heap.objs.size = some { cls := .type "tuple", data := .seq #[.int ((c + i : Nat) : Int) tk, y] } := (sb.2 _ hpe).trans ht
    have Ib : Inv X pins σ (upd H s.heap.objs.size (.tup [.int ((c + i : Nat) : Int), x])) { s with heap := h2, toks := tk + 1 } := by
      refine Ia.turned2 (t' := tk + 1) (fun b o n1 n2 q => ?_) fi' fe'
      by_cases z : b = s.heap.objs.size
      · subst z
        have q' := Heap.get?_push_size s.heap (o := { cls := .type "tuple", data := .seq #[.int ((c + i : Nat) : Int) tk, y] }) rfl
        have q : (s.heap.push { cls := .type "tuple", data := .seq #[.int ((c + i : Nat) : Int) tk, y] }).get? s.heap.objs.size = some o := q
        rw [q'] at q
        rw [ht2]; exact q
      · have q : (s.heap.push { cls := .type "tuple", data := .seq #[.int ((c + i : Nat) : Int) tk, y] }).get? b = some o := q
        have q2 : s.heap.get? b = some o := by
          rcases Nat.lt_or_ge b s.heap.objs.size with hb | hb
          · exact push_back hb q
          · have hlt : b < (s.heap.push { cls := .type "tuple", data := .seq #[.int ((c + i : Nat) : Int) tk, y] }).objs.size := Heap.lt_size q
            rw [Heap.size_push] at hlt
            exact absurd (Nat.le_antisymm (Nat.le_of_lt_succ hlt) hb) z
        exact (sb.2 b n2).trans (hk b o n2 n1 q2)
    refine ⟨.ref s.heap.objs.size, _, Ib, rfl, ⟨_, x, rfl, hp, rfl, fun ys hy' => by rw [N.inj X hK pins σ H s ys xs I hy' hq]; exact hx⟩, ⟨⟨y, by have q := he2; rw [show ((c + (i + 1) : Nat) : Int) = ((c + i : Nat) : Int) + 1 by omega]; exact q⟩, ?_⟩, fun b hb => ?_⟩
    · refine N.at_ (i + 1) h1 h2 (p3 (i + 1) h1 hs1) fun o q => (sb.2 it (Ne.symm hei)).trans q
    · simp only [List.mem_cons, List.mem_nil_iff, or_false] at hb
      rcases hb with rfl | rfl
      · exact fe'.1
      · exact fi'.1
  done := by
    intro X hP hw hK hc i pins s σ H E I hf st hg
    obtain ⟨xs, hq, hx⟩ := hg
    obtain ⟨⟨old, he⟩, hi⟩ := st
    have fi := hf it (by simp)
    have fin := N.fin X hP hw hK hc pins σ H s xs i
    subst hP hw
    exact en_end he (fun Q' E' hE => fin Q' E' I hq hx hi hE) fun h' hb => ⟨rfl, I.turned (t' := s.toks) (fun b o n q => hb b o n q) fi.1 fi.2.1 fi.2.2.2.1 fi.2.2.2.2.1 fi.2.2.2.2.2⟩
  self := fun A i s Q E st h => by
    obtain ⟨⟨old, he⟩, _⟩ := st
    exact wpAny_pyIter_enum he h
theorem inner_tup (a it : Addr) : Inner P w K (fun H xs => SqT K H a xs) a it (fun i h => h.IsTupleIter it a i) where
  obj := fun i h st => let ⟨o, q, c, d⟩ := st; ⟨o, q, fun v z => by rw [d] at z; cases z⟩
  at_ := fun i h h' st k => st.at k
  inj := fun X hK pins σ H s xs ys I h1 h2 => by subst hK; exact I.tuple_inj h1 h2
  dr := fun X hP hw hK hc pins σ H s xs c I hq hne => by
    subst hP hw hK
    obtain ⟨its, rv, p, hz⟩ := I.tuple hq
    have hh : X.A.in1.handled = none := I.ok.hd hc
    by_cases hai : a = it
    · exact ⟨its, rv, hz, fun _ _ => False, fun _ _ => False, ⟨fun _ _ z => z.elim, fun _ _ _ z _ => z, fun _ _ _ _ _ z _ => z.elim, fun _ _ _ z _ => z.elim⟩, fun _ _ z => z.elim, fun _ _ _ _ z => absurd hai z, fun _ _ z => z.elim⟩
    · have Dq := drawsT (prog := X.prog) (w := X.w) hh it a hai its.toArray c
      rw [List.size_toArray] at Dq
      refine ⟨its, rv, hz, fun i v => ∃ k, i = c + k ∧ its.toArray[k]? = some v, fun i h => ∃ k, i = c + k ∧ h.IsTupleIter it a k ∧ h.IsTuple a its.toArray, Dq, fun k v q => ?_, fun k h st kp _ => ⟨k, rfl, st, ?_⟩, fun k h q => ?_⟩
      · obtain ⟨k', e, q⟩ := q
        have : k = k' := by omega
        subst this; simpa using q
      · obtain ⟨o, ho, r⟩ := p
        exact ⟨o, kp o ho, r⟩
      · obtain ⟨k', e, st, _⟩ := q
        have : k = k' := by omega
        subst this; exact st
  fin := fun X hP hw hK hc pins σ H s xs i Q E I hq hx st hE => by
    subst hP hw hK
    obtain ⟨its, rv, p, hz⟩ := I.tuple hq
    have hl := rv.length
    exact nx_end (I.ok.hd hc) st (show s.heap.IsTuple a its.toArray from p) (by simp; omega) hE
theorem inner_lst (a it : Addr) : Inner P w K (fun H xs => SqL K H a xs) a it (fun i h => h.IsListIter it a i) where
  obj := fun i h st => let ⟨o, q, c, d⟩ := st; ⟨o, q, fun v z => by rw [d] at z; cases z⟩
  at_ := fun i h h' st k => st.at k
  inj := fun X hK pins σ H s xs ys I h1 h2 => by subst hK; exact I.list_inj h1 h2
  dr := fun X hP hw hK hc pins σ H s xs c I hq hne => by
    subst hP hw hK
    obtain ⟨its, rv, p, hz⟩ := I.list hq
    have hh : X.A.in1.handled = none := I.ok.hd hc
    by_cases hai : a = it
    · exact ⟨its, rv, hz, fun _ _ => False, fun _ _ => False, ⟨fun _ _ z => z.elim, fun _ _ _ z _ => z, fun _ _ _ _ _ z _ => z.elim, fun _ _ _ z _ => z.elim⟩, fun _ _ z => z.elim, fun _ _ _ _ z => absurd hai z, fun _ _ z => z.elim⟩
    · have Dq := drawsL (prog := X.prog) (w := X.w) hh it a hai its.toArray c
      rw [List.size_toArray] at Dq
      refine ⟨its, rv, hz, fun i v => ∃ k, i = c + k ∧ its.toArray[k]? = some v, fun i h => ∃ k, i = c + k ∧ h.IsListIter it a k ∧ h.IsList a its.toArray, Dq, fun k v q => ?_, fun k h st kp _ => ⟨k, rfl, st, ?_⟩, fun k h q => ?_⟩
      · obtain ⟨k', e, q⟩ := q
        have : k = k' := by omega
        subst this; simpa using q
      · obtain ⟨o, ho, r⟩ := p.isList
        exact ⟨o, kp o ho, r⟩
      · obtain ⟨k', e, st, _⟩ := q
        have : k = k' := by omega
        subst this; exact st
  fin := fun X hP hw hK hc pins σ H s xs i Q E I hq hx st hE => by
    subst hP hw hK
    obtain ⟨its, rv, p, hz⟩ := I.list hq
    have hl := rv.length
    exact wpAny_nextOf_list_end (I.ok.hd hc) st p.isList (by simp; omega) hE
end
end L2
namespace L2
open PySem PySem.Spec PyProof.Rows
noncomputable def numbered (c : Nat) (xs : List D) : List D := (List.range xs.length).map fun i => .tup [.int ((c + i : Nat) : Int), xs.getD i .non]
theorem numbered_get {c : Nat} {xs : List D} {i : Nat} {d : D} (h : (numbered c xs)[i]? = some d) : ∃ x, xs[i]? = some x ∧ d = .tup [.int ((c + i : Nat) : Int), x] := by
  unfold numbered at h
  rw [List.getElem?_map] at h
  by_cases hi : i < xs.length
  · rw [List.getElem?_range hi] at h
    refine ⟨xs[i], List.getElem?_eq_getElem hi, ?_⟩
    have e : xs.getD i .non = xs[i] := by rw [List.getD_eq_getElem?_getD, List.getElem?_eq_getElem hi]; rfl
    rw [← e]
    exact (Option.some.inj h).symm
  · rw [List.getElem?_eq_none (by simp; omega)] at h; cases h
theorem numbered_length (c : Nat) (xs : List D) : (numbered c xs).length = xs.length := by simp [numbered]
theorem ItOk.enum {K : PySem.W.Frag} {G : Hp} {sq : Hp → List V → Prop} {vs : List V} {ds : List D} {c : Nat} (hs : ∀ G1 H1, Same G G1 → Same G1 H1 → sq H1 vs) (r : Reps K G vs ds) : ItOk K G (Ite sq c) (numbered c ds) := by
  intro i G1 H1 s1 s2
  refine ⟨fun d e => ?_, fun hl => ⟨vs, hs G1 H1 s1 s2, by rw [numbered_length] at hl; rw [r.length]; exact hl⟩⟩
  obtain ⟨dx, ex, rfl⟩ := numbered_get e
  obtain ⟨v, ev, rv⟩ := r.get ex
  refine ⟨⟨vs, v, hs G1 H1 s1 s2, ev⟩, fun x H' y => ?_⟩
  obtain ⟨p, x', rfl, hp, rfl, y⟩ := y
  have z := y vs (hs G1 H1 s1 s2)
  rw [ev] at z
  cases z
  refine ⟨upd G1 p (.tup [.int ((c + i : Nat) : Int), v]), .new s2 hp, .tup (.of upd_same) (.cons (.int _) (.cons ((rv.mono s1).mono (.into (s2.free hp))) .nil))⟩
section
variable {X : Cx} {pins : List (Addr × Obj)} {σ : St} {H : Hp} {s : Shared} {elts : List Expr} {kt : Nat} {tp : Pos} {Rr : It → Hp → Prop}
theorem enum_pie {l : Addr} {sq : Hp → List V → Prop} {iter : Nat → Heap → Prop} {c : Nat} {h' : Heap} (I : Inv X pins σ H s) (N : Inner X.prog X.w X.K sq l (s.heap.objs.size) iter) (hl : l < s.heap.objs.size) (he : IsEnum h' (s.heap.objs.size + 1) s.heap.objs.size (c : Int) .none) (hi : iter 0 h')
    (hk : ∀ b o, s.heap.get? b = some o → h'.get? b = some o) (q : Rr (Ite sq c) H) : PIE X pins σ (.Tuple elts kt tp) Rr (.ref (s.heap.objs.size + 1)) { s with heap := h' } := by
  have hlt : s.heap.objs.size ≤ s.heap.objs.size + 1 := Nat.le_succ _
  refine ⟨_, _, _, _, H, rfl, I.kept (t' := s.toks) hk, turn_enum N c (Nat.ne_of_gt (Nat.lt_succ_self _)) (Nat.ne_of_gt (Nat.lt_succ_of_lt hl)) (Nat.ne_of_lt hl), ⟨⟨_, he⟩, hi⟩, fun b hb => ?_, q⟩
  simp only [List.mem_cons, List.mem_nil_iff, or_false] at hb
  rcases hb with rfl | rfl
  · exact I.fpOk hlt (I.hok.fresh hlt)
  · exact I.fpOk (Nat.le_refl _) (I.hok.fresh (Nat.le_refl _))
theorem SqT.lt' {a : Addr} {xs : List V} (I : Inv X pins σ H s) (h : SqT X.K H a xs) : a < s.heap.objs.size := by
  obtain ⟨its, rv, ⟨o, q, _⟩, _⟩ := I.tuple h
  exact Heap.lt_size q
theorem SqL.lt' {a : Addr} {xs : List V} (I : Inv X pins σ H s) (h : SqL X.K H a xs) : a < s.heap.objs.size := by
  obtain ⟨its, rv, p, _⟩ := I.list h
  obtain ⟨o, q, _⟩ := p.isList
  exact Heap.lt_size q
end
noncomputable def enumD : D → R (List D)
  | .lst _ xs => .ok (numbered 0 xs)
  | .tup xs => .ok (numbered 0 xs)
  | _ => .no
noncomputable def enumAt : D → D → R (List D)
  | .tup xs, .int c => if 0 ≤ c ∧ c < 1073741824 then .ok (numbered c.toNat xs) else .no
  | _, _ => .no
section
variable {X : Cx} {a b : Expr} {ga gb : Ev → R D} {elts : List Expr} {kt : Nat} {p pos tp kp : Pos}
theorem k_ienum_0 (hg : Gl X "enumerate") (hm : X.mg "enumerate" = none) (ha : QF X a ga) (hs : starEach [a] X.env = (false, eval a X.env) :: starEach [] X.env := by rfl) :
    QIF X (.Tuple elts kt tp) (.Call (.Name "enumerate" p) [a] [] pos) (gThen enumD ga) := by
  intro pins s σ H Rr I h
  obtain ⟨G, ρ, st, h⟩ := h
  have ta : tCons (tF X ga) tNil σ H (fun vs H1 => ∃ v, vs = [v] ∧ ∃ G1 d, Up G H G1 H1 ∧ Rep X.K G1 v d ∧ Same G1 H1 ∧ (enumD d).post (Fin G1 H1 (fun G J items => ItOk X.K G J items) Rr) (Exx X σ G1 H1)) :=
    tG.intro st h fun d v G1 H1 u1 st1 r1 h1 => ⟨v, rfl, G1, d, u1, r1, st1.sub, h1⟩
  refine Call_ (ld_blt I hg hm PyProof.Rows.Boot.«enumerate» (PyProof.Rows.callWith_type1 (thn ((pa_cons ha pa_nil hs) pos pins s σ H _ I ta) fun us s1 ⟨vs, H1, I1, r1, q1⟩ => ?_) hs rfl))
  obtain ⟨v, hv, G1, d, u1, rd, sub, h1⟩ : ∃ v, vs = [v] ∧ ∃ G1 d, Up G H G1 H1 ∧ Rep X.K G1 v d ∧ Same G1 H1 ∧ (enumD d).post (Fin G1 H1 (fun G J items => ItOk X.K G J items) Rr) (Exx X σ G1 H1) := q1
  subst hv
  obtain ⟨u, rfl, rv⟩ := r1.one
  cases rd with
  | lst hq t =>
    cases rv
    have hq' : SqL X.K G1 _ _ := .of hq
    obtain ⟨its, rvs, p, hz⟩ := I1.list (hq'.mono sub)
    exact call_enumerate_list p.isList fun h' he hi hsz hk => wpAny_pyIter_enum he (enum_pie (c := 0) I1 (inner_lst _ _) (SqL.lt' I1 (hq'.mono sub)) he hi hk (h1 _ G1 H1 (.refl sub) (ItOk.enum (fun G2 H2 s1 s2 => (hq'.mono s1).mono s2) t)))
  | fls hq t =>
    cases rv
    obtain ⟨its, rvs, p, hz⟩ := I1.list (hq.mono sub)
    exact call_enumerate_list p.isList fun h' he hi hsz hk => wpAny_pyIter_enum he (enum_pie (c := 0) I1 (inner_lst _ _) (SqL.lt' I1 (hq.mono sub)) he hi hk (h1 _ G1 H1 (.refl sub) (ItOk.enum (fun G2 H2 s1 s2 => (hq.mono s1).mono s2) t)))
  | tup hq t =>
    cases rv
    obtain ⟨its, rvs, ⟨⟨cls, dd, data, sl⟩, ho, hc, n, hd⟩, hz⟩ := I1.tuple (hq.mono sub)
    simp only at hc hd
    subst hc hd
    exact en_call0 ho fun h' he hi hsz hk => wpAny_pyIter_enum he (enum_pie (c := 0) I1 (inner_tup _ _) (SqT.lt' I1 (hq.mono sub)) he ⟨_, hi, rfl, rfl⟩ hk (h1 _ G1 H1 (.refl sub) (ItOk.enum (fun G2 H2 s1 s2 => (hq.mono s1).mono s2) t)))
  | _ => exact h1.elim
noncomputable def gEnumS (ga gb : Ev → R D) : Ev → R (List D) := fun ρ => ga ρ >>= fun x => gb ρ >>= fun c => enumAt x c
end
end L2
namespace L2
open PySem PySem.Spec PyProof.Rows
theorem setVs_own : ∀ (is : List Nat) (ds : List D) (ρ ρ' : Ev), setVs is ds ρ = .ok ρ' → (NoOwn ρ) → NoOwn ρ'
  | [], [], ρ, ρ', e, h => by cases e; exact h
  | [], _ :: _, _, _, e, _ => by cases e
  | _ :: _, [], _, _, e, _ => by cases e
  | i :: is, d :: ds, ρ, ρ', e, h => setVs_own is ds _ ρ' e (setV_own (i := i) d ρ _ rfl h)
theorem setT_own {is : List Nat} : ∀ d ρ ρ', setT is d ρ = .ok ρ' → (NoOwn ρ) → NoOwn ρ' := fun d ρ ρ' e h => by
  cases d with
  | tup ds => exact setVs_own is ds ρ ρ' e h
  | _ => cases e
theorem compT_ok {X : Cx} {scope : Scope} {n : Nat} {N' : List Str} {ix : List Nat} (hk : scope.kind = .function := by rfl)
    (h1 : (∀ y ∈ scope.names, y.2 ≠ .cell) ∧ (∀ y ∈ scope.names, y.2 = .local → scope.names.lookup y.1 = some .local) ∧ (∀ y ∈ scope.names, y.2 = .free → y.1 ∈ N'.drop n) ∧ n ≤ N'.length ∧
      ∀ y ∈ N'.drop n, scope.names.lookup y = some .free ∧ (y, NameKind.free) ∈ scope.names := by decide +kernel)
    (h2 : (N'.drop n).map X.env.kindOf = (N'.drop n).map fun _ => some NameKind.cell := by rfl) (h3 : N'.drop n = ix.map (fun (i : Nat) => X.N.getD i Str.empty) := by rfl) (h4 : ix.all (fun i => decide (i < X.N.length)) = true := by rfl) : CompOkT X scope n N' ix := by
  obtain ⟨a, b, d, f, g⟩ := h1
  refine ⟨hk, a, b, fun y hy h => ?_, f, h3, fun i hi => ?_, g⟩
  · exact List.map_inj_left.1 h2 _ (d y hy h)
  · exact of_decide_eq_true (List.all_eq_true.1 h4 i hi)
section
variable {X : Cx} {elt iter tgt : Expr} {ifs : List Expr} {pos : Pos} {scope : Scope} {n : Nat} {N' : List Str} {ix : List Nat} {asg : D → Ev → R Ev} {gi : Ev → R (List D)} {gt : Ev → R Bool} {ge : Ev → R D}
theorem pfl_compT_0 (ok : CompOkT X scope n N' ix) (hcalm : X.calm = true) (hg : ∀ C s₂ H₂ fp, PGF (compCx X N' scope C s₂ H₂ fp) tgt asg) (hown : ∀ d ρ ρ', asg d ρ = .ok ρ' → (NoOwn ρ) → NoOwn ρ')
    (hi : QIF X tgt iter gi) (he : ∀ C s₂ H₂ fp, QF (compCx X N' scope C s₂ H₂ fp) elt ge) (ht : ∀ C s₂ H₂ fp, PTs (compCx X N' scope C s₂ H₂ fp) ifs gt)
    (hs : ∀ x, foldedSetIterable iter X.env x = pure x := by intro _; rfl) : QFL X (.ListComp elt [⟨tgt, iter, ifs, 0⟩] scope pos) (gCompT n asg gi ix gt ge) := by
  intro pins s σ H Q I h
  obtain ⟨G, ρ, st, h⟩ := h
  rw [eval_ListComp]
  refine wpAny_comprehension_free (use := none) rfl hs (closureFor_eq fun y hy hy2 => I.ok.has y.1 (.inl (ok.fr y hy hy2))) ok.kind ok.names ?_
  have t : tG X (fun G J items => ItOk X.K G J items) gi σ H (fun J H1 => ∃ G1 items, Up G H G1 H1 ∧ StE X.K G1 H1 σ ρ ∧ ItOk X.K G1 J items ∧ (compG asg gt ge items (innerN n ix ρ) >>= fun ds => if ds.length ≤ sizeLine then R.ok ds else .no).post (FinL X.K G H Q) (Exx X σ G H)) := by
    refine ⟨G, ρ, st, ?_⟩
    unfold gCompT at h
    cases e : gi ρ with
    | ok items => rw [e] at h; exact fun J G1 H1 u r => ⟨G1, items, u, st.up u, r, h⟩
    | ex C => rw [e] at h; exact h
    | no => rw [e] at h; exact h
  refine thn (hi pins s σ H _ I t) fun v s1 h1 => thn h1 fun itv s2 h2 => ?_
  obtain ⟨it, fp, tn, J, H2, e, I2, T, st2, f2, G2, items, u2, sE2, iok, h2⟩ := h2
  subst e
  have h2' : (compG asg gt ge items (innerN n ix ρ) >>= fun ds => if ds.length ≤ sizeLine then R.ok ds else .no).post (FinL X.K G2 H2 Q) (Exx X σ G2 H2) :=
    h2.mono (fun ds q l vs G' H' u hl r => q l vs G' H' (u2.trans u) hl r) fun C q => q.up u2
  refine comp_blockT_0 (iter := iter) (pos := pos) (RR := fun acc C => compPost (model X.prog X.w) X.A X.xe none (EP X pins σ Q) acc C) ok hcalm hg hown he ht I2 T st2 f2 sE2 iok h2' ?_
  intro Dd C s' m vs G' H' up hd hCD _ q hm hos hb hC hCl un hok
  refine ⟨m, hm, fun h' hs' => ?_⟩
  have I3 := I2.call' (H' := upd H' Dd (.lst vs)) (s' := { s' with heap := h' }) (ch := fp) hos (un.sameBut (fun b o hbc e => hs'.extBut b o hbc e) hCl) (hok.sameBut (fun b o hbc e => hs'.extBut b o hbc e) (by rw [upd_ne hCD]; exact hC)) hb fun b hb' => by
    obtain ⟨f0, f1, f2', f3, f4, f5⟩ := f2 b hb'
    exact ⟨f3, f1, f4, f5⟩
  exact ⟨.ref Dd, _, I3, rfl, q⟩
end
section
variable {X : Cx}
end
noncomputable def oParO (i j : Nat) (ga : Ev → R D) (gl : Ev → R (List D)) : Ev → O := fun ρ => (ga ρ).out ρ fun d => (gl ρ).out ρ fun ds => .nx ((ρ.set i (some (.val d))).set j (some (.own ds)))
section
variable {X : Cx} {ga : Ev → R D} {gl : Ev → R (List D)} {pos : Pos}
end
end L2
namespace L2
open PySem PySem.Spec PyProof.Rows
theorem Inv.turnedL {X : Cx} {pins : List (Addr × Obj)} {σ : List (Option V)} {H : Hp} {s : Shared} {h' : Heap} {t' : Nat} {ch : List Addr} (I : Inv X pins σ H s) (k : ∀ b o, b ∉ ch → s.heap.get? b = some o → h'.get? b = some o) (f : ∀ b ∈ ch, FpOk X pins H b) :
    Inv X pins σ H { s with heap := h', toks := t' } := by
  have n1 : ∀ b u, H b = some u → b ∉ ch := fun b u q z => by rw [(f b z).1] at q; cases q
  refine I.step (g' := s.gens) (d' := s.drawn) (ch := ch) (fun b hb => ?_) (fun b o _ _ hc q _ => k b o hc q) (fun b o _ _ hc q _ => ⟨o.slots, k b o hc q⟩) (fun _ _ _ _ n => n) (fun b o hc q => ⟨o, k b o hc q⟩) (fun _ _ q => q) (fun _ _ _ q => q) (fun b ps q => ⟨#[], by rw [q]; simp⟩) (fun m hm => ?_) (fun b u q => ?_) I.bare
  · obtain ⟨a0, a1, a2, a3, a4, a5⟩ := f b hb
    exact ⟨a3, a1, a4, a5⟩
  · obtain ⟨o, es, ep, ho, r⟩ := hm
    exact ⟨o, es, ep, k _ o (fun z => (f _ z).2.1 rfl) ho, r⟩
  · refine (I.hok b u q).stay (fun c v hc q' => k c v ?_ q') (fun _ q' => q') fun _ _ q' => q'
    rcases hc with z | z
    · rw [z]; exact n1 b u q
    · exact n1 c _ z
section
variable {P : Program} {w : World} {K : PySem.W.Frag} {elts : List Expr} {kt : Nat} {tp : Pos}
end
section
variable {X : Cx} {a b : Expr} {gl : Ev → R (List D)} {elts : List Expr} {kt : Nat} {p pos tp : Pos}
end
end L2
namespace L2
open PySem PySem.Spec PyProof.Rows
noncomputable def revD : D → D → R D
  | .str x, .int k => if k = -1 then .ok (.str x.reverse) else .no
  | .lst _ xs, .int k => if k = -1 then .ok (.lst false xs.reverse) else .no
  | _, _ => .no
noncomputable def gRev (ga gs : Ev → R D) : Ev → R D := fun ρ => ga ρ >>= fun x => gs ρ >>= fun k => revD x k
section
variable {X : Cx} {a st : Expr} {ga gs : Ev → R D} {pos p2 : Pos}
noncomputable def intOfF : List D → Option D
  | [.bl b] => some (.int (if b = true then 1 else 0))
  | _ => none
theorem call_intOf : CallR X (.type "int") (fun xs H Q => ∃ b : Bool, xs = [.bl b] ∧ Q (.int (if b = true then 1 else 0)) H) := by
  intro pins s σ H xs us Q I r ⟨b, ex, q⟩
  subst ex
  obtain ⟨u, rfl, r1⟩ := r.one
  cases r1
  exact call_int_bool ⟨.int _, H, I.tok _, ⟨_, rfl⟩, q⟩
theorem ok_intOf (K : PySem.W.Frag) : CROk K (fun xs H Q => ∃ b : Bool, xs = [.bl b] ∧ Q (.int (if b = true then 1 else 0)) H) intOfF := by
  intro G H xs ds d Q s r e q
  unfold intOfF at e
  split at e
  · cases e
    obtain ⟨v, rfl, r1⟩ := r.one
    cases r1
    exact ⟨_, rfl, q _ G H (.refl s) (.int _)⟩
  · cases e
theorem k_intOf_0 {e : Expr} {gl : Ev → R (List D)} {p : Pos} (hg : Gl X "int") (hm : X.mg "int" = none) (ha : QFA X [e] gl) (he : starEach [e] X.env = (false, eval e X.env) :: starEach [] X.env := by rfl) :
    QF X (.Call (.Name "int" p) [e] [] pos) (gOf intOfF gl) := pf_callTy_0 call_intOf (ok_intOf _) hg hm PyProof.Rows.Boot.«int» ha (by decide) (by decide) he rfl
end
end L2
namespace L2
open PySem PySem.Spec PyProof.Rows
noncomputable def whileD (gt : Ev → R Bool) (g : Ev → O) : Nat → Ev → O
  | 0, _ => .no
  | n + 1, ρ => (gt ρ).out ρ fun k => if k = true then (match g ρ with
    | .nx ρ2 => whileD gt g n ρ2
    | .ct ρ2 => whileD gt g n ρ2
    | .bk ρ2 => .nx ρ2
    | .rt d => .rt d
    | .re d ρ2 => .re d ρ2
    | .ex C ρ2 => .ex C ρ2
    | .no => .no) else .nx ρ
noncomputable def oWhile (n : Nat) (gt : Ev → R Bool) (g : Ev → O) : Ev → O := fun ρ => whileD gt g n ρ
section
variable {X : Cx} {c e : Expr} {body : List Stmt} {gt : Ev → R Bool} {g : Ev → O} {ga : Ev → R D} {pos : Pos}
end
end L2
namespace L2
open PySem PySem.Spec PyProof.Rows
noncomputable def inD (x : D) : List D → Option Bool
  | [] => some false
  | y :: ys => (eqD 40 y x).bind fun k => if k = true then some true else inD x ys
noncomputable def inF : D → D → Option D
  | x, .lst _ ys => if inD x ys = some false then some (.bl false) else none
  | _, _ => none
section
variable {X : Cx} {a b ix e : Expr} {es : List Expr} {ga gb gi : Ev → R D} {gl : Ev → R (List D)} {pos p1 p2 pl sp : Pos}
end
end L2
namespace L2
open PySem PySem.Spec PyProof.Rows
section
variable {X : Cx} {a b : Expr} {ga gb : Ev → R D} {pos : Pos}
structure KTup (K : PySem.W.Frag) (c : Addr) (ls : List (List Nat)) : Prop where
  ex : ∃ (o : Obj) (its : Array Value) (n : Nat) (vs : List V), K.lookup c = some o ∧ o.cls = .type "tuple" ∧ o.data = .seq its n ∧ its.size ≤ sizeLine ∧ Vals vs its.toList ∧ ∀ G, Reps K G vs (ls.map .str)
end
end L2
namespace L2
open PySem PySem.Spec PyProof.Rows
noncomputable def decL (n : Nat) : List Nat := (Nat.toDigits 10 n).map Char.toNat
section
variable {X : Cx} {a b c e e1 e2 e3 e4 e5 : Expr} {ga gb gc g1 g2' g3' g4 g5 : Ev → R D} {gl : Ev → R (List D)} {pos p : Pos}
noncomputable def fmtD : D → R D
  | .int i => if 0 ≤ i ∧ i < 10000000000 then .ok (.str (decL i.toNat)) else .no
  | .str x => .ok (.str x)
  | _ => .no
noncomputable def joinG : List (Ev → R D) → List Nat → Ev → R D
  | [], out => fun _ => .ok (.str out)
  | g :: gs, out => fun ρ => g ρ >>= fun d => match d with
    | .str x => if (out ++ x).length ≤ sizeLine then joinG gs (out ++ x) ρ else .no
    | _ => .no
noncomputable def gFstr (gs : List (Ev → R D)) : Ev → R D := joinG gs []
end
end L2
namespace L2
open PySem PySem.Spec PyProof.Rows
section
variable {X : Cx} {a b c e : Expr} {ga : Ev → R D} {gl : Ev → R (List D)} {pos p : Pos} {tg : Expr}
end
end L2
namespace L2
open PySem PySem.Spec PyProof.Rows
noncomputable def oOwnP (j i : Nat) (gl : Ev → R (List D)) : Ev → O := fun ρ => (noEx (gl (frz j ρ))).out ρ fun ds => if ds.all (fl 10) = true then .nx (ρ.set i (some (.own ds))) else .no
section
variable {X : Cx} {elt iter : Expr} {ifs : List Expr} {x : Str} {px pos : Pos} {scope : Scope} {N' : List Str} {ix : List Nat} {gi : Ev → R (List D)} {gt : Ev → R Bool} {ge : Ev → R D}
end
end L2
namespace L2
open PySem PySem.Spec PyProof.Rows
section
variable {prog : Program} {w : World} {A : Around} {E : Value → Shared → Prop} {s : Shared}
structure Z3 (z TI TO i1 i2 i3 l1 l2 l3 : Addr) : Prop where
  nd : [z, TI, TO, i1, i2, i3].Nodup
  ap : ∀ l ∈ [l1, l2, l3], l ∉ [z, TO, i1, i2, i3]
end
section
variable {P : Program} {w : World} {K : PySem.W.Frag} {elts : List Expr} {kt : Nat} {tp : Pos}
end
section
variable {X : Cx} {a b c : Expr} {gl : Ev → R (List D)} {elts : List Expr} {kt : Nat} {p pos tp : Pos}
end
end L2
namespace L2
open PySem PySem.Spec PyProof.Rows
section
variable {X : Cx} {a b e : Expr} {ga gb : Ev → R D} {gl : Ev → R (List D)} {pos p : Pos}
end
end L2
namespace L2
open PySem PySem.Spec PyProof.Rows
section
variable {X : Cx} {elt iter : Expr} {ifs : List Expr} {x : Str} {px pos : Pos} {scope : Scope} {N' : List Str} {ix : List Nat} {gi : Ev → R (List D)} {gt : Ev → R Bool} {ge : Ev → R D}
end
end L2
namespace L2
open PySem PySem.Spec PyProof.Rows
section
variable {X : Cx} {a b c e ix : Expr} {es : List Expr} {ga gb gi : Ev → R D} {gl : Ev → R (List D)} {pos p p1 p2 p3 pl sp : Pos}
noncomputable def cutAt (c : Nat) : List Nat → Option (List Nat × List Nat)
  | [] => none
  | d :: r => if d = c then some ([], r) else (cutAt c r).map fun p => (d :: p.1, p.2)
noncomputable def partL (c : Nat) (x : List Nat) : List Nat × List Nat × List Nat := match cutAt c x with
  | some (p, q) => (p, [c], q)
  | none => (x, [], [])
noncomputable def partF : D → List D → Option D
  | .str x, [.str [c]] => if x.length ≤ 10000 then some (.tup [.str (partL c x).1, .str (partL c x).2.1, .str (partL c x).2.2]) else none
  | _, _ => none
end
end L2
namespace L2
open PySem PySem.Spec PyProof.Rows
noncomputable abbrev lamCx (P : Program) (w : World) (K : PySem.W.Frag) (mg : Str → Option Value) (base : Heap) (N : List Str) (qual : Str) (scope : Scope) (cl : List (Str × Addr)) (f : Addr) (cd : Value) (A : Around) (outer : List Env) (s : Shared) (H : Hp) (E : XK) : Cx :=
  gCx P w K mg base N (PySem.W.envX qual scope s.heap.objs.size f cd cl) (fun _ => false) A outer s H E
structure ClOk (N : List Str) (scope : Scope) (cl : List (Str × Addr)) (σ : St) (H : Hp) (h : Heap) : Prop where
  kind : scope.kind = .function
  nocell : ∀ y ∈ scope.names, y.2 ≠ .cell
  inj : ∀ y z c, cl.lookup y = some c → cl.lookup z = some c → y = z
  has : ∀ y, scope.names.lookup y = some .free → ∃ c, cl.lookup y = some c
  cell : ∀ y c, cl.lookup y = some c → H c = none ∧ ∃ v, h.IsCell c v
  val : ∀ (i : Nat) y v, N[i]? = some y → σ[i]? = some (some v) → ∃ u c, RelV v u ∧ scope.names.lookup y = some .free ∧ cl.lookup y = some c ∧ h.IsCell c (some u)
  len : σ.length = N.length
section
variable {Y : Cx} {pins : List (Addr × Obj)} {σY σ : St} {H : Hp} {s : Shared} {f : Addr} {o : Obj} {N : List Str} {qual : Str} {params : Arguments} {body : Expr} {scope : Scope} {cl : List (Str × Addr)} {pm cd ctv : Value} {k : Nat} {te : TE} {Q : VK} {E : XK}
end

theorem among_snoc {pos : Pos} {a b c cv : Value} : ∀ {l : List Value}, TriplesOk l → codeAmong pos (l ++ [a, b, c]) = some cv → cv = c ∨ codeAmong pos l = some cv := fun {l} => by
  induction l using TriplesOk.induct with
  | case1 =>
    intro _ h
    left
    rw [List.nil_append, codeAmong.eq_def] at h
    repeat' split at h
    all_goals simp_all [codeAmong]
  | case2 i t j u v r ih =>
    intro ht h
    rw [TriplesOk.eq_2] at ht
    simp only [List.cons_append] at h
    rw [codeAmong.eq_1] at h ⊢
    split at h
    · rename_i q; rw [if_pos q]; exact .inr h
    · rename_i q; rw [if_neg q]; exact ih ht h
  | case3 x h1 h2 =>
    intro ht
    rw [TriplesOk.eq_3 x h1 h2] at ht
    exact ht.elim
section
variable {X : Cx} {pins : List (Addr × Obj)} {σ : St} {H : Hp} {s : Shared} {params : Arguments} {body : Expr} {scope : Scope} {pos : Pos} {c P : Addr} {ps : Array Value} {Q : Value → Shared → Prop}
structure Lam (X : Cx) (pins : List (Addr × Obj)) (σ : St) (H : Hp) (s : Shared) (params : Arguments) (body : Expr) (scope : Scope) (f : Addr) (cd ctv pm : Value) (H1 : Hp) (s1 : Shared) : Prop where
  inv : Inv X pins σ H1 s1
  hh : Same H H1
  new : ∀ a, H a = none → H1 a = none ∨ s.heap.objs.size ≤ a
  free : H1 f = none
  fn : s1.heap.get? f = some { cls := .type "function", data := .func (PySem.W.kla_fn "<lambda>" (X.env.qual ++ "<lambda>") params body scope (clOf X.env scope.names []) pm cd ctv) }
  codeH : ∃ c o vs t u, cd = .ref c ∧ H1 c = some (.frz o u) ∧ o.data = .fields vs ∧ vs[1]? = some (.str (X.env.qual ++ "<lambda>") t)
theorem lam_make (I : Inv X pins σ H s) (hdef : defaultsOf params X.env = ([], [])) (hc : X.env.code = .ref c) (hcd : PySem.W.CodeHd s.heap c P) (hT : H P = some (.tbl ps)) (hq : qualOf ps = X.env.qual ++ "<lambda>") (hbm : s.heap.BuiltinsAt X.mg P)
    (hfr : ∀ y ∈ scope.names, y.2 = .free → X.env.kindOf y.1 = some .cell) (hgP : mainGlobals ≠ P) (h : ∀ f cd ctv pm H1 s1, Lam X pins σ H s params body scope f cd ctv pm H1 s1 → Q (.ref f) s1) :
    wpAny (model X.prog X.w) X.A (eval (.Lambda params body scope pos) X.env) Q X.xe s := by
  have clos : closureFor scope X.env = pure (clOf X.env scope.names []) := closureFor_eq fun y hy hk => I.ok.has y.1 (.inl (hfr y hy hk))
  have hns : s.heap.Ns mainGlobals X.mg := by
    obtain ⟨o, es, ep, e, r⟩ := I.ok.mod.glob
    exact ⟨o, es, ep, I.bk _ _ e, r⟩
  obtain ⟨qs, hP, tr, co⟩ := I.hok P _ hT
  have neP : ∀ {b : Addr}, H b = none → b ≠ P := fun e z => by rw [z, hT] at e; cases e
  refine PySem.W.kla_eval hdef ?_
  cases q : codeAmong pos qs.toList with
  | some cv =>
    obtain ⟨c', o', vs', t', e1, e2, e3, e4⟩ := co pos cv q
    refine PySem.W.kla_makeFunctionHit clos I.ok.glob hns hc hcd hP tr q hbm fun ctv h' tk old sz => ?_
    have old2 : ∀ b o, s.heap.get? b = some o → ∀ ob, (h'.push ob).get? b = some o := fun b o e ob => Heap.get?_push_of_some _ (old b o e)
    refine h _ cv ctv _ H _ ⟨I.kept (t' := tk) fun b o e => old2 b o e _, .refl _, fun a e => .inl e, I.hok.fresh sz, Heap.get?_push_size _ rfl, ⟨c', o', vs', t', _, e1, e2, e3, ?_⟩⟩
    rw [← hq]; exact e4
  | none =>
    refine PySem.W.kla_makeFunction clos I.ok.glob hns hc hcd hP tr q hgP hbm fun c' ctv h' tk ext lo hi cr tab => ?_
    have fr : H c' = none := I.hok.fresh lo
    obtain ⟨c2, oc, vs, t, z1, z2, z3, z4⟩ := cr
    cases z1
    have old : ∀ b o, b ≠ P → s.heap.get? b = some o → ∀ ob, (h'.push ob).get? b = some o := fun b o n e ob => Heap.get?_push_of_some _ (ext b o n e)
    have neU : ∀ {b : Addr} {o : HO}, H b = some o → upd H c' (.frz oc (.own P)) b = some o := fun e => by rw [upd_ne (ne_of_none e fr)]; exact e
    have un : ∀ ob, Un (frs X.stack) [] H (upd H c' (.frz oc (.own P))) s.heap (h'.push ob) := fun ob => by
      refine ⟨fun b o e n _ _ => old b o (neP n) e ob, fun b o e n _ _ => ⟨o.slots, old b o (neP n) e ob⟩, fun b o e n _ => ?_, fun b o e _ => ?_, fun b xs e => neU e, fun b o u e => neU e, fun b ps e => ⟨#[], by rw [neU e]; simp⟩⟩
      · rw [upd_ne (fun z => by have := Heap.lt_size e; rw [z] at this; exact absurd this (Nat.not_lt.mpr lo))]; exact n
      · by_cases z : b = P
        · rw [z]; exact ⟨_, Heap.get?_push_of_some _ tab⟩
        · exact ⟨o, old b o z e ob⟩
    have hok : ∀ ob, HOk X.prog X.w (upd H c' (.frz oc (.own P))) (h'.push ob) := fun ob b o e => by
      by_cases z : b = c'
      · subst z
        rw [upd_same] at e
        cases e
        exact ⟨Heap.get?_push_of_some _ z2, oc, Heap.get?_push_of_some _ z2⟩
      · rw [upd_ne z] at e
        by_cases zP : b = P
        · subst zP
          rw [hT] at e
          cases e
          refine ⟨_, Heap.get?_push_of_some _ tab, ?_, fun pos' cv q' => ?_⟩
          · rw [Array.toList_append]; exact TriplesOk_snoc _ _ _ _ tr
          · rw [Array.toList_append] at q'
            rcases among_snoc tr q' with y | y
            · subst y
              refine ⟨c', oc, vs, t, rfl, upd_same, z3, ?_⟩
              rw [hq]; exact z4
            · obtain ⟨c2, o3, vs3, t3, y1, y2, y3⟩ := co pos' cv y
              exact ⟨c2, o3, vs3, t3, y1, neU y2, y3⟩
        · refine (I.hok b o e).stay (fun b' u hb' q' => old b' u (fun z => ?_) q' ob) (fun b' e' => neU e') (fun b' xs e' => neU e') (fun b' ob' u' e' => neU e')
          rcases hb' with hb' | hb'
          · exact zP (hb' ▸ z)
          · rw [z, hT] at hb'; cases hb'
    refine h _ (.ref c') ctv _ (upd H c' (.frz oc (.own P))) _ ⟨I.call' (s' := { s with heap := _, toks := tk }) (ch := []) rfl (un _) (hok _) I.bare (fun b z => absurd z (by simp)), fun b o e => neU e, fun a e => ?_, ?_, Heap.get?_push_size _ rfl, ⟨c', oc, vs, t, _, rfl, upd_same, z3, z4⟩⟩
    · by_cases z : a = c'
      · exact .inr (z ▸ lo)
      · exact .inl (by rw [upd_ne z]; exact e)
    · rw [upd_ne (Nat.ne_of_gt hi)]
      refine I.hok.fresh (Nat.le_trans lo (Nat.le_of_lt hi))
end
end L2
namespace L2
open PySem PySem.Spec PyProof.Rows
structure FnFH (P : Program) (w : World) (K : PySem.W.Frag) (mg : Str → Option Value) (base : Heap) (k : Nat) (f : Addr) (fd : FuncData) (ps : List Str) (g : List D → R D) : Prop where
  run : ∀ (A : Around) (x : Addr) (outer : List Env) (s : Shared) (H : Hp) (args : Args) (us : List Value) (vs : List V) (Q : VK) (E : XK), Room k A → Env0 P w K mg base A outer s H → BindsTo s fd args (ps.zip us) → Vals vs us → (vs.length = ps.length ∧ spF K g vs H Q E) →
    codeAny (model P w) (A.mark (some (.ref x))) (.call (.ref f) args) (CR (CXo P w) outer P w H s Q E) s
structure CalleeH (P : Program) (w : World) (K : PySem.W.Frag) (mg : Str → Option Value) (base : Heap) (x : Str) (k n : Nat) (g : List D → R D) : Prop where
  ex : ∃ f fd ps, FnFH P w K mg base k f fd ps g ∧ mg x = some (.ref f) ∧ PySem.W.keepIn K (.ref f) = true ∧ Binds K fd ps [] ∧ ps.length = n
section
variable {Y : Cx} {a : Addr} {xe : Value → Shared → Prop} {k n : Nat} {x : Str} {p pos : Pos} {e : Expr} {es : List Expr} {gl : Ev → R (List D)} {g : List D → R D}
end

noncomputable def DeedAt (P : Program) (w : World) (K : PySem.W.Frag) (mg : Str → Option Value) (base : Heap) (k : Nat) (s1 : Shared) (G1 H1 : Hp) (f : Addr) (m : R D) : Prop :=
  ∀ (Y : Cx) (pins : List (Addr × Obj)) (σY : St) (G2 H2 : Hp) (s2 : Shared) (fs : List Addr) (Q : VK), Y.prog = P → Y.w = w → Y.K = K → Y.mg = mg → Y.base = base → Inv Y pins σY H2 s2 → Room k Y.A → Un fs [] H1 H2 s1.heap s2.heap → Up G1 H1 G2 H2 →
    m.post (Fin G2 H2 (Rep Y.K) Q) (Exx Y σY G2 H2) → (∃ o fd, s2.heap.get? f = some o ∧ o.data = .func fd) ∧ wpAny (model Y.prog Y.w) Y.A (call (.ref f) []) (EP Y pins σY Q) Y.xe s2
structure Told (P : Program) (w : World) (K : PySem.W.Frag) (mg : Str → Option Value) (base : Heap) (x : Str) (k j : Nat) (g : R D → R D) : Prop where
  ex : ∃ ft, mg x = some (.ref ft) ∧ PySem.W.keepIn K (.ref ft) = true ∧ ∀ (A : Around) (outer : List Env) (s1 : Shared) (G1 H1 : Hp) (f : Addr) (m : R D) (Q : VK) (E : XK), Room k A → Env0 P w K mg base A outer s1 H1 → Same G1 H1 → DeedAt P w K mg base j s1 G1 H1 f m →
    (g m).post (Fin G1 H1 (Rep K) Q) (fun C => ∀ G' H', Up G1 H1 G' H' → E (.ref C) none H') → codeAny (model P w) A (.call (.ref ft) ⟨[.ref f], []⟩) (CR (CXo P w) outer P w H1 s1 Q E) s1
section
variable {P : Program} {w : World} {K : PySem.W.Frag} {mg : Str → Option Value} {base : Heap} {x y : Str} {st : Stmt} {ft : Addr} {fd : FuncData} {k : Nat} {b₀ : Stmt} {suite : List Stmt} {p1 p2 p3 tp hp tpos : Pos} {nm tn : Str} {gs : Ev → O} {fe : Addr → Option Bool} {Ct : Addr}
end
end L2
namespace L2
open PySem PySem.Spec PyProof.Rows
structure LamAt (X : Cx) : Prop where
  ex : ∃ c P q, X.env.code = .ref c ∧ (∀ h, X.K.In h → PySem.W.CodeHd h c P) ∧ TabB X.base P q ∧ q = X.env.qual ++ "<lambda>" ∧ X.base.BuiltinsAt X.mg P ∧ mainGlobals ≠ P
structure LamOk (X : Cx) (scope : Scope) (N' : List Str) (ix : List Nat) : Prop where
  kind : scope.kind = .function
  co : scope.isCoroutine = false
  gen : scope.isGenerator = false
  cell : ∀ y ∈ scope.names, y.2 ≠ .cell
  fr : ∀ y ∈ scope.names, y.2 = .free → X.env.kindOf y.1 = some .cell
  tl : N' = ix.map fun (i : Nat) => X.N.getD i Str.empty
  lt : ∀ i ∈ ix, i < X.N.length
  fre : ∀ y ∈ N', scope.names.lookup y = some .free ∧ (y, NameKind.free) ∈ scope.names
theorem lam_ok {X : Cx} {scope : Scope} {N' : List Str} {ix : List Nat} (hk : scope.kind = .function := by rfl) (hc : scope.isCoroutine = false := by rfl) (hg : scope.isGenerator = false := by rfl)
    (h1 : (∀ y ∈ scope.names, y.2 ≠ .cell) ∧ (∀ y ∈ scope.names, y.2 = .free → y.1 ∈ N') ∧ ∀ y ∈ N', scope.names.lookup y = some .free ∧ (y, NameKind.free) ∈ scope.names := by decide +kernel)
    (h2 : N'.map X.env.kindOf = N'.map fun _ => some NameKind.cell := by rfl) (h3 : N' = ix.map (fun (i : Nat) => X.N.getD i Str.empty) := by rfl) (h4 : ix.all (fun i => decide (i < X.N.length)) = true := by rfl) : LamOk X scope N' ix := by
  obtain ⟨a, b, c⟩ := h1
  exact ⟨hk, hc, hg, a, fun y hy h => List.map_inj_left.1 h2 _ (b y hy h), h3, fun i hi => of_decide_eq_true (List.all_eq_true.1 h4 i hi), c⟩
section
variable {X : Cx} {scope : Scope} {N' : List Str} {ix : List Nat} {params : Arguments} {body : Expr} {lp p pos : Pos} {x : Str} {k j : Nat} {gb : Ev → R D} {g : R D → R D}
theorem clOk_of {pins : List (Addr × Obj)} {σ : St} {H : Hp} {s : Shared} (ok : LamOk X scope N' ix) (I : Inv X pins σ H s) : ClOk N' scope (clOf X.env scope.names []) (innerS 0 ix σ) H s.heap := by
  have cl : ∀ y c, (clOf X.env scope.names []).lookup y = some c → X.env.cells.lookup y = some c := clOf_sub scope.names [] (fun y c h => by simp at h)
  have hasf : ∀ y, (y, NameKind.free) ∈ scope.names → ∃ c, (clOf X.env scope.names []).lookup y = some c := fun y hy => clOf_has scope.names [] y (.inr ⟨hy, I.ok.has y (.inl (ok.fr _ hy rfl))⟩)
  refine ⟨ok.kind, ok.cell, fun y z c h1 h2 => I.ok.inj y z c (cl y c h1) (cl z c h2), fun y hy => hasf y (PySem.mem_of_lookup hy), fun y c h => ⟨I.freeC y c (cl y c h), I.cell y c (cl y c h)⟩, fun i y v h1 h2 => ?_, ?_⟩
  · unfold innerS at h2
    rw [List.replicate_zero, List.nil_append, List.getElem?_map] at h2
    cases e : ix[i]? with
    | none => rw [e] at h2; cases h2
    | some i0 =>
      rw [e] at h2
      have h2' : σ[i0]? = some (some v) := by
        cases q : σ[i0]? with
        | none => rw [Option.map_some, q] at h2; cases h2
        | some z => rw [Option.map_some, q] at h2; have := Option.some.inj h2; rw [← this]; rfl
      have hy : X.N[i0]? = some y := by
        have ht2 := h1
        rw [ok.tl, List.getElem?_map, e] at ht2
        have hl := ok.lt i0 (List.mem_of_getElem? e)
        have q := Option.some.inj ht2
        rw [List.getElem?_eq_getElem hl, ← q]
        show some X.N[i0] = some (X.N.getD i0 Str.empty)
        rw [List.getD_eq_getElem?_getD, List.getElem?_eq_getElem hl]
        rfl
      obtain ⟨fr1, fr2⟩ := ok.fre y (List.mem_of_getElem? h1)
      have kc := ok.fr _ fr2 rfl
      obtain ⟨m0, hn0, hl⟩ := I.loc
      obtain ⟨u, ru, lk⟩ := hl i0 y v hy h2' (.inr (.inl kc))
      rcases lk with ⟨z, _⟩ | ⟨_, c, hc, hcell⟩
      · rw [kc] at z; cases z
      · obtain ⟨c', hc'⟩ := hasf y fr2
        have := cl y c' hc'
        rw [hc] at this
        cases this
        exact ⟨u, c, ru, fr1, hc', hcell⟩
  · unfold innerS
    rw [ok.tl]; simp
end
theorem k_varL_0 {P : Program} {w : World} {K : PySem.W.Frag} {mg : Str → Option Value} {base : Heap} {N : List Str} {i : Nat} {x : Str} {pos : Pos} {qual : Str} {scope : Scope} {cl : List (Str × Addr)} {f : Addr} {cd : Value} {A : Around} {outer : List Env} {s : Shared} {H : Hp} {E : XK} (h : At N i x)
    (hv : Vis (lamCx P w K mg base N qual scope cl f cd A outer s H E).env.scope x := by first | exact Or.inl rfl | exact Or.inr (Or.inl rfl) | exact Or.inr (Or.inr rfl)) (hd : (x == ("__debug__" : Str)) = false := by decide)
    (hcd : (x == ("__classdict__" : Str)) = false := by decide) : QF (lamCx P w K mg base N qual scope cl f cd A outer s H E) (.Name x pos) (fun ρ => rdV ρ i) := pf_var_0 i h hv hd hcd
structure LamDef (K : PySem.W.Frag) (mg : Str → Option Value) (fd : FuncData) (Pt : Addr) : Prop where
  ex : ∃ c, fd.code = .ref c ∧ ∀ h, K.In h → PySem.W.CodeHd h c Pt
  ne : mainGlobals ≠ Pt
structure LamB (K : PySem.W.Frag) (mg : Str → Option Value) (base : Heap) (qual : Str) (fd : FuncData) (Pt : Addr) : Prop where
  ld : LamDef K mg fd Pt
  tb : TabB base Pt (qual ++ ".<locals>." ++ "<lambda>")
  bm : base.BuiltinsAt mg Pt
theorem Fun.okFT_0 {P : Program} {w : World} {K : PySem.W.Frag} {mg : Str → Option Value} {base : Heap} {x qual : Str} {st : Stmt} {f : Addr} {fd : FuncData} {N ps : List Str} {k : Nat} {Pt : Addr} (F : Fun K x qual st f fd) (LB : LamB K mg base qual fd Pt) (S : FnScope N ps (defScope st)) {g : Ev → O}
    (hbody : ∀ (cdv : Value) (A : Around) (outer : List Env) (s : Shared) (H : Hp) (E : XK), Room k (A.deeper (envOfC qual (defScope st) s.heap.objs.size f cdv)) → LamAt (cxOf (CXo P w) P w K mg base N qual (defScope st) f cdv A outer s H E) → QSsF (cxOf (CXo P w) P w K mg base N qual (defScope st) f cdv A outer s H E) (defBody st) g) :
    FnF P w K mg base (k + 1) f fd ps (fun ds => bodyR (g (startE N.length ds))) := by
  obtain ⟨oc, od, kV, doc, pm, an, cdv, ct, osl, rfl, lk, hcd⟩ := F.ex
  refine fn_of lk hcd S (fun vs H Q E h => h.1) fun A outer s H vs Q E hr hsp => ?_
  obtain ⟨hl, G, ds, sub, r, h⟩ := hsp
  have la : LamAt (cxOf (CXo P w) P w K mg base N qual (defScope st) f cdv A outer s H E) := by
    obtain ⟨c, ec, hd⟩ := LB.ld.ex
    exact ⟨c, Pt, _, ec, hd, LB.tb, rfl, LB.bm, LB.ld.ne⟩
  refine ⟨_, hbody cdv A outer s H E hr la G H, G, startE N.length ds, start_st sub r, ?_⟩
  dsimp only at h
  cases q : g (startE N.length ds) with
  | nx ρ => rw [q] at h; exact fun σ G' H' sr => h .non G' H' sr.up .non
  | rt d => rw [q] at h; exact fun v G' H' u rv => h v G' H' u rv
  | re d ρ => rw [q] at h; exact fun v σ G' H' sr rv => h v G' H' sr.up rv
  | bk ρ => rw [q] at h; exact h.elim
  | ct ρ => rw [q] at h; exact h.elim
  | ex C ρ => rw [q] at h; exact fun e s' fl => leave_ok fl h
  | no => rw [q] at h; exact h.elim
end L2
namespace L2
open PySem PySem.Spec PyProof.Rows
noncomputable def hid (H : Hp) (ow : Owns) : Hp := fun a => if (ow a).isSome = true then none else H a
noncomputable def retag (i j : Nat) (ow : Owns) : Owns := fun a => match ow a with
  | some (i', t) => if i' = i then some (j, t) else none
  | none => none
section
variable {K : PySem.W.Frag} {H₀ G H : Hp} {ow : Owns} {i j : Nat} {m : Bool} {C p : Addr} {fs : List (Nat × Fd)}
end
inductive RM where
  | ok (d : D) (fs : List (Nat × Fd)) | rd (d : D) | ex (C : Addr) | no
noncomputable abbrev MF := List (Nat × Fd) → List D → RM
noncomputable def spM (K : PySem.W.Frag) (C : Addr) (F : MF) : Sp := fun vs H Q E => ∃ G p us ds fs ow, vs = .ref p :: us ∧ Reps K G us ds ∧ Same G H ∧ (∀ a t, ow a = some t → G a = none) ∧ ObjAt K (fun _ => none) G H ow 0 true C p fs ∧ match F fs ds with
  | .ok d fs' => ∀ v G' H' ow', Up G (hid H ow) G' H' → ObjAt K (hid H ow) G' H' ow' 0 true C p fs' → Rep K G' v d → Q v H'
  | .rd d => ∀ v G' H', Up G H G' H' → Rep K G' v d → Q v H'
  | .ex C' => ∀ G' H', Up G H G' H' → E (.ref C') none H'
  | .no => False
noncomputable abbrev FnM (P : Program) (w : World) (K : PySem.W.Frag) (mg : Str → Option Value) (base : Heap) (k : Nat) (f : Addr) (fd : FuncData) (ps : List Str) (C : Addr) (F : MF) : Prop := FnOk P w K mg base (CXo P w) k f fd ps (fun vs H Q E => vs.length = ps.length ∧ spM K C F vs H Q E)
noncomputable def cutO (i : Nat) (m : Bool) (H₀ G H : Hp) (ow : Owns) : Owns := fun a => open Classical in if (∃ o, H a = some o) ∧ G a = none ∧ (m = true → H₀ a = none) then retag i 0 ow a else none
section
variable {K : PySem.W.Frag} {H₀ G H : Hp} {ow : Owns} {i : Nat} {m : Bool} {C p : Addr} {fs : List (Nat × Fd)}
end
section
variable {K : PySem.W.Frag} {H₀ H₀' G H : Hp} {ow ow2 : Owns} {i : Nat} {C p : Addr}
end
end L2
namespace L2
open PySem PySem.Spec PyProof.Rows
section
variable {K : PySem.W.Frag} {H₀ G H : Hp} {ow : Owns} {i : Nat} {m : Bool} {k : Nat}
end
section
variable {K : PySem.W.Frag} {G₀ H₀ G H : Hp} {σ : St} {ρ : Ev} {i k : Nat} {C p dx : Addr} {fs : List (Nat × Fd)} {vs : List (Str × V)}
end
end L2
namespace L2
open PySem PySem.Spec PyProof.Rows
structure CF (K : PySem.W.Frag) (C : Addr) (ks : List Nat) : Prop where
  cl : Cls K C
  na : ∀ k ∈ ks, k < fnames.length ∧ NoAttr K C (fname k)
section
variable {X : Cx} {e b : Expr} {es : List Expr} {ga gb : Ev → R D} {gl : Ev → R (List D)} {x f : Str} {i k : Nat} {C : Addr} {ks : List Nat} {p1 p2 p3 pos ap cp : Pos}
end
end L2
namespace L2
open PySem PySem.Spec PyProof.Rows
structure MCallee (P : Program) (w : World) (K : PySem.W.Frag) (mg : Str → Option Value) (base : Heap) (C : Addr) (mn : Str) (k n : Nat) (F : MF) : Prop where
  ex : ∃ f fd ps, FnM P w K mg base k f fd ps C F ∧ Meth K C mn f ∧ Binds K fd ps [] ∧ ps.length = n + 1
section
variable {X : Cx} {pins : List (Addr × Obj)} {σ : St} {G H : Hp} {s : Shared} {k n : Nat} {f : Addr} {fd : FuncData} {ps : List Str} {C p : Addr} {F : MF} {us : List Value} {vs : List V} {ds : List D} {fs : List (Nat × Fd)} {ow : Owns} {Q : VK}
end
noncomputable def RM.read : RM → R D
  | .rd d => .ok d
  | .ex C => .ex C
  | _ => .no
noncomputable def RM.out (r : RM) (C p : Addr) (i : Nat) (ρ : Ev) : O := match r with
  | .ok _ fs' => .nx (ρ.set i (some (.obj true C p fs')))
  | .rd _ => .nx ρ
  | .ex E => .ex E ρ
  | .no => .no
section
variable {X : Cx} {e : Expr} {es : List Expr} {gl : Ev → R (List D)} {x mn : Str} {i k n : Nat} {C : Addr} {ks : List Nat} {F : MF} {p1 ap pos ep : Pos}
end
end L2
namespace L2
open PySem PySem.Spec PyProof.Rows
structure MkC (P : Program) (w : World) (K : PySem.W.Frag) (mg : Str → Option Value) (base : Heap) (C : Addr) (cn : Str) (k n : Nat) (F : MF) : Prop where
  ex : ∃ f fd ps, FnM P w K mg base k f fd ps C F ∧ Mk K C f ∧ mg cn = some (.ref C) ∧ Binds K fd ps [] ∧ ps.length = n + 1
section
variable {X : Cx} {pins : List (Addr × Obj)} {σ : St} {G H : Hp} {s : Shared} {k n : Nat} {f : Addr} {fd : FuncData} {ps : List Str} {C : Addr} {F : MF} {us : List Value} {vs : List V} {ds : List D} {Q : VK}
end
section
variable {X : Cx} {e : Expr} {es : List Expr} {gl : Ev → R (List D)} {cn : Str} {k n : Nat} {C : Addr} {F : MF} {p pos : Pos}
end
section
variable {X : Cx} {st : Stmt} {rest : List Stmt} {g1 : Ev → O} {gs : Ev → O} {α : Type} {g2 : α → Ev → O} {e : Expr} {es : List Expr} {gl gl' : Ev → R (List D)} {cn : Str} {k n : Nat} {C : Addr} {F : MF} {p pos : Pos}
end
end L2
namespace L2
open PySem PySem.Spec PyProof.Rows
section
variable {X : Cx} {e a b c : Expr} {rest : List Expr} {g g1 g2 : Ev → O} {ga gb : Ev → R D} {gt : Ev → R Bool} {pos : Pos} {s1 s2 : List Stmt} {h1 h2 : Ev → O}
end
section
variable {X : Cx} {e : Expr} {es : List Expr} {gl : Ev → R (List D)} {x y mn : Str} {i k n : Nat} {C : Addr} {ks : List Nat} {F : MF} {p1 ap pos ep : Pos}
end
structure CalleeM (P : Program) (w : World) (K : PySem.W.Frag) (mg : Str → Option Value) (base : Heap) (C : Addr) (x : Str) (k n : Nat) (F : MF) : Prop where
  ex : ∃ f fd ps, FnM P w K mg base k f fd ps C F ∧ mg x = some (.ref f) ∧ PySem.W.keepIn K (.ref f) = true ∧ Binds K fd ps [] ∧ ps.length = n + 1
section
variable {X : Cx} {es : List Expr} {gl : Ev → R (List D)} {x y : Str} {i k n : Nat} {C : Addr} {F : MF} {p1 py pos : Pos}
end
section
variable {X : Cx} {es : List Expr} {gl : Ev → R (List D)} {x y : Str} {i k n : Nat} {C : Addr} {F : MF} {p1 py pos : Pos}
end
noncomputable def DeedOk (P : Program) (w : World) (K : PySem.W.Frag) (mg : Str → Option Value) (base : Heap) (k : Nat) (s1 : Shared) (G1 H1 : Hp) (f : Addr) (Q : VK) : Prop :=
  ∀ (Y : Cx) (pins : List (Addr × Obj)) (σY : St) (G2 H2 : Hp) (s2 : Shared) (fs : List Addr), Y.prog = P → Y.w = w → Y.K = K → Y.mg = mg → Y.base = base → Inv Y pins σY H2 s2 → Room k Y.A → Un fs [] H1 H2 s1.heap s2.heap → Up G1 H1 G2 H2 →
    (∃ o fd, s2.heap.get? f = some o ∧ o.data = .func fd) ∧ wpAny (model Y.prog Y.w) Y.A (call (.ref f) []) (EP Y pins σY Q) Y.xe s2
structure ToldOk (P : Program) (w : World) (K : PySem.W.Frag) (mg : Str → Option Value) (base : Heap) (x : Str) (k j : Nat) : Prop where
  ex : ∃ ft, mg x = some (.ref ft) ∧ PySem.W.keepIn K (.ref ft) = true ∧ ∀ (A : Around) (outer : List Env) (s1 : Shared) (G1 H1 : Hp) (f : Addr) (Q : VK) (E : XK), Room k A → Env0 P w K mg base A outer s1 H1 → Same G1 H1 → DeedOk P w K mg base j s1 G1 H1 f Q →
    codeAny (model P w) A (.call (.ref ft) ⟨[.ref f], []⟩) (CR (CXo P w) outer P w H1 s1 Q E) s1
section
variable {P : Program} {w : World} {K : PySem.W.Frag} {mg : Str → Option Value} {base : Heap} {x y : Str} {st : Stmt} {ft : Addr} {fd : FuncData} {k : Nat} {h₀ : ExceptHandler} {p1 p2 p3 tpos : Pos} {nm : Str}
end
section
variable {X : Cx} {scope : Scope} {N' : List Str} {ix : List Nat} {params : Arguments} {body : Expr} {lp p pos : Pos} {x : Str} {k j i : Nat} {C : Addr} {gb : Ev → O} {g : R D → R D}
end
section
variable {X : Cx} {scope : Scope} {N' : List Str} {ix : List Nat} {params : Arguments} {body : Expr} {lp p pos : Pos} {x : Str} {k j i : Nat} {C : Addr} {gb : Ev → O} {g : R D → R D}
end
section
variable {X : Cx} {a b : Expr} {rest : List Expr} {g g1 g2 : Ev → O} {gb : Ev → R D} {pos : Pos}
end
end L2
namespace L2
open PySem PySem.Spec PyProof.Rows
section
variable {X : Cx} {pos : Pos}
end
section
variable {X : Cx} {rest : List Stmt} {α : Type} {g2 : α → Ev → O} {e e3 : Expr} {es : List Expr} {gl gl' : Ev → R (List D)} {ga : Ev → R D} {cn : Str} {k n : Nat} {C : Addr} {F : MF} {pos : Pos}
end
end L2
namespace L2
open PySem PySem.Spec PyProof.Rows
end L2
namespace L2
open PySem PySem.Spec PyProof.Rows
section
variable {X : Cx} {e : Expr} {ga : Ev → R D} {gl : Ev → R (List D)}
noncomputable def absF : List D → Option D
  | [.int i] => some (.int (if i < 0 then -i else i))
  | _ => none
theorem call_absR : CallR X (.builtin "abs") (fun xs H Q => ∃ i : Int, xs = [.int i] ∧ Q (.int (if i < 0 then -i else i)) H) := by
  intro pins s σ H xs us Q I r ⟨i, ex, q⟩
  subst ex
  obtain ⟨u, rfl, r1⟩ := r.one
  obtain ⟨t, rfl⟩ := r1
  exact call_abs_int fun u tk => ⟨.int _, H, I.tok _, ⟨_, rfl⟩, q⟩
theorem ok_abs (K : PySem.W.Frag) : CROk K (fun xs H Q => ∃ i : Int, xs = [.int i] ∧ Q (.int (if i < 0 then -i else i)) H) absF := by
  intro G H xs ds d Q s r e q
  unfold absF at e
  split at e
  · cases e
    obtain ⟨v, rfl, r1⟩ := r.one
    exact ⟨_, by rw [r1.int_inv], q _ G H (.refl s) (.int _)⟩
  · cases e
theorem k_abs_0 {p pos : Pos} (hg : Gl X "abs") (hm : X.mg "abs" = none) (ha : QFA X [e] gl) (he : starEach [e] X.env = (false, eval e X.env) :: starEach [] X.env := by rfl) :
    QF X (.Call (.Name "abs" p) [e] [] pos) (gOf absF gl) := pf_callB_0 call_absR (ok_abs _) hg hm PyProof.Rows.Boot.«abs» ha (by decide) (by decide) he rfl
end
section
variable {X : Cx} {e o : Expr} {ga : Ev → R D} {gl : Ev → R (List D)}
noncomputable def rStrip : V → List V → Hp → VK → Prop := fun x vs H Q => ∃ (y : Str) (c : Nat), x = .str y ∧ vs = [.str ⟨#[c]⟩] ∧ y.length ≤ sizeLine ∧ Q (.str (Txt.stripChars y ⟨#[c]⟩)) H
theorem mt_strip : MtR X "str.strip" rStrip := by
  intro pins s σ H x xs v us Q I rx rv ⟨y, c, ex, exs, hz, q⟩
  subst ex exs
  obtain ⟨t, rfl⟩ := rx
  obtain ⟨u, rfl, r1⟩ := rv.one
  obtain ⟨t', rfl⟩ := r1
  exact SCL.stripChars (fun t'' k _ => ⟨.str _, H, I.tok _, ⟨_, rfl⟩, q⟩) hz
end
theorem StE.consV {K : PySem.W.Frag} {G H : Hp} {σ : St} {ρ : Ev} {v : V} {d : D} (st : StE K G H σ ρ) (hno : NoOwn ρ) (r : Rep K G v d) : StE K G H (some v :: σ) (some (.val d) :: ρ) := by
  refine ⟨st.sub, by simp [st.len], fun i d' e => ?_, fun i m C p fs e => ?_⟩
  · cases i with
    | zero => cases e; exact ⟨v, rfl, r⟩
    | succ j => rw [List.getElem?_cons_succ] at e ⊢; exact st.val j d' e
  · cases i with
    | zero => cases e
    | succ j => rw [List.getElem?_cons_succ] at e; exact absurd e (hno.obj j m C p fs)
theorem inv_lam1 {P : Program} {w : World} {K : PySem.W.Frag} {mg : Str → Option Value} {base : Heap} {N : List Str} {qual : Str} {scope : Scope} {cl : List (Str × Addr)} {f : Addr} {cd : Value} {A : Around} {outer : List Env} {s : Shared} {H : Hp} {E : XK} {σ : St} {h' : Heap} {tk : Nat} {x : Str} {u : Value} {v : V}
    (C : ClOk N scope cl σ H s.heap) (hx : scope.names.lookup x = some .local) (rv : RelV v u) (hd : A.handled = none) (e0 : Env0 P w K mg base A outer s H) (hns : h'.Ns s.heap.objs.size fun y => List.lookup y [(x, u)].reverse)
    (hk : ∀ b o, s.heap.get? b = some o → h'.get? b = some o) :
    Inv (lamCx P w K mg base (x :: N) qual scope cl f cd A outer s H E) [] (some v :: σ) H { s with heap := h', toks := tk } := by
  have noA : ∀ b : Addr, b ∉ (lamCx P w K mg base (x :: N) qual scope cl f cd A outer s H E).ex := fun b z => absurd (show b ∈ ([] : List Addr) from z) (by simp)
  refine ⟨⟨e0.mod, C.kind, rfl, rfl, Nat.le_refl _, C.inj, fun y hy => ?_, fun y c z _ => ?_, fun _ => hd, Around.frames_deeper e0.frames, .inr ⟨rfl, rfl⟩, fun b z => absurd z (noA b), e0.bs, e0.bsz, fun b _ _ => noA b, fun b z => absurd z (noA b), e0.funs, e0.frf, e0.tabs⟩,
    rfl, e0.bare, Un.kept hk, ⟨_, hns, fun i y v' h1 h2 h3 => ?_⟩, fun y c h => ?_, e0.hok.fresh (Nat.le_refl _), fun y c h => (C.cell y c h).1, fun p hp => absurd (show p ∈ ([] : List (Addr × Obj)) from hp) (by simp), e0.hok.kept hk, by
      show (some v :: σ).length = (x :: N).length
      rw [List.length_cons, List.length_cons, C.len]⟩
  · have hy : scope.names.lookup y = some .cell ∨ scope.names.lookup y = some .free := hy
    rcases hy with hy | hy
    · exact absurd rfl (C.nocell _ (PySem.mem_of_lookup hy))
    · exact C.has y hy
  · cases z
  · have h1 : (x :: N)[i]? = some y := h1
    cases i with
    | zero =>
      rw [List.getElem?_cons_zero] at h1 h2
      cases h1; cases h2
      exact ⟨u, rv, .inl ⟨hx, by simp [List.lookup]⟩⟩
    | succ j =>
      rw [List.getElem?_cons_succ] at h1 h2
      obtain ⟨u, c, r, k, e, q⟩ := C.val j y v' h1 h2
      exact ⟨u, r, .inr ⟨.inr k, c, e, q.keeps hk⟩⟩
  · obtain ⟨_, v, q⟩ := C.cell y c h
    exact ⟨v, q.keeps hk⟩
section
variable {Y : Cx} {pins : List (Addr × Obj)} {σY σ : St} {H : Hp} {s : Shared} {f : Addr} {o : Obj} {N : List Str} {qual : Str} {params : Arguments} {body : Expr} {scope : Scope} {cl : List (Str × Addr)} {pm cd ctv : Value} {k : Nat} {te : TE} {Q : VK} {E : XK} {x : Str} {u : Value} {v : V}
theorem lam_call1 (J : Inv Y pins σY H s) (hr : Room (k + 1) Y.A) (hf : s.heap.get? f = some o) (hfd : o.data = .func (PySem.W.kla_fn "<lambda>" qual params body scope cl pm cd ctv)) (hcd : s.heap.CodeRec cd qual)
    (hp : bindArgs (PySem.W.kla_fn "<lambda>" qual params body scope cl pm cd ctv) ⟨[u], []⟩ = pure [(x, u)]) (hco : scope.isCoroutine = false) (hge : scope.isGenerator = false) (C : ClOk N scope cl σ H s.heap) (hx : scope.names.lookup x = some .local) (rv : RelV v u)
    (hb : PE (lamCx Y.prog Y.w Y.K Y.mg Y.base (x :: N) qual scope cl f cd Y.A Y.stack s H E) body te) (h : te (some v :: σ) H Q) :
    wpAny (model Y.prog Y.w) Y.A (call (.ref f) [u]) (EP Y pins σY Q) (fun e s' => CXo Y.prog Y.w Y.stack H s E e s') s ∧
    wpAny (model Y.prog Y.w) Y.A (call (.ref f) [u]) (fun w s' => CE Y.stack Y.prog Y.w H s Q w s') (fun e s' => CXo Y.prog Y.w Y.stack H s E e s') s := by
  have lim : s.heap.NoLimit := J.nolimit
  have core : codeAny (model Y.prog Y.w) Y.A (.call (.ref f) ⟨[u], []⟩) (CR (CXo Y.prog Y.w) Y.stack Y.prog Y.w H s Q E) s := by
    refine PySem.W.kla_callFunE hr.depth hf hfd hco hge rfl hcd (wpAny_of_eq hp ?_)
    refine wpAny_newFunctionEnv C.nocell (by intro y hy; rw [List.mem_singleton.1 hy]; exact hx) (fun h₁ hns₁ hsb₁ => ?_) C.kind
    have old : ∀ b ob, s.heap.get? b = some ob → h₁.get? b = some ob := fun b ob e => hsb₁.extBut b ob (Nat.ne_of_lt (Heap.lt_size e)) (Heap.get?_push_of_some _ e)
    refine ⟨lim.keeps old, PySem.W.kla_codeExpr ?_⟩
    refine wpAny_mono (hb [] _ (some v :: σ) H Q (inv_lam1 C hx rv hr.hd J.env0 hns₁ old) h) (fun u s' hs => ?_) fun e s' hs => hs
    obtain ⟨v, H', I', rv, q⟩ := hs
    exact ⟨v, H', I'.os, I'.bare, I'.base, I'.hok, rv, q⟩
  refine ⟨wpAny_call (codeAny_mono core fun r s' hq => ?_), wpAny_call (codeAny_mono core fun r s' hq => ?_)⟩
  · cases r with
    | error e => exact hq
    | ok fl =>
      cases fl with
      | ret u => exact J.after hq
      | next => exact False.elim hq
      | brk => exact False.elim hq
      | cont => exact False.elim hq
  · cases r with
    | error e => exact hq
    | ok fl =>
      cases fl with
      | ret u => exact hq
      | next => exact False.elim hq
      | brk => exact False.elim hq
      | cont => exact False.elim hq
end
section
variable {X : Cx} {a : Expr} {ga gb : Ev → R D} {scope : Scope} {N' : List Str} {ix : List Nat} {params : Arguments} {body : Expr} {lp p pos kp : Pos} {x : Str} {j : Nat}
end
section
variable {X : Cx} {a : Expr} {ga gb : Ev → R D} {scope : Scope} {N' : List Str} {ix : List Nat} {params : Arguments} {body : Expr} {lp p pos kp : Pos} {x : Str} {j : Nat}
end
noncomputable def listR (ds : List D) : R D := rangeD2 ds >>= fun xs => if xs.length ≤ 1000 then .ok (.lst false xs) else .no
noncomputable def gListR (gl : Ev → R (List D)) : Ev → R D := fun ρ => gl ρ >>= listR
theorem vals_from {i : Int} : ∀ (n k : Nat) (l : List Value), l.length = n → (∀ (j : Nat) (v : Value), l[j]? = some v → ∃ t, v = Value.int (i + ((k + j : Nat) : Int)) t) → Vals ((List.range' k n).map fun (m : Nat) => V.int (i + (m : Int))) l
  | 0, k, [], _, _ => .nil
  | n + 1, k, v :: l, h, hv => by
    rw [List.range'_succ, List.map_cons]
    refine .cons ?_ (vals_from n (k + 1) l (by simpa using h) fun j w e => ?_)
    · obtain ⟨t, z⟩ := hv 0 v rfl
      exact ⟨t, z⟩
    · obtain ⟨t, z⟩ := hv (j + 1) w (by rw [List.getElem?_cons_succ]; exact e)
      exact ⟨t, by rw [z]; congr 2; omega⟩
theorem reps_from {K : PySem.W.Frag} {G : Hp} {i : Int} : ∀ (n k : Nat), Reps K G ((List.range' k n).map fun (m : Nat) => V.int (i + (m : Int))) ((List.range' k n).map fun (m : Nat) => D.int (i + (m : Int)))
  | 0, k => .nil
  | n + 1, k => by rw [List.range'_succ, List.map_cons, List.map_cons]; exact .cons (.int _) (reps_from n (k + 1))
section
variable {X : Cx} {a b : Expr} {gl : Ev → R (List D)} {p p2 pos pos2 : Pos}
theorem k_listR_0 (hc : X.calm = true) (hgl : Gl X "list") (hml : X.mg "list" = none) (hg : Gl X "range") (hm : X.mg "range" = none) (ha : QFA X [a, b] gl)
    (hsl : starEach [.Call (.Name "range" p2) [a, b] [] pos2] X.env = (false, eval (.Call (.Name "range" p2) [a, b] [] pos2) X.env) :: starEach [] X.env := by rfl)
    (hs : starEach [a, b] X.env = [(false, eval a X.env), (false, eval b X.env)] := by rfl) (hs2 : starEach [b] X.env = [(false, eval b X.env)] := by rfl) :
    QF X (.Call (.Name "list" p) [.Call (.Name "range" p2) [a, b] [] pos2] [] pos) (gListR gl) := by
  intro pins s σ H Q I h
  obtain ⟨G, ρ, st, h⟩ := h
  have h : (gl ρ >>= listR).post (Fin G H (Rep X.K) Q) (Exx X σ G H) := h
  have t : tAF X gl σ H (fun vs H1 => ∃ G1 ds, Up G H G1 H1 ∧ Same G1 H1 ∧ Reps X.K G1 vs ds ∧ (listR ds).post (Fin G1 H1 (Rep X.K) Q) (Exx X σ G1 H1)) :=
    tG.intro st h fun ds vs G1 H1 u1 st1 r1 h1 => ⟨G1, ds, u1, st1.sub, r1, h1⟩
  refine Call_ (ld_blt I hgl hml PyProof.Rows.Boot.«list» (PyProof.Rows.callWith_type1 ?_ hsl rfl))
  rw [hsl]
  show wpAny _ _ (spliced ((false, eval (.Call (.Name "range" p2) [a, b] [] pos2) X.env) :: backTo pos (starEach [] X.env))) _ _ s
  refine Calls.spliced_cons (Call_ (ld_blt I hg hm boot_range (PyProof.Rows.callWith_type1 (thn (ha pos2 pins s σ H _ I t) fun us s1 ⟨vs, H1, I1, r1, q1⟩ => ?_) (by rw [hs, hs2]) (by rw [hs2]; rfl))))
  obtain ⟨G1, ds, u1, sub1, rp, h1⟩ := q1
  unfold listR rangeD2 at h1
  split at h1
  · rename_i i j
    split at h1
    · rename_i hb
      obtain ⟨b1, b2, b3, b4⟩ := hb
      have h1 : (if ((List.range (j - i).toNat).map fun (k : Nat) => D.int (i + (k : Int))).length ≤ 1000 then R.ok (D.lst false ((List.range (j - i).toNat).map fun (k : Nat) => D.int (i + (k : Int)))) else .no : R D).post (Fin G1 H1 (Rep X.K) Q) (Exx X σ G1 H1) := h1
      by_cases hl : ((List.range (j - i).toNat).map fun (k : Nat) => D.int (i + (k : Int))).length ≤ 1000
      · rw [if_pos hl] at h1
        cases rp with
        | cons ra rp =>
          cases rp with
          | cons rb rp =>
            cases rp
            cases ra; cases rb
            cases r1 with
            | cons r rr =>
              cases rr with
              | cons r' rr =>
                cases rr
                obtain ⟨t, rfl⟩ := r
                obtain ⟨t', rfl⟩ := r'
                refine call_range_2 (Calls.spliced_nil ?_)
                have hn : Builtin.Range.rangeSize i j 1 = (((j - i).toNat : Nat) : Int) := by rw [rangeSize_one]; split <;> omega
                have hl2 : (j - i).toNat ≤ 1000 := by simpa using hl
                refine call_list_range (I.ok.hd hc) (IsRange.new ..) (small_one b1 b2 b3 b4) hn (by omega) fun h' tk acc c' hk hS hacc => ?_
                have hk' : ∀ b o, s1.heap.get? b = some o → h'.get? b = some o := fun b o e => hk b o (Heap.get?_push_of_some _ e)
                have hz : (acc.toList).length = (j - i).toNat := by simpa using hacc.1
                have vv := vals_from (i := i) (j - i).toNat 0 acc.toList hz fun k v e => by
                  obtain ⟨t, z⟩ := hacc.2 k v (by simpa using e)
                  exact ⟨t, by rw [z]; simp⟩
                have hz2 : ((List.range' 0 (j - i).toNat).map fun (m : Nat) => V.int (i + (m : Int))).length ≤ sizeLine := by
                  have : 1000 ≤ sizeLine := by decide
                  simp; omega
                have hge : ∀ ob : Obj, s1.heap.objs.size ≤ (s1.heap.push ob).objs.size := fun ob => by rw [size_push']; exact Nat.le_succ _
                refine ⟨.ref _, _, Inv.laid (s := s1) (h' := h') (t' := tk) (o := .lst ((List.range' 0 (j - i).toNat).map fun (m : Nat) => V.int (i + (m : Int)))) I1 hk' (hge _) ⟨hz2, acc.toList, c', vv, by simpa using hS⟩, rfl, h1 _ _ _ (.new sub1 (I1.hok.fresh (hge _))) (.lst upd_same ?_)⟩
                rw [List.range_eq_range']
                exact reps_from _ 0
      · rw [if_neg hl] at h1; exact h1.elim
    · exact h1.elim
  · exact h1.elim
end
end L2
namespace L2
open PySem PySem.Spec PyProof.Rows
open PySem.AutoSeq1 (wpAny_loadPart')
open PySem.MeetsSeq PySem.MeetsSeq2 PySem.MeetsSeq3
noncomputable def lexGt : List Int → List Int → Bool
  | x :: xs, y :: ys => if x = y then lexGt xs ys else decide (x > y)
  | _, _ => false
inductive NumPairs : List (Value × Value) → List Int → List Int → Prop
  | nil : NumPairs [] [] []
  | cons {zs : List (Value × Value)} {xs ys : List Int} (i : Int) (t : Addr) (j : Int) (u : Addr) (r : NumPairs zs xs ys) : NumPairs ((.int i t, .int j u) :: zs) (i :: xs) (j :: ys)
theorem NumPairs.zip : ∀ {us : List Value} {x : List Int}, IntsAre us x → ∀ {vs : List Value} {y : List Int}, IntsAre vs y → y.length = x.length → NumPairs (us.zip vs) x y
  | _, _, .nil, _, _, .nil, _ => .nil
  | _, _, .cons i t a, _, _, .cons j u b, e => .cons i t j u (NumPairs.zip a b (Nat.succ.inj e))
  | _, _, .nil, _, _, .cons .., e => nomatch e
  | _, _, .cons .., _, _, .nil, e => nomatch e
theorem gt_pairs {us vs : List Value} {x y : List Int} (np : NumPairs (us.zip vs) x y) (hs : vs.length = us.length) {p q : Addr} {m k : Nat} {c e : Option Addr} {f g : Array (Option Value)} :
    Meets (Builtin.«tuple.__gt__» ⟨[.ref p, .ref q], []⟩) fun A R s =>
      s.heap.get? p = some ⟨.type "tuple", c, .seq us.toArray m, f⟩ ∧ s.heap.get? q = some ⟨.type "tuple", e, .seq vs.toArray k, g⟩ ∧ R (.ok (.ret (.bool (lexGt x y)))) s :=
  .of_wp fun prog w A R s ⟨ep, eq, h⟩ => by
    have st := AutoSeq1.sub_tuple_tuple
    wp_walk using wpAny_loadPart' ep, wpAny_loadPart' eq, wpAny_forIn_list _ (fun rest b z => z = s ∧ b.1 = none ∧ ∃ xs ys, NumPairs rest xs ys ∧ R (.ok (.ret (.bool (lexGt xs ys)))) s) _
    case h => exact ⟨rfl, rfl, x, y, by simpa using np, h⟩
    case turn =>
      rintro _ rest b _ ⟨rfl, hb, _, _, np, hR⟩
      obtain _ | @⟨_, xs, ys, i, t, j, u, np⟩ := np
      refine wpAny_bind (PySem.SeqAt.EqAt.int_int i t j u prog w _ _ ?_)
      cases d : decide (i = j) with
      | true =>
        obtain rfl := of_decide_eq_true d
        simp only [beq_self_eq_true]
        wp_walk
        exact ⟨rfl, rfl, xs, ys, np, by simpa [lexGt] using hR⟩
      | false =>
        have n := of_decide_eq_false d
        simp only [beq_eq_false_iff_ne.2 n]
        have gt : ∀ {Q E z}, Q (.bool (decide (i > j))) z → wpAny (model prog w) A.in1 (richCompare .Gt (.int i t) (.int j u)) Q E z := fun {Q E z} o =>
          richCompare_gives (op := .Gt) (typeIs_int z _ t) (typeIs_int z _ u) F.slot_int_gt F.entry_int_gt (F.args_int_gt_2 _ _) (gives_int_gt _ _ t u) (fun x => nomatch x) o
        wp_walk using gt
        exact ⟨_, rfl, by simpa [lexGt, n] using hR⟩
    case fin =>
      rintro ⟨b1, b2⟩ _ ⟨rfl, hb, _, _, np, hR⟩
      cases np
      cases (show b1 = none from hb)
      wp_walk
      exact ⟨_, rfl, by simpa [Builtin.Tuple.tupleCompareSizes, hs, lexGt] using hR⟩
theorem rc_gtT {prog : Program} {w : World} {A : Around} {E : Value → Shared → Prop} {s : Shared} {l b : Addr} {its its2 : List Value} {x y : List Int} {Q : Value → Shared → Prop} (hl : IsTup s.heap l its.toArray) (hb : IsTup s.heap b its2.toArray) (hi : IntsAre its x) (hj : IntsAre its2 y) (hn : y.length = x.length)
    (hu : A.units < cLine) (h : Q (.bool (lexGt x y)) s) : wpAny (model prog w) A (richCompare .Gt (.ref l) (.ref b)) Q E s := by
  obtain ⟨⟨cls, dd, data, sl⟩, ho, hc, n, hd⟩ := id hl
  obtain ⟨⟨cls2, dd2, data2, sl2⟩, ho2, hc2, n2, hd2⟩ := id hb
  simp only at hc hd hc2 hd2
  subst hc hd hc2 hd2
  exact richCompare_meets_room (op := .Gt) ⟨_, ho, rfl⟩ ⟨_, ho2, rfl⟩ PySem.F.slot_tuple_gt PySem.F.entry_tuple_gt (PySem.F.args_tuple_gt_2 _ _) (gt_pairs (.zip hi hj hn) (by rw [hi.length, hj.length, hn]))
    ⟨ho, ho2, show Value.bool (lexGt x y) ≠ Value.notImplemented ∧ Q (.bool (lexGt x y)) s from ⟨(fun x => nomatch x), h⟩⟩ hu
noncomputable def intsOf : List D → Option (List Int)
  | [] => some []
  | .int i :: ds => (intsOf ds).map (i :: ·)
  | _ => none
theorem ints_rep {K : PySem.W.Frag} {G : Hp} : ∀ {ds : List D} {ns : List Int} {vs : List V} {us : List Value}, intsOf ds = some ns → Reps K G vs ds → Vals vs us → IntsAre us ns
  | [], ns, vs, us, e, r, v => by
    cases e; cases r; cases v; exact .nil
  | d :: ds, ns, vs, us, e, r, v => by
    cases d with
    | int i =>
      cases h : intsOf ds with
      | none => simp [intsOf, h] at e
      | some ms =>
        simp [intsOf, h] at e
        subst e
        cases r with
        | cons r1 r2 =>
          cases v with
          | cons v1 v2 =>
            have := r1.int_inv
            subst this
            obtain ⟨t, rfl⟩ := v1
            exact .cons i t (ints_rep h r2 v2)
    | _ => simp [intsOf] at e
theorem Un.data {fs ex : List Addr} {H H' : Hp} {h h' : Heap} (u : Un fs ex H H' h h') {b : Addr} {o : Obj} (e : h.get? b = some o) (n : H b = none) (x : b ∉ ex) : ∃ o', h'.get? b = some o' ∧ o'.data = o.data := by
  by_cases f : b ∈ fs
  · obtain ⟨sl, q⟩ := u.slot b o e n f x
    exact ⟨_, q, rfl⟩
  · exact ⟨o, u.keep b o e n f x, rfl⟩
noncomputable def maxK (key : D → R D) : D → List Int → List D → R D
  | b, _, [] => .ok b
  | b, kb, x :: xs => match key x with
    | .ok (.tup ks) => match intsOf ks with
      | some kx => if kb.length = kx.length then (if lexGt kx kb then maxK key x kx xs else maxK key b kb xs) else .no
      | none => .no
    | _ => .no
section
variable {X : Cx} {scope : Scope} {N' : List Str} {ix : List Nat} {params : Arguments} {body : Expr} {x : Str} {j : Nat} {pins : List (Addr × Obj)} {σ : St} {H0 G : Hp} {Ii S l f : Addr} {qual : Str} {cl : List (Str × Addr)} {pm cd ctv : Value} {σ' : St} {ρ' : Ev} {gb : Ev → R D} {vs : List V} {dd : D} {Rr : Result → Shared → Prop}
theorem max_loopK_0 (hc : X.calm = true) (hr : Room (j + 2) X.A) (hh : X.A.handled = none) (hG : Same G H0)
    (hq : SqL X.K G l vs) (hlI : l ≠ Ii) (hSI : S ≠ Ii) (hSf : f ≠ S) (hIf : f ≠ Ii) (hSl : l ≠ S) (fpI : ∀ H', H' Ii = none → FpOk X pins H' Ii) (fpS : ∀ H', H' S = none → FpOk X pins H' S) (nfI : Ii ∉ frs X.stack) (nfS : S ∉ frs X.stack)
    (hcd : ∃ c o vs t u, cd = .ref c ∧ H0 c = some (.frz o u) ∧ o.data = .fields vs ∧ vs[1]? = some (.str qual t))
    (hp : ∀ u, bindArgs (PySem.W.kla_fn "<lambda>" qual params body scope cl pm cd ctv) ⟨[u], []⟩ = pure [(x, u)]) (hco : scope.isCoroutine = false) (hge : scope.isGenerator = false) (hC : ∀ H s, Inv X pins σ H s → ClOk N' scope cl σ' H s.heap) (hx : scope.names.lookup x = some .local)
    (hb : ∀ s' H', QF (lamCx X.prog X.w X.K X.mg X.base (x :: N') qual scope cl f cd X.A.in1 X.stack s' H' fun _ _ _ => False) body gb)
    (st : StE X.K G H0 σ' ρ') (hno : NoOwn ρ')
    (hR : ∀ v u H' s', Inv X pins σ H' s' → Same H0 H' → RelV v u → Rep X.K G v dd → Rr (.ok (.ret u)) s') :
    ∀ (rest : List D) (vrest : List V) (p : Nat) (b : D) (vb : V) (kb : List Int) (ks : List D) (vk : V) (s : Shared) (H Gk : Hp) (ub kx : Value) (c : Nat) (o : Obj), p ≤ vs.length → vs.drop p = vrest → Reps X.K G vrest rest → maxK (fun d => gb (some (.val d) :: ρ')) b kb rest = .ok dd →
      Inv X pins σ H s → Same H0 H → s.heap.get? S = some (seqObj "list" #[ub, kx] c) → s.heap.IsListIter Ii l p → H Ii = none → H S = none → s.heap.get? f = some o → o.data = .func (PySem.W.kla_fn "<lambda>" qual params body scope cl pm cd ctv) → H f = none →
      RelV vb ub → Rep X.K G vb b → RelV vk kx → Same Gk H → Rep X.K Gk vk (.tup ks) → intsOf ks = some kb →
      codeAny (model X.prog X.w) X.A (.builtin "max.loop" ⟨[.ref Ii, .ref f, .ref S], []⟩) Rr s := by
  have hname : (toString "max" ++ toString ".loop" : String) = "max.loop" := by decide
  intro rest
  induction rest with
  | nil =>
    intro vrest p b vb kb ks vk s H Gk ub kx c o hpl hd hrs hm I hs gS hit nI nS gf gfd nf rb rpb rk sk rpk ek
    cases hm
    cases hrs
    obtain ⟨its, rvs, pl, hz⟩ := I.list ((hq.mono hG).mono hs)
    have W := Walks.list (prog := X.prog) (w := X.w) (A := X.A.in1) hh Ii l hlI its.toArray
    have hlen : p = its.toArray.size := by
      have h1 := rvs.length
      have h2 := List.drop_eq_nil_iff.1 hd
      have h3 : p ≤ vs.length := hpl
      simp; omega
    subst hlen
    refine codeAny_builtin PySem.F.entry_max_loop ?_
    rw [Around.under_plainId PySem.F.plain_max_loop _]
    show wpAny _ X.A.in1 (seqItems? (.ref S) >>= _) _ _ _
    refine wpAny_bind (wpAny_seqItems gS rfl ?_)
    show wpAny _ X.A.in1 (tryCatch (pyNext (.ref Ii)) _ >>= _) _ _ _
    refine wpAny_bind (wpAny_tryCatch (W.done _ _ _ ⟨hit, pl.isList⟩ fun h6 tk6 hk6 => ?_))
    have I6 : Inv X pins σ H { s with heap := h6, toks := tk6 } := Inv.turnedL (s := s) (h' := h6) (t' := tk6) (ch := [Ii]) I (fun b ob hb e => hk6 b ob hb e) (fun b hb => by rw [List.mem_singleton.1 hb]; exact fpI H nI)
    have gS6 := hk6 S _ (by simpa using hSI) gS
    have s7 := Heap.SameBut.update h6 S (Obj.mapSeq fun _ => (#[] : Array Value))
    show wpAny _ X.A.in1 (updateSeq S (fun _ => #[]) >>= _) _ _ _
    refine wpAny_bind ?_
    refine wpAny_updateSeq gS6 rfl (wpAny_bind (wpAny_letGo (wpAny_pure ?_)))
    exact hR vb ub H _ (Inv.turnedL (s := { s with heap := h6, toks := tk6 }) (t' := tk6) (ch := [S]) I6 (fun b ob hb e => (s7.2 b (by simpa using hb)).trans e) (fun b hb => by rw [List.mem_singleton.1 hb]; exact fpS H nS)) hs rb rpb
  | cons d rest ih =>
    intro vrest p b vb kb ks vk s H Gk ub kx c o hpl hd hrs hm I hs gS hit nI nS gf gfd nf rb rpb rk sk rpk ek
    cases hrs with
    | cons rd rrest =>
    rename_i v vrest
    obtain ⟨its, rvs, pl, hz⟩ := I.list ((hq.mono hG).mono hs)
    have W := Walks.list (prog := X.prog) (w := X.w) (A := X.A.in1) hh Ii l hlI its.toArray
    have hvp : vs[p]? = some v := by
      have := congrArg List.head? hd
      simpa [List.head?_drop] using this
    have hdr : vs.drop (p + 1) = vrest := by
      have := congrArg List.tail hd
      simpa [List.tail_drop] using this
    obtain ⟨u, hu, ru⟩ := rvs.get hvp
    have hlt : p < its.toArray.size := by simpa using (List.getElem?_eq_some_iff.1 hu).1
    refine codeAny_builtin PySem.F.entry_max_loop ?_
    rw [Around.under_plainId PySem.F.plain_max_loop _]
    show wpAny _ X.A.in1 (seqItems? (.ref S) >>= _) _ _ _
    refine wpAny_bind (wpAny_seqItems gS rfl ?_)
    show wpAny _ X.A.in1 (tryCatch (pyNext (.ref Ii)) _ >>= _) _ _ _
    refine wpAny_bind (wpAny_tryCatch (W.item p _ _ _ hlt ⟨hit, pl.isList⟩ fun v' h3 tk3 hP hst3 hk3 => ?_))
    have hv : v' = u := by
      have : its[p]? = some v' := by simpa using hP
      rw [hu] at this; cases this; rfl
    subst hv
    obtain ⟨oI, hoI, hoc, hod⟩ := id hst3.1
    have I3 : Inv X pins σ H { s with heap := h3, toks := tk3 } := Inv.turnedL (s := s) (h' := h3) (t' := tk3) (ch := [Ii]) I (fun b ob hb e => hk3 b ob hb e) (fun b hb => by rw [List.mem_singleton.1 hb]; exact fpI H nI)
    have gS3 : h3.get? S = some (seqObj "list" #[ub, kx] c) := hk3 _ _ (by simpa using hSI) gS
    have gf3 : h3.get? f = some o := hk3 _ _ (by simpa using hIf) gf
    show wpAny _ X.A.in1 (tryCatch (holding [v'] (call (.ref f) [v'])) _ >>= _) _ _ _
    have J : Inv { X with A := X.A.in1 } pins σ H { s with heap := h3, toks := tk3 } := I3.cx (A' := X.A.in1) (calm' := X.calm) (pn' := X.pn) (pins' := pins) (xe' := X.xe) (fun p q => q) rfl (fun _ => hh)
    have code : h3.CodeRec cd qual := by
      obtain ⟨c, oc, vs, t, u, rfl, e, d, q⟩ := hcd
      obtain ⟨e2, _⟩ := I3.hok c _ (hs c _ e)
      exact ⟨c, oc, vs, t, rfl, e2, d, q⟩
    have up0 : Up G H0 G H := ⟨hG.trans hs, .refl _, hs, fun _ _ h => .inl h⟩
    have stH := st.up up0
    cases eg : gb (some (.val d) :: ρ') with
    | ex C => simp [maxK, eg] at hm
    | no => simp [maxK, eg] at hm
    | ok dk =>
    cases dk with
    | tup kds =>
      cases ei : intsOf kds with
      | none => simp [maxK, eg, ei] at hm
      | some kn =>
      by_cases hn : kb.length = kn.length
      case neg => simp [maxK, eg, ei, hn] at hm
      simp only [maxK, eg, ei, if_pos hn] at hm
      have call := (lam_call1 (Y := { X with A := X.A.in1 }) (k := j) (E := fun _ _ _ => False) (te := fun σ H Q => ∃ G ρ, StE X.K G H σ ρ ∧ ∃ d, gb ρ = .ok d ∧ ∀ v G' H', Up G H G' H' → Rep X.K G' v d → Q v H') (Q := fun v H' => Same H H' ∧ ∃ G', Same G' H' ∧ Rep X.K G' v (.tup kds)) J hr.in1 gf3 gfd code (hp v') hco hge (hC _ _ I3) hx ru (fun pins s σ H Q I ⟨G, ρ, st, d, e, h⟩ => by
        refine hb _ _ pins s σ H Q I ⟨G, ρ, st, ?_⟩
        rw [e]
        exact fun v G' H' u r => h v G' H' u r) ⟨G, _, stH.consV hno rd, _, eg, fun v G' H' u3 r3 => ⟨u3.hh, G', u3.sub, r3⟩⟩).2
      refine wpAny_bind (wpAny_tryCatch (wpAny_holding (wpAny_mono call (fun k2 s4 he => ?_) fun e s' hF => ?_)))
      rotate_left
      · obtain ⟨_, _, _, _, _, z⟩ := hF; exact z.elim
      obtain ⟨v2, H4, os4, bare4, un4, hok4, rk4, sm4, G4, sg4, rp4⟩ := he
      have I4 : Inv X pins σ H4 s4 := I3.call' (s' := s4) (ch := []) os4 un4 hok4 bare4 (fun b z => absurd z (by simp))
      have gS4 : s4.heap.get? S = some (seqObj "list" #[ub, kx] c) := un4.keep _ _ gS3 nS nfS (by simp)
      have gI4 : s4.heap.get? Ii = some oI := un4.keep _ _ hoI nI nfI (by simp)
      obtain ⟨o4, gf4, gd4⟩ := un4.data gf3 nf (by simp)
      have nI4 : H4 Ii = none := un4.free _ _ hoI nI (by simp)
      have nS4 : H4 S = none := un4.free _ _ gS3 nS (by simp)
      have nf4 : H4 f = none := un4.free _ _ gf3 nf (by simp)
      have hit4 : s4.heap.IsListIter Ii l (p + 1) := ⟨oI, gI4, hoc, hod⟩
      obtain ⟨a1, w1, rfl, q1, z1⟩ := rpk.tup_inv
      obtain ⟨a2, w2, rfl, q2, z2⟩ := rp4.tup_inv
      cases rk
      cases rk4
      obtain ⟨i1, v1, t1, _⟩ := I4.tuple ((q1.mono sk).mono sm4)
      obtain ⟨i2, v2', t2, _⟩ := I4.tuple (q2.mono sg4)
      show wpAny _ X.A.in1 (tryCatch (holding [v', .ref a2] (richCompare .Gt (.ref a2) (.ref a1) >>= _)) _ >>= _) _ _ _
      refine wpAny_bind (wpAny_tryCatch (wpAny_holding (wpAny_bind (rc_gtT t2 t1 (ints_rep ei z2 v2') (ints_rep ek z1 v1) hn hr.in1.units0 ?_))))
      refine wpAny_bind (wpAny_holding (wpAny_truthy_bool ?_))
      refine wpAny_bind (wpAny_letGo (wpAny_pure ?_))
      cases hg : lexGt kn kb with
      | true =>
        rw [hg, if_pos rfl] at hm
        have s1 := Heap.SameBut.update s4.heap S (Obj.mapSeq fun _ => #[v', .ref a2])
        obtain ⟨c2, hc2⟩ : ∃ c2, (s4.heap.update S (Obj.mapSeq fun _ => #[v', .ref a2])).get? S = some (seqObj "list" #[v', .ref a2] c2) := ⟨_, get?_update_seq gS4 fun _ => #[v', .ref a2]⟩
        simp only [if_true]
        refine wpAny_bind ?_
        refine wpAny_updateSeq gS4 rfl (wpAny_bind (wpAny_letGo ?_))
        rw [hname]
        refine wpAny_pure ⟨plainId_quiet PySem.F.plain_max_loop _, ih vrest (p + 1) d v kn kds (.ref a2) _ H4 G4 v' _ c2 o4 ?_ hdr rrest hm ?_ (hs.trans sm4) hc2 ⟨oI, (s1.2 Ii hSI.symm).trans gI4, hoc, hod⟩ nI4 nS4 ((s1.2 f hSf).trans gf4) (gd4.trans gfd) nf4 ru rd rfl sg4 rp4 ei⟩
        · have := (List.getElem?_eq_some_iff.1 hvp).1; omega
        · exact Inv.turnedL (s := s4) (t' := s4.toks) (ch := [S]) I4 (fun b ob hb e => (s1.2 b (by simpa using hb)).trans e) (fun b hb => by rw [List.mem_singleton.1 hb]; exact fpS H4 nS4)
      | false =>
        rw [hg, if_neg (by decide)] at hm
        simp only [Bool.false_eq_true, if_false]
        refine wpAny_bind (wpAny_letGo ?_)
        rw [hname]
        refine wpAny_pure ⟨plainId_quiet PySem.F.plain_max_loop _, ih vrest (p + 1) b vb kb ks (.ref a1) _ H4 Gk ub _ c o4 ?_ hdr rrest hm I4 (hs.trans sm4) gS4 hit4 nI4 nS4 gf4 (gd4.trans gfd) nf4 rb rpb rfl (sk.trans sm4) rpk ek⟩
        have := (List.getElem?_eq_some_iff.1 hvp).1; omega
    | _ => simp [maxK, eg] at hm
end
section
variable {X : Cx} {scope : Scope} {N' : List Str} {ix : List Nat} {params : Arguments} {body : Expr} {x : Str} {j : Nat} {pins : List (Addr × Obj)} {σ : St} {H G : Hp} {l f : Addr} {qual : Str} {cl : List (Str × Addr)} {pm cd ctv : Value} {σ' : St} {ρ' : Ev} {gb : Ev → R D} {vr : List V} {v0 : V} {d0 dd : D} {ds ks : List D} {kb : List Int} {s : Shared} {o : Obj} {Q : VK}
theorem call_maxK_0 (hc : X.calm = true) (hr : Room (j + 2) X.A) (I : Inv X pins σ H s) (hG : Same G H) (hq : SqL X.K G l (v0 :: vr)) (r0 : Rep X.K G v0 d0) (rr : Reps X.K G vr ds)
    (hf : s.heap.get? f = some o) (hfn : H f = none) (hfd : o.data = .func (PySem.W.kla_fn "<lambda>" qual params body scope cl pm cd ctv)) (hcd : ∃ c o vs t u, cd = .ref c ∧ H c = some (.frz o u) ∧ o.data = .fields vs ∧ vs[1]? = some (.str qual t))
    (hp : ∀ u, bindArgs (PySem.W.kla_fn "<lambda>" qual params body scope cl pm cd ctv) ⟨[u], []⟩ = pure [(x, u)]) (hco : scope.isCoroutine = false) (hge : scope.isGenerator = false) (hC : ∀ H s, Inv X pins σ H s → ClOk N' scope cl σ' H s.heap) (hx : scope.names.lookup x = some .local)
    (hb : ∀ s' H', QF (lamCx X.prog X.w X.K X.mg X.base (x :: N') qual scope cl f cd X.A.in1 X.stack s' H' fun _ _ _ => False) body gb)
    (st : StE X.K G H σ' ρ') (hno : NoOwn ρ') (eg : gb (some (.val d0) :: ρ') = .ok (.tup ks)) (ek : intsOf ks = some kb) (em : maxK (fun d => gb (some (.val d) :: ρ')) d0 kb ds = .ok dd)
    (hQ : ∀ v H', Same H H' → Rep X.K G v dd → Q v H') :
    wpAny (model X.prog X.w) X.A (call (.builtin "max") [.ref l] [(Str.ofString "key", .ref f)]) (EP X pins σ Q) X.xe s := by
  have hname : (toString "max" ++ toString ".loop" : String) = "max.loop" := by decide
  obtain ⟨its, rvs, pl, hz⟩ := I.list (hq.mono hG)
  have hl := pl.isList
  obtain ⟨ol, hol, _⟩ := id hl
  have hll : l < s.heap.objs.size := Heap.lt_size hol
  have hfl : f < s.heap.objs.size := Heap.lt_size hf
  have hh : X.A.handled = none := I.ok.hd hc
  refine kmk_tree PySem.F.kind_max PySem.F.plain_max PySem.F.entry_max (kmk_max_key _ _) ?_
  show wpAny _ X.A.in1 (Builtin.Builtins.bindParams "max" ["key", "default"] 0 ⟨[], [(Str.ofString "key", .ref f)]⟩ >>= _) _ _ s
  refine wpAny_bind (wpAny_of_eq (show Builtin.Builtins.bindParams "max" ["key", "default"] 0 ⟨[], [(Str.ofString "key", .ref f)]⟩ = pure [some (.ref f), none] from rfl) ?_)
  refine wpAny_bind (wpAny_pure ?_)
  refine wpAny_bind (wpAny_pyIter_list hl ?_)
  refine wpAny_bind (wpAny_newList ?_ (Nat.zero_le _))
  rw [hname]
  generalize hI : s.heap.objs.size = Ii at *
  have hS : (s.heap.push { cls := .type "list_iterator", data := .fields #[.ref l, .int 0 0] }).objs.size = Ii + 1 := by rw [← hI]; exact size_push' ..
  rw [hS]
  have hlI : l ≠ Ii := Nat.ne_of_lt hll
  have hSI : Ii + 1 ≠ Ii := Nat.ne_of_gt (Nat.lt_succ_self _)
  have hlS : l ≠ Ii + 1 := Nat.ne_of_lt (Nat.lt_succ_of_lt hll)
  have hfI : f ≠ Ii := Nat.ne_of_lt hfl
  have hfS : f ≠ Ii + 1 := Nat.ne_of_lt (Nat.lt_succ_of_lt hfl)
  refine wpAny_pure ⟨plainId_quiet PySem.F.plain_max_loop _, ?_⟩
  generalize hh2 : (s.heap.push { cls := .type "list_iterator", data := .fields #[.ref l, .int 0 0] }).push (seqObj "list" #[] 0) = h2
  have k2 : ∀ b ob, s.heap.get? b = some ob → h2.get? b = some ob := fun b ob e => by rw [← hh2]; exact Heap.get?_push_of_some _ (Heap.get?_push_of_some _ e)
  have gI : h2.get? Ii = some { cls := .type "list_iterator", data := .fields #[.ref l, .int 0 0] } := by
    rw [← hh2, ← hI]; exact Heap.get?_push_of_some _ (Heap.get?_push_size _ rfl)
  have gS : h2.get? (Ii + 1) = some (seqObj "list" #[] 0) := by
    rw [← hh2, ← hS]; exact Heap.get?_push_size _ rfl
  have fpI : ∀ H', H' Ii = none → FpOk X pins H' Ii := fun H' n => I.fpOk (by rw [hI]; exact Nat.le_refl _) n
  have fpS : ∀ H', H' (Ii + 1) = none → FpOk X pins H' (Ii + 1) := fun H' n => I.fpOk (by rw [hI]; exact Nat.le_succ _) n
  have nI : H Ii = none := I.hok.fresh (by rw [hI]; exact Nat.le_refl _)
  have nS : H (Ii + 1) = none := I.hok.fresh (by rw [hI]; exact Nat.le_succ _)
  have I2 : ∀ tk, Inv X pins σ H { s with heap := h2, toks := tk } := fun tk => I.kept k2
  have W := Walks.list (prog := X.prog) (w := X.w) (A := X.A.in1) hh Ii l hlI its.toArray
  obtain ⟨u0, hu0, ru⟩ := rvs.get (i := 0) (x := v0) rfl
  refine codeAny_builtin PySem.F.entry_max_loop ?_
  rw [Around.under_plainId PySem.F.plain_max_loop _]
  show wpAny _ X.A.in1 (seqItems? (.ref _) >>= _) _ _ _
  refine wpAny_bind (wpAny_seqItems gS rfl ?_)
  show wpAny _ X.A.in1 (tryCatch (pyNext (.ref Ii)) _ >>= _) _ _ _
  refine wpAny_bind (wpAny_tryCatch (W.item 0 _ _ _ (by have := (List.getElem?_eq_some_iff.1 hu0).1; simpa using this) ⟨⟨_, gI, rfl, rfl⟩, hl.at fun o e => k2 _ _ e⟩ fun v h3 tk3 hP hst3 hk3 => ?_))
  have hv : v = u0 := by
    have : its[0]? = some v := by simpa using hP
    rw [hu0] at this; cases this; rfl
  subst hv
  obtain ⟨oI, hoI, hoc, hod⟩ := id hst3.1
  have I3 : Inv X pins σ H { s with heap := h3, toks := tk3 } := Inv.turnedL (s := { s with heap := h2, toks := s.toks }) (h' := h3) (t' := tk3) (ch := [Ii]) (I2 s.toks) (fun b ob hb e => hk3 b ob hb e) (fun b hb => by rw [List.mem_singleton.1 hb]; exact fpI H nI)
  have keep3 : ∀ b ob, s.heap.get? b = some ob → h3.get? b = some ob := fun b ob e => hk3 b ob (fun z => by rw [List.mem_singleton.1 z, ← hI] at e; exact absurd (Heap.lt_size e) (Nat.lt_irrefl _)) (k2 b ob e)
  have gS3 : h3.get? (Ii + 1) = some (seqObj "list" #[] 0) := hk3 _ _ (by simp) gS
  show wpAny _ X.A.in1 (tryCatch (holding [v] (call (.ref f) [v])) _ >>= _) _ _ _
  have J : Inv { X with A := X.A.in1 } pins σ H { s with heap := h3, toks := tk3 } := I3.cx (A' := X.A.in1) (calm' := X.calm) (pn' := X.pn) (pins' := pins) (xe' := X.xe) (fun p q => q) rfl (fun _ => hh)
  have code : h3.CodeRec cd qual := by
    obtain ⟨c, oc, vs, t, u, rfl, e, d, q⟩ := hcd
    obtain ⟨e2, _⟩ := I3.hok c _ e
    exact ⟨c, oc, vs, t, rfl, e2, d, q⟩
  have call := (lam_call1 (Y := { X with A := X.A.in1 }) (k := j) (E := fun _ _ _ => False) (te := fun σ H Q => ∃ G ρ, StE X.K G H σ ρ ∧ ∃ d, gb ρ = .ok d ∧ ∀ v G' H', Up G H G' H' → Rep X.K G' v d → Q v H') (Q := fun v H' => Same H H' ∧ ∃ G', Same G' H' ∧ Rep X.K G' v (.tup ks)) J hr.in1 (keep3 _ _ hf) hfd code (hp v) hco hge (hC _ _ I3) hx ru (fun pins s σ H Q I ⟨G, ρ, st, d, e, h⟩ => by
    refine hb _ _ pins s σ H Q I ⟨G, ρ, st, ?_⟩
    rw [e]
    exact fun v G' H' u r => h v G' H' u r) ⟨G, _, st.consV hno r0, _, eg, fun v G' H' u3 r3 => ⟨u3.hh, G', u3.sub, r3⟩⟩).2
  refine wpAny_bind (wpAny_tryCatch (wpAny_holding (wpAny_mono call (fun kx s4 he => ?_) fun e s' hF => ?_)))
  rotate_left
  · obtain ⟨_, _, _, _, _, z⟩ := hF; exact z.elim
  obtain ⟨vk, H4, os4, bare4, un4, hok4, rk, sm4, G4, sg4, rp4⟩ := he
  have I4 : Inv X pins σ H4 s4 := I3.call' (s' := s4) (ch := []) os4 un4 hok4 bare4 (fun b z => absurd z (by simp))
  have noF : ∀ b, s.heap.objs.size ≤ b → b ∉ frs X.stack := fun b hb z => by
    have := I.stack
    rcases List.mem_cons.1 (I.stkSub b z) with rfl | z
    · exact absurd I.lt (Nat.not_lt.2 hb)
    · exact I.nofs hb z
  have nfI : Ii ∉ frs X.stack := noF _ (by rw [hI]; exact Nat.le_refl _)
  have nfS : (Ii + 1) ∉ frs X.stack := noF _ (by rw [hI]; exact Nat.le_succ _)
  have gS4 : s4.heap.get? (Ii + 1) = some (seqObj "list" #[] 0) := un4.keep _ _ gS3 nS nfS (by simp)
  have gI4 : s4.heap.get? Ii = some oI := un4.keep _ _ hoI nI nfI (by simp)
  obtain ⟨o4, gf4, gd4⟩ := un4.data (keep3 _ _ hf) hfn (by simp)
  have nI4 : H4 Ii = none := un4.free _ _ hoI nI (by simp)
  have nS4 : H4 (Ii + 1) = none := un4.free _ _ gS3 nS (by simp)
  have nf4 : H4 f = none := un4.free _ _ (keep3 _ _ hf) hfn (by simp)
  have s5 := Heap.SameBut.update s4.heap (Ii + 1) (Obj.mapSeq fun _ => #[v, kx])
  obtain ⟨c5, hc5⟩ : ∃ c5, (s4.heap.update (Ii + 1) (Obj.mapSeq fun _ => #[v, kx])).get? (Ii + 1) = some (seqObj "list" #[v, kx] c5) := ⟨_, get?_update_seq gS4 fun _ => #[v, kx]⟩
  show wpAny _ X.A.in1 (updateSeq (Ii + 1) (fun _ => #[v, kx]) >>= _) _ _ _
  refine wpAny_bind ?_
  refine wpAny_updateSeq gS4 rfl ?_
  rw [hname]
  have I5 : Inv X pins σ H4 { s4 with heap := s4.heap.update (Ii + 1) (Obj.mapSeq fun _ => #[v, kx]) } := Inv.turnedL (s := s4) (t' := s4.toks) (ch := [Ii + 1]) I4 (fun b ob hb e => (s5.2 b (by simpa using hb)).trans e) (fun b hb => by rw [List.mem_singleton.1 hb]; exact fpS H4 nS4)
  refine wpAny_pure ⟨plainId_quiet PySem.F.plain_max_loop _, ?_⟩
  exact max_loopK_0 (H0 := H) (G := G) (vs := v0 :: vr) (dd := dd) (ρ' := ρ') hc hr hh hG hq hlI hSI hfS hfI hlS fpI fpS nfI nfS hcd hp hco hge hC hx hb st hno (fun v u H' s' I' sm' rv' rp' => ⟨v, H', I', rv', hQ v H' sm' rp'⟩) ds vr 1 d0 v0 kb ks vk _ H4 G4 v kx c5 o4 (by simp) rfl rr em I5 sm4 hc5 ⟨oI, (s5.2 Ii (Ne.symm hSI)).trans gI4, hoc, hod⟩ nI4 nS4 ((s5.2 f hfS).trans gf4) (gd4.trans hfd) nf4 ru r0 rk sg4 rp4 ek
end
noncomputable def maxK1 (key : D → R D) (x : D) (xs : List D) : R D := match key x with
  | .ok (.tup ks) => match intsOf ks with
    | some kb => maxK key x kb xs
    | none => .no
  | _ => .no
theorem maxK_ok {key : D → R D} : ∀ {xs : List D} {b : D} {kb : List Int}, (∃ d, maxK key b kb xs = .ok d) ∨ maxK key b kb xs = .no
  | [], b, kb => .inl ⟨_, rfl⟩
  | x :: xs, b, kb => by
    unfold maxK
    split
    · split
      · split
        · split
          · exact maxK_ok
          · exact maxK_ok
        · exact .inr rfl
      · exact .inr rfl
    · exact .inr rfl
theorem maxK1_inv {key : D → R D} {x : D} {xs : List D} : (∃ ks kb d, key x = .ok (.tup ks) ∧ intsOf ks = some kb ∧ maxK key x kb xs = .ok d ∧ maxK1 key x xs = .ok d) ∨ maxK1 key x xs = .no := by
  unfold maxK1
  split
  · rename_i ks e
    split
    · rename_i kb ek
      rcases maxK_ok (key := key) (xs := xs) (b := x) (kb := kb) with ⟨d, h⟩ | h
      · exact .inl ⟨ks, kb, d, e, ek, h, h⟩
      · exact .inr h
    · exact .inr rfl
  · exact .inr rfl
noncomputable def gMaxK (ga : Ev → R D) (ix : List Nat) (gb : Ev → R D) : Ev → R D := fun ρ => ga ρ >>= fun d => match d with
  | .lst _ (x :: xs) => maxK1 (fun d => gb (some (.val d) :: innerN 0 ix ρ)) x xs
  | _ => .no
section
variable {X : Cx} {a : Expr} {ga gb : Ev → R D} {scope : Scope} {N' : List Str} {ix : List Nat} {params : Arguments} {body : Expr} {lp p pos kp : Pos} {x : Str} {j : Nat}
theorem k_maxK_0 (hc : X.calm = true) (hg : Gl X "max") (hm : X.mg "max" = none) (hr : Room (j + 2) X.A) (L : LamAt X) (ha : QF X a ga) (ok : LamOk X scope N' ix)
    (hb : ∀ (cl : List (Str × Addr)) (f : Addr) (cd : Value) (A : Around) (outer : List Env) (s : Shared) (H : Hp) (E : XK), Room j (A.deeper (PySem.W.envX (X.env.qual ++ "<lambda>") scope s.heap.objs.size f cd cl)) → QF (lamCx X.prog X.w X.K X.mg X.base (x :: N') (X.env.qual ++ "<lambda>") scope cl f cd A outer s H E) body gb)
    (hx : scope.names.lookup x = some .local := by rfl) (hp : ∀ cl pm cd ctv u, bindArgs (PySem.W.kla_fn "<lambda>" (X.env.qual ++ "<lambda>") params body scope cl pm cd ctv) ⟨[u], []⟩ = pure [(x, u)] := by intros; rfl) (hdef : defaultsOf params X.env = ([], []) := by rfl)
    (hs : starEach [a] X.env = (false, eval a X.env) :: starEach [] X.env := by rfl)
    (hall : (backToKw pos (keywordEach [⟨some "key", .Lambda params body scope lp, kp⟩] X.env)).all (·.1.isSome) = true := by rfl) (hks : (backToKw pos (keywordEach [⟨some "key", .Lambda params body scope lp, kp⟩] X.env)).filterMap (·.1) = [("key" : Str)] := by rfl)
    (hpl : ((backTo pos (starEach [a] X.env)).any (·.1) || (backToKw pos (keywordEach [⟨some "key", .Lambda params body scope lp, kp⟩] X.env)).any (·.1.isNone)) = false := by rfl) :
    QF X (.Call (.Name "max" p) [a] [⟨some "key", .Lambda params body scope lp, kp⟩] pos) (gMaxK ga ix gb) := by
  obtain ⟨c, P, q, hcc, hcd, hT, rfl, hbm, hgP⟩ := L.ex
  intro pins s σ H Q I h
  obtain ⟨G, ρ, st, h⟩ := h
  have ta : tCons (tF X ga) tNil σ H (fun vs H1 => ∃ v, vs = [v] ∧ ∃ G1 d, Up G H G1 H1 ∧ StE X.K G1 H1 σ ρ ∧ Rep X.K G1 v d ∧ (match d with | .lst _ (x :: xs) => maxK1 (fun d => gb (some (.val d) :: innerN 0 ix ρ)) x xs | _ => .no : R D).post (Fin G1 H1 (Rep X.K) Q) (Exx X σ G1 H1)) :=
    tG.intro st h fun d v G1 H1 u1 st1 r1 h1 => ⟨v, rfl, G1, d, u1, st1, r1, h1⟩
  refine wpAny_Call_Name_kw (ld_blt I hg hm PyProof.Rows.Boot.«max» ?_ (by decide) (by decide))
  refine PySem.W.callWith_of (P := fun _ => True) hpl (fun h _ => by first | exact ⟨_, .inl rfl, PySem.W.Looks.of_pure rfl⟩ | exact ⟨_, .inr (.inl rfl), PySem.W.Looks.of_pure rfl⟩ | exact ⟨_, .inr (.inr rfl), PySem.W.Looks.of_pure rfl⟩) (evalArgs_kw2 hall (thn ((pa_cons ha pa_nil hs) pos pins s σ H _ I ta) fun us s1 ⟨vs, H1, I1, r1, q1⟩ => ?_) hs)
  obtain ⟨v, hv, G1, d, u1, st1, rd, h1⟩ : ∃ v, vs = [v] ∧ ∃ G1 d, Up G H G1 H1 ∧ StE X.K G1 H1 σ ρ ∧ Rep X.K G1 v d ∧ (match d with | .lst _ (x :: xs) => maxK1 (fun d => gb (some (.val d) :: innerN 0 ix ρ)) x xs | _ => .no : R D).post (Fin G1 H1 (Rep X.K) Q) (Exx X σ G1 H1) := q1
  subst hv
  obtain ⟨u, rfl, rv⟩ := r1.one
  show wpAny _ _ (evalAll ((do let v ← eval (.Lambda params body scope lp) X.env; standAt pos; pure v) :: (backToKw pos (keywordEach [] X.env)).map (·.2))) _ _ s1
  obtain ⟨more, hTH⟩ := I1.ok.tabs.un I1.base P _ hT
  refine wpAny_evalAll_cons (wpAny_bind (lam_make I1 hdef hcc (hcd _ I1.kIn) hTH ?_ (hbm.keeps I1.bk) ok.fr hgP fun f cd ctv pm H2 s2 L => wpAny_bind (wpAny_standAt (wpAny_pure (wpAny_evalAll_nil ⟨trivial, ?_⟩)))))
  · unfold qualOf
    rw [Array.toList_append]
    rfl
  rw [hks]
  have sub2 : Same G1 H2 := st1.sub.trans L.hh
  have up2 : Up G1 H1 G1 H2 := ⟨sub2, .refl _, L.hh, fun a o h => .inl h⟩
  have st2 := inner_st (st1.up up2) 0 ix
  have fin : ∀ {l : Addr} {v0 : V} {vr : List V} {x0 : D} {ds : List D}, u = .ref l → SqL X.K G1 l (v0 :: vr) → Rep X.K G1 v0 x0 → Reps X.K G1 vr ds → (maxK1 (fun d => gb (some (.val d) :: innerN 0 ix ρ)) x0 ds).post (Fin G1 H1 (Rep X.K) Q) (Exx X σ G1 H1) →
      wpAny (model X.prog X.w) X.A (call (.builtin "max") [u] [(Str.ofString "key", .ref f)]) (EP X pins σ Q) X.xe s2 := by
    intro l v0 vr x0 ds eu hq r0 rr h0
    subst eu
    rcases maxK1_inv (key := fun d => gb (some (.val d) :: innerN 0 ix ρ)) (x := x0) (xs := ds) with ⟨ks, kb, dd, eg, ek, em, e1⟩ | e1
    · rw [e1] at h0
      exact call_maxK_0 (x := x) hc hr L.inv sub2 hq r0 rr L.fn L.free rfl L.codeH (hp _ _ _ _) ok.co ok.gen (fun H s I => clOk_of ok I) hx (fun s' H' => hb _ f cd X.A.in1 X.stack s' H' _ (hr.in1.deeper _)) st2 inner_own eg ek em fun v H' sm rp => h0 v G1 H' ⟨sub2.trans sm, .refl _, L.hh.trans sm, fun a o h => .inl h⟩ rp
    · rw [e1] at h0; exact h0.elim
  cases rd with
  | lst hq t =>
    cases rv
    cases t with
    | nil => exact h1.elim
    | cons r0 t => exact fin rfl (.of hq) r0 t h1
  | fls hq t =>
    cases rv
    cases t with
    | nil => exact h1.elim
    | cons r0 t => exact fin rfl hq r0 t h1
  | _ => exact h1.elim
end
theorem lexLt_gt : ∀ {xs ys : List Int}, xs.length = ys.length → HT.lexLt xs ys = lexGt ys xs
  | [], [], _ => rfl
  | [], _ :: _, h => by simp at h
  | _ :: _, [], h => by simp at h
  | x :: xs, y :: ys, h => by
    rw [HT.lexLt_cons]
    show _ = if y = x then lexGt ys xs else decide (y > x)
    by_cases e : x = y
    · rw [if_pos e, if_pos e.symm, lexLt_gt (by simpa using h)]
    · rw [if_neg e, if_neg (Ne.symm e)]
noncomputable def minK : D → List Int → List D → Option D
  | b, _, [] => some b
  | b, kb, .tup ks :: xs => match intsOf ks with
    | some kx => if kb.length = kx.length then (if lexGt kb kx then minK (.tup ks) kx xs else minK b kb xs) else none
    | none => none
  | _, _, _ => none
noncomputable def minTF : List D → Option D
  | [.lst _ (.tup ks :: xs)] => match intsOf ks with
    | some kb => minK (.tup ks) kb xs
    | none => none
  | _ => none
section
variable {X : Cx} {pins : List (Addr × Obj)} {σ : St} {H G : Hp} {Ii S l : Addr} {vs : List V} {dd : D} {Rr : Result → Shared → Prop}
theorem min_loopT (hh : X.A.handled = none) (hu : X.A.units + 1 < cLine) (hG : Same G H) (hq : SqL X.K G l vs) (hlI : l ≠ Ii) (hSI : S ≠ Ii) (fpI : FpOk X pins H Ii) (fpS : FpOk X pins H S)
    (hR : ∀ v u s', Inv X pins σ H s' → RelV v u → Rep X.K G v dd → Rr (.ok (.ret u)) s') :
    ∀ (rest : List D) (vrest : List V) (p : Nat) (b : List D) (vb : V) (kb : List Int) (s : Shared) (ub : Value) (c : Nat), p ≤ vs.length → vs.drop p = vrest → Reps X.K G vrest rest → minK (.tup b) kb rest = some dd →
      Inv X pins σ H s → s.heap.get? S = some (seqObj "list" #[ub, ub] c) → s.heap.IsListIter Ii l p → RelV vb ub → Rep X.K G vb (.tup b) → intsOf b = some kb →
      codeAny (model X.prog X.w) X.A (.builtin "min.loop" ⟨[.ref Ii, .none, .ref S], []⟩) Rr s := by
  have hname : (toString "min" ++ toString ".loop" : String) = "min.loop" := by decide
  intro rest
  induction rest with
  | nil =>
    intro vrest p b vb kb s ub c hpl hd hrs hm I gS hit rb rpb ek
    cases hm
    cases hrs
    obtain ⟨its, rvs, pl, hz⟩ := I.list (hq.mono hG)
    have W := Walks.list (prog := X.prog) (w := X.w) (A := X.A.in1) hh Ii l hlI its.toArray
    have hlen : p = its.toArray.size := by
      have h1 := rvs.length
      have h2 := List.drop_eq_nil_iff.1 hd
      have h3 : p ≤ vs.length := hpl
      simp; omega
    subst hlen
    refine codeAny_builtin PySem.F.entry_min_loop ?_
    rw [Around.under_plainId PySem.F.plain_min_loop _]
    show wpAny _ X.A.in1 (seqItems? (.ref S) >>= _) _ _ _
    refine wpAny_bind (wpAny_seqItems gS rfl ?_)
    show wpAny _ X.A.in1 (tryCatch (pyNext (.ref Ii)) _ >>= _) _ _ _
    refine wpAny_bind (wpAny_tryCatch (W.done _ _ _ ⟨hit, pl.isList⟩ fun h6 tk6 hk6 => ?_))
    have I6 : Inv X pins σ H { s with heap := h6, toks := tk6 } := Inv.turnedL (s := s) (h' := h6) (t' := tk6) (ch := [Ii]) I (fun b ob hb e => hk6 b ob hb e) (fun b hb => by rw [List.mem_singleton.1 hb]; exact fpI)
    have gS6 := hk6 S _ (by simpa using hSI) gS
    have s7 := Heap.SameBut.update h6 S (Obj.mapSeq fun _ => (#[] : Array Value))
    show wpAny _ X.A.in1 (updateSeq S (fun _ => #[]) >>= _) _ _ _
    refine wpAny_bind ?_
    refine wpAny_updateSeq gS6 rfl (wpAny_bind (wpAny_letGo (wpAny_pure ?_)))
    exact hR vb ub _ (Inv.turnedL (s := { s with heap := h6, toks := tk6 }) (t' := tk6) (ch := [S]) I6 (fun b ob hb e => (s7.2 b (by simpa using hb)).trans e) (fun b hb => by rw [List.mem_singleton.1 hb]; exact fpS)) rb rpb
  | cons d rest ih =>
    intro vrest p b vb kb s ub c hpl hd hrs hm I gS hit rb rpb ek
    cases hrs with
    | cons rd rrest =>
    rename_i v vrest
    obtain ⟨its, rvs, pl, hz⟩ := I.list (hq.mono hG)
    have W := Walks.list (prog := X.prog) (w := X.w) (A := X.A.in1) hh Ii l hlI its.toArray
    have hvp : vs[p]? = some v := by
      have := congrArg List.head? hd
      simpa [List.head?_drop] using this
    have hdr : vs.drop (p + 1) = vrest := by
      have := congrArg List.tail hd
      simpa [List.tail_drop] using this
    have hp1 : p + 1 ≤ vs.length := (List.getElem?_eq_some_iff.1 hvp).1
    obtain ⟨u, hu', ru⟩ := rvs.get hvp
    have hlt : p < its.toArray.size := by simpa using (List.getElem?_eq_some_iff.1 hu').1
    obtain ⟨ks, rfl⟩ : ∃ ks, d = .tup ks := by
      cases d with
      | tup ks => exact ⟨ks, rfl⟩
      | _ => simp [minK] at hm
    cases ei : intsOf ks with
    | none => simp [minK, ei] at hm
    | some kx =>
    by_cases hn : kb.length = kx.length
    case neg => simp [minK, ei, hn] at hm
    simp only [minK, ei, if_pos hn] at hm
    refine codeAny_builtin PySem.F.entry_min_loop ?_
    rw [Around.under_plainId PySem.F.plain_min_loop _]
    show wpAny _ X.A.in1 (seqItems? (.ref S) >>= _) _ _ _
    refine wpAny_bind (wpAny_seqItems gS rfl ?_)
    show wpAny _ X.A.in1 (tryCatch (pyNext (.ref Ii)) _ >>= _) _ _ _
    refine wpAny_bind (wpAny_tryCatch (W.item p _ _ _ hlt ⟨hit, pl.isList⟩ fun v' h3 tk3 hP hst3 hk3 => ?_))
    have hv : v' = u := by
      have : its[p]? = some v' := by simpa using hP
      rw [hu'] at this; cases this; rfl
    subst hv
    obtain ⟨oI, hoI, hoc, hod⟩ := id hst3.1
    have I3 : Inv X pins σ H { s with heap := h3, toks := tk3 } := Inv.turnedL (s := s) (h' := h3) (t' := tk3) (ch := [Ii]) I (fun b ob hb e => hk3 b ob hb e) (fun b hb => by rw [List.mem_singleton.1 hb]; exact fpI)
    have gS3 : h3.get? S = some (seqObj "list" #[ub, ub] c) := hk3 _ _ (by simpa using hSI) gS
    obtain ⟨a1, w1, rfl, q1, z1⟩ := rpb.tup_inv
    obtain ⟨a2, w2, rfl, q2, z2⟩ := rd.tup_inv
    cases rb
    cases ru
    obtain ⟨i1, v1, t1, _⟩ := I3.tuple (q1.mono hG)
    obtain ⟨i2, v2, t2, _⟩ := I3.tuple (q2.mono hG)
    show wpAny _ X.A.in1 (tryCatch (holding [.ref a2, .ref a2] (richCompare .Lt (.ref a2) (.ref a1) >>= _)) _ >>= _) _ _ _
    refine wpAny_bind (wpAny_tryCatch (wpAny_holding (wpAny_bind ?_)))
    refine HT.lt_tupInts (prog := X.prog) (w := X.w) (A := X.A.in1) (s := { s with heap := h3, toks := tk3 }) t2 t1 (by simpa using ints_rep ei z2 v2) (by simpa using ints_rep ek z1 v1) hu ?_
    rw [lexLt_gt hn.symm]
    refine wpAny_bind (wpAny_holding (wpAny_truthy_bool ?_))
    refine wpAny_bind (wpAny_letGo (wpAny_pure ?_))
    cases hg : lexGt kb kx with
    | true =>
      rw [hg, if_pos rfl] at hm
      have s1 := Heap.SameBut.update h3 S (Obj.mapSeq fun _ => #[.ref a2, .ref a2])
      obtain ⟨c2, hc2⟩ : ∃ c2, (h3.update S (Obj.mapSeq fun _ => #[.ref a2, .ref a2])).get? S = some (seqObj "list" #[.ref a2, .ref a2] c2) := ⟨_, get?_update_seq gS3 fun _ => #[.ref a2, .ref a2]⟩
      simp only [if_true]
      refine wpAny_bind ?_
      refine wpAny_updateSeq gS3 rfl (wpAny_bind (wpAny_letGo ?_))
      rw [hname]
      exact wpAny_pure ⟨plainId_quiet PySem.F.plain_min_loop _, ih vrest (p + 1) ks (.ref a2) kx _ _ c2 hp1 hdr rrest hm (Inv.turnedL (s := { s with heap := h3, toks := tk3 }) (t' := tk3) (ch := [S]) I3 (fun b ob hb e => (s1.2 b (by simpa using hb)).trans e) (fun b hb => by rw [List.mem_singleton.1 hb]; exact fpS)) hc2 ⟨oI, (s1.2 Ii hSI.symm).trans hoI, hoc, hod⟩ rfl rd ei⟩
    | false =>
      rw [hg, if_neg (by decide)] at hm
      simp only [Bool.false_eq_true, if_false]
      refine wpAny_bind (wpAny_letGo ?_)
      rw [hname]
      exact wpAny_pure ⟨plainId_quiet PySem.F.plain_min_loop _, ih vrest (p + 1) b (.ref a1) kb _ _ c hp1 hdr rrest hm I3 gS3 ⟨oI, hoI, hoc, hod⟩ rfl rpb ek⟩
noncomputable def rMinT (K : PySem.W.Frag) : List V → Hp → VK → Prop := fun xs H Q => ∃ p G ks kb ds d vs, xs = [.ref p] ∧ Same G H ∧ SqL K G p vs ∧ Reps K G vs (.tup ks :: ds) ∧ intsOf ks = some kb ∧ minK (.tup ks) kb ds = some d ∧ ∀ v, Rep K G v d → Q v H
theorem call_minT (hc : X.calm = true) (hu : X.A.units + 1 < cLine) : CallR X (.builtin "min") (rMinT X.K) := by
  intro pins s σ H xs us Q I r ⟨l, G, ks, kb, ds, d, vs, ex, hG, hq, rr, ek, em, q⟩
  subst ex
  obtain ⟨u, rfl, r1⟩ := r.one
  cases r1
  have hname : (toString "min" ++ toString ".loop" : String) = "min.loop" := by decide
  obtain ⟨its, rvs, pl, hz⟩ := I.list (hq.mono hG)
  have hl := pl.isList
  obtain ⟨ol, hol, _⟩ := id hl
  have hll : l < s.heap.objs.size := Heap.lt_size hol
  have hh : X.A.handled = none := I.ok.hd hc
  refine call_function_tree PySem.F.kind_min PySem.F.plain_min PySem.F.entry_min (PySem.F.args_min1 _) ?_
  show wpAny _ X.A.in1 (Builtin.Builtins.bindParams "min" ["key", "default"] 0 ⟨[], []⟩ >>= _) _ _ s
  refine wpAny_bind (wpAny_of_eq (show Builtin.Builtins.bindParams "min" ["key", "default"] 0 ⟨[], []⟩ = pure [none, none] from rfl) ?_)
  refine wpAny_bind (wpAny_pure ?_)
  refine wpAny_bind (wpAny_pyIter_list hl ?_)
  refine wpAny_bind (wpAny_newList ?_ (Nat.zero_le _))
  rw [hname]
  generalize hI : s.heap.objs.size = Ii at *
  have hS : (s.heap.push { cls := .type "list_iterator", data := .fields #[.ref l, .int 0 0] }).objs.size = Ii + 1 := by rw [← hI]; exact size_push' ..
  rw [hS]
  have hlI : l ≠ Ii := Nat.ne_of_lt hll
  have hSI : Ii + 1 ≠ Ii := Nat.ne_of_gt (Nat.lt_succ_self _)
  refine wpAny_pure ⟨plainId_quiet PySem.F.plain_min_loop _, ?_⟩
  generalize hh2 : (s.heap.push { cls := .type "list_iterator", data := .fields #[.ref l, .int 0 0] }).push (seqObj "list" #[] 0) = h2
  have k2 : ∀ b ob, s.heap.get? b = some ob → h2.get? b = some ob := fun b ob e => by rw [← hh2]; exact Heap.get?_push_of_some _ (Heap.get?_push_of_some _ e)
  have gI : h2.get? Ii = some { cls := .type "list_iterator", data := .fields #[.ref l, .int 0 0] } := by
    rw [← hh2, ← hI]; exact Heap.get?_push_of_some _ (Heap.get?_push_size _ rfl)
  have gS : h2.get? (Ii + 1) = some (seqObj "list" #[] 0) := by
    rw [← hh2, ← hS]; exact Heap.get?_push_size _ rfl
  have nI : H Ii = none := I.hok.fresh (by rw [hI]; exact Nat.le_refl _)
  have nS : H (Ii + 1) = none := I.hok.fresh (by rw [hI]; exact Nat.le_succ _)
  have fpI : FpOk X pins H Ii := I.fpOk (by rw [hI]; exact Nat.le_refl _) nI
  have fpS : FpOk X pins H (Ii + 1) := I.fpOk (by rw [hI]; exact Nat.le_succ _) nS
  have I2 : ∀ tk, Inv X pins σ H { s with heap := h2, toks := tk } := fun tk => I.kept k2
  have W := Walks.list (prog := X.prog) (w := X.w) (A := X.A.in1) hh Ii l hlI its.toArray
  cases rr with
  | cons r0 rr =>
  rename_i v0 vr
  obtain ⟨u0, hu0, ru⟩ := rvs.get (i := 0) (x := v0) rfl
  refine codeAny_builtin PySem.F.entry_min_loop ?_
  rw [Around.under_plainId PySem.F.plain_min_loop _]
  show wpAny _ X.A.in1 (seqItems? (.ref _) >>= _) _ _ _
  refine wpAny_bind (wpAny_seqItems gS rfl ?_)
  show wpAny _ X.A.in1 (tryCatch (pyNext (.ref Ii)) _ >>= _) _ _ _
  refine wpAny_bind (wpAny_tryCatch (W.item 0 _ _ _ (by have := (List.getElem?_eq_some_iff.1 hu0).1; simpa using this) ⟨⟨_, gI, rfl, rfl⟩, hl.at fun o e => k2 _ _ e⟩ fun v h3 tk3 hP hst3 hk3 => ?_))
  have hv : v = u0 := by
    have : its[0]? = some v := by simpa using hP
    rw [hu0] at this; cases this; rfl
  subst hv
  obtain ⟨oI, hoI, hoc, hod⟩ := id hst3.1
  have I3 : Inv X pins σ H { s with heap := h3, toks := tk3 } := Inv.turnedL (s := { s with heap := h2, toks := s.toks }) (h' := h3) (t' := tk3) (ch := [Ii]) (I2 s.toks) (fun b ob hb e => hk3 b ob hb e) (fun b hb => by rw [List.mem_singleton.1 hb]; exact fpI)
  have gS3 : h3.get? (Ii + 1) = some (seqObj "list" #[] 0) := hk3 _ _ (by simp) gS
  have s5 := Heap.SameBut.update h3 (Ii + 1) (Obj.mapSeq fun _ => #[v, v])
  obtain ⟨c5, hc5⟩ : ∃ c5, (h3.update (Ii + 1) (Obj.mapSeq fun _ => #[v, v])).get? (Ii + 1) = some (seqObj "list" #[v, v] c5) := ⟨_, get?_update_seq gS3 fun _ => #[v, v]⟩
  show wpAny _ X.A.in1 (updateSeq (Ii + 1) (fun _ => #[v, v]) >>= _) _ _ _
  refine wpAny_bind ?_
  refine wpAny_updateSeq gS3 rfl ?_
  rw [hname]
  refine wpAny_pure ⟨plainId_quiet PySem.F.plain_min_loop _, ?_⟩
  exact min_loopT (G := G) (vs := v0 :: vr) (dd := d) hh hu hG hq hlI hSI fpI fpS (fun v u s' I' rv' rp' => ⟨v, H, I', rv', q v rp'⟩) ds vr 1 ks v0 kb _ v c5 (by simp) rfl rr em (Inv.turnedL (s := { s with heap := h3, toks := tk3 }) (t' := tk3) (ch := [Ii + 1]) I3 (fun b ob hb e => (s5.2 b (by simpa using hb)).trans e) (fun b hb => by rw [List.mem_singleton.1 hb]; exact fpS)) hc5 ⟨oI, (s5.2 Ii (Ne.symm hSI)).trans hoI, hoc, hod⟩ ru r0 ek
theorem ok_minT (K : PySem.W.Frag) : CROk K (rMinT K) minTF := by
  intro G H xs ds d Q s r e q
  unfold minTF at e
  split at e
  · split at e
    · rename_i ks xs _ kb ek
      obtain ⟨v, rfl, r1⟩ := r.one
      obtain ⟨a, vs, rfl, hs, rr⟩ := r1.seq_inv
      exact ⟨a, G, ks, kb, xs, d, vs, rfl, s, hs, rr, ek, e, fun v rp => q v G H (.refl s) rp⟩
    · cases e
  · cases e
theorem k_minT_0 {k : Nat} {e : Expr} {gl : Ev → R (List D)} {p pos : Pos} (hc : X.calm = true) (hr : Room k X.A) (hg : Gl X "min") (hm : X.mg "min" = none) (ha : QFA X [e] gl) (he : starEach [e] X.env = (false, eval e X.env) :: starEach [] X.env := by rfl) :
    QF X (.Call (.Name "min" p) [e] [] pos) (gOf minTF gl) := pf_callB_0 (call_minT hc (hu_of hr)) (ok_minT _) hg hm PyProof.Rows.Boot.«min» ha (by decide) (by decide) he rfl
end
noncomputable def stripL (c : Nat) (x : List Nat) : List Nat := (x.drop (x.takeWhile (· == c)).length).take (x.length - ((x.drop (x.takeWhile (· == c)).length).reverse.takeWhile (· == c)).length - (x.takeWhile (· == c)).length)
theorem strip_eq {x : Str} {c : Nat} : (Txt.stripChars x ⟨#[c]⟩).cps.toList = stripL c x.cps.toList := by
  have g : (⟨#[c]⟩ : Str).cps.contains = fun d => (d == c) := by funext d; simp [Array.contains]
  unfold Txt.stripChars
  rw [PyProof.Rows.stripBy_eq, g]
  unfold Builtin.Str.strSub stripLo stripHi stripL
  simp [List.extract_eq_drop_take, Str.length]
section
variable {X : Cx} {e o : Expr} {ga : Ev → R D} {gl : Ev → R (List D)}
noncomputable def stripGF : D → List D → Option D
  | .str x, [.str [c]] => some (.str (stripL c x))
  | _, _ => none
theorem ok_stripG (K : PySem.W.Frag) : MROk K "str" rStrip stripGF := by
  intro G H x xs dx ds d Q s rx rs e q
  unfold stripGF at e
  split at e
  · rename_i x0 c
    cases e
    obtain ⟨v, rfl, r1⟩ := rs.one
    obtain ⟨i, rfl, ei, hi⟩ := rx.str_inv
    obtain ⟨j, rfl, ej, hj⟩ := r1.str_inv
    subst ei
    have : j = ⟨#[c]⟩ := (Str.of_list ej).symm
    subst this
    refine ⟨i, c, rfl, rfl, hi, ?_⟩
    refine q _ G H (.refl s) (.strL strip_eq ?_)
    have := PyProof.Rows.len_stripChars i ⟨#[c]⟩
    rw [← strip_eq, Str.len_list]
    omega
  · cases e
theorem k_stripG_0 {ap cp : Pos} (ho : QF X o ga) (ha : QFA X [e] gl) (hbase : attributeBase o "strip" X.env (eval o X.env) = eval o X.env := by rfl)
    (hfew : ((backTo cp (starEach [e] X.env)).all (fun x => !x.1) && (backToKw cp (keywordEach [] X.env)).all (fun x => x.1.isSome)
      && decide ([e].length + ([] : List Keyword).length + (if ([] : List Keyword).isEmpty then 0 else 1) < 30)) = true := by rfl)
    (hline : (ap.endLine == cp.line) = true := by rfl) (hs : starEach [e] X.env = (false, eval e X.env) :: starEach [] X.env := by rfl) :
    QF X (.Call (.Attribute o "strip" ap) [e] [] cp) (gMeth "str" stripGF ga gl) := pf_meth_0 PySem.F.plainAttrs_str PySem.F.slot_str_strip PySem.F.type_str_strip mt_strip (ok_stripG _) ho ha hbase hfew hline hs rfl
end
noncomputable def listR1 (ds : List D) : R D := rangeD1 ds >>= fun xs => if xs.length ≤ 1000 then .ok (.lst false xs) else .no
noncomputable def gListR1 (gl : Ev → R (List D)) : Ev → R D := fun ρ => gl ρ >>= listR1
section
variable {X : Cx} {a : Expr} {gl : Ev → R (List D)} {p p2 pos pos2 : Pos}
theorem k_listR1_0 (hc : X.calm = true) (hgl : Gl X "list") (hml : X.mg "list" = none) (hg : Gl X "range") (hm : X.mg "range" = none) (ha : QFA X [a] gl)
    (hsl : starEach [.Call (.Name "range" p2) [a] [] pos2] X.env = (false, eval (.Call (.Name "range" p2) [a] [] pos2) X.env) :: starEach [] X.env := by rfl)
    (hs : starEach [a] X.env = [(false, eval a X.env)] := by rfl) :
    QF X (.Call (.Name "list" p) [.Call (.Name "range" p2) [a] [] pos2] [] pos) (gListR1 gl) := by
  intro pins s σ H Q I h
  obtain ⟨G, ρ, st, h⟩ := h
  have h : (gl ρ >>= listR1).post (Fin G H (Rep X.K) Q) (Exx X σ G H) := h
  have t : tAF X gl σ H (fun vs H1 => ∃ G1 ds, Up G H G1 H1 ∧ Same G1 H1 ∧ Reps X.K G1 vs ds ∧ (listR1 ds).post (Fin G1 H1 (Rep X.K) Q) (Exx X σ G1 H1)) :=
    tG.intro st h fun ds vs G1 H1 u1 st1 r1 h1 => ⟨G1, ds, u1, st1.sub, r1, h1⟩
  refine Call_ (ld_blt I hgl hml PyProof.Rows.Boot.«list» (PyProof.Rows.callWith_type1 ?_ hsl rfl))
  rw [hsl]
  show wpAny _ _ (spliced ((false, eval (.Call (.Name "range" p2) [a] [] pos2) X.env) :: backTo pos (starEach [] X.env))) _ _ s
  refine Calls.spliced_cons (Call_ (ld_blt I hg hm boot_range (PyProof.Rows.callWith_type1 (thn (ha pos2 pins s σ H _ I t) fun us s1 ⟨vs, H1, I1, r1, q1⟩ => ?_) hs rfl)))
  obtain ⟨G1, ds, u1, sub1, rp, h1⟩ := q1
  unfold listR1 rangeD1 at h1
  split at h1
  · rename_i j
    split at h1
    · rename_i hb
      obtain ⟨b3, b4⟩ := hb
      have h1 : (if ((List.range j.toNat).map fun (k : Nat) => D.int (0 + (k : Int))).length ≤ 1000 then R.ok (D.lst false ((List.range j.toNat).map fun (k : Nat) => D.int (0 + (k : Int)))) else .no : R D).post (Fin G1 H1 (Rep X.K) Q) (Exx X σ G1 H1) := h1
      by_cases hl : ((List.range j.toNat).map fun (k : Nat) => D.int (0 + (k : Int))).length ≤ 1000
      · rw [if_pos hl] at h1
        cases rp with
        | cons ra rp =>
            cases rp
            cases ra
            cases r1 with
            | cons r rr =>
                cases rr
                obtain ⟨t, rfl⟩ := r
                refine call_range_1 (Calls.spliced_nil ?_)
                have hn : Builtin.Range.rangeSize 0 j 1 = ((j.toNat : Nat) : Int) := by rw [rangeSize_one]; split <;> omega
                have hl2 : j.toNat ≤ 1000 := by simpa using hl
                refine call_list_range (I.ok.hd hc) (IsRange.new ..) (small_one (by decide) (by decide) b3 b4) hn (by omega) fun h' tk acc c' hk hS hacc => ?_
                have hk' : ∀ b o, s1.heap.get? b = some o → h'.get? b = some o := fun b o e => hk b o (Heap.get?_push_of_some _ e)
                have hz : (acc.toList).length = j.toNat := by simpa using hacc.1
                have vv := vals_from (i := 0) j.toNat 0 acc.toList hz fun k v e => by
                  obtain ⟨t, z⟩ := hacc.2 k v (by simpa using e)
                  exact ⟨t, by rw [z]; simp⟩
                have hz2 : ((List.range' 0 j.toNat).map fun (m : Nat) => V.int (0 + (m : Int))).length ≤ sizeLine := by
                  have : 1000 ≤ sizeLine := by decide
                  simp; omega
                have hge : ∀ ob : Obj, s1.heap.objs.size ≤ (s1.heap.push ob).objs.size := fun ob => by rw [size_push']; exact Nat.le_succ _
                refine ⟨.ref _, _, Inv.laid (s := s1) (h' := h') (t' := tk) (o := .lst ((List.range' 0 j.toNat).map fun (m : Nat) => V.int (0 + (m : Int)))) I1 hk' (hge _) ⟨hz2, acc.toList, c', vv, by simpa using hS⟩, rfl, h1 _ _ _ (.new sub1 (I1.hok.fresh (hge _))) (.lst upd_same ?_)⟩
                rw [List.range_eq_range']
                exact reps_from _ 0
      · rw [if_neg hl] at h1; exact h1.elim
    · exact h1.elim
  · exact h1.elim
end
end L2
namespace L2
open PySem PySem.Spec PyProof.Rows
section
variable {X : Cx} {elt iter : Expr} {ifs : List Expr} {x : Str} {px pos : Pos} {scope : Scope} {gi : Ev → R (List D)} {gt : Ev → R Bool} {ge : Ev → R D}
structure CompOkC (X : Cx) (scope : Scope) (x : Str) : Prop where
  kind : scope.kind = .function
  names : ∀ y ∈ scope.names, y.2 = .local → scope.names.lookup y.1 = some .local
  nofree : ∀ y ∈ scope.names, y.2 ≠ .free
  cells : ∀ L, cellsFrom L scope.names [] = [(x, L)]
  lk : scope.names.lookup x = some .cell
  only : ∀ y, scope.names.lookup y = some .cell → y = x
end
end L2
namespace L2
open PySem PySem.Spec PyProof.Rows
@[irreducible] noncomputable def PF (X : Cx) (e : Expr) (g : Ev → R D) : Prop := QF X e g
@[irreducible] noncomputable def PFA (X : Cx) (e : List Expr) (g : Ev → R (List D)) : Prop := QFA X e g
@[irreducible] noncomputable def PB (X : Cx) (e : Expr) (g : Ev → R Bool) : Prop := QB X e g
@[irreducible] noncomputable def PBW (X : Cx) (e : Expr) (g : Ev → R Bool) : Prop := QBW X e g
@[irreducible] noncomputable def PSF (X : Cx) (e : Stmt) (g : Ev → O) : Prop := QSF X e g
@[irreducible] noncomputable def PSsF (X : Cx) (e : List Stmt) (g : Ev → O) : Prop := QSsF X e g
@[irreducible] noncomputable def PFL (X : Cx) (e : Expr) (g : Ev → R (List D)) : Prop := QFL X e g
@[irreducible] noncomputable def PIF (X : Cx) (tg e : Expr) (g : Ev → R (List D)) : Prop := QIF X tg e g
@[irreducible] noncomputable def PFO (X : Cx) (e : Option Expr) (g : Ev → R (Option Int)) : Prop := QFO X e g
section
variable {X : Cx} {e a b c : Expr} {ga gb gc : Ev → R D} {pos : Pos}
theorem pf_int {i : Int} {j : Nat} : PF X (.Constant (.int i) j pos) (fun _ => .ok (.int i)) := by
  with_unfolding_all exact pf_int_0 
theorem pf_bl {k : Bool} {j : Nat} : PF X (.Constant (.bool k) j pos) (fun _ => .ok (.bl k)) := by
  with_unfolding_all exact pf_bl_0 
theorem pf_str {x : Str} {j : Nat} {l : List Nat} (hl : x.cps.toList = l := by rfl) (hz : l.length ≤ 1000 := by decide) : PF X (.Constant (.str x) j pos) (fun _ => .ok (.str l)) := by
  with_unfolding_all exact pf_str_0 hl hz
theorem pf_globI {x : Str} {i : Int} {t : Tok} (hg : Gl X x) (hm : X.mg x = some (.int i t)) (hd : (x == ("__debug__" : Str)) = false := by decide) : PF X (.Name x pos) (fun _ => .ok (.int i)) := by
  with_unfolding_all exact pf_globI_0 hg hm hd
end
section
variable {X : Cx}
theorem pf_add {a b : Expr} {ga gb : Ev → R D} {pos : Pos} (ha : PF X a ga) (hb : PF X b gb) : PF X (.BinOp a .Add b pos) (g2 addD ga gb) := by
  with_unfolding_all exact pf_add_0 ha hb
theorem pf_sub {a b : Expr} {ga gb : Ev → R D} {pos : Pos} (ha : PF X a ga) (hb : PF X b gb) : PF X (.BinOp a .Sub b pos) (g2 subD ga gb) := by
  with_unfolding_all exact pf_sub_0 ha hb
theorem pf_fdiv {a b : Expr} {ga gb : Ev → R D} {pos : Pos} (ha : PF X a ga) (hb : PF X b gb) : PF X (.BinOp a .FloorDiv b pos) (g2 fdivD ga gb) := by
  with_unfolding_all exact pf_fdiv_0 ha hb
theorem pf_mod {a b : Expr} {ga gb : Ev → R D} {pos : Pos} (ha : PF X a ga) (hb : PF X b gb) : PF X (.BinOp a .Mod b pos) (g2 modD ga gb) := by
  with_unfolding_all exact pf_mod_0 ha hb
end
section
variable {X : Cx} {a b c e : Expr} {ga gb gc : Ev → R D} {pos : Pos}
theorem pf_lele (ha : PF X a ga) (hb : PF X b gb) (hc : PF X c gc) (hm : lastMarks [.LtE, .LtE] [b, c] = false := by with_unfolding_all rfl) : PF X (.Compare a [.LtE, .LtE] [b, c] pos) (g3 leD leD ga gb gc) := by
  with_unfolding_all exact pf_lele_0 ha hb hc hm
end
section
variable {X : Cx} {a b : Expr} {ga gb : Ev → R D} {pos : Pos}
theorem pf_eq (hu : X.A.units + 64 < cLine) (ha : PF X a ga) (hb : PF X b gb) : PF X (.Compare a [.Eq] [b] pos) (g2 eqF ga gb) := by
  with_unfolding_all exact pf_eq_0 hu ha hb
end
section
variable {X : Cx} {a b c e : Expr} {es rest : List Expr} {ga gb gc : Ev → R D} {gt gu : Ev → R Bool} {gl : Ev → R (List D)} {pos : Pos}
theorem pf_one {op : BoolOp} (h : PF X a ga) : PF X (.BoolOp op [a] pos) ga := by
  with_unfolding_all exact pf_one_0 h
theorem pf_and (ha : PF X a ga) (hb : PF X (.BoolOp .And (b :: rest) pos) gb) : PF X (.BoolOp .And (a :: b :: rest) pos) (gAnd ga gb) := by
  with_unfolding_all exact pf_and_0 ha hb
theorem pf_not (ha : PF X a ga) : PF X (.UnaryOp .Not a pos) (gNot ga) := by
  with_unfolding_all exact pf_not_0 ha
theorem pbw_and1 (ha : PB X a gt) : PBW X (.BoolOp .And [a] pos) gt := by
  with_unfolding_all exact pbw_and1_0 ha
theorem pbw_or1 (ha : PB X a gt) : PBW X (.BoolOp .Or [a] pos) gt := by
  with_unfolding_all exact pbw_or1_0 ha
theorem pbw_and (ha : PB X a gt) (hb : PBW X (.BoolOp .And (b :: rest) pos) gu) : PBW X (.BoolOp .And (a :: b :: rest) pos) (tAndB gt gu) := by
  with_unfolding_all exact pbw_and_0 ha hb
theorem pbw_or (ha : PB X a gt) (hb : PBW X (.BoolOp .Or (b :: rest) pos) gu) : PBW X (.BoolOp .Or (a :: b :: rest) pos) (tOrB gt gu) := by
  with_unfolding_all exact pbw_or_0 ha hb
theorem pf_if (hc : PB X c gt) (ha : PF X a ga) (hb : PF X b gb) : PF X (.IfExp c a b pos) (gIf gt ga gb) := by
  with_unfolding_all exact pf_if_0 hc ha hb
theorem pfa_nil  : PFA X [] (fun _ => .ok []) := by
  with_unfolding_all exact pfa_nil_0 
theorem pf_ix (ha : PF X a ga) (hb : PF X b gb) (hs : PlainIx b := by exact fun _ _ => rfl) : PF X (.Subscript a b pos) (g2 ixD ga gb) := by
  with_unfolding_all exact pf_ix_0 ha hb hs
end
section
variable {X : Cx} {a b c e : Expr} {es rest : List Expr} {lo hi : Option Expr} {ga gb gc : Ev → R D} {go gp : Ev → R (Option Int)} {gl : Ev → R (List D)} {pos p2 : Pos}
theorem pfo_none  : PFO X none (fun _ => .ok none) := by
  with_unfolding_all exact pfo_none_0 
theorem pf_slice (ha : PF X a ga) (hl : PFO X lo go) (hu : PFO X hi gp) : PF X (.Subscript a (.Slice lo hi none p2) pos) (gSl ga go gp) := by
  with_unfolding_all exact pf_slice_0 ha hl hu
theorem pf_callTy {T : String} {x : Str} {p : Pos} {r : List V → Hp → VK → Prop} {f : List D → Option D} (hc : CallR X (.type T) r) (hf : CROk X.K r f) (hg : Gl X x) (hm : X.mg x = none) (hv : bootBuiltins x = some (.type T)) (ha : PFA X (e :: es) gl)
    (hn : x ≠ "__name__" := by decide) (hdb : (x == ("__debug__" : Str)) = false := by decide)
    (he : starEach (e :: es) X.env = (false, eval e X.env) :: starEach es X.env := by rfl) (hpl : (backTo pos (starEach es X.env)).any (·.1) = false := by rfl) : PF X (.Call (.Name x p) (e :: es) [] pos) (fun ρ => gl ρ >>= fun ds => ofO (f ds)) := by
  with_unfolding_all exact pf_callTy_0 hc hf hg hm hv ha hn hdb he hpl
end
section
variable {X : Cx} {tg a e : Expr} {ga : Ev → R D} {gl : Ev → R (List D)} {pos : Pos}
end
section
theorem pts_one {X : Cx} {c : Expr} {gt : Ev → R Bool} (h : PB X c gt) : PTs X [c] gt := by
  with_unfolding_all exact pts_one_0 h
end
section
variable {X : Cx} {elt iter : Expr} {ifs : List Expr} {x : Str} {px pos : Pos} {scope : Scope} {N' : List Str} {ix : List Nat} {gi : Ev → R (List D)} {gt : Ev → R Bool} {ge : Ev → R D}
theorem pfl_comp (ok : CompOk X scope x N' ix) (hcalm : X.calm = true) (hi : PIF X (.Name x px) iter gi) (he : ∀ C s₂ H₂ fp, PF (compCx X N' scope C s₂ H₂ fp) elt ge) (ht : ∀ C s₂ H₂ fp, PTs (compCx X N' scope C s₂ H₂ fp) ifs gt)
    (hs : ∀ x, foldedSetIterable iter X.env x = pure x := by intro _; rfl) : PFL X (.ListComp elt [⟨.Name x px, iter, ifs, 0⟩] scope pos) (gComp gi ix gt ge) := by
  with_unfolding_all exact pfl_comp_0 ok hcalm hi he ht hs
end
section
variable {X : Cx} {st : Stmt} {rest body a b : List Stmt} {e c tg : Expr} {g g1 g2 : Ev → O} {ga : Ev → R D} {gt : Ev → R Bool} {gl : Ev → R (List D)} {pos : Pos}
end
section
variable {X : Cx} {k : Nat} {f : Addr} {fd : FuncData} {ps : List Str} {x : Str} {p pos : Pos} {e : Expr} {es : List Expr} {gl : Ev → R (List D)} {g : List D → R D}
end
section
theorem Fun.okF {P : Program} {w : World} {K : PySem.W.Frag} {mg : Str → Option Value} {base : Heap} {x qual : Str} {st : Stmt} {f : Addr} {fd : FuncData} {N ps : List Str} {k : Nat} (F : Fun K x qual st f fd) (S : FnScope N ps (defScope st)) {g : Ev → O}
    (hbody : ∀ (cdv : Value) (A : Around) (outer : List Env) (s : Shared) (H : Hp) (E : XK), Room k (A.deeper (envOfC qual (defScope st) s.heap.objs.size f cdv)) → PSsF (cxOf (CXo P w) P w K mg base N qual (defScope st) f cdv A outer s H E) (defBody st) g) : FnF P w K mg base (k + 1) f fd ps (fun ds => bodyR (g (startE N.length ds))) := by
  with_unfolding_all exact Fun.okF_0 F S hbody
end
section
variable {X : Cx}
theorem pf_mul {a b : Expr} {ga gb : Ev → R D} {pos : Pos} (ha : PF X a ga) (hb : PF X b gb) : PF X (.BinOp a .Mult b pos) (g2 mulD ga gb) := by
  with_unfolding_all exact pf_mul_0 ha hb
end
section
variable {X : Cx} {e o : Expr} {es : List Expr} {ga gb : Ev → R D} {gl : Ev → R (List D)} {pos : Pos}
end
section
variable {X : Cx} {e : Expr} {es : List Expr} {ga : Ev → R D} {gl : Ev → R (List D)} {pos : Pos}
end
section
variable {X : Cx} {body suite : List Stmt} {b₀ : Stmt} {gb gs : Ev → O} {pos hp tp : Pos} {tn nm : Str} {Ct : Addr}
end
section
end
section
variable {X : Cx} {e : Expr} {ga : Ev → R D} {p p2 pos : Pos}
end
section
variable {X : Cx} {st : Stmt} {rest body sa sb : List Stmt} {e a b c o tg : Expr} {es : List Expr} {g gs1 gs2 : Ev → O} {ga gb gc : Ev → R D} {gt : Ev → R Bool} {gl : Ev → R (List D)} {pos p p2 : Pos} {x : Str}
theorem k_cons (h1 : PSF X st gs1) (h2 : PSsF X rest gs2) : PSsF X (st :: rest) (oSeq gs1 gs2) := by
  with_unfolding_all exact k_cons_0 h1 h2
theorem k_nil  : PSsF X [] oNx := by
  with_unfolding_all exact k_nil_0 
theorem k_ret (he : PF X e ga) : PSF X (.Return (some e) pos) (oRet ga) := by
  with_unfolding_all exact k_ret_0 he
theorem k_if (hc : PB X c gt) (ha : PSsF X sa gs1) (hb : PSsF X sb gs2) : PSF X (.If c sa sb pos) (oIf gt gs1 gs2) := by
  with_unfolding_all exact k_if_0 hc ha hb
theorem k_own (i : Nat) (hN : X.N.Nodup) (he : PFL X e gl) (hi : X.N[i]? = some x := by rfl) (hx : Loc X.env.scope x := by first | exact Or.inl rfl | exact Or.inr rfl)
    (hs : swapsWithSole [.Name x p] e pos.line X.env = pure false := by rfl) (hw : swappedStores [.Name x p] e X.env = pure none := by rfl) (hf : X.fn x = true ∨ X.env.scope.names.lookup x = some .local := by first | exact .inl rfl | exact .inr rfl) : PSF X (.Assign [.Name x p] e pos) (oOwn i gl) := by
  with_unfolding_all exact k_own_0 i hN he hi hx hs hw hf
theorem k_expr (he : PF X e ga) (hs : swapsWith e none pos.line X.env = pure false := by rfl) : PSF X (.Expr e pos) (oExpr ga) := by
  with_unfolding_all exact k_expr_0 he hs
theorem k_for {iter : Expr} {gi : Ev → R (List D)} {asg : D → Ev → R Ev} (hp : PassesOwn (model X.prog X.w) X.A X.env X.xe) (hcalm : X.calm = true) (hi : PIF X tg iter gi) (hg : PGF X tg asg) (hb : PSsF X body g)
    (hs : ∀ x, foldedSetIterable iter X.env x = pure x := by intro _; rfl) (hn : ∀ d ρ C, asg d ρ ≠ .ex C := by intro _ _ _ z; cases z) : PSF X (.For tg iter body [] pos) (oFor asg gi g) := by
  with_unfolding_all exact k_for_0 hp hcalm hi hg hb hs hn
theorem k_len (hg : Gl X "len") (hm : X.mg "len" = none) (ha : PFA X [e] gl) (he : starEach [e] X.env = [(false, eval e X.env)] := by rfl) : PF X (.Call (.Name "len" p) [e] [] pos) (gOf lenF gl) := by
  with_unfolding_all exact k_len_0 hg hm ha he
theorem k_all (hc : X.calm = true) (hg : Gl X "all") (hm : X.mg "all" = none) (ha : PFA X [e] gl) (he : starEach [e] X.env = [(false, eval e X.env)] := by rfl) : PF X (.Call (.Name "all" p) [e] [] pos) (gOf allF gl) := by
  with_unfolding_all exact k_all_0 hc hg hm ha he
theorem k_acons (ha : PF X e ga) (hr : PFA X es gl) (hs : starEach (e :: es) X.env = (false, eval e X.env) :: starEach es X.env := by rfl) : PFA X (e :: es) (gACons ga gl) := by
  with_unfolding_all exact k_acons_0 ha hr hs
theorem k_call {k n : Nat} {f : List D → R D} (c : Callee X.prog X.w X.K X.mg X.base x k n f) (hr : Room k X.A) (ha : PFA X (e :: es) gl) (hg : Gl X x := by rfl)
    (hdb : (x == ("__debug__" : Str)) = false := by decide) (he : starEach (e :: es) X.env = (false, eval e X.env) :: starEach es X.env := by rfl) (hpl : (backTo pos (starEach es X.env)).any (·.1) = false := by rfl) : PF X (.Call (.Name x p) (e :: es) [] pos) (gCall n f gl) := by
  with_unfolding_all exact k_call_0 c hr ha hg hdb he hpl
theorem k_comp {gens : List Comprehension} {sc : Scope} (h : PFL X (.ListComp e gens sc pos) gl) : PF X (.ListComp e gens sc pos) (gFresh gl) := by
  with_unfolding_all exact k_comp_0 h
theorem k_list (h : PFL X (.List es pos) gl) : PF X (.List es pos) (gFresh gl) := by
  with_unfolding_all exact k_list_0 h
theorem k_lst (h : PFA X es gl) : PFL X (.List es pos) (gLst gl) := by
  with_unfolding_all exact k_lst_0 h
theorem k_tup {k : Nat} (h : PFA X es gl) : PF X (.Tuple es k pos) (gThen mkT gl) := by
  with_unfolding_all exact k_tup_0 h
theorem k_neg (ha : PF X a ga) : PF X (.UnaryOp .USub a pos) (gThen negD ga) := by
  with_unfolding_all exact k_neg_0 ha
theorem k_isInt (hm : X.mg "isinstance" = none) (ha : PF X e ga) (hm2 : X.mg "int" = none) (hg2 : Gl X "int" := by rfl) (hg : Gl X "isinstance" := by rfl) (hs1 : starEach [e, .Name "int" p2] X.env = (false, eval e X.env) :: starEach [.Name "int" p2] X.env := by rfl) : PF X (.Call (.Name "isinstance" p) [e, .Name "int" p2] [] pos) (gThen (isTy isInt) ga) := by
  with_unfolding_all exact k_isInt_0 hm ha hm2 hg2 hg hs1
theorem k_isBool (hm : X.mg "isinstance" = none) (ha : PF X e ga) (hm2 : X.mg "bool" = none) (hg2 : Gl X "bool" := by rfl) (hg : Gl X "isinstance" := by rfl) (hs1 : starEach [e, .Name "bool" p2] X.env = (false, eval e X.env) :: starEach [.Name "bool" p2] X.env := by rfl) : PF X (.Call (.Name "isinstance" p) [e, .Name "bool" p2] [] pos) (gThen (isTy (· == "bool")) ga) := by
  with_unfolding_all exact k_isBool_0 hm ha hm2 hg2 hg hs1
theorem k_isStr (hm : X.mg "isinstance" = none) (ha : PF X e ga) (hm2 : X.mg "str" = none) (hg2 : Gl X "str" := by rfl) (hg : Gl X "isinstance" := by rfl) (hs1 : starEach [e, .Name "str" p2] X.env = (false, eval e X.env) :: starEach [.Name "str" p2] X.env := by rfl) : PF X (.Call (.Name "isinstance" p) [e, .Name "str" p2] [] pos) (gThen (isTy (· == "str")) ga) := by
  with_unfolding_all exact k_isStr_0 hm ha hm2 hg2 hg hs1
theorem k_isTuple (hm : X.mg "isinstance" = none) (ha : PF X e ga) (hm2 : X.mg "tuple" = none) (hg2 : Gl X "tuple" := by rfl) (hg : Gl X "isinstance" := by rfl) (hs1 : starEach [e, .Name "tuple" p2] X.env = (false, eval e X.env) :: starEach [.Name "tuple" p2] X.env := by rfl) : PF X (.Call (.Name "isinstance" p) [e, .Name "tuple" p2] [] pos) (gThen (isTy (· == "tuple")) ga) := by
  with_unfolding_all exact k_isTuple_0 hm ha hm2 hg2 hg hs1
theorem k_some (h : PF X e ga) : PFO X (some e) (gSome ga) := by
  with_unfolding_all exact k_some_0 h
theorem k_blt (ha : PF X a ga) (hb : PF X b gb) : PB X (.Compare a [.Lt] [b] pos) (gB2 ltD ga gb) := by
  with_unfolding_all exact k_blt_0 ha hb
theorem k_bgt (ha : PF X a ga) (hb : PF X b gb) : PB X (.Compare a [.Gt] [b] pos) (gB2 gtD ga gb) := by
  with_unfolding_all exact k_bgt_0 ha hb
theorem k_beq (hu : X.A.units + 64 < cLine) (ha : PF X a ga) (hb : PF X b gb) : PB X (.Compare a [.Eq] [b] pos) (gB2 eqF ga gb) := by
  with_unfolding_all exact k_beq_0 hu ha hb
theorem k_bne (hu : X.A.units + 64 < cLine) (ha : PF X a ga) (hb : PF X b gb) : PB X (.Compare a [.NotEq] [b] pos) (gB2 neF ga gb) := by
  with_unfolding_all exact k_bne_0 hu ha hb
theorem k_blele (ha : PF X a ga) (hb : PF X b gb) (hc : PF X c gc) (hm : lastMarks [.LtE, .LtE] [b, c] = false := by with_unfolding_all rfl) : PB X (.Compare a [.LtE, .LtE] [b, c] pos) (gB3 leD leD ga gb gc) := by
  with_unfolding_all exact k_blele_0 ha hb hc hm
theorem k_bnot (ha : PB X a gt) : PB X (.UnaryOp .Not a pos) (gBn gt) := by
  with_unfolding_all exact k_bnot_0 ha
theorem k_bval (h : PF X (.Call a es [] pos) ga) : PB X (.Call a es [] pos) (gThen truD ga) := by
  with_unfolding_all exact k_bval_0 h
theorem k_bop {op : BoolOp} (h : PBW X (.BoolOp op es pos) gt) : PB X (.BoolOp op es pos) gt := by
  with_unfolding_all exact k_bop_0 h
theorem k_ival (ha : PF X a ga) : PIF X tg a (gThen itemsD ga) := by
  with_unfolding_all exact k_ival_0 ha
theorem k_irange (hg : Gl X "range") (hm : X.mg "range" = none) (ha : PFA X [a] gl) (hs : starEach [a] X.env = [(false, eval a X.env)] := by rfl) : PIF X tg (.Call (.Name "range" p) [a] [] pos) (gThen rangeD1 gl) := by
  with_unfolding_all exact k_irange_0 hg hm ha hs
end
section
variable {X : Cx} {N : List Str} {i : Nat} {x : Str} {pos : Pos}
theorem k_var {CX : CXT} {P : Program} {w : World} {K : PySem.W.Frag} {mg : Str → Option Value} {base : Heap} {qual : Str} {scope : Scope} {f : Addr} {cdv : Value} {A : Around} {outer : List Env} {s : Shared} {H : Hp} {E : XK} (h : At N i x)
    (hv : Vis (cxOf CX P w K mg base N qual scope f cdv A outer s H E).env.scope x := by first | exact Or.inl rfl | exact Or.inr (Or.inl rfl) | exact Or.inr (Or.inr rfl)) (hd : (x == ("__debug__" : Str)) = false := by decide)
    (hcd : (x == ("__classdict__" : Str)) = false := by decide) : PF (cxOf CX P w K mg base N qual scope f cdv A outer s H E) (.Name x pos) (fun ρ => rdV ρ i) := by
  with_unfolding_all exact k_var_0 h hv hd hcd
theorem k_varC {scope : Scope} {C : Addr} {s₂ : Shared} {H₂ : Hp} {fp : List Addr} (h : At N i x)
    (hv : Vis (compCx X N scope C s₂ H₂ fp).env.scope x := by first | exact Or.inl rfl | exact Or.inr (Or.inl rfl) | exact Or.inr (Or.inr rfl)) (hd : (x == ("__debug__" : Str)) = false := by decide)
    (hcd : (x == ("__classdict__" : Str)) = false := by decide) : PF (compCx X N scope C s₂ H₂ fp) (.Name x pos) (fun ρ => rdV ρ i) := by
  with_unfolding_all exact k_varC_0 h hv hd hcd
theorem k_put {CX : CXT} {P : Program} {w : World} {K : PySem.W.Frag} {mg : Str → Option Value} {base : Heap} {qual : Str} {scope : Scope} {f : Addr} {cdv : Value} {A : Around} {outer : List Env} {s : Shared} {H : Hp} {E : XK} {e : Expr} {p : Pos} {ga : Ev → R D} (h : At N i x) (hN : N.Nodup)
    (he : PF (cxOf CX P w K mg base N qual scope f cdv A outer s H E) e ga) (hx : Loc (cxOf CX P w K mg base N qual scope f cdv A outer s H E).env.scope x := by first | exact Or.inl rfl | exact Or.inr rfl)
    (hs : swapsWithSole [.Name x p] e pos.line (cxOf CX P w K mg base N qual scope f cdv A outer s H E).env = pure false := by rfl) (hw : swappedStores [.Name x p] e (cxOf CX P w K mg base N qual scope f cdv A outer s H E).env = pure none := by rfl)
    (hf : (cxOf CX P w K mg base N qual scope f cdv A outer s H E).fn x = true ∨ (cxOf CX P w K mg base N qual scope f cdv A outer s H E).env.scope.names.lookup x = some .local := by first | exact .inl rfl | exact .inr rfl) : PSF (cxOf CX P w K mg base N qual scope f cdv A outer s H E) (.Assign [.Name x p] e pos) (oSet i ga) := by
  with_unfolding_all exact k_put_0 h hN he hx hs hw hf
end
section
theorem k_raise {X : Cx} {x : Str} {C : Addr} {e : Expr} {ga : Ev → R D} {np cp pos : Pos} (r : Ref x C X.mg X.base) (hh : X.A.handled = none) (ha : PF X e ga) (hg : Gl X x := by rfl)
    (hdb : (x == ("__debug__" : Str)) = false := by decide) (hs : starEach [e] X.env = (false, eval e X.env) :: starEach [] X.env := by rfl) : PSF X (.Raise (some (.Call (.Name x np) [e] [] cp)) none pos) (oRaise C (gACons ga fun _ => .ok [])) := by
  with_unfolding_all exact k_raise_0 r hh ha hg hdb hs
end
section
variable {X : Cx} {elt iter : Expr} {ifs : List Expr} {x : Str} {px pos : Pos} {scope : Scope} {N' : List Str} {ix : List Nat} {gi : Ev → R (List D)} {gt : Ev → R Bool} {ge : Ev → R D}
theorem k_compA (i : Nat) {y : Str} {py spos : Pos} (hN : X.N.Nodup) (ok : CompOk X scope x N' ix) (hcalm : X.calm = true) (hi : PIF X (.Name x px) iter gi) (he : ∀ C s₂ H₂ fp, PF (compCx X N' scope C s₂ H₂ fp) elt ge) (ht : ∀ C s₂ H₂ fp, PTs (compCx X N' scope C s₂ H₂ fp) ifs gt)
    (hni : X.N[i]? = some y := by rfl) (hy : X.env.scope.names.lookup y = some .local := by rfl) (hs : ∀ x, foldedSetIterable iter X.env x = pure x := by intro _; rfl)
    (hsw : swapsWith (.ListComp elt [⟨.Name x px, iter, ifs, 0⟩] scope pos) (some (.Name y py)) spos.line X.env = pure true := by rfl) : PSF X (.Assign [.Name y py] (.ListComp elt [⟨.Name x px, iter, ifs, 0⟩] scope pos) spos) (oOwn i (gComp gi ix gt ge)) := by
  with_unfolding_all exact k_compA_0 i hN ok hcalm hi he ht hni hy hs hsw
end
section
variable {X : Cx} {st : Stmt} {rest body : List Stmt} {e c o : Expr} {es : List Expr} {g : Ev → O} {ga : Ev → R D} {gl : Ev → R (List D)} {pos p p2 : Pos}
theorem k_append (i : Nat) {x : Str} {p ap cp : Pos} (he : PF X e ga) (hi : X.N[i]? = some x := by rfl) (hv : Vis X.env.scope x := by first | exact Or.inl rfl | exact Or.inr (Or.inl rfl))
    (hd : (x == ("__debug__" : Str)) = false := by decide) (hcd : (x == ("__classdict__" : Str)) = false := by decide) (hs1 : starEach [e] X.env = (false, eval e X.env) :: starEach [] X.env := by rfl)
    (hbase : attributeBase (.Name x p) "append" X.env (eval (.Name x p) X.env) = eval (.Name x p) X.env := by rfl)
    (hfew : ((backTo cp (starEach [e] X.env)).all (fun x => !x.1) && (backToKw cp (keywordEach [] X.env)).all (fun x => x.1.isSome)
      && decide ([e].length + ([] : List Keyword).length + (if ([] : List Keyword).isEmpty then 0 else 1) < 30)) = true := by rfl)
    (hline : (ap.endLine == cp.line) = true := by rfl)
    (hs : swapsWith (.Call (.Attribute (.Name x p) "append" ap) [e] [] cp) none pos.line X.env = pure false := by rfl) : PSF X (.Expr (.Call (.Attribute (.Name x p) "append" ap) [e] [] cp) pos) (oApp i ga) := by
  with_unfolding_all exact k_append_0 i he hi hv hd hcd hs1 hbase hfew hline hs
theorem k_frz {sts : List Stmt} (i : Nat) (h : PSsF X sts g) : PSsF X sts (oFrz i g) := by
  with_unfolding_all exact k_frz_0 i h
end
section
variable {X : Cx} {e : Expr} {ga : Ev → R D} {p p2 pos : Pos} {rs : List Addr} {ts : List (Str × Addr)}
end
section
variable {CX : CXT} {P : Program} {w : World} {K : PySem.W.Frag} {mg : Str → Option Value} {base : Heap} {N : List Str} {i : Nat} {x : Str} {qual : Str} {scope : Scope} {f a : Addr} {cdv : Value} {A : Around} {outer : List Env} {s : Shared} {H : Hp} {E : XK} {pn : List (Addr × Obj)} {xe : Value → Shared → Prop} {pos p : Pos} {e : Expr} {ga : Ev → R D}
end
section
variable {X : Cx} {body suite : List Stmt} {b₀ : Stmt} {gb gs : Ev → O} {pos hp tp : Pos} {nm : Str} {rs : List Addr} {ts : List (Str × Addr)}
end
section
variable {X : Cx} {st : Stmt} {rest body a b : List Stmt} {e c tg : Expr} {g g1 g2 : Ev → O} {ga gb : Ev → R D} {gt : Ev → R Bool} {gl : Ev → R (List D)} {pos : Pos}
theorem k_blelt {a b c : Expr} {ga gb gc : Ev → R D} (ha : PF X a ga) (hb : PF X b gb) (hc : PF X c gc) (hm : lastMarks [.LtE, .Lt] [b, c] = false := by with_unfolding_all rfl) : PB X (.Compare a [.LtE, .Lt] [b, c] pos) (gB3 leD ltD ga gb gc) := by
  with_unfolding_all exact k_blelt_0 ha hb hc hm
theorem k_irange2 {a b : Expr} {p : Pos} (hg : Gl X "range") (hm : X.mg "range" = none) (ha : PFA X [a, b] gl) (hs : starEach [a, b] X.env = [(false, eval a X.env), (false, eval b X.env)] := by rfl) (hs2 : starEach [b] X.env = [(false, eval b X.env)] := by rfl) : PIF X tg (.Call (.Name "range" p) [a, b] [] pos) (gThen rangeD2 gl) := by
  with_unfolding_all exact k_irange2_0 hg hm ha hs hs2
end
section
variable {X : Cx} {e : Expr} {ga : Ev → R D} {p p2 p3 p4 pos : Pos} {k : Nat}
end
section
end
section
variable {X : Cx}
end
section
variable {X : Cx} {a b : Expr} {ga gb : Ev → R D} {elts : List Expr} {kt : Nat} {p pos tp kp : Pos}
theorem k_ienum (hg : Gl X "enumerate") (hm : X.mg "enumerate" = none) (ha : PF X a ga) (hs : starEach [a] X.env = (false, eval a X.env) :: starEach [] X.env := by rfl) : PIF X (.Tuple elts kt tp) (.Call (.Name "enumerate" p) [a] [] pos) (gThen enumD ga) := by
  with_unfolding_all exact k_ienum_0 hg hm ha hs
end
section
variable {X : Cx} {elt iter tgt : Expr} {ifs : List Expr} {pos : Pos} {scope : Scope} {n : Nat} {N' : List Str} {ix : List Nat} {asg : D → Ev → R Ev} {gi : Ev → R (List D)} {gt : Ev → R Bool} {ge : Ev → R D}
theorem pfl_compT (ok : CompOkT X scope n N' ix) (hcalm : X.calm = true) (hg : ∀ C s₂ H₂ fp, PGF (compCx X N' scope C s₂ H₂ fp) tgt asg) (hown : ∀ d ρ ρ', asg d ρ = .ok ρ' → (NoOwn ρ) → NoOwn ρ')
    (hi : PIF X tgt iter gi) (he : ∀ C s₂ H₂ fp, PF (compCx X N' scope C s₂ H₂ fp) elt ge) (ht : ∀ C s₂ H₂ fp, PTs (compCx X N' scope C s₂ H₂ fp) ifs gt)
    (hs : ∀ x, foldedSetIterable iter X.env x = pure x := by intro _; rfl) : PFL X (.ListComp elt [⟨tgt, iter, ifs, 0⟩] scope pos) (gCompT n asg gi ix gt ge) := by
  with_unfolding_all exact pfl_compT_0 ok hcalm hg hown hi he ht hs
end
section
variable {X : Cx}
end
section
variable {X : Cx} {ga : Ev → R D} {gl : Ev → R (List D)} {pos : Pos}
end
section
variable {X : Cx} {a b : Expr} {gl : Ev → R (List D)} {elts : List Expr} {kt : Nat} {p pos tp : Pos}
end
section
variable {X : Cx} {a st : Expr} {ga gs : Ev → R D} {pos p2 : Pos}
theorem k_intOf {e : Expr} {gl : Ev → R (List D)} {p : Pos} (hg : Gl X "int") (hm : X.mg "int" = none) (ha : PFA X [e] gl) (he : starEach [e] X.env = (false, eval e X.env) :: starEach [] X.env := by rfl) : PF X (.Call (.Name "int" p) [e] [] pos) (gOf intOfF gl) := by
  with_unfolding_all exact k_intOf_0 hg hm ha he
end
section
variable {X : Cx} {c e : Expr} {body : List Stmt} {gt : Ev → R Bool} {g : Ev → O} {ga : Ev → R D} {pos : Pos}
end
section
variable {X : Cx} {a b ix e : Expr} {es : List Expr} {ga gb gi : Ev → R D} {gl : Ev → R (List D)} {pos p1 p2 pl sp : Pos}
end
section
variable {X : Cx} {a b : Expr} {ga gb : Ev → R D} {pos : Pos}
end
section
variable {X : Cx} {a b c e e1 e2 e3 e4 e5 : Expr} {ga gb gc g1 g2' g3' g4 g5 : Ev → R D} {gl : Ev → R (List D)} {pos p : Pos}
end
section
variable {X : Cx} {a b c e : Expr} {ga : Ev → R D} {gl : Ev → R (List D)} {pos p : Pos} {tg : Expr}
end
section
variable {X : Cx} {elt iter : Expr} {ifs : List Expr} {x : Str} {px pos : Pos} {scope : Scope} {N' : List Str} {ix : List Nat} {gi : Ev → R (List D)} {gt : Ev → R Bool} {ge : Ev → R D}
end
section
variable {X : Cx} {a b c : Expr} {gl : Ev → R (List D)} {elts : List Expr} {kt : Nat} {p pos tp : Pos}
end
section
variable {X : Cx} {a b e : Expr} {ga gb : Ev → R D} {gl : Ev → R (List D)} {pos p : Pos}
end
section
end
section
variable {X : Cx} {elt iter : Expr} {ifs : List Expr} {x : Str} {px pos : Pos} {scope : Scope} {N' : List Str} {ix : List Nat} {gi : Ev → R (List D)} {gt : Ev → R Bool} {ge : Ev → R D}
end
section
variable {X : Cx} {a b c e ix : Expr} {es : List Expr} {ga gb gi : Ev → R D} {gl : Ev → R (List D)} {pos p p1 p2 p3 pl sp : Pos}
end
section
end
section
variable {Y : Cx} {a : Addr} {xe : Value → Shared → Prop} {k n : Nat} {x : Str} {p pos : Pos} {e : Expr} {es : List Expr} {gl : Ev → R (List D)} {g : List D → R D}
end
section
end
section
variable {P : Program} {w : World} {K : PySem.W.Frag} {mg : Str → Option Value} {base : Heap} {x y : Str} {st : Stmt} {ft : Addr} {fd : FuncData} {k : Nat} {b₀ : Stmt} {suite : List Stmt} {p1 p2 p3 tp hp tpos : Pos} {nm tn : Str} {gs : Ev → O} {fe : Addr → Option Bool} {Ct : Addr}
end
section
variable {X : Cx} {scope : Scope} {N' : List Str} {ix : List Nat} {params : Arguments} {body : Expr} {lp p pos : Pos} {x : Str} {k j : Nat} {gb : Ev → R D} {g : R D → R D}
end
section
theorem k_varL {P : Program} {w : World} {K : PySem.W.Frag} {mg : Str → Option Value} {base : Heap} {N : List Str} {i : Nat} {x : Str} {pos : Pos} {qual : Str} {scope : Scope} {cl : List (Str × Addr)} {f : Addr} {cd : Value} {A : Around} {outer : List Env} {s : Shared} {H : Hp} {E : XK} (h : At N i x)
    (hv : Vis (lamCx P w K mg base N qual scope cl f cd A outer s H E).env.scope x := by first | exact Or.inl rfl | exact Or.inr (Or.inl rfl) | exact Or.inr (Or.inr rfl)) (hd : (x == ("__debug__" : Str)) = false := by decide)
    (hcd : (x == ("__classdict__" : Str)) = false := by decide) : PF (lamCx P w K mg base N qual scope cl f cd A outer s H E) (.Name x pos) (fun ρ => rdV ρ i) := by
  with_unfolding_all exact k_varL_0 h hv hd hcd
theorem Fun.okFT {P : Program} {w : World} {K : PySem.W.Frag} {mg : Str → Option Value} {base : Heap} {x qual : Str} {st : Stmt} {f : Addr} {fd : FuncData} {N ps : List Str} {k : Nat} {Pt : Addr} (F : Fun K x qual st f fd) (LB : LamB K mg base qual fd Pt) (S : FnScope N ps (defScope st)) {g : Ev → O}
    (hbody : ∀ (cdv : Value) (A : Around) (outer : List Env) (s : Shared) (H : Hp) (E : XK), Room k (A.deeper (envOfC qual (defScope st) s.heap.objs.size f cdv)) → LamAt (cxOf (CXo P w) P w K mg base N qual (defScope st) f cdv A outer s H E) → PSsF (cxOf (CXo P w) P w K mg base N qual (defScope st) f cdv A outer s H E) (defBody st) g) : FnF P w K mg base (k + 1) f fd ps (fun ds => bodyR (g (startE N.length ds))) := by
  with_unfolding_all exact Fun.okFT_0 F LB S hbody
end
section
variable {X : Cx} {e b : Expr} {es : List Expr} {ga gb : Ev → R D} {gl : Ev → R (List D)} {x f : Str} {i k : Nat} {C : Addr} {ks : List Nat} {p1 p2 p3 pos ap cp : Pos}
end
section
variable {X : Cx} {e : Expr} {es : List Expr} {gl : Ev → R (List D)} {x mn : Str} {i k n : Nat} {C : Addr} {ks : List Nat} {F : MF} {p1 ap pos ep : Pos}
end
section
variable {X : Cx} {e : Expr} {es : List Expr} {gl : Ev → R (List D)} {cn : Str} {k n : Nat} {C : Addr} {F : MF} {p pos : Pos}
end
section
variable {X : Cx} {st : Stmt} {rest : List Stmt} {g1 : Ev → O} {gs : Ev → O} {α : Type} {g2 : α → Ev → O} {e : Expr} {es : List Expr} {gl gl' : Ev → R (List D)} {cn : Str} {k n : Nat} {C : Addr} {F : MF} {p pos : Pos}
end
section
end
section
variable {X : Cx} {e a b c : Expr} {rest : List Expr} {g g1 g2 : Ev → O} {ga gb : Ev → R D} {gt : Ev → R Bool} {pos : Pos} {s1 s2 : List Stmt} {h1 h2 : Ev → O}
end
section
variable {X : Cx} {e : Expr} {es : List Expr} {gl : Ev → R (List D)} {x y mn : Str} {i k n : Nat} {C : Addr} {ks : List Nat} {F : MF} {p1 ap pos ep : Pos}
end
section
variable {X : Cx} {es : List Expr} {gl : Ev → R (List D)} {x y : Str} {i k n : Nat} {C : Addr} {F : MF} {p1 py pos : Pos}
end
section
variable {X : Cx} {scope : Scope} {N' : List Str} {ix : List Nat} {params : Arguments} {body : Expr} {lp p pos : Pos} {x : Str} {k j i : Nat} {C : Addr} {gb : Ev → O} {g : R D → R D}
end
section
variable {X : Cx} {a b : Expr} {rest : List Expr} {g g1 g2 : Ev → O} {gb : Ev → R D} {pos : Pos}
end
section
end
section
variable {X : Cx} {rest : List Stmt} {α : Type} {g2 : α → Ev → O} {e e3 : Expr} {es : List Expr} {gl gl' : Ev → R (List D)} {ga : Ev → R D} {cn : Str} {k n : Nat} {C : Addr} {F : MF} {pos : Pos}
end
section
end
section
variable {X : Cx} {e : Expr} {ga : Ev → R D} {gl : Ev → R (List D)}
theorem k_abs {p pos : Pos} (hg : Gl X "abs") (hm : X.mg "abs" = none) (ha : PFA X [e] gl) (he : starEach [e] X.env = (false, eval e X.env) :: starEach [] X.env := by rfl) : PF X (.Call (.Name "abs" p) [e] [] pos) (gOf absF gl) := by
  with_unfolding_all exact k_abs_0 hg hm ha he
end
section
variable {X : Cx} {e o : Expr} {ga : Ev → R D} {gl : Ev → R (List D)}
end
section
variable {X : Cx} {a : Expr} {ga gb : Ev → R D} {scope : Scope} {N' : List Str} {ix : List Nat} {params : Arguments} {body : Expr} {lp p pos kp : Pos} {x : Str} {j : Nat}
end
section
variable {X : Cx} {a b : Expr} {gl : Ev → R (List D)} {p p2 pos pos2 : Pos}
theorem k_listR (hc : X.calm = true) (hgl : Gl X "list") (hml : X.mg "list" = none) (hg : Gl X "range") (hm : X.mg "range" = none) (ha : PFA X [a, b] gl)
    (hsl : starEach [.Call (.Name "range" p2) [a, b] [] pos2] X.env = (false, eval (.Call (.Name "range" p2) [a, b] [] pos2) X.env) :: starEach [] X.env := by rfl)
    (hs : starEach [a, b] X.env = [(false, eval a X.env), (false, eval b X.env)] := by rfl) (hs2 : starEach [b] X.env = [(false, eval b X.env)] := by rfl) : PF X (.Call (.Name "list" p) [.Call (.Name "range" p2) [a, b] [] pos2] [] pos) (gListR gl) := by
  with_unfolding_all exact k_listR_0 hc hgl hml hg hm ha hsl hs hs2
end
section
variable {X : Cx} {scope : Scope} {N' : List Str} {ix : List Nat} {params : Arguments} {body : Expr} {x : Str} {j : Nat} {pins : List (Addr × Obj)} {σ : St} {H0 G : Hp} {Ii S l f : Addr} {qual : Str} {cl : List (Str × Addr)} {pm cd ctv : Value} {σ' : St} {ρ' : Ev} {gb : Ev → R D} {vs : List V} {dd : D} {Rr : Result → Shared → Prop}
end
section
variable {X : Cx} {scope : Scope} {N' : List Str} {ix : List Nat} {params : Arguments} {body : Expr} {x : Str} {j : Nat} {pins : List (Addr × Obj)} {σ : St} {H G : Hp} {l f : Addr} {qual : Str} {cl : List (Str × Addr)} {pm cd ctv : Value} {σ' : St} {ρ' : Ev} {gb : Ev → R D} {vr : List V} {v0 : V} {d0 dd : D} {ds ks : List D} {kb : List Int} {s : Shared} {o : Obj} {Q : VK}
end
section
variable {X : Cx} {a : Expr} {ga gb : Ev → R D} {scope : Scope} {N' : List Str} {ix : List Nat} {params : Arguments} {body : Expr} {lp p pos kp : Pos} {x : Str} {j : Nat}
theorem k_maxK (hc : X.calm = true) (hg : Gl X "max") (hm : X.mg "max" = none) (hr : Room (j + 2) X.A) (L : LamAt X) (ha : PF X a ga) (ok : LamOk X scope N' ix)
    (hb : ∀ (cl : List (Str × Addr)) (f : Addr) (cd : Value) (A : Around) (outer : List Env) (s : Shared) (H : Hp) (E : XK), Room j (A.deeper (PySem.W.envX (X.env.qual ++ "<lambda>") scope s.heap.objs.size f cd cl)) → PF (lamCx X.prog X.w X.K X.mg X.base (x :: N') (X.env.qual ++ "<lambda>") scope cl f cd A outer s H E) body gb)
    (hx : scope.names.lookup x = some .local := by rfl) (hp : ∀ cl pm cd ctv u, bindArgs (PySem.W.kla_fn "<lambda>" (X.env.qual ++ "<lambda>") params body scope cl pm cd ctv) ⟨[u], []⟩ = pure [(x, u)] := by intros; rfl) (hdef : defaultsOf params X.env = ([], []) := by rfl)
    (hs : starEach [a] X.env = (false, eval a X.env) :: starEach [] X.env := by rfl)
    (hall : (backToKw pos (keywordEach [⟨some "key", .Lambda params body scope lp, kp⟩] X.env)).all (·.1.isSome) = true := by rfl) (hks : (backToKw pos (keywordEach [⟨some "key", .Lambda params body scope lp, kp⟩] X.env)).filterMap (·.1) = [("key" : Str)] := by rfl)
    (hpl : ((backTo pos (starEach [a] X.env)).any (·.1) || (backToKw pos (keywordEach [⟨some "key", .Lambda params body scope lp, kp⟩] X.env)).any (·.1.isNone)) = false := by rfl) : PF X (.Call (.Name "max" p) [a] [⟨some "key", .Lambda params body scope lp, kp⟩] pos) (gMaxK ga ix gb) := by
  with_unfolding_all exact k_maxK_0 hc hg hm hr L ha ok hb hx hp hdef hs hall hks hpl
end
section
variable {X : Cx} {pins : List (Addr × Obj)} {σ : St} {H G : Hp} {Ii S l : Addr} {vs : List V} {dd : D} {Rr : Result → Shared → Prop}
theorem k_minT {k : Nat} {e : Expr} {gl : Ev → R (List D)} {p pos : Pos} (hc : X.calm = true) (hr : Room k X.A) (hg : Gl X "min") (hm : X.mg "min" = none) (ha : PFA X [e] gl) (he : starEach [e] X.env = (false, eval e X.env) :: starEach [] X.env := by rfl) : PF X (.Call (.Name "min" p) [e] [] pos) (gOf minTF gl) := by
  with_unfolding_all exact k_minT_0 hc hr hg hm ha he
end
section
variable {X : Cx} {e o : Expr} {ga : Ev → R D} {gl : Ev → R (List D)}
theorem k_stripG {ap cp : Pos} (ho : PF X o ga) (ha : PFA X [e] gl) (hbase : attributeBase o "strip" X.env (eval o X.env) = eval o X.env := by rfl)
    (hfew : ((backTo cp (starEach [e] X.env)).all (fun x => !x.1) && (backToKw cp (keywordEach [] X.env)).all (fun x => x.1.isSome)
      && decide ([e].length + ([] : List Keyword).length + (if ([] : List Keyword).isEmpty then 0 else 1) < 30)) = true := by rfl)
    (hline : (ap.endLine == cp.line) = true := by rfl) (hs : starEach [e] X.env = (false, eval e X.env) :: starEach [] X.env := by rfl) : PF X (.Call (.Attribute o "strip" ap) [e] [] cp) (gMeth "str" stripGF ga gl) := by
  with_unfolding_all exact k_stripG_0 ho ha hbase hfew hline hs
end
section
variable {X : Cx} {a : Expr} {gl : Ev → R (List D)} {p p2 pos pos2 : Pos}
theorem k_listR1 (hc : X.calm = true) (hgl : Gl X "list") (hml : X.mg "list" = none) (hg : Gl X "range") (hm : X.mg "range" = none) (ha : PFA X [a] gl)
    (hsl : starEach [.Call (.Name "range" p2) [a] [] pos2] X.env = (false, eval (.Call (.Name "range" p2) [a] [] pos2) X.env) :: starEach [] X.env := by rfl)
    (hs : starEach [a] X.env = [(false, eval a X.env)] := by rfl) : PF X (.Call (.Name "list" p) [.Call (.Name "range" p2) [a] [] pos2] [] pos) (gListR1 gl) := by
  with_unfolding_all exact k_listR1_0 hc hgl hml hg hm ha hsl hs
end
section
variable {X : Cx} {elt iter : Expr} {ifs : List Expr} {x : Str} {px pos : Pos} {scope : Scope} {gi : Ev → R (List D)} {gt : Ev → R Bool} {ge : Ev → R D}
end
end L2
namespace L2
open PySem PySem.Spec PyProof.Rows
section
variable {ρ : Ev} {g g1 g2' : Ev → O} {gt gu : Ev → R Bool} {ga gb gc : Ev → R D} {gl : Ev → R (List D)} {go gp : Ev → R (Option Int)} {i n : Nat} {f f' : D → D → Option D} {asg : D → Ev → R Ev} {C : Addr}
theorem a_seq : oSeq g1 g2' ρ = (g1 ρ).seq g2' := rfl
theorem a_if : oIf gt g1 g2' ρ = (gt ρ).out ρ fun k => if k = true then g1 ρ else g2' ρ := rfl
theorem a_set : oSet i ga ρ = (ga ρ).out ρ fun d => .nx (ρ.set i (some (.val d))) := rfl
theorem a_ret : oRet ga ρ = (ga ρ).out ρ .rt := rfl
theorem a_nx : oNx ρ = .nx ρ := rfl
theorem a_own : oOwn i gl ρ = (gl ρ).out ρ fun ds => .nx (ρ.set i (some (.own ds))) := rfl
theorem a_expr : oExpr ga ρ = (ga ρ).out ρ fun _ => .nx ρ := rfl
theorem a_for : oFor asg gl g ρ = (gl ρ).out ρ fun items => loopD asg g items ρ := rfl
theorem a_raise : oRaise C gl ρ = (gl ρ).out ρ fun _ => .ex C ρ := rfl
theorem a_asg : oAsg asg ga ρ = (ga ρ).out ρ fun d => (asg d ρ).out ρ .nx := rfl
theorem a_frz : oFrz i g ρ = g (frz i ρ) := rfl
theorem a_then {α β : Type} {h : α → R β} {gx : Ev → R α} : gThen h gx ρ = gx ρ >>= h := rfl
theorem a_of {h : List D → Option D} : gOf h gl ρ = gl ρ >>= fun ds => ofO (h ds) := rfl
theorem a_cons : gACons ga gl ρ = ga ρ >>= fun x => gl ρ >>= fun xs => .ok (x :: xs) := rfl
theorem a_fresh : gFresh gl ρ = gl ρ >>= fun ds => .ok (.lst false ds) := rfl
theorem a_lst : gLst gl ρ = gl ρ >>= fun ds => if ds.length ≤ sizeLine then .ok ds else .no := rfl
theorem a_b2 : gB2 f ga gb ρ = g2 f ga gb ρ >>= asB := rfl
theorem a_b3 : gB3 f f' ga gb gc ρ = g3 f f' ga gb gc ρ >>= asB := rfl
theorem a_bn : gBn gt ρ = gt ρ >>= fun k => .ok (!k) := rfl
theorem a_some : gSome ga ρ = ga ρ >>= fun x => asI x >>= fun i => .ok (some i) := rfl
theorem a_meth {T : String} {h : D → List D → Option D} : gMeth T h ga gl ρ = ga ρ >>= fun x => if kindD T x = true then gl ρ >>= fun ds => ofO (h x ds) else .no := rfl
theorem a_g2 : g2 f ga gb ρ = ga ρ >>= fun x => gb ρ >>= fun y => ofO (f x y) := rfl
theorem a_and : gAnd ga gb ρ = ga ρ >>= fun x => asB x >>= fun k => if k = true then gb ρ else .ok (.bl false) := rfl
theorem a_or : gOr ga gb ρ = ga ρ >>= fun x => asB x >>= fun k => if k = true then .ok (.bl true) else gb ρ := rfl
theorem a_not : gNot ga ρ = ga ρ >>= fun x => asB x >>= fun k => .ok (.bl (!k)) := rfl
theorem a_tand : tAndB gt gu ρ = gt ρ >>= fun k => if k = true then gu ρ else .ok false := rfl
theorem a_tor : tOrB gt gu ρ = gt ρ >>= fun k => if k = true then .ok true else gu ρ := rfl
theorem a_gif : gIf gt ga gb ρ = gt ρ >>= fun k => if k = true then ga ρ else gb ρ := rfl
theorem a_sl : gSl ga go gp ρ = ga ρ >>= fun x => go ρ >>= fun l => gp ρ >>= fun u => ofO (cutD l u x) := rfl
theorem a_comp {ix : List Nat} : gComp gl ix gt ga ρ = gl ρ >>= fun items => compD gt ga items (inner ix ρ) >>= fun ds => if ds.length ≤ sizeLine then .ok ds else .no := rfl
theorem a_call1 {h : List D → R D} : gCall 1 h (gACons ga fun _ => .ok []) ρ = ga ρ >>= fun x => h [x] := gCall1
theorem a_call2 {h : List D → R D} : gCall 2 h (gACons ga (gACons gb fun _ => .ok [])) ρ = ga ρ >>= fun x => gb ρ >>= fun y => h [x, y] := gCall2
theorem a_call3 {h : List D → R D} : gCall 3 h (gACons ga (gACons gb (gACons gc fun _ => .ok []))) ρ = ga ρ >>= fun x => gb ρ >>= fun y => gc ρ >>= fun z => h [x, y, z] := gCall3
theorem a_call4 {h : List D → R D} {gd : Ev → R D} : gCall 4 h (gACons ga (gACons gb (gACons gc (gACons gd fun _ => .ok [])))) ρ = ga ρ >>= fun x => gb ρ >>= fun y => gc ρ >>= fun z => gd ρ >>= fun u => h [x, y, z, u] := by
  unfold gCall
  simp only [a_cons]
  cases ga ρ <;> try rfl
  simp only [R.ok_bind]
  cases gb ρ <;> try rfl
  simp only [R.ok_bind]
  cases gc ρ <;> try rfl
  simp only [R.ok_bind]
  cases gd ρ <;> rfl
end
theorem a_ext (i : Nat) (ga : Ev → R D) (ρ : Ev) : oExt i ga ρ = (ownAt ρ i).out ρ fun ds => (ga ρ).out ρ fun d => (asL d).out ρ fun es => if ds.length + es.length ≤ sizeLine then .nx (ρ.set i (some (.own (ds ++ es)))) else .no := rfl
theorem a_app (i : Nat) (ga : Ev → R D) (ρ : Ev) : oApp i ga ρ = (ownAt ρ i).out ρ fun ds => (ga ρ).out ρ fun d => if ds.length < sizeLine then .nx (ρ.set i (some (.own (ds ++ [d])))) else .no := rfl
theorem a_par (i j : Nat) (gl : Ev → R (List D)) (ρ : Ev) : oPar i j gl ρ = (gl ρ).out ρ fun ds => (setVs [i, j] ds ρ).out ρ .nx := rfl
theorem own0 (ds : List D) (ρ : Ev) : ownAt (some (.own ds) :: ρ) 0 = .ok ds := rfl
theorem own1 (a0 : Option Sl) (ds : List D) (ρ : Ev) : ownAt (a0 :: some (.own ds) :: ρ) 1 = .ok ds := rfl
theorem own2 (a0 a1 : Option Sl) (ds : List D) (ρ : Ev) : ownAt (a0 :: a1 :: some (.own ds) :: ρ) 2 = .ok ds := rfl
theorem asl (ds : List D) : asL (.lst false ds) = .ok ds := rfl
theorem frz1 (a0 : Option Sl) (ds : List D) (ρ : Ev) : frz 1 (a0 :: some (.own ds) :: ρ) = a0 :: some (.val (.lst false ds)) :: ρ := rfl
noncomputable def g3k (f' : D → D → Option D) (r : R D) (y : D) : D → R D
  | .bl true => r >>= fun w => ofO (f' y w)
  | .bl false => .ok (.bl false)
  | _ => .no
theorem a_g3 (f f' : D → D → Option D) (ga gb gc : Ev → R D) (ρ : Ev) : g3 f f' ga gb gc ρ = ga ρ >>= fun x => gb ρ >>= fun y => ofO (f x y) >>= g3k f' (gc ρ) y := rfl
theorem g3_bl (f' : D → D → Option D) (r : R D) (y : D) (b : Bool) : g3k f' r y (.bl b) = if b = true then (r >>= fun w => ofO (f' y w)) else .ok (.bl false) := by cases b <;> rfl
theorem sv2 (i j : Nat) (x y : D) (ρ : Ev) : setVs [i, j] [x, y] ρ = .ok ((ρ.set i (some (.val x))).set j (some (.val y))) := rfl
theorem frz4 (a0 a1 a2 a3 : Option Sl) (ds : List D) (ρ : Ev) : frz 4 (a0 :: a1 :: a2 :: a3 :: some (.own ds) :: ρ) = a0 :: a1 :: a2 :: a3 :: some (.val (.lst false ds)) :: ρ := rfl
theorem q_nx (ρ : Ev) (k : Ev → O) : (O.nx ρ).seq k = k ρ := rfl
theorem q_rt (d : D) (k : Ev → O) : (O.rt d).seq k = .rt d := rfl
theorem q_ex (C : Addr) (ρ : Ev) (k : Ev → O) : (O.ex C ρ).seq k = .ex C ρ := rfl
theorem q_no (k : Ev → O) : (O.no).seq k = .no := rfl
theorem w_rt (d : D) : bodyR (.rt d) = .ok d := rfl
theorem w_nx (ρ : Ev) : bodyR (.nx ρ) = .ok .non := rfl
theorem w_ex (C : Addr) (ρ : Ev) : bodyR (.ex C ρ) = .ex C := rfl
theorem b_bl (k : Bool) : asB (.bl k) = .ok k := rfl
theorem b_int (i : Int) : asI (.int i) = .ok i := rfl
theorem t_bl (k : Bool) : truD (.bl k) = .ok k := rfl
theorem rd7 (a0 a1 a2 a3 a4 a5 a6 : Option Sl) (d : D) (ρ : Ev) : rdV (a0 :: a1 :: a2 :: a3 :: a4 :: a5 :: a6 :: some (.val d) :: ρ) 7 = .ok d := rfl
theorem rd8 (a0 a1 a2 a3 a4 a5 a6 a7 : Option Sl) (d : D) (ρ : Ev) : rdV (a0 :: a1 :: a2 :: a3 :: a4 :: a5 :: a6 :: a7 :: some (.val d) :: ρ) 8 = .ok d := rfl
theorem rd9 (a0 a1 a2 a3 a4 a5 a6 a7 a8 : Option Sl) (d : D) (ρ : Ev) : rdV (a0 :: a1 :: a2 :: a3 :: a4 :: a5 :: a6 :: a7 :: a8 :: some (.val d) :: ρ) 9 = .ok d := rfl
theorem rd10 (a0 a1 a2 a3 a4 a5 a6 a7 a8 a9 : Option Sl) (d : D) (ρ : Ev) : rdV (a0 :: a1 :: a2 :: a3 :: a4 :: a5 :: a6 :: a7 :: a8 :: a9 :: some (.val d) :: ρ) 10 = .ok d := rfl
theorem rd11 (a0 a1 a2 a3 a4 a5 a6 a7 a8 a9 a10 : Option Sl) (d : D) (ρ : Ev) : rdV (a0 :: a1 :: a2 :: a3 :: a4 :: a5 :: a6 :: a7 :: a8 :: a9 :: a10 :: some (.val d) :: ρ) 11 = .ok d := rfl
theorem rd12 (a0 a1 a2 a3 a4 a5 a6 a7 a8 a9 a10 a11 : Option Sl) (d : D) (ρ : Ev) : rdV (a0 :: a1 :: a2 :: a3 :: a4 :: a5 :: a6 :: a7 :: a8 :: a9 :: a10 :: a11 :: some (.val d) :: ρ) 12 = .ok d := rfl
section
variable (i j : Int)
theorem e_add : addD (.int i) (.int j) = some (.int (i + j)) := by simp only [addD]
theorem e_sub : subD (.int i) (.int j) = some (.int (i - j)) := by simp only [subD]
theorem e_le : leD (.int i) (.int j) = some (.bl (decide (i ≤ j))) := by simp only [leD]
theorem e_lt : ltD (.int i) (.int j) = some (.bl (decide (i < j))) := by simp only [ltD]
theorem e_gt : gtD (.int i) (.int j) = some (.bl (decide (j < i))) := by simp only [gtD]
theorem e_ge : geD (.int i) (.int j) = some (.bl (decide (j ≤ i))) := by simp only [geD]
theorem e_eq : eqF (.int i) (.int j) = some (.bl (i == j)) := by simp only [eqF, eqD, Option.map_some]
theorem e_ne : neF (.int i) (.int j) = some (.bl (!(i == j))) := by simp only [neF, eqD, Option.map_some]
end
theorem e_mulL {i j : Int} (h : -(2 ^ 64) < i ∧ i < 2 ^ 64) : mulD (.int i) (.int j) = some (.int (i * j)) := by simp only [mulD]; rw [if_pos (Or.inl h)]
theorem s_add {x y : List Nat} (h : x.length + y.length ≤ sizeLine) : addD (.str x) (.str y) = some (.str (x ++ y)) := by simp only [addD]; rw [if_pos h]
theorem s_eq (x y : List Nat) : eqF (.str x) (.str y) = some (.bl (x == y)) := by simp only [eqF, eqD, Option.map_some]
theorem s_ne (x y : List Nat) : neF (.str x) (.str y) = some (.bl (!(x == y))) := by simp only [neF, eqD, Option.map_some]
theorem rep_sole {α : Type} (n : Nat) (x : α) : (List.replicate n [x]).flatten = List.replicate n x := by
  induction n with
  | zero => rfl
  | succ n ih => rw [List.replicate_succ, List.flatten_cons, ih]; rfl
theorem line_big : (1000 : Nat) ≤ sizeLine := by decide
theorem s_rep {c n : Nat} (h : n ≤ 1000) : mulD (.str [c]) (.int (n : Int)) = some (.str (List.replicate n c)) := by
  have := line_big
  simp only [mulD]
  rw [if_pos (by refine ⟨by omega, by omega, ?_⟩; simp; omega), Int.toNat_natCast, rep_sole]
theorem t_ix {xs : List D} {k : Nat} {d : D} (h : xs[k]? = some d) : ixD (.tup xs) (.int (k : Int)) = some d := by simp only [ixD]; exact atI_nat h
theorem cutTo {α : Type} (xs : List α) (k : Nat) : cutL xs none (some (k : Int)) = xs.take k := by
  unfold cutL
  rw [HT.sIx_none, HT.sIx_nat, List.drop_zero, Nat.sub_zero]
  by_cases h : k ≤ xs.length
  · rw [Nat.min_eq_left h]
  · rw [Nat.min_eq_right (by omega), List.take_length, List.take_of_length_le (by omega)]
theorem cutFrom {α : Type} (xs : List α) (k : Nat) : cutL xs (some (k : Int)) none = xs.drop k := by
  unfold cutL
  rw [HT.sIx_none, HT.sIx_nat]
  by_cases h : k ≤ xs.length
  · rw [Nat.min_eq_left h, List.take_of_length_le (by simp)]
  · rw [Nat.min_eq_right (by omega), List.drop_length, List.take_nil, List.drop_of_length_le (by omega)]
theorem s_cut (lo hi : Option Int) (x : List Nat) : cutD lo hi (.str x) = some (.str (cutL x lo hi)) := rfl
theorem t_cut (lo hi : Option Int) (x : List D) : cutD lo hi (.tup x) = some (.tup (cutL x lo hi)) := rfl
theorem l_len (fz : Bool) (x : List D) : lenF [.lst fz x] = some (.int x.length) := rfl
theorem t_len (x : List D) : lenF [.tup x] = some (.int x.length) := rfl
theorem s_len (x : List Nat) : lenF [.str x] = some (.int x.length) := rfl
theorem m_t {ds : List D} (h : ds.length ≤ 1000) : mkT ds = .ok (.tup ds) := if_pos (Nat.le_trans h line_big)
theorem range_up {n : Nat} (h : n ≤ 1000) : rangeD1 [.int (n : Int)] = .ok ((List.range n).map fun (i : Nat) => D.int (i : Int)) := by
  have e : rangeD1 [.int (n : Int)] = if -(2 ^ 62) ≤ (n : Int) ∧ (n : Int) < 2 ^ 62 then .ok ((List.range (n : Int).toNat).map fun i => D.int (0 + (i : Nat))) else .no := by simp only [rangeD1]
  rw [e, if_pos (by constructor <;> omega), Int.toNat_natCast]
  simp only [Int.zero_add]
theorem set0 {α : Type} (a v : α) (l : List α) : (a :: l).set 0 v = v :: l := rfl
theorem loop_nx {asg : D → Ev → R Ev} {g : Ev → O} {d : D} {ds : List D} {ρ ρ1 ρ2 : Ev} (h1 : asg d ρ = .ok ρ1) (h2 : g ρ1 = .nx ρ2) : loopD asg g (d :: ds) ρ = loopD asg g ds ρ2 := by
  rw [loopD, h1]
  show (match g ρ1 with
    | .nx ρ2 => loopD asg g ds ρ2
    | .ct ρ2 => loopD asg g ds ρ2
    | .bk ρ2 => O.nx ρ2
    | .rt d => O.rt d
    | .re d ρ2 => .re d ρ2
    | .ex C ρ2 => O.ex C ρ2
    | .no => O.no) = _
  rw [h2]
theorem k_tupleOf {X : Cx} {e : Expr} {gl : Ev → R (List D)} {p pos : Pos} (hg : Gl X "tuple") (hm : X.mg "tuple" = none) (ha : PFA X [e] gl) (he : starEach [e] X.env = (false, eval e X.env) :: starEach [] X.env := by rfl) :
    PF X (.Call (.Name "tuple" p) [e] [] pos) (gOf tupleF gl) := pf_callTy call_tuple_of (ok_tuple _) hg hm PyProof.Rows.Boot.«tuple» ha (by decide) (by decide) he rfl
end L2
namespace L2
open PySem PySem.Spec PyProof.Rows
end L2
namespace L2
open PySem PySem.Spec PyProof.Rows
theorem rd13 (a0 a1 a2 a3 a4 a5 a6 a7 a8 a9 a10 a11 a12 : Option Sl) (d : D) (ρ : Ev) : rdV (a0 :: a1 :: a2 :: a3 :: a4 :: a5 :: a6 :: a7 :: a8 :: a9 :: a10 :: a11 :: a12 :: some (.val d) :: ρ) 13 = .ok d := rfl
theorem rd14 (a0 a1 a2 a3 a4 a5 a6 a7 a8 a9 a10 a11 a12 a13 : Option Sl) (d : D) (ρ : Ev) : rdV (a0 :: a1 :: a2 :: a3 :: a4 :: a5 :: a6 :: a7 :: a8 :: a9 :: a10 :: a11 :: a12 :: a13 :: some (.val d) :: ρ) 14 = .ok d := rfl
theorem a_ifP (i : Nat) (gt : Ev → R Bool) (g1 g2 : Ev → O) (ρ : Ev) : oIfP i gt g1 g2 ρ = (noEx (gt (frz i ρ))).out ρ fun k => if k = true then g1 ρ else g2 ρ := rfl
theorem a_setP (j i : Nat) (ga : Ev → R D) (ρ : Ev) : oSetP j i ga ρ = (noEx (ga (frz j ρ))).out ρ fun d => if fl 10 d = true then .nx (ρ.set i (some (.val d))) else .no := rfl
theorem a_appP (j i : Nat) (ga : Ev → R D) (ρ : Ev) : oAppP j i ga ρ = (ownAt ρ i).out ρ fun ds => (noEx (ga (frz j ρ))).out ρ fun d => if ds.length < sizeLine ∧ fl 10 d = true then .nx (ρ.set i (some (.own (ds ++ [d])))) else .no := rfl
noncomputable def itemK (i : Nat) (ρ : Ev) (ds : List D) (d : D) : Option Nat → O
  | some n => if fl 10 d = true then .nx (ρ.set i (some (.own (ds.set n d)))) else .no
  | none => .no
theorem a_item (i : Nat) (gk ga : Ev → R D) (ρ : Ev) : oItem i gk ga ρ = (ownAt ρ i).out ρ fun ds => (noEx (ga (frz i ρ))).out ρ fun d => (noEx (gk (frz i ρ) >>= asI)).out ρ fun k => itemK i ρ ds d (ixN ds.length k) := rfl
theorem itemK_some (i : Nat) (ρ : Ev) (ds : List D) (d : D) (n : Nat) : itemK i ρ ds d (some n) = if fl 10 d = true then .nx (ρ.set i (some (.own (ds.set n d)))) else .no := rfl
theorem a_seq1 (gl : Ev → R (List D)) (ρ : Ev) : gSeq1 gl ρ = gl ρ >>= oneK := rfl
theorem one_t (xs : List D) : oneK [.tup xs] = .ok xs := rfl
theorem a_enumS (ga gb : Ev → R D) (ρ : Ev) : gEnumS ga gb ρ = ga ρ >>= fun x => gb ρ >>= fun c => enumAt x c := rfl
theorem a_compT (n : Nat) (asg : D → Ev → R Ev) (gl : Ev → R (List D)) (ix : List Nat) (gt : Ev → R Bool) (ga : Ev → R D) (ρ : Ev) : gCompT n asg gl ix gt ga ρ = gl ρ >>= fun items => compG asg gt ga items (innerN n ix ρ) >>= fun ds => if ds.length ≤ sizeLine then .ok ds else .no := rfl
theorem a_parO (i j : Nat) (ga : Ev → R D) (gl : Ev → R (List D)) (ρ : Ev) : oParO i j ga gl ρ = (ga ρ).out ρ fun d => (gl ρ).out ρ fun ds => .nx ((ρ.set i (some (.val d))).set j (some (.own ds))) := rfl
theorem l_cut (f : Bool) (lo hi : Option Int) (x : List D) : cutD lo hi (.lst f x) = some (.lst false (cutL x lo hi)) := rfl
theorem a_rev (ga gs : Ev → R D) (ρ : Ev) : gRev ga gs ρ = ga ρ >>= fun x => gs ρ >>= fun k => revD x k := rfl
theorem rev_s (x : List Nat) : revD (.str x) (.int (-1)) = .ok (.str x.reverse) := rfl
theorem rev_l (f : Bool) (x : List D) : revD (.lst f x) (.int (-1)) = .ok (.lst false x.reverse) := rfl
theorem one_l (f : Bool) (xs : List D) : oneK [.lst f xs] = .ok xs := rfl
noncomputable def tryS (i : Nat) : O → O
  | .nx ρ => .nx (ρ.set i none)
  | .rt d => .rt d
  | _ => .no
noncomputable def tryK (gs : Ev → O) (f : Addr → Option Bool) (i : Nat) : O → O
  | .ex C ρ => (match f C with
    | some true => tryS i (gs (ρ.set i (some (.val (.exc C)))))
    | _ => .no)
  | o => o
theorem a_try (gb gs : Ev → O) (f : Addr → Option Bool) (i : Nat) (ρ : Ev) : tryO gb gs f i ρ = tryK gs f i (gb ρ) := by
  unfold tryO tryK
  cases gb ρ <;> rfl
theorem tryK_nx (gs : Ev → O) (f : Addr → Option Bool) (i : Nat) (ρ : Ev) : tryK gs f i (.nx ρ) = .nx ρ := rfl
theorem tryK_ex {gs : Ev → O} {f : Addr → Option Bool} {i : Nat} {ρ : Ev} {C : Addr} (h : f C = some true) : tryK gs f i (.ex C ρ) = tryS i (gs (ρ.set i (some (.val (.exc C))))) := by
  simp only [tryK, h]
theorem tryS_nx (i : Nat) (ρ : Ev) : tryS i (.nx ρ) = .nx (ρ.set i none) := rfl
noncomputable def joinK (gs : List (Ev → R D)) (out : List Nat) (ρ : Ev) : D → R D
  | .str x => if (out ++ x).length ≤ sizeLine then joinG gs (out ++ x) ρ else .no
  | _ => .no
theorem a_fstr (gs : List (Ev → R D)) (ρ : Ev) : gFstr gs ρ = joinG gs [] ρ := rfl
theorem a_join0 (out : List Nat) (ρ : Ev) : joinG [] out ρ = .ok (.str out) := rfl
theorem a_join1 (g : Ev → R D) (gs : List (Ev → R D)) (out : List Nat) (ρ : Ev) : joinG (g :: gs) out ρ = g ρ >>= joinK gs out ρ := rfl
theorem joinK_s (gs : List (Ev → R D)) (out : List Nat) (ρ : Ev) (x : List Nat) : joinK gs out ρ (.str x) = if (out ++ x).length ≤ sizeLine then joinG gs (out ++ x) ρ else .no := rfl
theorem fmt_s (x : List Nat) : fmtD (.str x) = .ok (.str x) := rfl
theorem a_ownP (j i : Nat) (gl : Ev → R (List D)) (ρ : Ev) : oOwnP j i gl ρ = (noEx (gl (frz j ρ))).out ρ fun ds => if ds.all (fl 10) = true then .nx (ρ.set i (some (.own ds))) else .no := rfl
theorem a_whl (n : Nat) (gt : Ev → R Bool) (g : Ev → O) (ρ : Ev) : oWhile n gt g ρ = whileD gt g n ρ := rfl
end L2
section
open L2
set_option compiler.extract_closed false in
local macro_rules | `(tactic| walk_at "run") => `(tactic| simp -implicitDefEqProofs only [↓a_call1, ↓a_call2, ↓a_call3, ↓a_call4, a_seq, a_if, a_set, a_ret, a_nx, a_own, a_expr, a_for, a_raise, a_asg, a_frz, a_then, a_of, a_cons, a_fresh, a_lst, a_b2, a_b3, a_bn, a_some, a_meth, a_g2, a_and, a_or, a_not, a_tand, a_tor, a_gif, a_sl, a_comp, a_ext, a_app, a_appP, a_ifP, a_setP, a_item, noEx_ok, a_seq1, a_enumS, a_compT, a_parO, l_cut, a_rev, rev_s, rev_l, itemK_some, one_t, one_l, rd13, rd14, and_self, a_par, own0, own1, own2, asl, frz1, frz4, a_g3, g3_bl, sv2, q_nx, q_rt, q_ex, q_no, w_rt, w_nx, w_ex, b_bl, b_int, t_bl, rd0, rd1, rd2, rd3, rd4, rd5, rd6, rd7, rd8, rd9, rd10, rd11, rd12, R.ok_bind, R.ok_out, R.ex_bind, R.ex_out, ofO_some, e_add, e_sub, e_le, e_lt, e_gt, e_ge, e_eq, e_ne, s_eq, s_ne, l_len, t_len, s_len, s_cut, t_cut, set0, List.set_cons_succ, List.length_nil, List.length_cons, List.cons_append, List.nil_append, Nat.reduceAdd, Nat.reduceBEq, Bool.not_true, Bool.not_false, Bool.false_eq_true, if_false, if_true, a_ownP, a_whl, a_try, tryK_nx, tryK_ex, tryS_nx, a_fstr, a_join0, a_join1, joinK_s, fmt_s, Int.reduceLT, Int.reduceLE, Int.reduceBEq, decide_true, decide_false, *])
namespace Q
open L2
open PySem (sizeLine Addr)
noncomputable def isWh : D → Bool
  | .int _ => true
  | _ => false
noncomputable def isWhF : List D → R D
  | [.exc _] => .no
  | [d] => .ok (.bl (isWh d))
  | _ => .no
noncomputable def is_whole_s1 : Ev → O := (oRet (gAnd (gThen (isTy isInt) (fun ρ => rdV ρ 0)) (gNot (gThen (isTy (· == "bool")) (fun ρ => rdV ρ 0)))))
noncomputable def is_whole_all : Ev → O := (oSeq is_whole_s1 oNx)
theorem is_whole_ok : ∀ ds : List D, ds.length = 1 → isWhF ds = .no ∨ bodyR (is_whole_all  (startE 1 ds)) = isWhF ds := by
  intro ds hl
  unfold is_whole_all is_whole_s1
  match ds, hl with
  | [d], _ => cases d <;> first | exact Or.inr rfl | exact Or.inl rfl
noncomputable def inB (d : D) (lo hi : Int) : Bool := match d with
  | .int i => decide (lo ≤ i) && decide (i ≤ hi)
  | _ => false
noncomputable def inBF : List D → R D
  | [.exc _, _, _] => .no
  | [d, .int lo, .int hi] => .ok (.bl (inB d lo hi))
  | _ => .no
noncomputable def is_within_s1 (F_is_whole : List D → R D) : Ev → O := (oRet (gAnd (gCall 1 F_is_whole (gACons (fun ρ => rdV ρ 0) (fun _ => R.ok []))) (g3 leD leD (fun ρ => rdV ρ 1) (fun ρ => rdV ρ 0) (fun ρ => rdV ρ 2))))
noncomputable def is_within_all (F_is_whole : List D → R D) : Ev → O := (oSeq (is_within_s1 F_is_whole) oNx)
theorem is_within_ok : ∀ ds : List D, ds.length = 3 → inBF ds = .no ∨ bodyR (is_within_all isWhF (startE 3 ds)) = inBF ds := by
  intro ds hl
  unfold is_within_all is_within_s1
  match ds, hl with
  | [d, l, h], _ =>
    cases d <;> first | exact Or.inl rfl | skip
    all_goals (cases l <;> first | exact Or.inl rfl | skip)
    all_goals (cases h <;> first | exact Or.inl rfl | skip)
    all_goals first | exact Or.inr rfl | skip
    rename_i i lo hi hl
    refine Or.inr ?_
    show bodyR (oSeq _ oNx [some (.val (.int i)), some (.val (.int lo)), some (.val (.int hi))]) = R.ok (D.bl (inB (.int i) lo hi))
    by_cases h1 : lo ≤ i <;> simp [oSeq, oRet, gAnd, gCall, gACons, g3, rdV, isWhF, isWh, asB, leD, inB, bodyR, O.seq, h1]
noncomputable def plain (x : List Nat) : Bool := x.all fun c => decide (32 ≤ c) && decide (c ≤ 126)
noncomputable def isPl : D → Bool
  | .str x => plain x
  | _ => false
noncomputable def isPlF : List D → R D
  | [.exc _] => .no
  | [.str x] => if x.length ≤ sizeLine then .ok (.bl (plain x)) else .no
  | [d] => .ok (.bl false)
  | _ => .no
noncomputable def is_plain_s1 : Ev → O := (oRet (gAnd (gThen (isTy (· == "str")) (fun ρ => rdV ρ 0)) (gOf allF (gACons (gFresh (gComp (gThen itemsD (fun ρ => rdV ρ 0)) [] (fun _ => R.ok true) (g3 leD leD (fun _ => R.ok (D.str [32])) (fun ρ => rdV ρ 0) (fun _ => R.ok (D.str [126]))))) (fun _ => R.ok [])))))
noncomputable def is_plain_all : Ev → O := (oSeq is_plain_s1 oNx)
theorem is_plain_ok : ∀ ds : List D, ds.length = 1 → isPlF ds = .no ∨ bodyR (is_plain_all  (startE 1 ds)) = isPlF ds := by
  intro ds hl
  unfold is_plain_all is_plain_s1
  match ds, hl with
  | [d], _ =>
    cases d <;> first | exact Or.inl rfl | exact Or.inr rfl | skip
    rename_i x hl
    by_cases hx : x.length ≤ sizeLine
    · refine Or.inr ?_
      have e : compD (fun _ => R.ok true) (g3 leD leD (fun _ => .ok (.str [32])) (fun ρ => rdV ρ 0) (fun _ => .ok (.str [126]))) (x.map fun c => D.str [c]) [none] = .ok ((x.map fun c => D.str [c]).map fun d => .bl (match d with | .str [c] => decide (32 ≤ c) && decide (c ≤ 126) | _ => false)) := by
        refine compD_all _ [] _ none fun d m => ⟨rfl, ?_⟩
        obtain ⟨c, _, rfl⟩ := List.mem_map.1 m
        show (ofO (some (D.bl (!decide (([c] : List Nat) < [32])))) >>= fun z => match z with
          | .bl true => ofO (some (D.bl (!decide (([126] : List Nat) < [c]))))
          | .bl false => R.ok (D.bl false)
          | _ => R.no : R D) = _
        rw [sign_le, sign_le, ofO_some, R.ok_bind]
        cases h1 : decide (32 ≤ c) <;> simp [h1]
      have e2 : isPlF [.str x] = .ok (.bl (plain x)) := if_pos hx
      rw [e2]
      show bodyR (oSeq _ oNx [some (.val (.str x))]) = _
      simp only [oSeq, oRet, gAnd, gThen, gOf, gACons, gFresh, gComp, rd0, isTy, tyN, asB, inner, itemsD, R.ok_bind, List.map_nil]
      simp only [beq_self_eq_true, if_true, e, R.ok_bind]
      simp only [List.length_map, hx, if_true, R.ok_bind, allF_map, ofO_some, R.ok_out, bodyR, O.seq, List.all_map, plain]
      rfl
    · exact Or.inl (if_neg hx)
noncomputable def fine : D → Bool
  | .exc _ => false
  | .str x => decide (x.length ≤ sizeLine)
  | _ => true
noncomputable def rowOf (d : D) (wd : Int) : Bool := match d with
  | .str x => plain x && ((x.length : Int) == wd)
  | _ => false
noncomputable def full (d : D) (wd : Int) : Bool := match d with
  | .tup xs => decide (1 ≤ xs.length) && decide (xs.length ≤ 12) && xs.all fun r => rowOf r wd
  | _ => false
noncomputable def fullF : List D → R D
  | [.exc _, _] => .no
  | [.tup xs, .int wd] => if xs.all fine = true then .ok (.bl (full (.tup xs) wd)) else .no
  | [d, .int wd] => .ok (.bl false)
  | _ => .no
theorem isPlF_fine {d : D} (h : fine d = true) : isPlF [d] = .ok (.bl (isPl d)) := by
  cases d <;> first | rfl | (cases h; done) | skip
  exact if_pos (of_decide_eq_true h)
noncomputable def are_full_rows_s1 (F_is_plain : List D → R D) : Ev → O := (oIf (tOrB (gBn (gThen truD (gThen (isTy (· == "tuple")) (fun ρ => rdV ρ 0)))) (gBn (gB3 leD leD (fun _ => R.ok (D.int 1)) (gOf lenF (gACons (fun ρ => rdV ρ 0) (fun _ => R.ok []))) (fun _ => R.ok (D.int 12))))) (oSeq (oRet (fun _ => R.ok (D.bl false))) oNx) oNx)
noncomputable def are_full_rows_s2 (F_is_plain : List D → R D) : Ev → O := (oRet (gOf allF (gACons (gFresh (gComp (gThen itemsD (fun ρ => rdV ρ 0)) [1] (fun _ => R.ok true) (gAnd (gCall 1 F_is_plain (gACons (fun ρ => rdV ρ 0) (fun _ => R.ok []))) (g2 eqF (gOf lenF (gACons (fun ρ => rdV ρ 0) (fun _ => R.ok []))) (fun ρ => rdV ρ 1))))) (fun _ => R.ok []))))
noncomputable def are_full_rows_all (F_is_plain : List D → R D) : Ev → O := (oSeq (are_full_rows_s1 F_is_plain) (oSeq (are_full_rows_s2 F_is_plain) oNx))
theorem are_full_rows_ok : ∀ ds : List D, ds.length = 2 → fullF ds = .no ∨ bodyR (are_full_rows_all isPlF (startE 2 ds)) = fullF ds := by
  intro ds hl
  unfold are_full_rows_all are_full_rows_s1 are_full_rows_s2
  match ds, hl with
  | [d, l], _ =>
    cases d <;> first | exact Or.inl rfl | skip
    all_goals (cases l <;> first | exact Or.inl rfl | exact Or.inr rfl | skip)
    rename_i xs wd hl
    by_cases hf : xs.all fine = true
    · refine Or.inr ?_
      have e2 : fullF [.tup xs, .int wd] = .ok (.bl (full (.tup xs) wd)) := if_pos hf
      rw [e2]
      have e : compD (fun _ => R.ok true) (gAnd (gCall 1 isPlF (gACons (fun ρ => rdV ρ 0) fun x => R.ok [])) (g2 eqF (gOf lenF (gACons (fun ρ => rdV ρ 0) fun x => R.ok [])) fun ρ => rdV ρ 1)) xs [none, some (.val (.int wd))] = .ok (xs.map fun d => .bl (rowOf d wd)) := by
        refine compD_all _ [some (.val (.int wd))] xs none fun d m => ⟨rfl, ?_⟩
        have hd := List.all_eq_true.1 hf d m
        simp only [gAnd, gCall, gACons, rd0, R.ok_bind, List.length_singleton, if_true, isPlF_fine hd, asB]
        cases d <;> first | rfl | skip
        rename_i x
        show (if plain x = true then R.ok (D.bl ((x.length : Int) == wd)) else R.ok (.bl false)) = R.ok (.bl (plain x && ((x.length : Int) == wd)))
        cases plain x <;> rfl
      show bodyR (oSeq _ _ [some (.val (.tup xs)), some (.val (.int wd))]) = _
      have i2 : inner [1] [some (.val (.tup xs)), some (.val (.int wd))] = [none, some (.val (.int wd))] := rfl
      have t1 : isTy (fun x => x == "tuple") (.tup xs) = .ok (.bl true) := rfl
      have t2 : truD (.bl true) = .ok true := rfl
      have t3 : lenF [.tup xs] = some (.int xs.length) := rfl
      simp only [oSeq, oIf, tOrB, gBn, gThen, gB3, g3, oRet, gOf, gACons, gFresh, gComp, rd0, R.ok_bind, R.ok_out, itemsD, i2, e, t1, t2, t3, ofO_some, leD, Bool.not_true, Bool.false_eq_true, if_false]
      by_cases h1 : 1 ≤ xs.length
      · have h1' : (1 : Int) ≤ (xs.length : Int) := by omega
        by_cases h2 : xs.length ≤ 12
        · have h2' : (xs.length : Int) ≤ 12 := by omega
          have h3 : xs.length ≤ sizeLine := Nat.le_trans h2 (by decide)
          simp [h1, h1', h2, h2', h3, asB, oNx, O.seq, allF_map, bodyR, full]
          simp only [oSeq, oRet, gOf, gACons, gFresh, gComp, gThen, rd0, R.ok_bind, itemsD, i2, e, List.length_map, h3, if_true, allF_map, ofO_some, R.ok_out, O.seq]
        · have h2' : ¬ (xs.length : Int) ≤ 12 := by omega
          simp [h1, h1', h2, h2', asB, oNx, O.seq, bodyR, full]
      · have h1' : ¬ (1 : Int) ≤ (xs.length : Int) := by omega
        simp [h1, h1', asB, oNx, O.seq, bodyR, full]
    · exact Or.inl (if_neg hf)
noncomputable def place (d : D) (wd m : Int) : Bool := match d with
  | .tup [a, b] => inB a 0 (m - 1) && inB b 0 wd
  | _ => false
noncomputable def noExc : D → Bool
  | .exc _ => false
  | _ => true
noncomputable def placeF : List D → R D
  | [.exc _, _, _] => .no
  | [.tup xs, .int wd, .int m] => if xs.all noExc = true then .ok (.bl (place (.tup xs) wd m)) else .no
  | [d, .int wd, .int m] => .ok (.bl false)
  | _ => .no
theorem inBF_noExc {d : D} {lo hi : Int} (h : noExc d = true) : inBF [d, .int lo, .int hi] = .ok (.bl (inB d lo hi)) := by
  cases d <;> first | rfl | (cases h; done)
noncomputable def is_place_s1 (F_is_within : List D → R D) : Ev → O := (oIf (tOrB (gBn (gThen truD (gThen (isTy (· == "tuple")) (fun ρ => rdV ρ 0)))) (gB2 neF (gOf lenF (gACons (fun ρ => rdV ρ 0) (fun _ => R.ok []))) (fun _ => R.ok (D.int 2)))) (oSeq (oRet (fun _ => R.ok (D.bl false))) oNx) oNx)
noncomputable def is_place_s2 (F_is_within : List D → R D) : Ev → O := (oRet (gAnd (gCall 3 F_is_within (gACons (g2 ixD (fun ρ => rdV ρ 0) (fun _ => R.ok (D.int 0))) (gACons (fun _ => R.ok (D.int 0)) (gACons (g2 subD (fun ρ => rdV ρ 2) (fun _ => R.ok (D.int 1))) (fun _ => R.ok []))))) (gCall 3 F_is_within (gACons (g2 ixD (fun ρ => rdV ρ 0) (fun _ => R.ok (D.int 1))) (gACons (fun _ => R.ok (D.int 0)) (gACons (fun ρ => rdV ρ 1) (fun _ => R.ok [])))))))
noncomputable def is_place_all (F_is_within : List D → R D) : Ev → O := (oSeq (is_place_s1 F_is_within) (oSeq (is_place_s2 F_is_within) oNx))
theorem is_place_ok : ∀ ds : List D, ds.length = 3 → placeF ds = .no ∨ bodyR (is_place_all inBF (startE 3 ds)) = placeF ds := by
  intro ds hl
  unfold is_place_all is_place_s1 is_place_s2
  match ds, hl with
  | [d, l, h], _ =>
    cases d <;> first | exact Or.inl rfl | skip
    all_goals (cases l <;> first | exact Or.inl rfl | skip)
    all_goals (cases h <;> first | exact Or.inl rfl | exact Or.inr rfl | skip)
    rename_i xs wd m hl
    by_cases hf : xs.all noExc = true
    · refine Or.inr ?_
      have e2 : placeF [.tup xs, .int wd, .int m] = .ok (.bl (place (.tup xs) wd m)) := if_pos hf
      rw [e2]
      match xs, hf with
      | [], _ => rfl
      | [_], _ => rfl
      | [a, b], hf =>
        have ha : noExc a = true := List.all_eq_true.1 hf a (by simp)
        have hb : noExc b = true := List.all_eq_true.1 hf b (by simp)
        show bodyR ((gAnd (fun _ => inBF [a, .int 0, .int (m - 1)]) (fun _ => inBF [b, .int 0, .int wd]) []).out _ .rt |>.seq oNx) = _
        rw [gAnd, inBF_noExc ha, inBF_noExc hb]
        show bodyR ((if inB a 0 (m - 1) = true then R.ok (D.bl (inB b 0 wd)) else R.ok (D.bl false)).out _ .rt |>.seq oNx) = R.ok (D.bl (inB a 0 (m - 1) && inB b 0 wd))
        cases inB a 0 (m - 1) <;> rfl
      | a :: b :: c :: l, _ =>
        show bodyR (oSeq _ _ [some (.val (.tup (a :: b :: c :: l))), some (.val (.int wd)), some (.val (.int m))]) = _
        have t1 : isTy (fun x => x == "tuple") (.tup (a :: b :: c :: l)) = .ok (.bl true) := rfl
        have t2 : truD (.bl true) = .ok true := rfl
        have t3 : lenF [.tup (a :: b :: c :: l)] = some (.int (a :: b :: c :: l).length) := rfl
        have t4 : neF (.int (a :: b :: c :: l).length) (.int 2) = some (.bl true) := by
          have : (((a :: b :: c :: l).length : Int) == 2) = false := by simp; omega
          show some (D.bl (!(((a :: b :: c :: l).length : Int) == 2))) = _
          rw [this]; rfl
        simp only [oSeq, oIf, tOrB, gBn, gThen, gB2, g2, oRet, gOf, gACons, rd0, R.ok_bind, R.ok_out, t1, t2, t3, t4, ofO_some, Bool.not_true, Bool.false_eq_true, if_false]
        rfl
    · exact Or.inl (if_neg hf)
noncomputable def fine3 : D → Bool
  | .exc _ => false
  | .tup [w, r, p] => noExc w && (match r with | .exc _ => false | .tup xs => xs.all fine | _ => true) && (match p with | .exc _ => false | .tup xs => xs.all noExc | _ => true)
  | _ => true
noncomputable def screen : D → Bool
  | .tup [a, r, p] => match a with
    | .int wd => inB (.int wd) 1 40 && full r wd && (match r with | .tup rows => place p wd rows.length | _ => false)
    | _ => false
  | _ => false
noncomputable def screenF : List D → R D
  | [d] => if fine3 d = true then .ok (.bl (screen d)) else .no
  | _ => .no
noncomputable def is_screen_s1 (F_is_within : List D → R D) (F_are_full_rows : List D → R D) (F_is_place : List D → R D) : Ev → O := (oIf (tOrB (gBn (gThen truD (gThen (isTy (· == "tuple")) (fun ρ => rdV ρ 0)))) (gB2 neF (gOf lenF (gACons (fun ρ => rdV ρ 0) (fun _ => R.ok []))) (fun _ => R.ok (D.int 3)))) (oSeq (oRet (fun _ => R.ok (D.bl false))) oNx) oNx)
noncomputable def is_screen_s2 (F_is_within : List D → R D) (F_are_full_rows : List D → R D) (F_is_place : List D → R D) : Ev → O := (oSet 1 (g2 ixD (fun ρ => rdV ρ 0) (fun _ => R.ok (D.int 0))))
noncomputable def is_screen_s3 (F_is_within : List D → R D) (F_are_full_rows : List D → R D) (F_is_place : List D → R D) : Ev → O := (oIf (tOrB (gBn (gThen truD (gCall 3 F_is_within (gACons (fun ρ => rdV ρ 1) (gACons (fun _ => R.ok (D.int 1)) (gACons (fun _ => R.ok (D.int 40)) (fun _ => R.ok []))))))) (gBn (gThen truD (gCall 2 F_are_full_rows (gACons (g2 ixD (fun ρ => rdV ρ 0) (fun _ => R.ok (D.int 1))) (gACons (fun ρ => rdV ρ 1) (fun _ => R.ok []))))))) (oSeq (oRet (fun _ => R.ok (D.bl false))) oNx) oNx)
noncomputable def is_screen_s4 (F_is_within : List D → R D) (F_are_full_rows : List D → R D) (F_is_place : List D → R D) : Ev → O := (oRet (gCall 3 F_is_place (gACons (g2 ixD (fun ρ => rdV ρ 0) (fun _ => R.ok (D.int 2))) (gACons (fun ρ => rdV ρ 1) (gACons (gOf lenF (gACons (g2 ixD (fun ρ => rdV ρ 0) (fun _ => R.ok (D.int 1))) (fun _ => R.ok []))) (fun _ => R.ok []))))))
noncomputable def is_screen_all (F_is_within : List D → R D) (F_are_full_rows : List D → R D) (F_is_place : List D → R D) : Ev → O := (oSeq (is_screen_s1 F_is_within F_are_full_rows F_is_place) (oSeq (is_screen_s2 F_is_within F_are_full_rows F_is_place) (oSeq (is_screen_s3 F_is_within F_are_full_rows F_is_place) (oSeq (is_screen_s4 F_is_within F_are_full_rows F_is_place) oNx))))
theorem is_screen_ok : ∀ ds : List D, ds.length = 1 → screenF ds = .no ∨ bodyR (is_screen_all inBF fullF placeF (startE 2 ds)) = screenF ds := by
  intro ds hl
  unfold is_screen_all is_screen_s1 is_screen_s2 is_screen_s3 is_screen_s4
  match ds, hl with
  | [d], _ =>
    cases d <;> first | exact Or.inl rfl | exact Or.inr rfl | skip
    rename_i xs hl
    match xs with
    | [] => exact Or.inr rfl
    | [_] => exact Or.inr rfl
    | [_, _] => exact Or.inr rfl
    | a :: b :: c :: e :: l =>
      refine Or.inr ?_
      show bodyR (oSeq _ _ [some (.val (.tup (a :: b :: c :: e :: l))), none]) = _
      have t1 : isTy (fun x => x == "tuple") (.tup (a :: b :: c :: e :: l)) = .ok (.bl true) := rfl
      have t2 : truD (.bl true) = .ok true := rfl
      have t3 : lenF [.tup (a :: b :: c :: e :: l)] = some (.int (a :: b :: c :: e :: l).length) := rfl
      have t4 : neF (.int (a :: b :: c :: e :: l).length) (.int 3) = some (.bl true) := by
        have : (((a :: b :: c :: e :: l).length : Int) == 3) = false := by simp; omega
        show some (D.bl (!(((a :: b :: c :: e :: l).length : Int) == 3))) = _
        rw [this]; rfl
      simp only [oSeq, oIf, tOrB, gBn, gThen, gB2, g2, oRet, gOf, gACons, rd0, R.ok_bind, R.ok_out, t1, t2, t3, t4, ofO_some, Bool.not_true, Bool.false_eq_true, if_false]
      rfl
    | [a, r, p] =>
      by_cases hf : fine3 (.tup [a, r, p]) = true
      · refine Or.inr ?_
        have e2 : screenF [.tup [a, r, p]] = .ok (.bl (screen (.tup [a, r, p]))) := if_pos hf
        rw [e2]
        simp only [fine3, Bool.and_eq_true] at hf
        obtain ⟨⟨ha, hr⟩, hp⟩ := hf
        show bodyR (oSeq _ _ [some (.val (.tup [a, r, p])), none]) = _
        have t1 : isTy (fun x => x == "tuple") (.tup [a, r, p]) = .ok (.bl true) := rfl
        have t2 : ∀ k, truD (.bl k) = .ok k := fun _ => rfl
        have t3 : lenF [.tup [a, r, p]] = some (.int 3) := rfl
        have t4 : neF (.int 3) (.int 3) = some (.bl false) := rfl
        have x0 : ixD (.tup [a, r, p]) (.int 0) = some a := rfl
        have x1 : ixD (.tup [a, r, p]) (.int 1) = some r := rfl
        have x2 : ixD (.tup [a, r, p]) (.int 2) = some p := rfl
        have s1 : ([some (.val (.tup [a, r, p])), none] : Ev).set 1 (some (.val a)) = [some (.val (.tup [a, r, p])), some (.val a)] := rfl
        simp only [oSeq, oIf, oSet, tOrB, gBn, gThen, gB2, g2, oRet, gOf, gACons, rd0, rd1, R.ok_bind, R.ok_out, t1, t2, t3, t4, x0, x1, x2, s1, gCall2, gCall3, ofO_some, asB, oNx, O.seq, Bool.not_true, Bool.false_eq_true, if_false, inBF_noExc ha]
        cases hi : inB a 1 40 with
        | false =>
          have : screen (.tup [a, r, p]) = false := by
            cases a <;> first | rfl | skip
            simp only [screen, hi, Bool.false_and]
          rw [this]; rfl
        | true =>
          cases a <;> first | (cases hi; done) | skip
          rename_i i
          have e3 : fullF [r, .int i] = .ok (.bl (full r i)) := by
            cases r <;> first | rfl | (cases hr; done) | exact if_pos hr
          cases hq : full r i with
          | false =>
            have : screen (.tup [.int i, r, p]) = false := by simp only [screen, hi, hq, Bool.and_false, Bool.false_and]
            rw [e3, hq, this]; rfl
          | true =>
            cases r <;> first | (cases hq; done) | skip
            rename_i rows
            have e4 : placeF [p, .int i, .int rows.length] = .ok (.bl (place p i rows.length)) := by
              cases p <;> first | rfl | (cases hp; done) | exact if_pos hp
            have e5 : screen (.tup [.int i, .tup rows, p]) = place p i rows.length := by simp only [screen, hi, hq, Bool.and_true, Bool.true_and]
            rw [e3, hq, e5]
            show bodyR ((placeF [p, .int i, .int rows.length]).out _ .rt |>.seq _) = _
            rw [e4]; rfl
      · exact Or.inl (if_neg hf)
noncomputable def intsD : List D → Option (List Int)
  | [] => some []
  | .int i :: ds => (intsD ds).map (i :: ·)
  | _ => none
theorem intsD_eq : ∀ {ds : List D} {ns : List Int}, intsD ds = some ns → ds = ns.map .int
  | [], ns, h => by cases h; rfl
  | d :: ds, ns, h => by
    cases d <;> first | (cases h; done) | skip
    rename_i i
    cases q : intsD ds with
    | none => simp [intsD, q] at h
    | some ms => simp [intsD, q] at h; subst h; rw [intsD_eq q]; rfl
theorem intsD_map : ∀ ns : List Int, intsD (ns.map .int) = some ns
  | [] => rfl
  | i :: ns => by simp [intsD, intsD_map ns]
noncomputable def cell (ns : List Int) (k : Nat) : Int := if k < ns.length then ns.getD k 0 else if ns.length = 0 then 0 else ns.getD (k % ns.length) 0 * 31 + k
noncomputable def cellF : List D → R D
  | [.lst _ ds, .int k] => match intsD ds with
    | some ns => if 0 ≤ k then .ok (.int (cell ns k.toNat)) else .no
    | none => .no
  | _ => .no
theorem atI_ints {ns : List Int} {k : Nat} (h : k < ns.length) : atI (ns.map D.int) (k : Int) = some (.int (ns.getD k 0)) := by
  have e : ixN (ns.map D.int).length (k : Int) = some k := by
    rw [List.length_map]
    simp [ixN]
    try omega
  rw [atI, e]
  simp [List.getD, h]
noncomputable def law_cell_s1 : Ev → O := (oIf (gB2 ltD (fun ρ => rdV ρ 1) (gOf lenF (gACons (fun ρ => rdV ρ 0) (fun _ => R.ok [])))) (oSeq (oRet (g2 ixD (fun ρ => rdV ρ 0) (fun ρ => rdV ρ 1))) oNx) oNx)
noncomputable def law_cell_s2 : Ev → O := (oIf (gB2 eqF (fun ρ => rdV ρ 0) (gFresh (gLst (fun _ => R.ok [])))) (oSeq (oRet (fun _ => R.ok (D.int 0))) oNx) oNx)
noncomputable def law_cell_s3 : Ev → O := (oRet (g2 addD (g2 mulD (g2 ixD (fun ρ => rdV ρ 0) (g2 modD (fun ρ => rdV ρ 1) (gOf lenF (gACons (fun ρ => rdV ρ 0) (fun _ => R.ok []))))) (fun _ => R.ok (D.int 31))) (fun ρ => rdV ρ 1)))
noncomputable def law_cell_all : Ev → O := (oSeq law_cell_s1 (oSeq law_cell_s2 (oSeq law_cell_s3 oNx)))
theorem law_cell_ok : ∀ ds : List D, ds.length = 2 → cellF ds = .no ∨ bodyR (law_cell_all  (startE 2 ds)) = cellF ds := by
  intro ds hl
  unfold law_cell_all law_cell_s1 law_cell_s2 law_cell_s3
  match ds, hl with
  | [l, kd], _ =>
    cases l <;> first | exact Or.inl rfl | skip
    cases kd <;> first | exact Or.inl rfl | skip
    rename_i fz ds k hl
    cases hi : intsD ds with
    | none => refine Or.inl ?_; simp only [cellF, hi]
    | some ns =>
      have e := intsD_eq hi
      subst e
      by_cases hk : 0 ≤ k
      · refine Or.inr ?_
        have e2 : cellF [.lst fz (ns.map .int), .int k] = .ok (.int (cell ns k.toNat)) := by simp only [cellF, hi, hk, if_true]
        rw [e2]
        obtain ⟨n, rfl⟩ := Int.eq_ofNat_of_zero_le hk
        rw [Int.toNat_natCast]
        show bodyR (oSeq _ _ [some (.val (.lst fz (ns.map .int))), some (.val (.int n))]) = _
        have t3 : lenF [.lst fz (ns.map .int)] = some (.int ns.length) := by simp [lenF]
        by_cases h1 : n < ns.length
        · have h1' : (n : Int) < (ns.length : Int) := by omega
          have x1 : ixD (.lst fz (ns.map .int)) (.int n) = some (.int (ns.getD n 0)) := atI_ints h1
          simp only [oSeq, oIf, gB2, g2, oRet, gOf, gACons, rd0, rd1, R.ok_bind, R.ok_out, t3, x1, ofO_some, ltD, asB, h1', decide_true, if_true, O.seq, bodyR, cell, h1]
        · have h1' : ¬ (n : Int) < (ns.length : Int) := by omega
          cases ns with
          | nil => rfl
          | cons a as =>
            have t4 : eqF (.lst fz ((a :: as).map .int)) (.lst false []) = some (.bl false) := rfl
            have h2 : n % (a :: as).length < (a :: as).length := Nat.mod_lt _ (by simp)
            have x1 : ixD (.lst fz ((a :: as).map .int)) (.int ((n % (a :: as).length : Nat) : Int)) = some (.int ((a :: as).getD (n % (a :: as).length) 0)) := atI_ints h2
            have m1 : modD (.int n) (.int (a :: as).length) = some (.int ((n % (a :: as).length : Nat) : Int)) := by
              have : (0 : Int) < ((a :: as).length : Int) := by simp
              simp only [modD, this, if_true]; rw [Int.natCast_emod]
            have m2 : ∀ z : Int, mulD (.int z) (.int 31) = some (.int (z * 31)) := fun z => if_pos (Or.inr (by decide))
            have z1 : (0 : Nat) ≤ sizeLine := Nat.zero_le _
            have z2 : ¬ (a :: as).length = 0 := by simp
            simp only [oSeq, oIf, gB2, g2, oRet, gOf, gACons, gFresh, gLst, rd0, rd1, R.ok_bind, R.ok_out, t3, t4, x1, m1, m2, ofO_some, ltD, addD, asB, h1', decide_false, Bool.false_eq_true, if_false, O.seq, oNx, bodyR, cell, h1, List.length_nil, z1, if_true, z2]
      · refine Or.inl ?_; simp only [cellF, hi, hk, if_false]
noncomputable def drawn (ns : List Int) (k : Nat) : Int := (cell ns k + 6151 * ((k : Int) + 1)) * 40692 % 2147483399
noncomputable def pick (ns : List Int) (k : Nat) (m : Int) : Int := (drawn ns k * drawn ns k + drawn ns k / 31) % 2147483629 % m
theorem pick_range (ns : List Int) (k : Nat) {m : Int} (h : 0 < m) : 0 ≤ pick ns k m ∧ pick ns k m < m := ⟨Int.emod_nonneg _ (by omega), Int.emod_lt_of_pos _ h⟩
noncomputable def pickF : List D → R D
  | [.lst _ ds, .int k, .int m] => match intsD ds with
    | some ns => if 0 ≤ k ∧ 0 < m then .ok (.int (pick ns k.toNat m)) else .no
    | none => .no
  | _ => .no
theorem cellF_nat {fz : Bool} {ns : List Int} {n : Nat} : cellF [.lst fz (ns.map .int), .int n] = .ok (.int (cell ns n)) := by
  simp only [cellF, intsD_map, Int.natCast_nonneg, if_true, Int.toNat_natCast]
noncomputable def law_pick_s1 (F__law_cell : List D → R D) : Ev → O := (oSet 3 (g2 modD (g2 mulD (g2 addD (gCall 2 F__law_cell (gACons (fun ρ => rdV ρ 0) (gACons (fun ρ => rdV ρ 1) (fun _ => R.ok [])))) (g2 mulD (fun _ => R.ok (D.int 6151)) (g2 addD (fun ρ => rdV ρ 1) (fun _ => R.ok (D.int 1))))) (fun _ => R.ok (D.int 40692))) (fun _ => R.ok (D.int 2147483399))))
noncomputable def law_pick_s2 (F__law_cell : List D → R D) : Ev → O := (oRet (g2 modD (g2 modD (g2 addD (g2 mulD (fun ρ => rdV ρ 3) (fun ρ => rdV ρ 3)) (g2 fdivD (fun ρ => rdV ρ 3) (fun _ => R.ok (D.int 31)))) (fun _ => R.ok (D.int 2147483629))) (fun ρ => rdV ρ 2)))
noncomputable def law_pick_all (F__law_cell : List D → R D) : Ev → O := (oSeq (law_pick_s1 F__law_cell) (oSeq (law_pick_s2 F__law_cell) oNx))
theorem law_pick_ok : ∀ ds : List D, ds.length = 3 → pickF ds = .no ∨ bodyR (law_pick_all cellF (startE 4 ds)) = pickF ds := by
  intro ds hl
  unfold law_pick_all law_pick_s1 law_pick_s2
  match ds, hl with
  | [l, kd, md], _ =>
    cases l <;> first | exact Or.inl rfl | skip
    cases kd <;> first | exact Or.inl rfl | skip
    cases md <;> first | exact Or.inl rfl | skip
    rename_i fz ds k m hl
    cases hi : intsD ds with
    | none => refine Or.inl ?_; simp only [pickF, hi]
    | some ns =>
      have e := intsD_eq hi
      subst e
      by_cases hk : 0 ≤ k ∧ 0 < m
      · refine Or.inr ?_
        have e2 : pickF [.lst fz (ns.map .int), .int k, .int m] = .ok (.int (pick ns k.toNat m)) := by simp only [pickF, hi, hk, and_self, if_true]
        rw [e2]
        obtain ⟨hk, hm⟩ := hk
        obtain ⟨n, rfl⟩ := Int.eq_ofNat_of_zero_le hk
        rw [Int.toNat_natCast]
        show bodyR (oSeq _ _ [some (.val (.lst fz (ns.map .int))), some (.val (.int n)), some (.val (.int m)), none]) = _
        have m1 : ∀ z : Int, mulD (.int 6151) (.int z) = some (.int (6151 * z)) := fun z => by show (if ((-(2 ^ 64) : Int) < 6151 ∧ (6151 : Int) < 2 ^ 64) ∨ ((-(2 ^ 64) : Int) < z ∧ z < 2 ^ 64) then some (D.int (6151 * z)) else none) = _; exact if_pos (Or.inl (by decide))
        have m2 : ∀ z : Int, mulD (.int z) (.int 40692) = some (.int (z * 40692)) := fun z => if_pos (Or.inr (by decide))
        have m3 : ∀ z : Int, modD (.int z) (.int 2147483399) = some (.int (z % 2147483399)) := fun z => by show (if (0 : Int) < 2147483399 then some (D.int (z % 2147483399)) else none) = _; exact if_pos (by decide)
        have m4 : ∀ z : Int, modD (.int z) (.int 2147483629) = some (.int (z % 2147483629)) := fun z => by show (if (0 : Int) < 2147483629 then some (D.int (z % 2147483629)) else none) = _; exact if_pos (by decide)
        have m5 : ∀ z : Int, modD (.int z) (.int m) = some (.int (z % m)) := fun z => if_pos hm
        have m6 : ∀ z : Int, fdivD (.int z) (.int 31) = some (.int (z / 31)) := fun z => by show (if (0 : Int) < 31 ∧ (31 : Int) < 1073741824 then some (D.int (z / 31)) else none) = _; exact if_pos (by decide)
        have m7 : ∀ i j : Int, addD (.int i) (.int j) = some (.int (i + j)) := fun _ _ => rfl
        have hd : 0 ≤ drawn ns n ∧ drawn ns n < 2147483399 := ⟨Int.emod_nonneg _ (by decide), Int.emod_lt_of_pos _ (by decide)⟩
        have m8 : mulD (.int (drawn ns n)) (.int (drawn ns n)) = some (.int (drawn ns n * drawn ns n)) := if_pos (Or.inl (by omega))
        have s1 : ∀ v, ([some (.val (.lst fz (ns.map .int))), some (.val (.int n)), some (.val (.int m)), none] : Ev).set 3 v = [some (.val (.lst fz (ns.map .int))), some (.val (.int n)), some (.val (.int m)), v] := fun _ => rfl
        have q1 : (cell ns n + 6151 * ((n : Int) + 1)) * 40692 % 2147483399 = drawn ns n := rfl
        simp only [oSeq, oSet, oRet, g2, gCall2, rd0, rd1, rd2, rd3, R.ok_bind, R.ok_out, cellF_nat, m1, m2, m3, m4, m5, m6, m7, ofO_some, O.seq, s1, q1, m8, bodyR, pick]
      · refine Or.inl ?_; simp only [pickF, hi, hk, if_false]
noncomputable def checkF (C : Addr) : List D → R D
  | [d] => if fine3 d = true then (if screen d = true then .ok .non else .ex C) else .no
  | _ => .no
noncomputable def check_screen_s1 (F_is_screen : List D → R D) (C_NoScreen : Addr) : Ev → O := (oIf (gBn (gThen truD (gCall 1 F_is_screen (gACons (fun ρ => rdV ρ 0) (fun _ => R.ok []))))) (oSeq (oRaise C_NoScreen (gACons (fun _ => R.ok (D.str [116, 104, 105, 115, 32, 105, 115, 32, 110, 111, 32, 115, 99, 114, 101, 101, 110])) (fun _ => R.ok []))) oNx) oNx)
noncomputable def check_screen_all (F_is_screen : List D → R D) (C_NoScreen : Addr) : Ev → O := (oSeq (check_screen_s1 F_is_screen C_NoScreen) oNx)
theorem check_screen_ok {C : Addr} : ∀ ds : List D, ds.length = 1 → checkF C ds = .no ∨ bodyR (check_screen_all screenF C (startE 1 ds)) = checkF C ds := by
  intro ds hl
  unfold check_screen_all check_screen_s1
  match ds, hl with
  | [d], _ =>
    by_cases hf : fine3 d = true
    · refine Or.inr ?_
      have e1 : screenF [d] = .ok (.bl (screen d)) := if_pos hf
      have e2 : checkF C [d] = if screen d = true then .ok .non else .ex C := if_pos hf
      rw [e2]
      show bodyR (oSeq _ _ [some (.val d)]) = _
      have t2 : ∀ k, truD (.bl k) = .ok k := fun _ => rfl
      simp only [oSeq, oIf, oRaise, gBn, gThen, gCall1, rd0, R.ok_bind, R.ok_out, e1, t2]
      cases screen d <;> rfl
    · exact Or.inl (if_neg hf)
theorem rep_one {α : Type} (n : Nat) (x : α) : (List.replicate n [x]).flatten = List.replicate n x := by
  induction n with
  | zero => rfl
  | succ n ih => rw [List.replicate_succ, List.flatten_cons, ih]; rfl
theorem pickF_nat {fz : Bool} {ns : List Int} {n : Nat} {m : Int} (h : 0 < m) : pickF [.lst fz (ns.map .int), .int n, .int m] = .ok (.int (pick ns n m)) := by
  simp only [pickF, intsD_map, Int.natCast_nonneg, h, and_self, if_true, Int.toNat_natCast]
noncomputable def sgn (ns : List Int) (k : Nat) : Nat := ([32, 32, 97, 98, 35] : List Nat).getD (pick ns k 5).toNat 0
theorem sgn_ix (ns : List Int) (k : Nat) : ixD (.str [32, 32, 97, 98, 35]) (.int (pick ns k 5)) = some (.str [sgn ns k]) := by
  have h := pick_range ns k (m := 5) (by decide)
  unfold sgn
  generalize pick ns k 5 = v at h
  have : v = 0 ∨ v = 1 ∨ v = 2 ∨ v = 3 ∨ v = 4 := by omega
  rcases this with rfl | rfl | rfl | rfl | rfl <;> rfl
theorem sgn_plain (ns : List Int) (k : Nat) : 32 ≤ sgn ns k ∧ sgn ns k ≤ 126 := by
  have h := pick_range ns k (m := 5) (by decide)
  unfold sgn
  generalize pick ns k 5 = v at h
  have : v = 0 ∨ v = 1 ∨ v = 2 ∨ v = 3 ∨ v = 4 := by omega
  rcases this with rfl | rfl | rfl | rfl | rfl <;> decide
noncomputable def rowB : Ev → O := oSeq (oSet 3 (g2 addD (fun ρ => rdV ρ 3) (g2 ixD (fun x => R.ok (D.str [32, 32, 97, 98, 35])) (gCall 3 pickF (gACons (fun ρ => rdV ρ 0) (gACons (g2 addD (g2 addD (fun ρ => rdV ρ 1) fun x => R.ok (D.int 1)) fun ρ => rdV ρ 4) (gACons (fun x => R.ok (D.int 5)) fun x => R.ok []))))))) oNx
theorem row_loop (ns : List Int) (fz : Bool) (a : Nat) (W : Option Sl) : ∀ (ks : List Nat) (x : List Nat) (kk : Option Sl), x.length + ks.length ≤ sizeLine →
    ∃ kk', loopD (setV 4) rowB (ks.map fun i => D.int (0 + (i : Nat))) [some (.val (.lst fz (ns.map .int))), some (.val (.int a)), W, some (.val (.str x)), kk, none] = .nx [some (.val (.lst fz (ns.map .int))), some (.val (.int a)), W, some (.val (.str (x ++ ks.map fun k => sgn ns (a + 1 + k)))), kk', none]
  | [], x, kk, _ => ⟨kk, by simp [loopD]⟩
  | k :: ks, x, kk, h => by
    have h' : (x ++ [sgn ns (a + 1 + k)]).length + ks.length ≤ sizeLine := by simp at h ⊢; omega
    obtain ⟨kk', ih⟩ := row_loop ns fz a W ks (x ++ [sgn ns (a + 1 + k)]) (some (.val (.int (0 + (k : Nat))))) h'
    refine ⟨kk', ?_⟩
    have hx : x.length + 1 ≤ sizeLine := by simp at h; omega
    have c1 : ((a : Int) + 1 + (0 + (k : Int))) = ((a + 1 + k : Nat) : Int) := by omega
    have p5 : ∀ n : Nat, pickF [.lst fz (ns.map .int), .int n, .int 5] = .ok (.int (pick ns n 5)) := fun n => pickF_nat (by decide)
    have m7 : ∀ i j : Int, addD (.int i) (.int j) = some (.int (i + j)) := fun _ _ => rfl
    have m8 : addD (.str x) (.str [sgn ns (a + 1 + k)]) = some (.str (x ++ [sgn ns (a + 1 + k)])) := if_pos hx
    have hB : rowB [some (.val (.lst fz (ns.map .int))), some (.val (.int a)), W, some (.val (.str x)), some (.val (.int (0 + (k : Nat)))), none] = .nx [some (.val (.lst fz (ns.map .int))), some (.val (.int a)), W, some (.val (.str (x ++ [sgn ns (a + 1 + k)]))), some (.val (.int (0 + (k : Nat)))), none] := by
      simp only [rowB, oSeq, oSet, g2, gCall3, rd0, rd1, rd3, rd4, R.ok_bind, m7, c1, p5, sgn_ix, m8, ofO_some, R.ok_out, O.seq, oNx]
      rfl
    rw [List.map_cons, loopD]
    show (match rowB [some (.val (.lst fz (ns.map .int))), some (.val (.int a)), W, some (.val (.str x)), some (.val (.int (0 + (k : Nat)))), none] with
      | .nx ρ2 => loopD (setV 4) rowB _ ρ2
      | .ct ρ2 => loopD (setV 4) rowB _ ρ2
      | .bk ρ2 => O.nx ρ2
      | .rt d => O.rt d
      | .re d ρ2 => .re d ρ2
      | .ex C ρ2 => O.ex C ρ2
      | .no => O.no) = _
    rw [hB]
    simp only [List.map_cons]
    rw [ih, List.append_assoc]
    rfl
theorem cut_take {α : Type} (xs : List α) (l : Nat) (h : l ≤ xs.length) : cutL xs none (some (l : Int)) = xs.take l := by
  have h1 : HT.sIx xs.length 0 none = 0 := rfl
  have h2 : HT.sIx xs.length xs.length (some (l : Int)) = l := by
    simp only [HT.sIx]
    first | omega | (split <;> omega)
  unfold cutL
  rw [h1, h2]
  simp
noncomputable def rowL (ns : List Int) (a wd : Nat) : List Nat :=
  if pick ns (a + 20) 2 = 0 then (List.range wd).map fun k => sgn ns (a + 1 + k) else ((List.range wd).map fun k => sgn ns (a + 1 + k)).take (pick ns a (wd + 1)).toNat ++ List.replicate (wd - (pick ns a (wd + 1)).toNat) 32
theorem rowL_length (ns : List Int) (a wd : Nat) : (rowL ns a wd).length = wd := by
  have h := pick_range ns a (m := (wd : Int) + 1) (by omega)
  unfold rowL
  split
  · simp
  · simp; omega
theorem rowL_plain (ns : List Int) (a wd : Nat) : plain (rowL ns a wd) = true := by
  have hm : ∀ c ∈ (List.range wd).map (fun k => sgn ns (a + 1 + k)), 32 ≤ c ∧ c ≤ 126 := by
    intro c hc
    obtain ⟨k, _, rfl⟩ := List.mem_map.1 hc
    exact sgn_plain ns _
  unfold plain
  rw [List.all_eq_true]
  intro c hc
  have : 32 ≤ c ∧ c ≤ 126 := by
    unfold rowL at hc
    split at hc
    · exact hm c hc
    · rcases List.mem_append.1 hc with q | q
      · exact hm c (List.mem_of_mem_take q)
      · have := (List.mem_replicate.1 q).2; omega
  simp [this.1, this.2]
noncomputable def rowF : List D → R D
  | [.lst _ ds, .int a, .int wd] => match intsD ds with
    | some ns => if 0 ≤ a ∧ 0 ≤ wd ∧ wd ≤ 100 then .ok (.str (rowL ns a.toNat wd.toNat)) else .no
    | none => .no
  | _ => .no
theorem range_nat {wd : Nat} (h : wd ≤ 100) : rangeD1 [.int (wd : Int)] = .ok ((List.range wd).map fun i => D.int (0 + (i : Nat))) := by
  have e : rangeD1 [.int (wd : Int)] = if -(2 ^ 62) ≤ (wd : Int) ∧ (wd : Int) < 2 ^ 62 then .ok ((List.range (wd : Int).toNat).map fun i => D.int (0 + (i : Nat))) else .no := by simp only [rangeD1]
  rw [e, if_pos (by constructor <;> omega), Int.toNat_natCast]
theorem pick2 {fz : Bool} {ns : List Int} {a : Nat} : pickF [.lst fz (ns.map .int), .int ((a + 20 : Nat) : Int), .int 2] = .ok (.int (pick ns (a + 20) 2)) := pickF_nat (by decide)
noncomputable def rowE (pk : List D → R D) : Ev → O := oSeq (oSet 5 (gCall 3 pk (gACons (fun ρ => rdV ρ 0) (gACons (fun ρ => rdV ρ 1) (gACons (g2 addD (fun ρ => rdV ρ 2) fun x => R.ok (D.int 1)) fun x => R.ok [])))))
  (oSeq (oRet (gIf (gB2 eqF (gCall 3 pk (gACons (fun ρ => rdV ρ 0) (gACons (g2 addD (fun ρ => rdV ρ 1) fun x => R.ok (D.int 20)) (gACons (fun x => R.ok (D.int 2)) fun x => R.ok [])))) fun x => R.ok (D.int 0)) (fun ρ => rdV ρ 3)
    (g2 addD (gSl (fun ρ => rdV ρ 3) (fun x => R.ok none) (gSome fun ρ => rdV ρ 5)) (g2 mulD (fun x => R.ok (D.str [32])) (g2 subD (fun ρ => rdV ρ 2) fun ρ => rdV ρ 5))))) oNx)
theorem mul_blank {n : Nat} (h : n ≤ 100) : mulD (.str [32]) (.int (n : Int)) = some (.str (List.replicate n 32)) := by
  have hz : (100 : Nat) ≤ sizeLine := by decide
  have e : [32] = [32] := rfl
  rw [e, ← rep_one n 32]
  simp only [mulD]
  rw [if_pos (by refine ⟨by omega, by omega, ?_⟩; simp; omega), Int.toNat_natCast]
theorem rowE_ok (pk : List D → R D) (S : D) (a wd l : Nat) (z : Int) (x : List Nat) (kk : Option Sl) (h1 : pk [S, .int a, .int ((wd : Int) + 1)] = .ok (.int (l : Int))) (h2 : pk [S, .int ((a : Int) + 20), .int 2] = .ok (.int z)) (hx : x.length = wd) (hw : wd ≤ 100) (hl : l ≤ wd) :
    rowE pk [some (.val S), some (.val (.int a)), some (.val (.int wd)), some (.val (.str x)), kk, none] = .rt (.str (if z = 0 then x else x.take l ++ List.replicate (wd - l) 32)) := by
  have c1 : (wd : Int) - (l : Int) = ((wd - l : Nat) : Int) := by omega
  have m1 : mulD (.str [32]) (.int ((wd - l : Nat) : Int)) = some (.str (List.replicate (wd - l) 32)) := mul_blank (by omega)
  have m2 : addD (.str (x.take l)) (.str (List.replicate (wd - l) 32)) = some (.str (x.take l ++ List.replicate (wd - l) 32)) := s_add (by have := line_big; simp; omega)
  have m3 := cutTo x l
  unfold rowE
  clear hx hw hl
  walk_at "run"
  by_cases hz : z = 0
  · simp only [hz, if_true, beq_self_eq_true, R.ok_out, q_rt]
  · have : (z == 0) = false := by simp [hz]
    simp only [hz, this, if_false, Bool.false_eq_true, R.ok_out, q_rt]
noncomputable def law_row_s1 (F__law_pick : List D → R D) : Ev → O := (oSet 3 (fun _ => R.ok (D.str [])))
noncomputable def law_row_b2 (F__law_pick : List D → R D) : Ev → O := (oSeq (oSet 3 (g2 addD (fun ρ => rdV ρ 3) (g2 ixD (fun _ => R.ok (D.str [32, 32, 97, 98, 35])) (gCall 3 F__law_pick (gACons (fun ρ => rdV ρ 0) (gACons (g2 addD (g2 addD (fun ρ => rdV ρ 1) (fun _ => R.ok (D.int 1))) (fun ρ => rdV ρ 4)) (gACons (fun _ => R.ok (D.int 5)) (fun _ => R.ok [])))))))) oNx)
noncomputable def law_row_s3 (F__law_pick : List D → R D) : Ev → O := (oFor (setV 4) (gThen rangeD1 (gACons (fun ρ => rdV ρ 2) (fun _ => R.ok []))) (law_row_b2 F__law_pick))
noncomputable def law_row_s4 (F__law_pick : List D → R D) : Ev → O := (oSet 5 (gCall 3 F__law_pick (gACons (fun ρ => rdV ρ 0) (gACons (fun ρ => rdV ρ 1) (gACons (g2 addD (fun ρ => rdV ρ 2) (fun _ => R.ok (D.int 1))) (fun _ => R.ok []))))))
noncomputable def law_row_s5 (F__law_pick : List D → R D) : Ev → O := (oRet (gIf (gB2 eqF (gCall 3 F__law_pick (gACons (fun ρ => rdV ρ 0) (gACons (g2 addD (fun ρ => rdV ρ 1) (fun _ => R.ok (D.int 20))) (gACons (fun _ => R.ok (D.int 2)) (fun _ => R.ok []))))) (fun _ => R.ok (D.int 0))) (fun ρ => rdV ρ 3) (g2 addD (gSl (fun ρ => rdV ρ 3) (fun _ => R.ok none) (gSome (fun ρ => rdV ρ 5))) (g2 mulD (fun _ => R.ok (D.str [32])) (g2 subD (fun ρ => rdV ρ 2) (fun ρ => rdV ρ 5))))))
noncomputable def law_row_all (F__law_pick : List D → R D) : Ev → O := (oSeq (law_row_s1 F__law_pick) (oSeq (law_row_s3 F__law_pick) (oSeq (law_row_s4 F__law_pick) (oSeq (law_row_s5 F__law_pick) oNx))))
theorem law_row_ok : ∀ ds : List D, ds.length = 3 → rowF ds = .no ∨ bodyR (law_row_all pickF (startE 6 ds)) = rowF ds := by
  intro ds hl
  unfold law_row_all law_row_s1 law_row_s3 law_row_s4 law_row_s5
  match ds, hl with
  | [l, ad, wd], _ =>
    cases l <;> first | exact Or.inl rfl | skip
    cases ad <;> first | exact Or.inl rfl | skip
    cases wd <;> first | exact Or.inl rfl | skip
    rename_i fz ds a wd hl
    cases hi : intsD ds with
    | none => refine Or.inl ?_; simp only [rowF, hi]
    | some ns =>
      have e := intsD_eq hi
      subst e
      by_cases hk : 0 ≤ a ∧ 0 ≤ wd ∧ wd ≤ 100
      · refine Or.inr ?_
        have e2 : rowF [.lst fz (ns.map .int), .int a, .int wd] = .ok (.str (rowL ns a.toNat wd.toNat)) := by simp only [rowF, hi, hk, and_self, if_true]
        rw [e2]
        obtain ⟨ha, hw, hw2⟩ := hk
        obtain ⟨a, rfl⟩ := Int.eq_ofNat_of_zero_le ha
        obtain ⟨wd, rfl⟩ := Int.eq_ofNat_of_zero_le hw
        rw [Int.toNat_natCast, Int.toNat_natCast]
        have hw3 : wd ≤ 100 := by omega
        show bodyR (oSeq (oSet 3 (fun _ => R.ok (D.str []))) (oSeq (oFor (setV 4) (gThen rangeD1 (gACons (fun ρ => rdV ρ 2) fun _ => R.ok [])) rowB) (rowE pickF)) [some (.val (.lst fz (ns.map .int))), some (.val (.int a)), some (.val (.int wd)), none, none, none]) = _
        obtain ⟨kk', hL⟩ := row_loop ns fz a (some (.val (.int wd))) (List.range wd) [] none (by have := line_big; simp; omega)
        have s2 : oFor (setV 4) (gThen rangeD1 (gACons (fun ρ => rdV ρ 2) fun _ => R.ok [])) rowB [some (.val (.lst fz (ns.map .int))), some (.val (.int a)), some (.val (.int wd)), some (.val (.str [])), none, none] = .nx [some (.val (.lst fz (ns.map .int))), some (.val (.int a)), some (.val (.int wd)), some (.val (.str ([] ++ (List.range wd).map fun k => sgn ns (a + 1 + k)))), kk', none] := by
          rw [a_for, a_then, a_cons, rd2, R.ok_bind, R.ok_bind, R.ok_bind, range_nat hw3, R.ok_out]
          exact hL
        have hp := pick_range ns a (m := (wd : Int) + 1) (by omega)
        have s3 := rowE_ok pickF (.lst fz (ns.map .int)) a wd (pick ns a ((wd : Int) + 1)).toNat (pick ns (a + 20) 2) ([] ++ (List.range wd).map fun k => sgn ns (a + 1 + k)) kk'
          (by rw [Int.toNat_of_nonneg hp.1]; exact pickF_nat (by omega)) (by exact pick2) (by simp) hw3 (by omega)
        rw [a_seq, a_set, R.ok_out, q_nx, a_seq]
        show bodyR ((oFor (setV 4) _ rowB [some (.val (.lst fz (ns.map .int))), some (.val (.int a)), some (.val (.int wd)), some (.val (.str [])), none, none]).seq _) = _
        rw [s2, q_nx, s3, w_rt]
        unfold rowL
        rw [List.nil_append]
      · refine Or.inl ?_; simp only [rowF, hi, hk, if_false]
theorem rowF_nat {fz : Bool} {ns : List Int} {a wd : Nat} (h : wd ≤ 100) : rowF [.lst fz (ns.map .int), .int (a : Int), .int (wd : Int)] = .ok (.str (rowL ns a wd)) := by
  have h2 : (wd : Int) ≤ 100 := by omega
  simp only [rowF, intsD_map, Int.natCast_nonneg, h2, and_self, if_true, Int.toNat_natCast]
noncomputable def rowsL (ns : List Int) (a wd m : Nat) : List D := (List.range m).map fun k => .str (rowL ns (a + 30 * k) wd)
noncomputable def scrL (ns : List Int) (a wd m : Nat) : D := .tup [.int wd, .tup (rowsL ns a wd m), .tup [.int (pick ns (a + 400) m), .int (pick ns (a + 401) (wd + 1))]]
noncomputable def lscrF : List D → R D
  | [.lst _ ds, .int a, .int wd, .int m] => match intsD ds with
    | some ns => if (0 ≤ a ∧ 0 ≤ wd ∧ wd ≤ 100) ∧ 0 < m ∧ m ≤ 100 then .ok (scrL ns a.toNat wd.toNat m.toNat) else .no
    | none => .no
  | _ => .no
noncomputable def law_screen_s1 (F__law_row : List D → R D) (F__law_pick : List D → R D) : Ev → O := (oSet 4 (gOf tupleF (gACons (gFresh (gComp (gThen rangeD1 (gACons (fun ρ => rdV ρ 3) (fun _ => R.ok []))) [0, 1, 2] (fun _ => R.ok true) (gCall 3 F__law_row (gACons (fun ρ => rdV ρ 1) (gACons (g2 addD (fun ρ => rdV ρ 2) (g2 mulD (fun _ => R.ok (D.int 30)) (fun ρ => rdV ρ 0))) (gACons (fun ρ => rdV ρ 3) (fun _ => R.ok []))))))) (fun _ => R.ok []))))
noncomputable def law_screen_s2 (F__law_row : List D → R D) (F__law_pick : List D → R D) : Ev → O := (oRet (gThen mkT (gACons (fun ρ => rdV ρ 2) (gACons (fun ρ => rdV ρ 4) (gACons (gThen mkT (gACons (gCall 3 F__law_pick (gACons (fun ρ => rdV ρ 0) (gACons (g2 addD (fun ρ => rdV ρ 1) (fun _ => R.ok (D.int 400))) (gACons (fun ρ => rdV ρ 3) (fun _ => R.ok []))))) (gACons (gCall 3 F__law_pick (gACons (fun ρ => rdV ρ 0) (gACons (g2 addD (fun ρ => rdV ρ 1) (fun _ => R.ok (D.int 401))) (gACons (g2 addD (fun ρ => rdV ρ 2) (fun _ => R.ok (D.int 1))) (fun _ => R.ok []))))) (fun _ => R.ok [])))) (fun _ => R.ok []))))))
noncomputable def law_screen_all (F__law_row : List D → R D) (F__law_pick : List D → R D) : Ev → O := (oSeq (law_screen_s1 F__law_row F__law_pick) (oSeq (law_screen_s2 F__law_row F__law_pick) oNx))
theorem law_screen_ok : ∀ ds : List D, ds.length = 4 → lscrF ds = .no ∨ bodyR (law_screen_all rowF pickF (startE 5 ds)) = lscrF ds := by
  intro ds hl
  unfold law_screen_all law_screen_s1 law_screen_s2
  match ds, hl with
  | [l, ad, wd, md], _ =>
    cases l <;> first | exact Or.inl rfl | skip
    cases ad <;> first | exact Or.inl rfl | skip
    cases wd <;> first | exact Or.inl rfl | skip
    cases md <;> first | exact Or.inl rfl | skip
    rename_i fz ds a wd m hl
    cases hi : intsD ds with
    | none => refine Or.inl ?_; simp only [lscrF, hi]
    | some ns =>
      have e := intsD_eq hi
      subst e
      by_cases hk : (0 ≤ a ∧ 0 ≤ wd ∧ wd ≤ 100) ∧ 0 < m ∧ m ≤ 100
      · refine Or.inr ?_
        have e2 : lscrF [.lst fz (ns.map .int), .int a, .int wd, .int m] = .ok (scrL ns a.toNat wd.toNat m.toNat) := by simp only [lscrF, hi, hk, and_self, if_true]
        rw [e2]
        obtain ⟨⟨ha, hw, hw2⟩, hm, hm2⟩ := hk
        obtain ⟨a, rfl⟩ := Int.eq_ofNat_of_zero_le ha
        obtain ⟨wd, rfl⟩ := Int.eq_ofNat_of_zero_le hw
        obtain ⟨m, rfl⟩ := Int.eq_ofNat_of_zero_le (Int.le_of_lt hm)
        rw [Int.toNat_natCast, Int.toNat_natCast, Int.toNat_natCast]
        have hw3 : wd ≤ 100 := by omega
        have hm3 : m ≤ 100 := by omega
        have e : compD (fun _ => R.ok true) (gCall 3 rowF (gACons (fun ρ => rdV ρ 1) (gACons (g2 addD (fun ρ => rdV ρ 2) (g2 mulD (fun _ => R.ok (D.int 30)) fun ρ => rdV ρ 0)) (gACons (fun ρ => rdV ρ 3) fun _ => R.ok []))))
            ((List.range m).map fun (i : Nat) => D.int (i : Int)) [none, some (.val (.lst fz (ns.map .int))), some (.val (.int a)), some (.val (.int wd))] = .ok (((List.range m).map fun (i : Nat) => D.int (i : Int)).map fun d => match d with | .int k => .str (rowL ns (a + 30 * k.toNat) wd) | d => d) := by
          refine compD_all _ _ _ none fun d hd => ⟨rfl, ?_⟩
          obtain ⟨k, _, rfl⟩ := List.mem_map.1 hd
          have m1 : mulD (.int 30) (.int (k : Int)) = some (.int ((30 * k : Nat) : Int)) := by rw [e_mulL (by decide)]; congr 2
          have m2 : (a : Int) + ((30 * k : Nat) : Int) = ((a + 30 * k : Nat) : Int) := by omega
          have m3 := rowF_nat (fz := fz) (ns := ns) (a := a + 30 * k) hw3
          walk_at "run"
          simp only [Int.toNat_natCast]
        show bodyR (oSeq _ _ [some (.val (.lst fz (ns.map .int))), some (.val (.int a)), some (.val (.int wd)), some (.val (.int m)), none]) = _
        have i1 : inner [0, 1, 2] [some (.val (.lst fz (ns.map .int))), some (.val (.int a)), some (.val (.int wd)), some (.val (.int m)), none] = [none, some (.val (.lst fz (ns.map .int))), some (.val (.int a)), some (.val (.int wd))] := rfl
        have r1 : rangeD1 [.int (m : Int)] = .ok ((List.range m).map fun (i : Nat) => D.int (i : Int)) := range_up (by omega)
        have z1 : (((List.range m).map fun (i : Nat) => D.int (i : Int)).map fun d => match d with | .int k => .str (rowL ns (a + 30 * k.toNat) wd) | d => d) = rowsL ns a wd m := by
          rw [List.map_map]; unfold rowsL; refine List.map_congr_left fun k _ => ?_; simp
        have z2 : (rowsL ns a wd m).length ≤ sizeLine := by have := line_big; unfold rowsL; simp; omega
        have p1 : pickF [.lst fz (ns.map .int), .int ((a : Int) + 400), .int (m : Int)] = .ok (.int (pick ns (a + 400) m)) := by have := pickF_nat (fz := fz) (ns := ns) (n := a + 400) (m := m) (by omega); exact this
        have p2 : pickF [.lst fz (ns.map .int), .int ((a : Int) + 401), .int ((wd : Int) + 1)] = .ok (.int (pick ns (a + 401) (wd + 1))) := by have := pickF_nat (fz := fz) (ns := ns) (n := a + 401) (m := (wd : Int) + 1) (by omega); exact this
        have k1 : ∀ x : List D, tupleF [.lst false x] = some (.tup x) := fun _ => rfl
        have k2 : ∀ x y : D, mkT [x, y] = .ok (.tup [x, y]) := fun _ _ => m_t (by simp)
        have k3 : ∀ x y z : D, mkT [x, y, z] = .ok (.tup [x, y, z]) := fun _ _ _ => m_t (by simp)
        rw [z1] at e
        clear hi hl e2 hw hw2 hm hm2 hw3 hm3 z1
        walk_at "run"
        rfl
      · refine Or.inl ?_; simp only [lscrF, hi, hk, if_false]
noncomputable def cl : Nat → D → Bool
  | 0, _ => false
  | _ + 1, .exc _ => false
  | n + 1, .tup xs => xs.all (cl n)
  | n + 1, .lst _ xs => xs.all (cl n)
  | _ + 1, _ => true
theorem eqZ_self {f : D → D → Option Bool} : ∀ xs : List D, (∀ x ∈ xs, f x x = some true) → eqZ f xs xs = some (xs.map fun _ => true)
  | [], _ => rfl
  | x :: xs, h => by
    rw [eqZ, h x (List.mem_cons_self ..), eqZ_self xs fun y hy => h y (List.mem_cons_of_mem _ hy)]; rfl
theorem all_true {α : Type} : ∀ xs : List α, (xs.map fun _ => true).all id = true
  | [] => rfl
  | _ :: xs => by rw [List.map_cons, List.all_cons, all_true xs]; rfl
theorem eqD_self : ∀ (n m : Nat) (d : D), n ≤ m → cl n d = true → eqD m d d = some true
  | 0, _, _, _, h => by simp [cl] at h
  | n + 1, 0, _, h, _ => by omega
  | n + 1, m + 1, d, hm, h => by
    cases d <;> first | (simp [cl] at h; done) | (simp [eqD]; done) | skip
    · rename_i xs
      simp only [cl, List.all_eq_true] at h
      have := eqZ_self (f := eqD m) xs fun x hx => eqD_self n m x (by omega) (h x hx)
      simp only [eqD, this, Option.map_some, all_true, beq_self_eq_true, Bool.and_true]
    · rename_i fz xs
      simp only [cl, List.all_eq_true] at h
      have := eqZ_self (f := eqD m) xs fun x hx => eqD_self n m x (by omega) (h x hx)
      simp only [eqD, if_true, this, Option.map_some, all_true]
theorem ne_self {d : D} (h : cl 10 d = true) : neF d d = some (.bl false) := by
  unfold neF; rw [eqD_self 10 40 d (by omega) h]; rfl
theorem eq_self' {d : D} (h : cl 10 d = true) : eqF d d = some (.bl true) := by
  unfold eqF; rw [eqD_self 10 40 d (by omega) h]; rfl

end Q
namespace Q
open L2
open PySem (sizeLine Addr)
noncomputable def row_or_blank_s1 : Ev → O := (oIf (gB3 leD ltD (fun _ => R.ok (D.int 0)) (fun ρ => rdV ρ 1) (gOf lenF (gACons (g2 ixD (fun ρ => rdV ρ 0) (fun _ => R.ok (D.int 1))) (fun _ => R.ok [])))) (oSeq (oRet (g2 ixD (g2 ixD (fun ρ => rdV ρ 0) (fun _ => R.ok (D.int 1))) (fun ρ => rdV ρ 1))) oNx) oNx)
noncomputable def row_or_blank_s2 : Ev → O := (oRet (g2 mulD (fun _ => R.ok (D.str [32])) (g2 ixD (fun ρ => rdV ρ 0) (fun _ => R.ok (D.int 0)))))
noncomputable def row_or_blank_all : Ev → O := (oSeq row_or_blank_s1 (oSeq row_or_blank_s2 oNx))
noncomputable def scrolled_s1 (F_check_screen : List D → R D) (F_is_within : List D → R D) (F_row_or_blank : List D → R D) (C_NoNumber : Addr) : Ev → O := (oExpr (gCall 1 F_check_screen (gACons (fun ρ => rdV ρ 0) (fun _ => R.ok []))))
noncomputable def scrolled_s2 (F_check_screen : List D → R D) (F_is_within : List D → R D) (F_row_or_blank : List D → R D) (C_NoNumber : Addr) : Ev → O := (oIf (gBn (gThen truD (gCall 3 F_is_within (gACons (fun ρ => rdV ρ 1) (gACons (gThen negD (fun _ => R.ok (D.int 12))) (gACons (fun _ => R.ok (D.int 12)) (fun _ => R.ok []))))))) (oSeq (oRaise C_NoNumber (gACons (fun _ => R.ok (D.str [97, 32, 115, 99, 114, 101, 101, 110, 32, 105, 115, 32, 115, 99, 114, 111, 108, 108, 101, 100, 32, 98, 121, 32, 45, 49, 50, 32, 116, 111, 32, 49, 50, 32, 114, 111, 119, 115])) (fun _ => R.ok []))) oNx) oNx)
noncomputable def scrolled_s3 (F_check_screen : List D → R D) (F_is_within : List D → R D) (F_row_or_blank : List D → R D) (C_NoNumber : Addr) : Ev → O := (oOwn 2 (gComp (gThen rangeD1 (gACons (gOf lenF (gACons (g2 ixD (fun ρ => rdV ρ 0) (fun _ => R.ok (D.int 1))) (fun _ => R.ok []))) (fun _ => R.ok []))) [0, 1] (fun _ => R.ok true) (gCall 2 F_row_or_blank (gACons (fun ρ => rdV ρ 1) (gACons (g2 addD (fun ρ => rdV ρ 0) (fun ρ => rdV ρ 2)) (fun _ => R.ok []))))))
noncomputable def scrolled_s4 (F_check_screen : List D → R D) (F_is_within : List D → R D) (F_row_or_blank : List D → R D) (C_NoNumber : Addr) : Ev → O := (oRet (gThen mkT (gACons (g2 ixD (fun ρ => rdV ρ 0) (fun _ => R.ok (D.int 0))) (gACons (gOf tupleF (gACons (fun ρ => rdV ρ 2) (fun _ => R.ok []))) (gACons (g2 ixD (fun ρ => rdV ρ 0) (fun _ => R.ok (D.int 2))) (fun _ => R.ok []))))))
noncomputable def scrolled_all (F_check_screen : List D → R D) (F_is_within : List D → R D) (F_row_or_blank : List D → R D) (C_NoNumber : Addr) : Ev → O := (oSeq (scrolled_s1 F_check_screen F_is_within F_row_or_blank C_NoNumber) (oSeq (scrolled_s2 F_check_screen F_is_within F_row_or_blank C_NoNumber) (oSeq (scrolled_s3 F_check_screen F_is_within F_row_or_blank C_NoNumber) (oFrz 2 (oSeq (scrolled_s4 F_check_screen F_is_within F_row_or_blank C_NoNumber) oNx)))))
noncomputable def law_some_s1 (F__law_pick : List D → R D) (F__law_screen : List D → R D) : Ev → O := (oRet (gCall 4 F__law_screen (gACons (fun ρ => rdV ρ 0) (gACons (g2 addD (fun ρ => rdV ρ 1) (fun _ => R.ok (D.int 5))) (gACons (g2 addD (fun _ => R.ok (D.int 1)) (gCall 3 F__law_pick (gACons (fun ρ => rdV ρ 0) (gACons (fun ρ => rdV ρ 1) (gACons (fun _ => R.ok (D.int 8)) (fun _ => R.ok [])))))) (gACons (g2 addD (fun _ => R.ok (D.int 1)) (gCall 3 F__law_pick (gACons (fun ρ => rdV ρ 0) (gACons (g2 addD (fun ρ => rdV ρ 1) (fun _ => R.ok (D.int 1))) (gACons (fun _ => R.ok (D.int 4)) (fun _ => R.ok [])))))) (fun _ => R.ok [])))))))
noncomputable def law_some_all (F__law_pick : List D → R D) (F__law_screen : List D → R D) : Ev → O := (oSeq (law_some_s1 F__law_pick F__law_screen) oNx)
theorem x3_0 (a b c : D) : ixD (.tup [a, b, c]) (.int 0) = some a := rfl
theorem x3_1 (a b c : D) : ixD (.tup [a, b, c]) (.int 1) = some b := rfl
theorem x3_2 (a b c : D) : ixD (.tup [a, b, c]) (.int 2) = some c := rfl
theorem t3 (x y z : D) : mkT [x, y, z] = .ok (.tup [x, y, z]) := m_t (by simp)
theorem t2 (x y : D) : mkT [x, y] = .ok (.tup [x, y]) := m_t (by simp)
theorem tl_ (x : List D) : tupleF [.lst false x] = some (.tup x) := rfl
theorem it_l (f : Bool) (x : List D) : itemsD (.lst f x) = .ok x := rfl
theorem ng (i : Int) : negD (.int i) = .ok (.int (-i)) := rfl
theorem inBF_int (i lo hi : Int) : inBF [.int i, .int lo, .int hi] = .ok (.bl (decide (lo ≤ i) && decide (i ≤ hi))) := rfl
theorem screen_fine {d : D} (h : screen d = true) : fine3 d = true := by
  cases d <;> first | (cases h; done) | skip
  rename_i xs
  match xs, h with
  | [], h => cases h
  | [_], h => cases h
  | [_, _], h => cases h
  | a :: b :: c :: e :: l, h => cases h
  | [a, r, p], h =>
    cases a <;> first | (cases h; done) | skip
    rename_i i
    cases r <;> first | (simp [screen, full] at h; done) | skip
    rename_i rows
    simp only [screen, Bool.and_eq_true] at h
    obtain ⟨⟨h1, h2⟩, h3⟩ := h
    simp only [full, Bool.and_eq_true, List.all_eq_true] at h2
    simp only [inB, Bool.and_eq_true, decide_eq_true_eq] at h1
    simp only [fine3, Bool.and_eq_true, List.all_eq_true]
    refine ⟨⟨rfl, fun r hr => ?_⟩, ?_⟩
    · have q := h2.2 r hr
      cases r <;> first | rfl | (cases q; done) | skip
      rename_i x
      simp only [rowOf, Bool.and_eq_true, beq_iff_eq] at q
      simp only [fine, decide_eq_true_eq]
      have := line_big
      omega
    · cases p <;> first | (cases h3; done) | skip
      rename_i ps
      match ps, h3 with
      | [a, b], h3 =>
        simp only [place, Bool.and_eq_true] at h3
        show [a, b].all noExc = true
        rw [List.all_eq_true]
        intro x hx
        rcases List.mem_cons.1 hx with rfl | hx
        · cases x <;> first | rfl | exact absurd h3.1 (by simp [inB])
        · rcases List.mem_cons.1 hx with rfl | hx
          · cases x <;> first | rfl | exact absurd h3.2 (by simp [inB])
          · cases hx
theorem checkF_ok {C : Addr} {d : D} (h : screen d = true) : checkF C [d] = .ok .non := by
  show (if fine3 d = true then (if screen d = true then R.ok D.non else .ex C) else .no) = _
  rw [if_pos (screen_fine h), if_pos h]
noncomputable def stretch (b m r : Int) : Bool := decide (0 ≤ b) && decide (b ≤ r - 1) && (decide (1 ≤ m) && decide (m ≤ r - b))
theorem tup3 {d : D} {P : Prop} (h : ∀ wd rows p, d = .tup [.int wd, .tup rows, p] → P) (h2 : (∀ wd rows p, d ≠ .tup [.int wd, .tup rows, p]) → P) : P := by
  by_cases e : ∃ wd rows p, d = .tup [.int wd, .tup rows, p]
  · obtain ⟨wd, rows, p, e⟩ := e; exact h wd rows p e
  · exact h2 fun wd rows p q => e ⟨wd, rows, p, q⟩
noncomputable def cutRow (l w : Nat) : D → D
  | .str x => .str ((x.drop l).take w)
  | d => d
noncomputable def partF : List D → R D
  | [.tup [.int wd, .tup rows, p], .int t, .int l, .int h, .int w] => if screen (.tup [.int wd, .tup rows, p]) = true ∧ stretch t h rows.length = true ∧ stretch l w wd = true then .ok (.tup [.int w, .tup (((rows.drop t.toNat).take h.toNat).map (cutRow l.toNat w.toNat)), .tup [.int 0, .int 0]]) else .no
  | _ => .no
theorem full_of {wd : Int} {rows : List D} {p : D} (h : screen (.tup [.int wd, .tup rows, p]) = true) : (1 ≤ wd ∧ wd ≤ 40) ∧ (1 ≤ rows.length ∧ rows.length ≤ 12) ∧ (∀ r ∈ rows, ∃ x, r = .str x ∧ plain x = true ∧ (x.length : Int) = wd) ∧ place p wd rows.length = true := by
  simp only [screen, Bool.and_eq_true] at h
  obtain ⟨⟨h1, h2⟩, h3⟩ := h
  simp only [full, Bool.and_eq_true, List.all_eq_true, decide_eq_true_eq] at h2
  simp only [inB, Bool.and_eq_true, decide_eq_true_eq] at h1
  refine ⟨h1, h2.1, fun r hr => ?_, h3⟩
  have q := h2.2 r hr
  cases r <;> first | (cases q; done) | skip
  rename_i x
  simp only [rowOf, Bool.and_eq_true, beq_iff_eq] at q
  exact ⟨x, rfl, q.1, q.2⟩
noncomputable def lineAt (rows : List D) (wd : Nat) (n : Int) : D := if 0 ≤ n ∧ n < rows.length then rows.getD n.toNat .non else .str (List.replicate wd 32)
noncomputable def robF : List D → R D
  | [.tup [.int wd, .tup rows, _], .int n] => if 0 ≤ wd ∧ wd ≤ 100 then .ok (lineAt rows wd.toNat n) else .no
  | _ => .no
theorem row_or_blank_ok : ∀ ds : List D, ds.length = 2 → robF ds = .no ∨ bodyR (row_or_blank_all (startE 2 ds)) = robF ds := by
  intro ds hl
  match ds, hl with
  | [d, n], _ =>
    refine tup3 (d := d) (fun wd rows p e => ?_) fun e => Or.inl ?_
    · subst e
      cases n <;> first | exact Or.inl rfl | skip
      rename_i n hl
      by_cases hc : 0 ≤ wd ∧ wd ≤ 100
      · refine Or.inr ?_
        have e2 : robF [.tup [.int wd, .tup rows, p], .int n] = .ok (lineAt rows wd.toNat n) := if_pos hc
        rw [e2]
        obtain ⟨wd, rfl⟩ := Int.eq_ofNat_of_zero_le hc.1
        rw [Int.toNat_natCast]
        show bodyR (oSeq _ _ [some (.val (.tup [.int wd, .tup rows, p])), some (.val (.int n))]) = _
        unfold row_or_blank_s1 row_or_blank_s2 lineAt
        have x0 := x3_0 (.int wd) (.tup rows) p
        have x1 := x3_1 (.int wd) (.tup rows) p
        have m1 : mulD (.str [32]) (.int (wd : Int)) = some (.str (List.replicate wd 32)) := s_rep (by omega)
        clear hl e2 hc
        by_cases h1 : 0 ≤ n
        · by_cases h2 : n < rows.length
          · obtain ⟨k, rfl⟩ := Int.eq_ofNat_of_zero_le h1
            have q1 : decide ((0 : Int) ≤ (k : Int)) = true := by simp
            have q2 : decide ((k : Int) < (rows.length : Int)) = true := by simp; omega
            have x2 : ixD (.tup rows) (.int (k : Int)) = some (rows.getD k .non) := t_ix (by rw [List.getD_eq_getElem?_getD, List.getElem?_eq_getElem (by omega)]; rfl)
            rw [if_pos ⟨h1, h2⟩, Int.toNat_natCast]
            clear h1 h2
            walk_at "run"
          · have q1 : decide ((0 : Int) ≤ n) = true := by simp [h1]
            have q2 : decide (n < (rows.length : Int)) = false := by simp; omega
            rw [if_neg (by omega)]
            clear h1 h2
            walk_at "run"
        · have q1 : decide ((0 : Int) ≤ n) = false := by simp; omega
          rw [if_neg (by omega)]
          clear h1
          walk_at "run"
      · exact Or.inl (if_neg hc)
    · unfold robF
      split
      · rename_i q; cases q; exact absurd rfl (e _ _ _)
      · rfl
noncomputable def scrollR (rows : List D) (wd : Nat) (by_ : Int) : List D := (List.range rows.length).map fun (k : Nat) => lineAt rows wd ((k : Int) + by_)
noncomputable def scrollF : List D → R D
  | [.tup [.int wd, .tup rows, p], .int b] => if screen (.tup [.int wd, .tup rows, p]) = true ∧ -12 ≤ b ∧ b ≤ 12 then .ok (.tup [.int wd, .tup (scrollR rows wd.toNat b), p]) else .no
  | _ => .no
theorem scrolled_ok {C1 C2 : Addr} : ∀ ds : List D, ds.length = 2 → scrollF ds = .no ∨ bodyR (scrolled_all (checkF C1) inBF robF C2 (startE 3 ds)) = scrollF ds := by
  intro ds hl
  match ds, hl with
  | [d, n], _ =>
    refine tup3 (d := d) (fun wd rows p e => ?_) fun e => Or.inl ?_
    · subst e
      cases n <;> first | exact Or.inl rfl | skip
      rename_i b hl
      by_cases hc : screen (.tup [.int wd, .tup rows, p]) = true ∧ -12 ≤ b ∧ b ≤ 12
      · refine Or.inr ?_
        have e2 : scrollF [.tup [.int wd, .tup rows, p], .int b] = .ok (.tup [.int wd, .tup (scrollR rows wd.toNat b), p]) := if_pos hc
        rw [e2]
        obtain ⟨hs, h1⟩ := hc
        have c1 := checkF_ok (C := C1) hs
        obtain ⟨⟨w1, w2⟩, ⟨n1, n2⟩, hr, _⟩ := full_of hs
        obtain ⟨wd, rfl⟩ := Int.eq_ofNat_of_zero_le (a := wd) (by omega)
        rw [Int.toNat_natCast]
        have c2 : inBF [.int b, .int (-12), .int 12] = .ok (.bl true) := by rw [inBF_int]; simp; omega
        have e : compD (fun _ => R.ok true) (gCall 2 robF (gACons (fun ρ => rdV ρ 1) (gACons (g2 addD (fun ρ => rdV ρ 0) (fun ρ => rdV ρ 2)) (fun _ => R.ok [])))) ((List.range rows.length).map fun (i : Nat) => D.int (i : Int)) [none, some (.val (.tup [.int wd, .tup rows, p])), some (.val (.int b))]
            = .ok (((List.range rows.length).map fun (i : Nat) => D.int (i : Int)).map fun d => match d with | .int k => lineAt rows wd (k + b) | d => d) := by
          refine compD_all _ _ _ none fun d hd => ⟨rfl, ?_⟩
          obtain ⟨k, _, rfl⟩ := List.mem_map.1 hd
          have r1 : robF [.tup [.int wd, .tup rows, p], .int ((k : Int) + b)] = .ok (lineAt rows wd ((k : Int) + b)) := by
            have : robF [.tup [.int wd, .tup rows, p], .int ((k : Int) + b)] = .ok (lineAt rows (wd : Int).toNat ((k : Int) + b)) := if_pos (by omega)
            rw [this, Int.toNat_natCast]
          clear hd c1 c2 hr hs e2
          walk_at "run"
        have z1 : (((List.range rows.length).map fun (i : Nat) => D.int (i : Int)).map fun d => match d with | .int k => lineAt rows wd (k + b) | d => d) = scrollR rows wd b := by
          rw [List.map_map]; unfold scrollR; refine List.map_congr_left fun k _ => ?_; rfl
        rw [z1] at e
        show bodyR (oSeq _ _ [some (.val (.tup [.int wd, .tup rows, p])), some (.val (.int b)), none]) = _
        have x0 := x3_0 (.int wd) (.tup rows) p
        have x1 := x3_1 (.int wd) (.tup rows) p
        have x2 := x3_2 (.int wd) (.tup rows) p
        have r1 : rangeD1 [.int (rows.length : Int)] = .ok ((List.range rows.length).map fun (i : Nat) => D.int (i : Int)) := range_up (by omega)
        have i2 : inner [0, 1] [some (.val (.tup [.int wd, .tup rows, p])), some (.val (.int b)), none] = [none, some (.val (.tup [.int wd, .tup rows, p])), some (.val (.int b))] := rfl
        have z : (scrollR rows wd b).length ≤ sizeLine := by have := line_big; unfold scrollR; simp; omega
        have k3 := tl_ (scrollR rows wd b)
        have f2 : ∀ (a0 a1 : Option Sl) (ds : List D), frz 2 [a0, a1, some (.own ds)] = [a0, a1, some (.val (.lst false ds))] := fun _ _ _ => rfl
        have m3 := t3
        have g1 := ng 12
        unfold scrolled_s1 scrolled_s2 scrolled_s3 scrolled_s4
        clear hl e2 hs h1 w1 w2 n1 n2 hr z1
        walk_at "run"
      · exact Or.inl (if_neg hc)
    · unfold scrollF
      split
      · rename_i q; cases q; exact absurd rfl (e _ _ _)
      · rfl
noncomputable def wS (ns : List Int) (a : Nat) : Nat := (1 + pick ns a 8).toNat
noncomputable def mS (ns : List Int) (a : Nat) : Nat := (1 + pick ns (a + 1) 4).toNat
theorem wS_range (ns : List Int) (a : Nat) : 1 ≤ wS ns a ∧ wS ns a ≤ 8 ∧ (1 : Int) + pick ns a 8 = (wS ns a : Int) := by
  have h := pick_range ns a (m := 8) (by decide)
  unfold wS; omega
theorem mS_range (ns : List Int) (a : Nat) : 1 ≤ mS ns a ∧ mS ns a ≤ 4 ∧ (1 : Int) + pick ns (a + 1) 4 = (mS ns a : Int) := by
  have h := pick_range ns (a + 1) (m := 4) (by decide)
  unfold mS; omega
noncomputable def pl (ns : List Int) (a : Nat) (wd m : Nat) : D := .tup [.int (pick ns (a + 400) m), .int (pick ns (a + 401) (wd + 1))]
noncomputable def scS (ns : List Int) (a : Nat) : D := .tup [.int (wS ns a : Int), .tup (rowsL ns (a + 5) (wS ns a) (mS ns a)), pl ns (a + 5) (wS ns a) (mS ns a)]
noncomputable def someF : List D → R D
  | [.lst _ ds, .int a] => match intsD ds with
    | some ns => if 0 ≤ a then .ok (scS ns a.toNat) else .no
    | none => .no
  | _ => .no
theorem someF_nat {fz : Bool} {ns : List Int} {a : Nat} : someF [.lst fz (ns.map .int), .int (a : Int)] = .ok (scS ns a) := by
  simp only [someF, intsD_map, Int.natCast_nonneg, if_true, Int.toNat_natCast]
theorem law_some_ok : ∀ ds : List D, ds.length = 2 → someF ds = .no ∨ bodyR (law_some_all pickF lscrF (startE 2 ds)) = someF ds := by
  intro ds hl
  match ds, hl with
  | [l, a], _ =>
    cases l <;> first | exact Or.inl rfl | skip
    cases a <;> first | exact Or.inl rfl | skip
    rename_i fz ds a hl
    cases hi : intsD ds with
    | none => refine Or.inl ?_; simp only [someF, hi]
    | some ns =>
      have e := intsD_eq hi
      subst e
      by_cases hk : 0 ≤ a
      · refine Or.inr ?_
        obtain ⟨a, rfl⟩ := Int.eq_ofNat_of_zero_le hk
        rw [someF_nat]
        show bodyR (oSeq _ _ [some (.val (.lst fz (ns.map .int))), some (.val (.int a))]) = _
        have p1 : pickF [.lst fz (ns.map .int), .int (a : Int), .int 8] = .ok (.int (pick ns a 8)) := pickF_nat (by decide)
        have p2 : pickF [.lst fz (ns.map .int), .int ((a : Int) + 1), .int 4] = .ok (.int (pick ns (a + 1) 4)) := pickF_nat (n := a + 1) (by decide)
        obtain ⟨w1, w2, w3⟩ := wS_range ns a
        obtain ⟨m1, m2, m3⟩ := mS_range ns a
        have s1 : lscrF [.lst fz (ns.map .int), .int ((a : Int) + 5), .int (wS ns a : Int), .int (mS ns a : Int)] = .ok (scS ns a) := by
          have e : lscrF [.lst fz (ns.map .int), .int ((a : Int) + 5), .int (wS ns a : Int), .int (mS ns a : Int)] = if ((0 : Int) ≤ (a : Int) + 5 ∧ (0 : Int) ≤ (wS ns a : Int) ∧ (wS ns a : Int) ≤ 100) ∧ 0 < (mS ns a : Int) ∧ (mS ns a : Int) ≤ 100 then .ok (scrL ns ((a : Int) + 5).toNat (wS ns a : Int).toNat (mS ns a : Int).toNat) else .no := by simp only [lscrF, intsD_map]
          rw [e, if_pos (by omega), Int.toNat_natCast, Int.toNat_natCast, show ((a : Int) + 5).toNat = a + 5 by omega]; rfl
        unfold law_some_s1
        clear hl hi hk w1 w2 m1 m2
        walk_at "run"
      · refine Or.inl ?_; simp only [someF, hi, hk, if_false]
theorem screen_mk {wd : Nat} {rows : List D} {p : D} (w1 : 1 ≤ wd) (w2 : wd ≤ 40) (n1 : 1 ≤ rows.length) (n2 : rows.length ≤ 12) (hr : ∀ r ∈ rows, ∃ x, r = .str x ∧ x.length = wd ∧ plain x = true) (hp : place p wd rows.length = true) : screen (.tup [.int wd, .tup rows, p]) = true := by
  simp only [screen, full, inB, Bool.and_eq_true, decide_eq_true_eq, List.all_eq_true]
  refine ⟨⟨⟨by omega, by omega⟩, ⟨n1, n2⟩, fun r h => ?_⟩, hp⟩
  obtain ⟨x, rfl, h1, h2⟩ := hr r h
  simp [rowOf, h1, h2]
theorem pl_place (ns : List Int) (a : Nat) {wd m : Nat} (h : 1 ≤ m) : place (pl ns a wd m) wd m = true := by
  have h1 := pick_range ns (a + 400) (m := (m : Int)) (by omega)
  have h2 := pick_range ns (a + 401) (m := (wd : Int) + 1) (by omega)
  simp only [pl, place, inB, Bool.and_eq_true, decide_eq_true_eq]; omega
end Q
namespace Q
open L2
open PySem (sizeLine Addr)
end Q
namespace Q81
open L2 Q
open PySem (sizeLine Addr)
noncomputable def is_blank_s1 : Ev → O := (oRet (g2 eqF (gMeth "str" stripGF (fun ρ => rdV ρ 0) (gACons (fun _ => R.ok (D.str [32])) (fun _ => R.ok []))) (fun _ => R.ok (D.str []))))
noncomputable def is_blank_all : Ev → O := (oSeq is_blank_s1 oNx)
noncomputable def alike_behind_scroll_s1 (F_scrolled : List D → R D) (F_alike_rows : List D → R D) (F_is_blank : List D → R D) : Ev → O := (oSet 3 (gCall 2 F_alike_rows (gACons (gCall 2 F_scrolled (gACons (fun ρ => rdV ρ 0) (gACons (fun ρ => rdV ρ 2) (fun _ => R.ok [])))) (gACons (fun ρ => rdV ρ 1) (fun _ => R.ok [])))))
noncomputable def alike_behind_scroll_s2 (F_scrolled : List D → R D) (F_alike_rows : List D → R D) (F_is_blank : List D → R D) : Ev → O := (oRet (gOf lenF (gACons (gFresh (gComp (gThen itemsD (fun ρ => rdV ρ 3)) [1] (gBn (gThen truD (gCall 1 F_is_blank (gACons (g2 ixD (g2 ixD (fun ρ => rdV ρ 1) (fun _ => R.ok (D.int 1))) (fun ρ => rdV ρ 0)) (fun _ => R.ok []))))) (fun ρ => rdV ρ 0))) (fun _ => R.ok []))))
noncomputable def alike_behind_scroll_all (F_scrolled : List D → R D) (F_alike_rows : List D → R D) (F_is_blank : List D → R D) : Ev → O := (oSeq (alike_behind_scroll_s1 F_scrolled F_alike_rows F_is_blank) (oSeq (alike_behind_scroll_s2 F_scrolled F_alike_rows F_is_blank) oNx))
noncomputable def scroll_by_s1 (F_check_same_size : List D → R D) (F_alike_behind_scroll : List D → R D) : Ev → O := (oExpr (gCall 2 F_check_same_size (gACons (fun ρ => rdV ρ 0) (gACons (fun ρ => rdV ρ 1) (fun _ => R.ok [])))))
noncomputable def scroll_by_s2 (F_check_same_size : List D → R D) (F_alike_behind_scroll : List D → R D) : Ev → O := (oSet 2 (g2 subD (gOf lenF (gACons (g2 ixD (fun ρ => rdV ρ 0) (fun _ => R.ok (D.int 1))) (fun _ => R.ok []))) (fun _ => R.ok (D.int 1))))
noncomputable def scroll_by_s3 (F_check_same_size : List D → R D) (F_alike_behind_scroll : List D → R D) : Ev → O := (oSet 3 (gListR (gACons (gThen negD (fun ρ => rdV ρ 2)) (gACons (g2 addD (fun ρ => rdV ρ 2) (fun _ => R.ok (D.int 1))) (fun _ => R.ok [])))))
noncomputable def scroll_by_s4 (F_check_same_size : List D → R D) (F_alike_behind_scroll : List D → R D) : Ev → O := (oRet (gMaxK (fun ρ => rdV ρ 3) [0, 1] (gThen mkT (gACons (gCall 3 F_alike_behind_scroll (gACons (fun ρ => rdV ρ 1) (gACons (fun ρ => rdV ρ 2) (gACons (fun ρ => rdV ρ 0) (fun _ => R.ok []))))) (gACons (gThen negD (gOf absF (gACons (fun ρ => rdV ρ 0) (fun _ => R.ok [])))) (gACons (gThen negD (fun ρ => rdV ρ 0)) (fun _ => R.ok [])))))))
noncomputable def scroll_by_all (F_check_same_size : List D → R D) (F_alike_behind_scroll : List D → R D) : Ev → O := (oSeq (scroll_by_s1 F_check_same_size F_alike_behind_scroll) (oSeq (scroll_by_s2 F_check_same_size F_alike_behind_scroll) (oSeq (scroll_by_s3 F_check_same_size F_alike_behind_scroll) (oSeq (scroll_by_s4 F_check_same_size F_alike_behind_scroll) oNx))))
noncomputable def alike_rows_s1 (F_check_same_size : List D → R D) : Ev → O := (oExpr (gCall 2 F_check_same_size (gACons (fun ρ => rdV ρ 0) (gACons (fun ρ => rdV ρ 1) (fun _ => R.ok [])))))
noncomputable def alike_rows_s2 (F_check_same_size : List D → R D) : Ev → O := (oRet (gFresh (gCompT 2 (setT [0, 1]) (gThen enumD (g2 ixD (fun ρ => rdV ρ 0) (fun _ => R.ok (D.int 1)))) [1] (gB2 eqF (fun ρ => rdV ρ 1) (g2 ixD (g2 ixD (fun ρ => rdV ρ 2) (fun _ => R.ok (D.int 1))) (fun ρ => rdV ρ 0))) (fun ρ => rdV ρ 0))))
noncomputable def alike_rows_all (F_check_same_size : List D → R D) : Ev → O := (oSeq (alike_rows_s1 F_check_same_size) (oSeq (alike_rows_s2 F_check_same_size) oNx))
noncomputable def check_same_size_s1 (F_check_screen : List D → R D) (C_NoScreen : Addr) : Ev → O := (oExpr (gCall 1 F_check_screen (gACons (fun ρ => rdV ρ 0) (fun _ => R.ok []))))
noncomputable def check_same_size_s2 (F_check_screen : List D → R D) (C_NoScreen : Addr) : Ev → O := (oExpr (gCall 1 F_check_screen (gACons (fun ρ => rdV ρ 1) (fun _ => R.ok []))))
noncomputable def check_same_size_s3 (F_check_screen : List D → R D) (C_NoScreen : Addr) : Ev → O := (oIf (tOrB (gB2 neF (g2 ixD (fun ρ => rdV ρ 0) (fun _ => R.ok (D.int 0))) (g2 ixD (fun ρ => rdV ρ 1) (fun _ => R.ok (D.int 0)))) (gB2 neF (gOf lenF (gACons (g2 ixD (fun ρ => rdV ρ 0) (fun _ => R.ok (D.int 1))) (fun _ => R.ok []))) (gOf lenF (gACons (g2 ixD (fun ρ => rdV ρ 1) (fun _ => R.ok (D.int 1))) (fun _ => R.ok []))))) (oSeq (oRaise C_NoScreen (gACons (fun _ => R.ok (D.str [116, 104, 101, 115, 101, 32, 115, 99, 114, 101, 101, 110, 115, 32, 97, 114, 101, 32, 110, 111, 116, 32, 111, 102, 32, 111, 110, 101, 32, 115, 105, 122, 101])) (fun _ => R.ok []))) oNx) oNx)
noncomputable def check_same_size_all (F_check_screen : List D → R D) (C_NoScreen : Addr) : Ev → O := (oSeq (check_same_size_s1 F_check_screen C_NoScreen) (oSeq (check_same_size_s2 F_check_screen C_NoScreen) (oSeq (check_same_size_s3 F_check_screen C_NoScreen) oNx)))
noncomputable def is_blank81 : List D → R D := fun ds => bodyR (is_blank_all (startE 1 ds))
theorem is_blank_ok81 : ∀ ds : List D, ds.length = 1 → is_blank81 ds = .no ∨ bodyR (is_blank_all (startE 1 ds)) = is_blank81 ds := fun _ _ => .inr rfl
noncomputable def check_same_size81 (C_NoScreen : Addr) : List D → R D := fun ds => bodyR (check_same_size_all (checkF C_NoScreen) C_NoScreen (startE 2 ds))
theorem check_same_size_ok81 {C_NoScreen : Addr} : ∀ ds : List D, ds.length = 2 → check_same_size81 C_NoScreen ds = .no ∨ bodyR (check_same_size_all (checkF C_NoScreen) C_NoScreen (startE 2 ds)) = check_same_size81 C_NoScreen ds := fun _ _ => .inr rfl
noncomputable def alike_rows81 (C_NoScreen : Addr) : List D → R D := fun ds => bodyR (alike_rows_all (check_same_size81 C_NoScreen) (startE 2 ds))
theorem alike_rows_ok81 {C_NoScreen : Addr} : ∀ ds : List D, ds.length = 2 → alike_rows81 C_NoScreen ds = .no ∨ bodyR (alike_rows_all (check_same_size81 C_NoScreen) (startE 2 ds)) = alike_rows81 C_NoScreen ds := fun _ _ => .inr rfl
noncomputable def alike_behind_scroll81 (C_NoScreen : Addr) : List D → R D := fun ds => bodyR (alike_behind_scroll_all scrollF (alike_rows81 C_NoScreen) is_blank81 (startE 4 ds))
theorem alike_behind_scroll_ok81 {C_NoScreen : Addr} : ∀ ds : List D, ds.length = 3 → alike_behind_scroll81 C_NoScreen ds = .no ∨ bodyR (alike_behind_scroll_all scrollF (alike_rows81 C_NoScreen) is_blank81 (startE 4 ds)) = alike_behind_scroll81 C_NoScreen ds := fun _ _ => .inr rfl
noncomputable def scroll_by81 (C_NoScreen : Addr) : List D → R D := fun ds => bodyR (scroll_by_all (check_same_size81 C_NoScreen) (alike_behind_scroll81 C_NoScreen) (startE 4 ds))
theorem scroll_by_ok81 {C_NoScreen : Addr} : ∀ ds : List D, ds.length = 2 → scroll_by81 C_NoScreen ds = .no ∨ bodyR (scroll_by_all (check_same_size81 C_NoScreen) (alike_behind_scroll81 C_NoScreen) (startE 4 ds)) = scroll_by81 C_NoScreen ds := fun _ _ => .inr rfl
noncomputable def law_s1 (F__law_some : List D → R D) (F__law_screen : List D → R D) (F__law_pick : List D → R D) (F_scrolled : List D → R D) (F_alike_rows : List D → R D) (F_scroll_by : List D → R D) : Ev → O := (oSet 1 (gCall 2 F__law_some (gACons (fun ρ => rdV ρ 0) (gACons (fun _ => R.ok (D.int 10)) (fun _ => R.ok [])))))
noncomputable def law_s2 (F__law_some : List D → R D) (F__law_screen : List D → R D) (F__law_pick : List D → R D) (F_scrolled : List D → R D) (F_alike_rows : List D → R D) (F_scroll_by : List D → R D) : Ev → O := (oSet 2 (gOf lenF (gACons (g2 ixD (fun ρ => rdV ρ 1) (fun _ => R.ok (D.int 1))) (fun _ => R.ok []))))
noncomputable def law_s3 (F__law_some : List D → R D) (F__law_screen : List D → R D) (F__law_pick : List D → R D) (F_scrolled : List D → R D) (F_alike_rows : List D → R D) (F_scroll_by : List D → R D) : Ev → O := (oSet 3 (gThen mkT (gACons (g2 ixD (fun ρ => rdV ρ 1) (fun _ => R.ok (D.int 0))) (gACons (g2 ixD (gCall 4 F__law_screen (gACons (fun ρ => rdV ρ 0) (gACons (fun _ => R.ok (D.int 500)) (gACons (g2 ixD (fun ρ => rdV ρ 1) (fun _ => R.ok (D.int 0))) (gACons (fun ρ => rdV ρ 2) (fun _ => R.ok [])))))) (fun _ => R.ok (D.int 1))) (gACons (gThen mkT (gACons (fun _ => R.ok (D.int 0)) (gACons (fun _ => R.ok (D.int 0)) (fun _ => R.ok [])))) (fun _ => R.ok []))))))
noncomputable def law_s4 (F__law_some : List D → R D) (F__law_screen : List D → R D) (F__law_pick : List D → R D) (F_scrolled : List D → R D) (F_alike_rows : List D → R D) (F_scroll_by : List D → R D) : Ev → O := (oIf (gB2 gtD (gCall 3 F__law_pick (gACons (fun ρ => rdV ρ 0) (gACons (fun _ => R.ok (D.int 1)) (gACons (fun _ => R.ok (D.int 3)) (fun _ => R.ok []))))) (fun _ => R.ok (D.int 0))) (oSeq (oSet 3 (gCall 2 F_scrolled (gACons (fun ρ => rdV ρ 1) (gACons (g2 addD (g2 subD (gCall 3 F__law_pick (gACons (fun ρ => rdV ρ 0) (gACons (fun _ => R.ok (D.int 2)) (gACons (g2 subD (g2 mulD (fun _ => R.ok (D.int 2)) (fun ρ => rdV ρ 2)) (fun _ => R.ok (D.int 1))) (fun _ => R.ok []))))) (fun ρ => rdV ρ 2)) (fun _ => R.ok (D.int 1))) (fun _ => R.ok []))))) (oSeq (oIf (gB2 eqF (gCall 3 F__law_pick (gACons (fun ρ => rdV ρ 0) (gACons (fun _ => R.ok (D.int 3)) (gACons (fun _ => R.ok (D.int 2)) (fun _ => R.ok []))))) (fun _ => R.ok (D.int 0))) (oSeq (oSet 4 (gCall 3 F__law_pick (gACons (fun ρ => rdV ρ 0) (gACons (fun _ => R.ok (D.int 4)) (gACons (fun ρ => rdV ρ 2) (fun _ => R.ok [])))))) (oSeq (oSet 3 (gThen mkT (gACons (g2 ixD (fun ρ => rdV ρ 3) (fun _ => R.ok (D.int 0))) (gACons (g2 addD (g2 addD (gSl (g2 ixD (fun ρ => rdV ρ 3) (fun _ => R.ok (D.int 1))) (fun _ => R.ok none) (gSome (fun ρ => rdV ρ 4))) (gThen mkT (gACons (g2 mulD (fun _ => R.ok (D.str [35])) (g2 ixD (fun ρ => rdV ρ 3) (fun _ => R.ok (D.int 0)))) (fun _ => R.ok [])))) (gSl (g2 ixD (fun ρ => rdV ρ 3) (fun _ => R.ok (D.int 1))) (gSome (g2 addD (fun ρ => rdV ρ 4) (fun _ => R.ok (D.int 1)))) (fun _ => R.ok none))) (gACons (g2 ixD (fun ρ => rdV ρ 3) (fun _ => R.ok (D.int 2))) (fun _ => R.ok [])))))) oNx)) oNx) oNx)) oNx)
noncomputable def law_s5 (F__law_some : List D → R D) (F__law_screen : List D → R D) (F__law_pick : List D → R D) (F_scrolled : List D → R D) (F_alike_rows : List D → R D) (F_scroll_by : List D → R D) : Ev → O := (oIf (gB2 neF (gCall 2 F_alike_rows (gACons (fun ρ => rdV ρ 1) (gACons (fun ρ => rdV ρ 3) (fun _ => R.ok [])))) (gFresh (gComp (gThen rangeD1 (gACons (fun ρ => rdV ρ 2) (fun _ => R.ok []))) [1, 3] (gB2 eqF (g2 ixD (g2 ixD (fun ρ => rdV ρ 1) (fun _ => R.ok (D.int 1))) (fun ρ => rdV ρ 0)) (g2 ixD (g2 ixD (fun ρ => rdV ρ 2) (fun _ => R.ok (D.int 1))) (fun ρ => rdV ρ 0))) (fun ρ => rdV ρ 0)))) (oSeq (oRet (fun _ => R.ok (D.bl false))) oNx) oNx)
noncomputable def law_s6 (F__law_some : List D → R D) (F__law_screen : List D → R D) (F__law_pick : List D → R D) (F_scrolled : List D → R D) (F_alike_rows : List D → R D) (F_scroll_by : List D → R D) : Ev → O := (oOwn 5 (gLst (fun _ => R.ok [])))
noncomputable def law_b7 (F__law_some : List D → R D) (F__law_screen : List D → R D) (F__law_pick : List D → R D) (F_scrolled : List D → R D) (F_alike_rows : List D → R D) (F_scroll_by : List D → R D) : Ev → O := (oSeq (oSet 9 (g2 ixD (g2 ixD (fun ρ => rdV ρ 3) (fun _ => R.ok (D.int 1))) (fun ρ => rdV ρ 8))) (oSeq (oIf (tAndB (gB3 leD ltD (fun _ => R.ok (D.int 0)) (g2 addD (fun ρ => rdV ρ 8) (fun ρ => rdV ρ 6)) (fun ρ => rdV ρ 2)) (gB2 neF (fun ρ => rdV ρ 9) (g2 mulD (fun _ => R.ok (D.str [32])) (g2 ixD (fun ρ => rdV ρ 3) (fun _ => R.ok (D.int 0)))))) (oSeq (oSet 7 (g2 addD (fun ρ => rdV ρ 7) (gOf intOfF (gACons (g2 eqF (g2 ixD (g2 ixD (fun ρ => rdV ρ 1) (fun _ => R.ok (D.int 1))) (g2 addD (fun ρ => rdV ρ 8) (fun ρ => rdV ρ 6))) (fun ρ => rdV ρ 9)) (fun _ => R.ok []))))) oNx) oNx) oNx))
noncomputable def law_b8 (F__law_some : List D → R D) (F__law_screen : List D → R D) (F__law_pick : List D → R D) (F_scrolled : List D → R D) (F_alike_rows : List D → R D) (F_scroll_by : List D → R D) : Ev → O := (oSeq (oSet 7 (fun _ => R.ok (D.int 0))) (oSeq (oFor (setV 8) (gThen rangeD1 (gACons (fun ρ => rdV ρ 2) (fun _ => R.ok []))) (law_b7 F__law_some F__law_screen F__law_pick F_scrolled F_alike_rows F_scroll_by)) (oSeq (oApp 5 (gThen mkT (gACons (g2 subD (fun _ => R.ok (D.int 0)) (fun ρ => rdV ρ 7)) (gACons (gOf absF (gACons (fun ρ => rdV ρ 6) (fun _ => R.ok []))) (gACons (fun ρ => rdV ρ 6) (fun _ => R.ok [])))))) oNx)))
noncomputable def law_s9 (F__law_some : List D → R D) (F__law_screen : List D → R D) (F__law_pick : List D → R D) (F_scrolled : List D → R D) (F_alike_rows : List D → R D) (F_scroll_by : List D → R D) : Ev → O := (oFor (setV 6) (gThen rangeD2 (gACons (g2 subD (fun _ => R.ok (D.int 1)) (fun ρ => rdV ρ 2)) (gACons (fun ρ => rdV ρ 2) (fun _ => R.ok [])))) (law_b8 F__law_some F__law_screen F__law_pick F_scrolled F_alike_rows F_scroll_by))
noncomputable def law_s10 (F__law_some : List D → R D) (F__law_screen : List D → R D) (F__law_pick : List D → R D) (F_scrolled : List D → R D) (F_alike_rows : List D → R D) (F_scroll_by : List D → R D) : Ev → O := (oIf (tOrB (gB2 neF (gCall 2 F_scroll_by (gACons (fun ρ => rdV ρ 1) (gACons (fun ρ => rdV ρ 3) (fun _ => R.ok [])))) (g2 ixD (gOf minTF (gACons (fun ρ => rdV ρ 5) (fun _ => R.ok []))) (fun _ => R.ok (D.int 2)))) (gB2 neF (gCall 2 F_scroll_by (gACons (fun ρ => rdV ρ 1) (gACons (fun ρ => rdV ρ 1) (fun _ => R.ok [])))) (fun _ => R.ok (D.int 0)))) (oSeq (oRet (fun _ => R.ok (D.bl false))) oNx) oNx)
noncomputable def law_s11 (F__law_some : List D → R D) (F__law_screen : List D → R D) (F__law_pick : List D → R D) (F_scrolled : List D → R D) (F_alike_rows : List D → R D) (F_scroll_by : List D → R D) : Ev → O := (oRet (gAnd (g2 eqF (gCall 2 F_alike_rows (gACons (fun ρ => rdV ρ 1) (gACons (fun ρ => rdV ρ 1) (fun _ => R.ok [])))) (gListR1 (gACons (fun ρ => rdV ρ 2) (fun _ => R.ok [])))) (g2 eqF (gCall 2 F_alike_rows (gACons (fun ρ => rdV ρ 3) (gACons (fun ρ => rdV ρ 1) (fun _ => R.ok [])))) (gCall 2 F_alike_rows (gACons (fun ρ => rdV ρ 1) (gACons (fun ρ => rdV ρ 3) (fun _ => R.ok [])))))))
noncomputable def law_all (F__law_some : List D → R D) (F__law_screen : List D → R D) (F__law_pick : List D → R D) (F_scrolled : List D → R D) (F_alike_rows : List D → R D) (F_scroll_by : List D → R D) : Ev → O := (oSeq (law_s1 F__law_some F__law_screen F__law_pick F_scrolled F_alike_rows F_scroll_by) (oSeq (law_s2 F__law_some F__law_screen F__law_pick F_scrolled F_alike_rows F_scroll_by) (oSeq (law_s3 F__law_some F__law_screen F__law_pick F_scrolled F_alike_rows F_scroll_by) (oSeq (law_s4 F__law_some F__law_screen F__law_pick F_scrolled F_alike_rows F_scroll_by) (oSeq (law_s5 F__law_some F__law_screen F__law_pick F_scrolled F_alike_rows F_scroll_by) (oSeq (law_s6 F__law_some F__law_screen F__law_pick F_scrolled F_alike_rows F_scroll_by) (oSeq (law_s9 F__law_some F__law_screen F__law_pick F_scrolled F_alike_rows F_scroll_by) (oFrz 5 (oSeq (law_s10 F__law_some F__law_screen F__law_pick F_scrolled F_alike_rows F_scroll_by) (oSeq (law_s11 F__law_some F__law_screen F__law_pick F_scrolled F_alike_rows F_scroll_by) oNx))))))))))
noncomputable def rw81 (M : Nat) (X : Nat → List Nat) : List D := (List.range M).map fun k => .str (X k)
noncomputable def sc81 (W M : Nat) (X : Nat → List Nat) (p : D) : D := .tup [.int (W : Int), .tup (rw81 M X), p]
noncomputable def Good81 (W M : Nat) (X : Nat → List Nat) : Prop := ∀ k, k < M → (X k).length = W ∧ plain (X k) = true
noncomputable def shift81 (W M : Nat) (X : Nat → List Nat) (b : Int) (k : Nat) : List Nat := if 0 ≤ (k : Int) + b ∧ (k : Int) + b < M then X ((k : Int) + b).toNat else List.replicate W 32
noncomputable def alk81 (M : Nat) (X Y : Nat → List Nat) : List Nat := (List.range M).filter fun k => X k == Y k
noncomputable def inl81 (ks : List Nat) : List D := ks.map fun (k : Nat) => .int (k : Int)
theorem rw81_len (M : Nat) (X : Nat → List Nat) : (rw81 M X).length = M := by unfold rw81; simp
theorem rw81_get {M k : Nat} {X : Nat → List Nat} (h : k < M) : (rw81 M X)[k]? = some (.str (X k)) := by unfold rw81; simp [h]
theorem rw81_ix {M k : Nat} {X : Nat → List Nat} (h : k < M) : ixD (.tup (rw81 M X)) (.int (k : Int)) = some (.str (X k)) := atI_nat (rw81_get h)
theorem rw81_row {W M : Nat} {X : Nat → List Nat} (g : Good81 W M X) : ∀ r ∈ rw81 M X, ∃ x, r = .str x ∧ x.length = W ∧ plain x = true := by
  intro r h
  unfold rw81 at h
  obtain ⟨k, hk, rfl⟩ := List.mem_map.1 h
  exact ⟨_, rfl, g k (List.mem_range.1 hk)⟩
theorem rw81_of {W : Nat} {rows : List D} (h : ∀ r ∈ rows, ∃ x, r = .str x ∧ x.length = W ∧ plain x = true) : ∃ X, rows = rw81 rows.length X ∧ Good81 W rows.length X := by
  refine ⟨fun k => match rows.getD k .non with | .str x => x | _ => [], ?_, fun k hk => ?_⟩
  · unfold rw81
    refine List.ext_getElem (by simp) fun i h1 h2 => ?_
    obtain ⟨x, e, _⟩ := h rows[i] (List.getElem_mem h1)
    simp only [List.getElem_map, List.getElem_range]
    have : rows.getD i .non = .str x := by rw [List.getD_eq_getElem?_getD, List.getElem?_eq_getElem h1, e]; rfl
    rw [this, e]
  · obtain ⟨x, e, l, p⟩ := h rows[k] (List.getElem_mem hk)
    have : rows.getD k .non = .str x := by rw [List.getD_eq_getElem?_getD, List.getElem?_eq_getElem hk, e]; rfl
    simp only [this]
    exact ⟨l, p⟩
theorem shift81_good {W M : Nat} {X : Nat → List Nat} (g : Good81 W M X) (b : Int) : Good81 W M (shift81 W M X b) := by
  intro k hk
  unfold shift81
  split
  · exact g _ (by omega)
  · exact ⟨by simp, by unfold plain; simp⟩
theorem scroll81 {M W : Nat} {X : Nat → List Nat} (b : Int) : scrollR (rw81 M X) W b = rw81 M (shift81 W M X b) := by
  unfold scrollR
  rw [rw81_len]
  conv => rhs; unfold rw81
  refine List.map_congr_left fun k hk => ?_
  unfold lineAt shift81
  rw [rw81_len]
  by_cases h : 0 ≤ (k : Int) + b ∧ (k : Int) + b < M
  · rw [if_pos h, if_pos h, List.getD_eq_getElem?_getD, rw81_get (by omega)]; rfl
  · rw [if_neg h, if_neg h]
theorem enum81 (M : Nat) (X : Nat → List Nat) : enumD (.tup (rw81 M X)) = .ok ((List.range M).map fun (k : Nat) => .tup [.int (k : Int), .str (X k)]) := by
  show R.ok (numbered 0 _) = _
  unfold numbered
  rw [rw81_len]
  congr 1
  refine List.map_congr_left fun k hk => ?_
  rw [List.getD_eq_getElem?_getD, rw81_get (List.mem_range.1 hk), Nat.zero_add]; rfl
theorem fil81 (p : Nat → Bool) : ∀ ks : List Nat, ((inl81 ks).filter fun d => match d with | .int i => p i.toNat | _ => false) = inl81 (ks.filter p)
  | [] => rfl
  | k :: ks => by
    have ih := fil81 p ks
    unfold inl81 at ih ⊢
    rw [List.map_cons, List.filter_cons, List.filter_cons, ih]
    have : (match (D.int (k : Int)) with | .int i => p i.toNat | _ => false) = p k := by show p (k : Int).toNat = _; rw [Int.toNat_natCast]
    rw [this]
    cases p k <;> rfl
theorem comp81 {gt : Ev → R Bool} {ge : Ev → R D} (p : Nat → Bool) (tl : Ev) : ∀ (ks : List Nat) (a : Option Sl), (∀ k ∈ ks, gt (some (.val (.int (k : Int))) :: tl) = .ok (p k) ∧ ge (some (.val (.int (k : Int))) :: tl) = .ok (.int (k : Int))) → compD gt ge (inl81 ks) (a :: tl) = .ok (inl81 (ks.filter p)) := by
  intro ks a H
  rw [compD_map (fun d => match d with | .int i => p i.toNat | _ => false) (fun d => d) tl _ a (fun d hd => ?_)]
  · rw [fil81, List.map_id']
  · unfold inl81 at hd
    obtain ⟨k, hk, rfl⟩ := List.mem_map.1 hd
    obtain ⟨h1, h2⟩ := H k hk
    exact ⟨by rw [h1]; show _ = R.ok (p (k : Int).toNat); rw [Int.toNat_natCast], fun _ => h2⟩
theorem compT81 {gt : Ev → R Bool} {ge : Ev → R D} (p : Nat → Bool) (X : Nat → List Nat) (tl : Ev) : ∀ (ks : List Nat) (a b : Option Sl), (∀ k ∈ ks, gt (some (.val (.int (k : Int))) :: some (.val (.str (X k))) :: tl) = .ok (p k) ∧ ge (some (.val (.int (k : Int))) :: some (.val (.str (X k))) :: tl) = .ok (.int (k : Int))) → compG (setT [0, 1]) gt ge (ks.map fun (k : Nat) => .tup [.int (k : Int), .str (X k)]) (a :: b :: tl) = .ok (inl81 (ks.filter p))
  | [], a, b, _ => rfl
  | k :: ks, a, b, H => by
    obtain ⟨h1, h2⟩ := H k (List.mem_cons_self ..)
    have ih := compT81 p X tl ks (some (.val (.int (k : Int)))) (some (.val (.str (X k)))) (fun k hk => H k (List.mem_cons_of_mem _ hk))
    show (noEx (gt (some (.val (.int (k : Int))) :: some (.val (.str (X k))) :: tl)) >>= fun q => if q = true then noEx (ge (some (.val (.int (k : Int))) :: some (.val (.str (X k))) :: tl)) >>= fun x => compG (setT [0, 1]) gt ge (ks.map fun (k : Nat) => .tup [.int (k : Int), .str (X k)]) (some (.val (.int (k : Int))) :: some (.val (.str (X k))) :: tl) >>= fun xs => .ok (x :: xs) else compG (setT [0, 1]) gt ge (ks.map fun (k : Nat) => .tup [.int (k : Int), .str (X k)]) (some (.val (.int (k : Int))) :: some (.val (.str (X k))) :: tl)) = _
    rw [h1, noEx_ok, R.ok_bind, ih]
    cases z : p k with
    | true => rw [if_pos rfl, h2, noEx_ok, R.ok_bind, R.ok_bind, List.filter_cons_of_pos z]; rfl
    | false => rw [if_neg Bool.false_ne_true, List.filter_cons_of_neg (by rw [z]; exact Bool.false_ne_true)]
section
variable {C : Addr} {W M : Nat} {X Y : Nat → List Nat} {p q : D}
theorem screen81 (w1 : 1 ≤ W) (w2 : W ≤ 40) (m1 : 1 ≤ M) (m2 : M ≤ 12) (g : Good81 W M X) (hp : place p W M = true) : screen (sc81 W M X p) = true :=
  screen_mk w1 w2 (by rw [rw81_len]; exact m1) (by rw [rw81_len]; exact m2) (rw81_row g) (by rw [rw81_len]; exact hp)
theorem css81 (h1 : screen (sc81 W M X p) = true) (h2 : screen (sc81 W M Y q) = true) : check_same_size81 C [sc81 W M X p, sc81 W M Y q] = .ok .non := by
  have c1 := checkF_ok (C := C) h1
  have c2 := checkF_ok (C := C) h2
  have l1 := rw81_len M X
  have l2 := rw81_len M Y
  unfold sc81 at *
  generalize rw81 M X = R1 at *
  generalize rw81 M Y = R2 at *
  have x0 := x3_0
  have x1 := x3_1
  show bodyR (oSeq _ _ [some (.val _), some (.val _)]) = _
  unfold check_same_size_s1 check_same_size_s2 check_same_size_s3
  have z : ((W : Int) == W) = true := by simp
  have z2 : ((M : Int) == M) = true := by simp
  walk_at "run"
theorem al81 (m2 : M ≤ 12) (h1 : screen (sc81 W M X p) = true) (h2 : screen (sc81 W M Y q) = true) : alike_rows81 C [sc81 W M X p, sc81 W M Y q] = .ok (.lst false (inl81 (alk81 M X Y))) := by
  have c := css81 (C := C) h1 h2
  have en := enum81 M X
  have cp : ∀ gt ge, (∀ k ∈ List.range M, gt (some (.val (.int (k : Int))) :: some (.val (.str (X k))) :: [some (.val (sc81 W M Y q))]) = .ok (X k == Y k) ∧ ge (some (.val (.int (k : Int))) :: some (.val (.str (X k))) :: [some (.val (sc81 W M Y q))]) = .ok (.int (k : Int))) → compG (setT [0, 1]) gt ge ((List.range M).map fun (k : Nat) => .tup [.int (k : Int), .str (X k)]) [none, none, some (.val (sc81 W M Y q))] = .ok (inl81 (alk81 M X Y)) := fun gt ge H => compT81 (fun k => X k == Y k) X [some (.val (sc81 W M Y q))] (List.range M) none none H
  have hl : (inl81 (alk81 M X Y)).length ≤ sizeLine := by
    have z : 12 ≤ sizeLine := by decide
    unfold inl81 alk81
    rw [List.length_map]
    have := List.length_filter_le (fun k => X k == Y k) (List.range M)
    rw [List.length_range] at this
    omega
  have ixB : ∀ k, k < M → ixD (.tup (rw81 M Y)) (.int (k : Int)) = some (.str (Y k)) := fun k h => rw81_ix h
  have x1 : ixD (sc81 W M X p) (.int 1) = some (.tup (rw81 M X)) := x3_1 _ _ _
  have y1 : ixD (sc81 W M Y q) (.int 1) = some (.tup (rw81 M Y)) := x3_1 _ _ _
  show bodyR (oSeq _ _ [some (.val _), some (.val _)]) = _
  have inn : ∀ a b : D, innerN 2 [1] [some (.val a), some (.val b)] = [none, none, some (.val b)] := fun _ _ => rfl
  unfold alike_rows_s1 alike_rows_s2
  have cc := cp (gB2 eqF (fun ρ => rdV ρ 1) (g2 ixD (g2 ixD (fun ρ => rdV ρ 2) (fun _ => R.ok (D.int 1))) (fun ρ => rdV ρ 0))) (fun ρ => rdV ρ 0) (fun k hk => by
    have := ixB k (List.mem_range.1 hk)
    generalize sc81 W M Y q = B at *
    generalize rw81 M Y = R2 at *
    constructor
    · clear cp c en
      walk_at "run"
    · rfl)
  clear cp ixB
  generalize sc81 W M X p = A at *
  generalize sc81 W M Y q = B at *
  generalize rw81 M X = R1 at *
  generalize rw81 M Y = R2 at *
  generalize inl81 (alk81 M X Y) = Z at *
  walk_at "run"
end
theorem tw_all81 {α : Type} {f : α → Bool} : ∀ {x : List α}, x.all f = true → x.takeWhile f = x
  | [], _ => rfl
  | a :: x, h => by
    rw [List.all_cons, Bool.and_eq_true] at h
    rw [List.takeWhile_cons, h.1, tw_all81 h.2]; rfl
theorem tw_lt81 {α : Type} {f : α → Bool} : ∀ {x : List α}, x.all f = false → (x.takeWhile f).length < x.length
  | [], h => by simp at h
  | a :: x, h => by
    rw [List.takeWhile_cons]
    cases q : f a with
    | false => simp
    | true =>
      rw [List.all_cons, q, Bool.true_and] at h
      have := tw_lt81 h
      simp; omega
theorem tw_self81 {α : Type} {f : α → Bool} : ∀ {x : List α}, (x.takeWhile f).all f = true
  | [] => rfl
  | a :: x => by
    rw [List.takeWhile_cons]
    cases q : f a with
    | false => rfl
    | true => simp only [if_true]; rw [List.all_cons, q, tw_self81]; rfl
theorem dr_tw81 {α : Type} {f : α → Bool} : ∀ {x : List α}, x.takeWhile f ++ x.drop (x.takeWhile f).length = x
  | [] => rfl
  | a :: x => by
    rw [List.takeWhile_cons]
    cases q : f a with
    | false => rfl
    | true => simp only [if_true, List.length_cons, List.drop_succ_cons, List.cons_append]; rw [dr_tw81]
theorem strip_blank81 (x : List Nat) : (stripL 32 x == []) = x.all (· == 32) := by
  unfold stripL
  cases h : x.all (· == 32) with
  | true => rw [tw_all81 h, List.drop_length, List.take_nil]; rfl
  | false =>
    have e := dr_tw81 (f := (· == 32)) (x := x)
    have l := tw_lt81 h
    have a2 : (x.drop (x.takeWhile (· == 32)).length).all (· == 32) = false := by
      rw [← e, List.all_append, tw_self81, Bool.true_and] at h
      exact h
    have a3 := tw_lt81 (f := (· == 32)) (x := (x.drop (x.takeWhile (· == 32)).length).reverse) (by rw [List.all_reverse]; exact a2)
    rw [List.length_reverse, List.length_drop] at a3
    rw [beq_eq_false_iff_ne]
    intro z
    have z := congrArg List.length z
    rw [List.length_take, List.length_drop, List.length_nil] at z
    omega
noncomputable def cnt81 (W M : Nat) (X Y : Nat → List Nat) (b : Int) : Nat := ((alk81 M (shift81 W M X b) Y).filter fun k => !(Y k).all (· == 32)).length
section
variable {C : Addr} {W M : Nat} {X Y : Nat → List Nat} {p q : D}
theorem blank81 (x : List Nat) : is_blank81 [.str x] = .ok (.bl (x.all (· == 32))) := by
  rw [← strip_blank81]
  have e : ∀ ρ : Ev, gMeth "str" stripGF (fun ρ => rdV ρ 0) (gACons (fun _ => R.ok (D.str [32])) (fun _ => R.ok [])) [some (.val (.str x))] = .ok (.str (stripL 32 x)) := fun _ => rfl
  show bodyR (oSeq is_blank_s1 oNx [some (.val (.str x))]) = _
  unfold is_blank_s1
  have e' := e []
  generalize gMeth "str" stripGF (fun ρ => rdV ρ 0) (gACons (fun _ => R.ok (D.str [32])) (fun _ => R.ok [])) = g at *
  walk_at "run"
theorem scrF81 (h : screen (sc81 W M X p) = true) {b : Int} (b1 : -12 ≤ b) (b2 : b ≤ 12) : scrollF [sc81 W M X p, .int b] = .ok (sc81 W M (shift81 W M X b) p) := by
  have : scrollF [sc81 W M X p, .int b] = .ok (.tup [.int W, .tup (scrollR (rw81 M X) (W : Int).toNat b), p]) := if_pos ⟨h, b1, b2⟩
  rw [this, Int.toNat_natCast, scroll81]; rfl
theorem abs81 (m2 : M ≤ 12) (h1 : screen (sc81 W M X p) = true) (h2 : screen (sc81 W M Y q) = true) (h3 : ∀ b, screen (sc81 W M (shift81 W M X b) p) = true) {b : Int} (b1 : -12 ≤ b) (b2 : b ≤ 12) :
    alike_behind_scroll81 C [sc81 W M X p, sc81 W M Y q, .int b] = .ok (.int (cnt81 W M X Y b : Nat)) := by
  have s := scrF81 h1 b1 b2
  have al := al81 (C := C) m2 (h3 b) h2
  have y1 : ixD (sc81 W M Y q) (.int 1) = some (.tup (rw81 M Y)) := x3_1 _ _ _
  have hk : ∀ k ∈ alk81 M (shift81 W M X b) Y, k < M := fun k h => List.mem_range.1 (List.mem_filter.1 h).1
  have cc := comp81 (gt := gBn (gThen truD (gCall 1 is_blank81 (gACons (g2 ixD (g2 ixD (fun ρ => rdV ρ 1) (fun _ => R.ok (D.int 1))) (fun ρ => rdV ρ 0)) (fun _ => R.ok []))))) (ge := fun ρ => rdV ρ 0) (fun k => !(Y k).all (· == 32)) [some (.val (sc81 W M Y q))] (alk81 M (shift81 W M X b) Y) none (fun k h => by
    have i := rw81_ix (X := Y) (hk k h)
    have bl := blank81 (Y k)
    generalize is_blank81 = F at *
    generalize sc81 W M Y q = B at *
    generalize rw81 M Y = R2 at *
    constructor
    · clear al s
      walk_at "run"
    · rfl)
  have hl : (inl81 ((alk81 M (shift81 W M X b) Y).filter fun k => !(Y k).all (· == 32))).length ≤ sizeLine := by
    have z : 12 ≤ sizeLine := by decide
    unfold inl81 alk81
    rw [List.length_map]
    have := List.length_filter_le (fun k => !(Y k).all (· == 32)) ((List.range M).filter fun k => shift81 W M X b k == Y k)
    have := List.length_filter_le (fun k => shift81 W M X b k == Y k) (List.range M)
    rw [List.length_range] at this
    omega
  have hln : ((inl81 ((alk81 M (shift81 W M X b) Y).filter fun k => !(Y k).all (· == 32))).length : Int) = (cnt81 W M X Y b : Nat) := by
    unfold inl81 cnt81; rw [List.length_map]
  show bodyR (oSeq _ _ [some (.val _), some (.val _), some (.val _), none]) = _
  unfold alike_behind_scroll_s1 alike_behind_scroll_s2
  have inn : ∀ a b c d : D, inner [1] [some (.val a), some (.val b), some (.val c), some (.val d)] = [none, some (.val b)] := fun _ _ _ _ => rfl
  have itl := it_l
  have ll : ∀ f (x : List D), lenF [.lst f x] = some (.int (x.length : Int)) := fun _ _ => rfl
  clear hk h1 h2 h3
  generalize alike_rows81 C = F at *
  generalize sc81 W M X p = A at *
  generalize sc81 W M (shift81 W M X b) p = A' at *
  generalize sc81 W M Y q = B at *
  generalize rw81 M Y = R2 at *
  generalize inl81 ((alk81 M (shift81 W M X b) Y).filter fun k => !(Y k).all (· == 32)) = Z at *
  generalize inl81 (alk81 M (shift81 W M X b) Y) = Z' at *
  generalize cnt81 W M X Y b = cn at *
  generalize (gBn (gThen truD (gCall 1 is_blank81 (gACons (g2 ixD (g2 ixD (fun ρ => rdV ρ 1) (fun _ => R.ok (D.int 1))) (fun ρ => rdV ρ 0)) (fun _ => R.ok []))))) = gt at *
  walk_at "run"
end
noncomputable def t81 (W M : Nat) (X Y : Nat → List Nat) (b : Int) (k : Nat) : Bool := (decide (0 ≤ (k : Int) + b) && decide ((k : Int) + b < M)) && (!(Y k == List.replicate W 32)) && (X ((k : Int) + b).toNat == Y k)
theorem blk81 {W : Nat} {x : List Nat} (h : x.length = W) : x.all (· == 32) = (x == List.replicate W 32) := by
  rw [Bool.eq_iff_iff, List.all_eq_true, beq_iff_eq, List.eq_replicate_iff]
  simp [h]
theorem cnt_t81 {W M : Nat} {X Y : Nat → List Nat} (g : Good81 W M Y) (b : Int) : cnt81 W M X Y b = ((List.range M).filter (t81 W M X Y b)).length := by
  unfold cnt81 alk81
  rw [List.filter_filter]
  congr 1
  refine List.filter_congr fun k hk => ?_
  obtain ⟨l, _⟩ := g k (List.mem_range.1 hk)
  unfold t81 shift81
  rw [blk81 l]
  by_cases h : 0 ≤ (k : Int) + b ∧ (k : Int) + b < M
  · rw [if_pos h, decide_eq_true h.1, decide_eq_true h.2]; simp
  · rw [if_neg h]
    have : (decide (0 ≤ (k : Int) + b) && decide ((k : Int) + b < M)) = false := by
      rw [Bool.and_eq_false_iff]; simp; omega
    rw [this, Bool.false_and, Bool.false_and]
    rw [show (List.replicate W 32 == Y k) = (Y k == List.replicate W 32) from BEq.comm]
    cases (Y k == List.replicate W 32) <;> rfl
section
variable {W M : Nat} {X Y : Nat → List Nat} {p q : D} (F1 F2 F3 F4 F5 F6 : List D → R D) (S x4 x5 : Option Sl) (b : Int)
theorem b7_81 (w2 : W ≤ 40) (c : Int) (k : Nat) (hk : k < M) (x9 : Option Sl) :
    law_b7 F1 F2 F3 F4 F5 F6 [S, some (.val (sc81 W M X p)), some (.val (.int (M : Int))), some (.val (sc81 W M Y q)), x4, x5, some (.val (.int b)), some (.val (.int c)), some (.val (.int (k : Int))), x9] =
      .nx [S, some (.val (sc81 W M X p)), some (.val (.int (M : Int))), some (.val (sc81 W M Y q)), x4, x5, some (.val (.int b)), some (.val (.int (c + if t81 W M X Y b k then 1 else 0))), some (.val (.int (k : Int))), some (.val (.str (Y k)))] := by
  have y1 : ixD (sc81 W M Y q) (.int 1) = some (.tup (rw81 M Y)) := x3_1 _ _ _
  have y0 : ixD (sc81 W M Y q) (.int 0) = some (.int (W : Int)) := x3_0 _ _ _
  have x1 : ixD (sc81 W M X p) (.int 1) = some (.tup (rw81 M X)) := x3_1 _ _ _
  have yk := rw81_ix (X := Y) hk
  have mb := mul_blank (n := W) (by omega)
  unfold law_b7
  unfold t81
  by_cases h1 : 0 ≤ (k : Int) + b
  case neg =>
    have d1 : decide (0 ≤ (k : Int) + b) = false := decide_eq_false h1
    rw [d1]
    simp only [Bool.false_and, Bool.false_eq_true, if_false, Int.add_zero]
    generalize sc81 W M X p = A at *
    generalize sc81 W M Y q = B at *
    generalize rw81 M Y = R2 at *
    walk_at "run"
  by_cases h2 : (k : Int) + b < M
  case neg =>
    have d1 : decide (0 ≤ (k : Int) + b) = true := decide_eq_true h1
    have d2 : decide ((k : Int) + b < M) = false := decide_eq_false h2
    rw [d1, d2]
    simp only [Bool.false_and, Bool.and_false, Bool.false_eq_true, if_false, Int.add_zero]
    generalize sc81 W M X p = A at *
    generalize sc81 W M Y q = B at *
    generalize rw81 M Y = R2 at *
    walk_at "run"
  have d1 : decide (0 ≤ (k : Int) + b) = true := decide_eq_true h1
  have d2 : decide ((k : Int) + b < M) = true := decide_eq_true h2
  have xk : ixD (.tup (rw81 M X)) (.int ((k : Int) + b)) = some (.str (X ((k : Int) + b).toNat)) := by
    have := rw81_ix (X := X) (M := M) (k := ((k : Int) + b).toNat) (by omega)
    rw [Int.toNat_of_nonneg h1] at this
    exact this
  have io : ∀ z, intOfF [.bl z] = some (.int (if z = true then 1 else 0)) := fun _ => rfl
  rw [d1, d2]
  generalize sc81 W M X p = A at *
  generalize sc81 W M Y q = B at *
  generalize rw81 M Y = R2 at *
  generalize rw81 M X = R1 at *
  generalize X ((k : Int) + b).toNat = xx at *
  cases e : (Y k == List.replicate W 32) with
  | true =>
    simp only [Bool.not_true, Bool.and_false, Bool.false_and, Bool.false_eq_true, if_false, Int.add_zero]
    walk_at "run"
  | false =>
    simp only [Bool.not_false, Bool.true_and]
    walk_at "run"
end
noncomputable def absI (b : Int) : Int := if b < 0 then -b else b
noncomputable def T81 (c : Int → Int) (b : Int) : D := .tup [.int (0 - c b), .int (absI b), .int b]
section
variable {W M : Nat} {X Y : Nat → List Nat} {p q : D} (F1 F2 F3 F4 F5 F6 : List D → R D) (S x4 : Option Sl)
theorem in81 (w2 : W ≤ 40) (x5 : Option Sl) (b : Int) : ∀ (n j : Nat) (c : Int) (x8 x9 : Option Sl), j + n ≤ M → ∃ y8 y9,
    loopD (setV 8) (law_b7 F1 F2 F3 F4 F5 F6) ((List.range' j n).map fun (i : Nat) => D.int (i : Int)) [S, some (.val (sc81 W M X p)), some (.val (.int (M : Int))), some (.val (sc81 W M Y q)), x4, x5, some (.val (.int b)), some (.val (.int c)), x8, x9] =
      .nx [S, some (.val (sc81 W M X p)), some (.val (.int (M : Int))), some (.val (sc81 W M Y q)), x4, x5, some (.val (.int b)), some (.val (.int (c + (((List.range' j n).filter (t81 W M X Y b)).length : Nat)))), y8, y9]
  | 0, j, c, x8, x9, _ => ⟨x8, x9, by rw [List.range'_zero]; show O.nx _ = _; simp⟩
  | n + 1, j, c, x8, x9, h => by
    have hB := b7_81 (M := M) (X := X) (Y := Y) (p := p) (q := q) F1 F2 F3 F4 F5 F6 S x4 x5 b w2 c j (by omega) x9
    obtain ⟨y8, y9, ih⟩ := in81 w2 x5 b n (j + 1) (c + if t81 W M X Y b j then 1 else 0) (some (.val (.int (j : Int)))) (some (.val (.str (Y j)))) (by omega)
    refine ⟨y8, y9, ?_⟩
    rw [List.range'_succ, List.map_cons, loop_nx rfl hB, ih, List.filter_cons]
    congr 9
    cases t81 W M X Y b j with
    | true => simp; omega
    | false => simp
theorem b8_81 (w2 : W ≤ 40) (m2 : M ≤ 12) (g : Good81 W M Y) (b : Int) (ds : List D) (hl : ds.length < 1000) (x7 x8 x9 : Option Sl) : ∃ y7 y8 y9,
    law_b8 F1 F2 F3 F4 F5 F6 [S, some (.val (sc81 W M X p)), some (.val (.int (M : Int))), some (.val (sc81 W M Y q)), x4, some (.own ds), some (.val (.int b)), x7, x8, x9] =
      .nx [S, some (.val (sc81 W M X p)), some (.val (.int (M : Int))), some (.val (sc81 W M Y q)), x4, some (.own (ds ++ [T81 (fun b => (cnt81 W M X Y b : Nat)) b])), some (.val (.int b)), y7, y8, y9] := by
  obtain ⟨y8, y9, lp⟩ := in81 (M := M) (X := X) (Y := Y) (p := p) (q := q) F1 F2 F3 F4 F5 F6 S x4 w2 (some (.own ds)) b M 0 0 x8 x9 (by omega)
  have rg : rangeD1 [.int (M : Int)] = .ok ((List.range' 0 M).map fun (i : Nat) => D.int (i : Int)) := by rw [range_up (by omega), List.range_eq_range']
  have ct := cnt_t81 (X := X) g b
  rw [List.range_eq_range'] at ct
  rw [← ct, Int.zero_add] at lp
  refine ⟨some (.val (.int (cnt81 W M X Y b : Nat))), y8, y9, ?_⟩
  have ab : absF [.int b] = some (.int (absI b)) := rfl
  have mk := t3
  have hl2 : ds.length < sizeLine := by have : 1000 ≤ sizeLine := by decide
                                        omega
  have hl3 : ds.length + 1 ≤ sizeLine := hl2
  have tb : T81 (fun b => (cnt81 W M X Y b : Nat)) b = .tup [.int (0 - ((cnt81 W M X Y b : Nat) : Int)), .int (absI b), .int b] := rfl
  rw [tb]
  unfold law_b8
  have o5 : ∀ (a b c d e : Option Sl) (ds : List D) (ρ : Ev), ownAt (a :: b :: c :: d :: e :: some (.own ds) :: ρ) 5 = .ok ds := fun _ _ _ _ _ _ _ => rfl
  clear ct
  generalize law_b7 F1 F2 F3 F4 F5 F6 = bd at *
  generalize cnt81 W M X Y b = cn at *
  generalize (List.range' 0 M).map (fun (i : Nat) => D.int (i : Int)) = rr at *
  generalize sc81 W M X p = A at *
  generalize sc81 W M Y q = B at *
  walk_at "run"
theorem out81 (w2 : W ≤ 40) (m2 : M ≤ 12) (g : Good81 W M Y) : ∀ (bs : List Int) (ds : List D) (x6 x7 x8 x9 : Option Sl), ds.length + bs.length ≤ 1000 → ∃ y6 y7 y8 y9,
    loopD (setV 6) (law_b8 F1 F2 F3 F4 F5 F6) (bs.map D.int) [S, some (.val (sc81 W M X p)), some (.val (.int (M : Int))), some (.val (sc81 W M Y q)), x4, some (.own ds), x6, x7, x8, x9] =
      .nx [S, some (.val (sc81 W M X p)), some (.val (.int (M : Int))), some (.val (sc81 W M Y q)), x4, some (.own (ds ++ bs.map (T81 fun b => (cnt81 W M X Y b : Nat)))), y6, y7, y8, y9]
  | [], ds, x6, x7, x8, x9, _ => ⟨x6, x7, x8, x9, by rw [List.map_nil, List.map_nil, List.append_nil]; rfl⟩
  | b :: bs, ds, x6, x7, x8, x9, h => by
    rw [List.length_cons] at h
    obtain ⟨y7, y8, y9, hB⟩ := b8_81 (M := M) (X := X) (Y := Y) (p := p) (q := q) F1 F2 F3 F4 F5 F6 S x4 w2 m2 g b ds (by omega) x7 x8 x9
    obtain ⟨z6, z7, z8, z9, ih⟩ := out81 w2 m2 g bs (ds ++ [T81 (fun b => (cnt81 W M X Y b : Nat)) b]) (some (.val (.int b))) y7 y8 y9 (by rw [List.length_append]; simp; omega)
    refine ⟨z6, z7, z8, z9, ?_⟩
    rw [List.map_cons, loop_nx rfl hB, ih, List.append_assoc]; rfl
end
theorem neg81 (c1 a1 b1 c2 a2 b2 : Int) : lexGt [c1, -a1, -b1] [c2, -a2, -b2] = lexGt [0 - c2, a2, b2] [0 - c1, a1, b1] := by
  simp only [lexGt]
  by_cases e1 : c1 = c2
  · subst e1
    rw [if_pos rfl, if_pos rfl]
    by_cases e2 : a1 = a2
    · subst e2
      rw [if_pos rfl, if_pos rfl]
      by_cases e3 : b1 = b2
      · subst e3; rw [if_pos rfl, if_pos rfl]
      · rw [if_neg (by omega), if_neg (by omega)]
        rw [decide_eq_decide]; omega
    · rw [if_neg (by omega), if_neg (by omega)]
      rw [decide_eq_decide]; omega
  · rw [if_neg e1, if_neg (by omega)]
    rw [decide_eq_decide]; omega
noncomputable def K81 (c : Int → Int) (b : Int) : D := .tup [.int (c b), .int (-(absI b)), .int (-b)]
theorem pairK81 {key : D → R D} {c : Int → Int} : ∀ (bs : List Int) (b : Int), (∀ x ∈ bs, key (.int x) = .ok (K81 c x)) → ∃ d, maxK key (.int b) [c b, -(absI b), -b] (bs.map D.int) = .ok (.int d) ∧ minK (T81 c b) [0 - c b, absI b, b] (bs.map (T81 c)) = some (T81 c d)
  | [], b, _ => ⟨b, rfl, rfl⟩
  | x :: bs, b, h => by
    have hx := h x (List.mem_cons_self ..)
    have e := neg81 (c x) (absI x) x (c b) (absI b) b
    have m1 : maxK key (.int b) [c b, -(absI b), -b] ((x :: bs).map D.int) = if lexGt [c x, -(absI x), -x] [c b, -(absI b), -b] then maxK key (.int x) [c x, -(absI x), -x] (bs.map D.int) else maxK key (.int b) [c b, -(absI b), -b] (bs.map D.int) := by
      rw [List.map_cons, maxK, hx]; rfl
    have m2 : minK (T81 c b) [0 - c b, absI b, b] ((x :: bs).map (T81 c)) = if lexGt [0 - c b, absI b, b] [0 - c x, absI x, x] then minK (T81 c x) [0 - c x, absI x, x] (bs.map (T81 c)) else minK (T81 c b) [0 - c b, absI b, b] (bs.map (T81 c)) := by
      rw [List.map_cons]; rfl
    rw [m1, m2, e]
    cases lexGt [0 - c b, absI b, b] [0 - c x, absI x, x] with
    | true => exact pairK81 bs x fun y hy => h y (List.mem_cons_of_mem _ hy)
    | false => exact pairK81 bs b fun y hy => h y (List.mem_cons_of_mem _ hy)
theorem pair81 {key : D → R D} {c : Int → Int} (bs : List Int) (b : Int) (h : ∀ x ∈ b :: bs, key (.int x) = .ok (K81 c x)) : ∃ d, maxK1 key (.int b) (bs.map D.int) = .ok (.int d) ∧ minTF [.lst false ((b :: bs).map (T81 c))] = some (T81 c d) := by
  obtain ⟨d, h1, h2⟩ := pairK81 (key := key) (c := c) bs b fun x hx => h x (List.mem_cons_of_mem _ hx)
  refine ⟨d, ?_, h2⟩
  unfold maxK1
  rw [h b (List.mem_cons_self ..)]
  exact h1
theorem zeroK81 {key : D → R D} {c : Int → Int} (hc : ∀ b, c b ≤ c 0) : ∀ (bs : List Int) (b : Int), (∀ x ∈ bs, key (.int x) = .ok (K81 c x)) → 0 ∈ b :: bs → maxK key (.int b) [c b, -(absI b), -b] (bs.map D.int) = .ok (.int 0)
  | [], b, _, h0 => by
    rw [List.mem_singleton.1 h0]; rfl
  | x :: bs, b, h, h0 => by
    have hx := h x (List.mem_cons_self ..)
    have m1 : maxK key (.int b) [c b, -(absI b), -b] ((x :: bs).map D.int) = if lexGt [c x, -(absI x), -x] [c b, -(absI b), -b] then maxK key (.int x) [c x, -(absI x), -x] (bs.map D.int) else maxK key (.int b) [c b, -(absI b), -b] (bs.map D.int) := by
      rw [List.map_cons, maxK, hx]; rfl
    rw [m1]
    have c1 := hc x
    have c2 := hc b
    by_cases eb : b = 0
    · subst eb
      have : lexGt [c x, -(absI x), -x] [c 0, -(absI 0), -0] = false := by
        have e0 : absI 0 = 0 := rfl
        have ex : x ≠ 0 → 0 < absI x := fun h => by unfold absI; split <;> omega
        simp only [lexGt, e0]
        by_cases e1 : c x = c 0
        · rw [if_pos e1]
          by_cases e2 : x = 0
          · subst e2; rfl
          · have := ex e2
            rw [if_neg (by omega)]
            rw [decide_eq_false]; omega
        · rw [if_neg e1, decide_eq_false]; omega
      rw [this]
      exact zeroK81 hc bs 0 (fun y hy => h y (List.mem_cons_of_mem _ hy)) (List.mem_cons_self ..)
    · by_cases ex : x = 0
      · subst ex
        have : lexGt [c 0, -(absI 0), -0] [c b, -(absI b), -b] = true := by
          have e0 : absI 0 = 0 := rfl
          have ab : 0 < absI b := by unfold absI; split <;> omega
          simp only [lexGt, e0]
          by_cases e1 : c 0 = c b
          · rw [if_pos e1, if_neg (by omega), decide_eq_true]; omega
          · rw [if_neg e1, decide_eq_true]; omega
        rw [this]
        exact zeroK81 hc bs 0 (fun y hy => h y (List.mem_cons_of_mem _ hy)) (List.mem_cons_self ..)
      · have hm : 0 ∈ bs := by
          rcases List.mem_cons.1 h0 with z | z
          · exact absurd z.symm eb
          · rcases List.mem_cons.1 z with z | z
            · exact absurd z.symm ex
            · exact z
        cases lexGt [c x, -(absI x), -x] [c b, -(absI b), -b] with
        | true => exact zeroK81 hc bs x (fun y hy => h y (List.mem_cons_of_mem _ hy)) (List.mem_cons_of_mem _ hm)
        | false => exact zeroK81 hc bs b (fun y hy => h y (List.mem_cons_of_mem _ hy)) (List.mem_cons_of_mem _ hm)
theorem zero81 {key : D → R D} {c : Int → Int} (hc : ∀ b, c b ≤ c 0) (bs : List Int) (b : Int) (h : ∀ x ∈ b :: bs, key (.int x) = .ok (K81 c x)) (h0 : 0 ∈ b :: bs) : maxK1 key (.int b) (bs.map D.int) = .ok (.int 0) := by
  unfold maxK1
  rw [h b (List.mem_cons_self ..)]
  exact zeroK81 hc bs b (fun x hx => h x (List.mem_cons_of_mem _ hx)) h0
noncomputable def bys81 (M : Nat) : List Int := (List.range (2 * M - 1)).map fun (k : Nat) => 1 - (M : Int) + (k : Int)
theorem bys_cons {M : Nat} (h : 1 ≤ M) : ∃ bs, bys81 M = (1 - (M : Int)) :: bs := by
  unfold bys81
  obtain ⟨n, hn⟩ : ∃ n, 2 * M - 1 = n + 1 := ⟨2 * M - 2, by omega⟩
  rw [hn, List.range_succ_eq_map, List.map_cons]
  exact ⟨_, by congr 1; simp⟩
theorem bys_zero {M : Nat} (h : 1 ≤ M) : 0 ∈ bys81 M := by
  unfold bys81
  exact List.mem_map.2 ⟨M - 1, List.mem_range.2 (by omega), by omega⟩
theorem bys_range {M : Nat} {b : Int} (h : b ∈ bys81 M) : -(M : Int) < b ∧ b < M := by
  unfold bys81 at h
  obtain ⟨k, hk, rfl⟩ := List.mem_map.1 h
  have := List.mem_range.1 hk
  omega
theorem bys_len (M : Nat) : (bys81 M).length = 2 * M - 1 := by unfold bys81; simp
theorem rg2_81 {M : Nat} (m1 : 1 ≤ M) (m2 : M ≤ 12) : rangeD2 [.int (1 - (M : Int)), .int (M : Int)] = .ok ((bys81 M).map D.int) := by
  have : rangeD2 [.int (1 - (M : Int)), .int (M : Int)] = .ok ((List.range ((M : Int) - (1 - (M : Int))).toNat).map fun (k : Nat) => D.int (1 - (M : Int) + (k : Nat))) := if_pos (by omega)
  rw [this, show ((M : Int) - (1 - (M : Int))).toNat = 2 * M - 1 by omega]
  unfold bys81
  rw [List.map_map]; rfl
theorem lr81 {M : Nat} (m1 : 1 ≤ M) (m2 : M ≤ 12) : listR [.int (-((M : Int) - 1)), .int ((M : Int) - 1 + 1)] = .ok (.lst false ((bys81 M).map D.int)) := by
  have e := rg2_81 m1 m2
  unfold listR
  rw [show -((M : Int) - 1) = 1 - M by omega, show (M : Int) - 1 + 1 = M by omega, e, R.ok_bind, if_pos (by rw [List.length_map, bys_len]; omega)]
section
variable {C : Addr} {W M : Nat} {X Y : Nat → List Nat} {p q : D}
noncomputable def key81 (C : Addr) (A B : D) (b : D) : R D := (gThen mkT (gACons (gCall 3 (alike_behind_scroll81 C) (gACons (fun ρ => rdV ρ 1) (gACons (fun ρ => rdV ρ 2) (gACons (fun ρ => rdV ρ 0) (fun _ => R.ok []))))) (gACons (gThen negD (gOf absF (gACons (fun ρ => rdV ρ 0) (fun _ => R.ok [])))) (gACons (gThen negD (fun ρ => rdV ρ 0)) (fun _ => R.ok []))))) [some (.val b), some (.val A), some (.val B)]
theorem sb81 (m1 : 1 ≤ M) (m2 : M ≤ 12) (h1 : screen (sc81 W M X p) = true) (h2 : screen (sc81 W M Y q) = true) (bs : List Int) (hb : bys81 M = (1 - (M : Int)) :: bs) :
    scroll_by81 C [sc81 W M X p, sc81 W M Y q] = maxK1 (key81 C (sc81 W M X p) (sc81 W M Y q)) (.int (1 - (M : Int))) (bs.map D.int) := by
  have c := css81 (C := C) h1 h2
  have lr := lr81 m1 m2
  rw [hb, List.map_cons] at lr
  have x1 : ixD (sc81 W M X p) (.int 1) = some (.tup (rw81 M X)) := x3_1 _ _ _
  have ll : lenF [.tup (rw81 M X)] = some (.int (M : Int)) := by
    have : lenF [.tup (rw81 M X)] = some (.int ((rw81 M X).length : Int)) := rfl
    rw [this, rw81_len]
  have ne := ng
  have mx : ∀ (A B m : D) (xs : List D), gMaxK (fun ρ => rdV ρ 3) [0, 1] (gThen mkT (gACons (gCall 3 (alike_behind_scroll81 C) (gACons (fun ρ => rdV ρ 1) (gACons (fun ρ => rdV ρ 2) (gACons (fun ρ => rdV ρ 0) (fun _ => R.ok []))))) (gACons (gThen negD (gOf absF (gACons (fun ρ => rdV ρ 0) (fun _ => R.ok [])))) (gACons (gThen negD (fun ρ => rdV ρ 0)) (fun _ => R.ok []))))) [some (.val A), some (.val B), some (.val m), some (.val (.lst false (.int (1 - (M : Int)) :: xs)))] = maxK1 (key81 C A B) (.int (1 - (M : Int))) xs := fun _ _ _ _ => rfl
  show bodyR (oSeq _ _ [some (.val _), some (.val _), none, none]) = _
  unfold scroll_by_s1 scroll_by_s2 scroll_by_s3 scroll_by_s4
  have bo : ∀ (m : R D) (ρ : Ev), bodyR ((m.out ρ fun d => O.rt d).seq oNx) = (match m with | .ok d => R.ok d | .ex C => .ex C | .no => .no) := fun m ρ => by cases m <;> rfl
  have al : ∀ (gl : Ev → R (List D)) (ρ : Ev), gListR gl ρ = gl ρ >>= listR := fun _ _ => rfl
  clear h1 h2
  generalize gMaxK (fun ρ => rdV ρ 3) [0, 1] (gThen mkT (gACons (gCall 3 (alike_behind_scroll81 C) (gACons (fun ρ => rdV ρ 1) (gACons (fun ρ => rdV ρ 2) (gACons (fun ρ => rdV ρ 0) (fun _ => R.ok []))))) (gACons (gThen negD (gOf absF (gACons (fun ρ => rdV ρ 0) (fun _ => R.ok [])))) (gACons (gThen negD (fun ρ => rdV ρ 0)) (fun _ => R.ok []))))) = gM at *
  generalize sc81 W M X p = A at *
  generalize sc81 W M Y q = B at *
  generalize rw81 M X = R1 at *
  generalize check_same_size81 C = F at *
  generalize hk : maxK1 (key81 C A B) (.int (1 - (M : Int))) (bs.map D.int) = mm
  have mx' := mx A B (.int ((M : Int) - 1)) (bs.map D.int)
  rw [hk] at mx'
  clear mx hk
  walk_at "run"
  cases mm <;> rfl
theorem key_ok81 (m2 : M ≤ 12) (h1 : screen (sc81 W M X p) = true) (h2 : screen (sc81 W M Y q) = true) (h3 : ∀ b, screen (sc81 W M (shift81 W M X b) p) = true) : ∀ b ∈ bys81 M, key81 C (sc81 W M X p) (sc81 W M Y q) (.int b) = .ok (K81 (fun b => (cnt81 W M X Y b : Nat)) b) := by
  intro b hb
  obtain ⟨b1, b2⟩ := bys_range hb
  have a := abs81 (C := C) m2 h1 h2 h3 (b := b) (by omega) (by omega)
  have ab : absF [.int b] = some (.int (absI b)) := rfl
  have kb : K81 (fun b => (cnt81 W M X Y b : Nat)) b = .tup [.int ((cnt81 W M X Y b : Nat) : Int), .int (-(absI b)), .int (-b)] := rfl
  have ne := ng
  have mk := t3
  rw [kb]
  unfold key81
  clear h1 h2 h3
  generalize alike_behind_scroll81 C = F at *
  generalize sc81 W M X p = A at *
  generalize sc81 W M Y q = B at *
  generalize cnt81 W M X Y b = cn at *
  walk_at "run"
theorem cnt_0 (g : Good81 W M X) (b : Int) : cnt81 W M X X b ≤ cnt81 W M X X 0 := by
  rw [cnt_t81 g, cnt_t81 g, ← List.countP_eq_length_filter, ← List.countP_eq_length_filter]
  refine List.countP_mono_left fun k hk h => ?_
  have := List.mem_range.1 hk
  unfold t81 at h ⊢
  rw [Bool.and_eq_true, Bool.and_eq_true] at h
  rw [h.1.2, Int.add_zero, Int.toNat_natCast]
  simp; omega
end
section
variable {C : Addr} {W M : Nat} {X Y : Nat → List Nat} {p q : D} (S x4 : Option Sl)
noncomputable def stA (W M : Nat) (X Y : Nat → List Nat) (p q : D) (S x4 x5 x6 x7 x8 x9 : Option Sl) : Ev := [S, some (.val (sc81 W M X p)), some (.val (.int (M : Int))), some (.val (sc81 W M Y q)), x4, x5, x6, x7, x8, x9]
theorem inl_len (M : Nat) (X Y : Nat → List Nat) : (inl81 (alk81 M X Y)).length ≤ M := by
  unfold inl81 alk81
  rw [List.length_map]
  have := List.length_filter_le (fun k => X k == Y k) (List.range M)
  rw [List.length_range] at this
  exact this
theorem cl_inl (ks : List Nat) : cl 10 (.lst false (inl81 ks)) = true := by
  show (inl81 ks).all (cl 9) = true
  rw [List.all_eq_true]
  intro d hd
  unfold inl81 at hd
  obtain ⟨k, _, rfl⟩ := List.mem_map.1 hd
  rfl
theorem i5_81 (m2 : M ≤ 12) (h1 : screen (sc81 W M X p) = true) (h2 : screen (sc81 W M Y q) = true) (F1 F2 F3 F4 F6 : List D → R D) :
    law_s5 F1 F2 F3 F4 (alike_rows81 C) F6 (stA W M X Y p q S x4 none none none none none) = .nx (stA W M X Y p q S x4 none none none none none) := by
  have al := al81 (C := C) m2 h1 h2
  have rg : rangeD1 [.int (M : Int)] = .ok (inl81 (List.range M)) := range_up (by omega)
  have cc0 := comp81 (gt := gB2 eqF (g2 ixD (g2 ixD (fun ρ => rdV ρ 1) (fun _ => R.ok (D.int 1))) (fun ρ => rdV ρ 0)) (g2 ixD (g2 ixD (fun ρ => rdV ρ 2) (fun _ => R.ok (D.int 1))) (fun ρ => rdV ρ 0))) (ge := fun ρ => rdV ρ 0) (fun k => X k == Y k) [some (.val (sc81 W M X p)), some (.val (sc81 W M Y q))] (List.range M) none (fun k hk => by
    have a1 := rw81_ix (X := X) (List.mem_range.1 hk)
    have a2 := rw81_ix (X := Y) (List.mem_range.1 hk)
    have x1 : ixD (sc81 W M X p) (.int 1) = some (.tup (rw81 M X)) := x3_1 _ _ _
    have y1 : ixD (sc81 W M Y q) (.int 1) = some (.tup (rw81 M Y)) := x3_1 _ _ _
    clear al h1 h2
    generalize sc81 W M X p = A at *
    generalize sc81 W M Y q = B at *
    generalize rw81 M X = R1 at *
    generalize rw81 M Y = R2 at *
    constructor
    · walk_at "run"
    · rfl)
  have hl : (inl81 (alk81 M X Y)).length ≤ sizeLine := by
    have := inl_len M X Y
    have z : 12 ≤ sizeLine := by decide
    omega
  have ne := ne_self (cl_inl (alk81 M X Y))
  have cc : compD _ _ (inl81 (List.range M)) [none, some (.val (sc81 W M X p)), some (.val (sc81 W M Y q))] = .ok (inl81 (alk81 M X Y)) := cc0
  clear cc0
  have inn : ∀ (a : Option Sl) (b c d : D) (e f g h i j : Option Sl), inner [1, 3] [a, some (.val b), some (.val c), some (.val d), e, f, g, h, i, j] = [none, some (.val b), some (.val d)] := fun _ _ _ _ _ _ _ _ _ _ => rfl
  unfold stA law_s5
  clear h1 h2
  generalize sc81 W M X p = A at *
  generalize sc81 W M Y q = B at *
  generalize inl81 (alk81 M X Y) = Z at *
  generalize inl81 (List.range M) = Z' at *
  generalize alike_rows81 C = F at *
  generalize gB2 eqF (g2 ixD (g2 ixD (fun ρ => rdV ρ 1) (fun _ => R.ok (D.int 1))) (fun ρ => rdV ρ 0)) (g2 ixD (g2 ixD (fun ρ => rdV ρ 2) (fun _ => R.ok (D.int 1))) (fun ρ => rdV ρ 0)) = gt at *
  walk_at "run"
theorem i9_81 (w2 : W ≤ 40) (m1 : 1 ≤ M) (m2 : M ≤ 12) (g : Good81 W M Y) (F1 F2 F3 F4 F5 F6 : List D → R D) : ∃ y6 y7 y8 y9,
    law_s9 F1 F2 F3 F4 F5 F6 (stA W M X Y p q S x4 (some (.own [])) none none none none) = .nx (stA W M X Y p q S x4 (some (.own ((bys81 M).map (T81 fun b => (cnt81 W M X Y b : Nat))))) y6 y7 y8 y9) := by
  obtain ⟨y6, y7, y8, y9, lp⟩ := out81 (M := M) (X := X) (Y := Y) (p := p) (q := q) F1 F2 F3 F4 F5 F6 S x4 w2 m2 g (bys81 M) [] none none none none (by rw [bys_len]; simp; omega)
  rw [List.nil_append] at lp
  refine ⟨y6, y7, y8, y9, ?_⟩
  have rg := rg2_81 m1 m2
  unfold stA law_s9
  generalize (bys81 M).map D.int = rr at *
  generalize (bys81 M).map (T81 fun b => (cnt81 W M X Y b : Nat)) = tt at *
  generalize law_b8 F1 F2 F3 F4 F5 F6 = bd at *
  generalize sc81 W M X p = A at *
  generalize sc81 W M Y q = B at *
  walk_at "run"
theorem i10_81 (w1 : 1 ≤ W) (w2 : W ≤ 40) (m1 : 1 ≤ M) (m2 : M ≤ 12) (gX : Good81 W M X) (gY : Good81 W M Y) (hp : place p W M = true) (hq : place q W M = true) (F1 F2 F3 F4 F5 : List D → R D) (x6 x7 x8 x9 : Option Sl) :
    law_s10 F1 F2 F3 F4 F5 (scroll_by81 C) (stA W M X Y p q S x4 (some (.val (.lst false ((bys81 M).map (T81 fun b => (cnt81 W M X Y b : Nat)))))) x6 x7 x8 x9) = .nx (stA W M X Y p q S x4 (some (.val (.lst false ((bys81 M).map (T81 fun b => (cnt81 W M X Y b : Nat)))))) x6 x7 x8 x9) := by
  have sX := screen81 w1 w2 m1 m2 gX hp
  have sY := screen81 w1 w2 m1 m2 gY hq
  have sS : ∀ b, screen (sc81 W M (shift81 W M X b) p) = true := fun b => screen81 w1 w2 m1 m2 (shift81_good gX b) hp
  obtain ⟨bs, hb⟩ := bys_cons m1
  have e1 := sb81 (C := C) m1 m2 sX sY bs hb
  have e2 := sb81 (C := C) m1 m2 sX sX bs hb
  have k1 := key_ok81 (C := C) m2 sX sY sS
  have k2 := key_ok81 (C := C) m2 sX sX sS
  have h0 := bys_zero m1
  rw [hb] at k1 k2 h0 ⊢
  obtain ⟨d, d1, d2⟩ := pair81 bs (1 - (M : Int)) k1
  have d3 := zero81 (c := fun b => (cnt81 W M X X b : Nat)) (fun b => Int.ofNat_le.2 (cnt_0 gX b)) bs (1 - (M : Int)) k2 h0
  rw [d1] at e1
  rw [d3] at e2
  have ix : ixD (T81 (fun b => (cnt81 W M X Y b : Nat)) d) (.int 2) = some (.int d) := x3_2 _ _ _
  have zd : (d == d) = true := by simp
  have z0 : ((0 : Int) == 0) = true := rfl
  unfold stA law_s10
  clear k1 k2 d1 d3 sX sY sS
  generalize ((1 - (M : Int)) :: bs).map (T81 fun b => (cnt81 W M X Y b : Nat)) = tt at *
  generalize T81 (fun b => (cnt81 W M X Y b : Nat)) d = td at *
  generalize scroll_by81 C = F at *
  generalize sc81 W M X p = A at *
  generalize sc81 W M Y q = B at *
  walk_at "run"
theorem i11_81 (m2 : M ≤ 12) (h1 : screen (sc81 W M X p) = true) (h2 : screen (sc81 W M Y q) = true) (F1 F2 F3 F4 F6 : List D → R D) (x5 x6 x7 x8 x9 : Option Sl) :
    law_s11 F1 F2 F3 F4 (alike_rows81 C) F6 (stA W M X Y p q S x4 x5 x6 x7 x8 x9) = .rt (.bl true) := by
  have a1 := al81 (C := C) m2 h1 h1
  have a2 := al81 (C := C) m2 h1 h2
  have a3 := al81 (C := C) m2 h2 h1
  have s : alk81 M Y X = alk81 M X Y := by
    unfold alk81
    exact List.filter_congr fun k _ => BEq.comm
  have t : alk81 M X X = List.range M := by
    unfold alk81
    exact List.filter_eq_self.2 fun k _ => by simp
  rw [s] at a3
  rw [t] at a1
  have lr : listR1 [.int (M : Int)] = .ok (.lst false (inl81 (List.range M))) := by
    unfold listR1
    rw [range_up (by omega), R.ok_bind, if_pos (by simp; omega)]; rfl
  have q1 := eq_self' (cl_inl (List.range M))
  have q2 := eq_self' (cl_inl (alk81 M X Y))
  have al : ∀ (gl : Ev → R (List D)) (ρ : Ev), gListR1 gl ρ = gl ρ >>= listR1 := fun _ _ => rfl
  unfold stA law_s11
  clear h1 h2 s t
  generalize inl81 (alk81 M X Y) = Z at *
  generalize inl81 (List.range M) = Z' at *
  generalize alike_rows81 C = F at *
  generalize sc81 W M X p = A at *
  generalize sc81 W M Y q = B at *
  walk_at "run"
end
section
variable {C : Addr}
theorem sq81 {g1 g2 : Ev → O} {ρ ρ' : Ev} (h : g1 ρ = .nx ρ') : oSeq g1 g2 ρ = g2 ρ' := by
  show (g1 ρ).seq g2 = _
  rw [h]; rfl
theorem sr81 {g1 g2 : Ev → O} {ρ : Ev} {d : D} (h : g1 ρ = .rt d) : oSeq g1 g2 ρ = .rt d := by
  show (g1 ρ).seq g2 = _
  rw [h]; rfl
theorem i4_81 {W M : Nat} {X Y : Nat → List Nat} {p q : D} (ns : List Int) (fz : Bool) (w1 : 1 ≤ W) (w2 : W ≤ 40) (m1 : 1 ≤ M) (m2 : M ≤ 12) (gX : Good81 W M X) (gY : Good81 W M Y) (hp : place p W M = true) (hq : place q W M = true) (F1 F2 F5 F6 : List D → R D) :
    ∃ Z r x4, Good81 W M Z ∧ place r W M = true ∧ law_s4 F1 F2 pickF scrollF F5 F6 (stA W M X Y p q (some (.val (.lst fz (ns.map .int)))) none none none none none none) = .nx (stA W M X Z p r (some (.val (.lst fz (ns.map .int)))) x4 none none none none none) := by
  have sX := screen81 w1 w2 m1 m2 gX hp
  have p1 := pickF_nat (fz := fz) (ns := ns) (n := 1) (m := 3) (by decide)
  have p2 := pickF_nat (fz := fz) (ns := ns) (n := 2) (m := 2 * (M : Int) - 1) (by omega)
  have p3 := pickF_nat (fz := fz) (ns := ns) (n := 3) (m := 2) (by decide)
  have p4 := pickF_nat (fz := fz) (ns := ns) (n := 4) (m := (M : Int)) (by omega)
  obtain ⟨r2a, r2b⟩ := pick_range ns 2 (m := 2 * (M : Int) - 1) (by omega)
  obtain ⟨r4a, r4b⟩ := pick_range ns 4 (m := (M : Int)) (by omega)
  generalize pick ns 1 3 = k1 at *
  generalize pick ns 2 (2 * (M : Int) - 1) = k2 at *
  generalize pick ns 3 2 = k3 at *
  generalize pick ns 4 (M : Int) = k4 at *
  have p1 : pickF [.lst fz (ns.map .int), .int 1, .int 3] = .ok (.int k1) := p1
  have p2 : pickF [.lst fz (ns.map .int), .int 2, .int (2 * (M : Int) - 1)] = .ok (.int k2) := p2
  have p3 : pickF [.lst fz (ns.map .int), .int 3, .int 2] = .ok (.int k3) := p3
  have p4 : pickF [.lst fz (ns.map .int), .int 4, .int (M : Int)] = .ok (.int k4) := p4
  have sF := scrF81 sX (b := k2 - (M : Int) + 1) (by omega) (by omega)
  have gS := shift81_good gX (k2 - (M : Int) + 1)
  have mm : mulD (.int 2) (.int (M : Int)) = some (.int (2 * (M : Int))) := by
    simp only [mulD]
    rw [if_pos (by left; decide)]
  generalize D.lst fz (ns.map .int) = S at *
  by_cases h1 : k1 > 0
  case neg =>
    refine ⟨Y, q, none, gY, hq, ?_⟩
    have d1 : decide (k1 > 0) = false := decide_eq_false h1
    unfold stA law_s4
    clear sX sF gS
    generalize sc81 W M X p = A at *
    generalize sc81 W M Y q = B at *
    walk_at "run"
  have d1 : decide (k1 > 0) = true := decide_eq_true h1
  by_cases h3 : k3 = 0
  case neg =>
    refine ⟨_, p, none, gS, hp, ?_⟩
    have d3 : (k3 == 0) = false := by simpa using h3
    unfold stA law_s4
    clear sX gS
    generalize sc81 W M (shift81 W M X (k2 - (M : Int) + 1)) p = A' at *
    generalize sc81 W M X p = A at *
    generalize sc81 W M Y q = B at *
    walk_at "run"
  have d3 : (k3 == 0) = true := by simpa using h3
  obtain ⟨n, rfl⟩ := Int.eq_ofNat_of_zero_le r4a
  have hrow := rw81_row gS
  have hlen := rw81_len M (shift81 W M X (k2 - (M : Int) + 1))
  obtain ⟨Z, eZ, gZ⟩ := rw81_of (W := W) (rows := (rw81 M (shift81 W M X (k2 - (M : Int) + 1))).take n ++ [D.str (List.replicate W 35)] ++ (rw81 M (shift81 W M X (k2 - (M : Int) + 1))).drop (n + 1)) (fun r hr => by
    rcases List.mem_append.1 hr with hr | hr
    · rcases List.mem_append.1 hr with hr | hr
      · exact hrow r (List.mem_of_mem_take hr)
      · rw [List.mem_singleton.1 hr]
        exact ⟨_, rfl, by simp, by unfold plain; simp⟩
    · exact hrow r (List.mem_of_mem_drop hr))
  have hl : ((rw81 M (shift81 W M X (k2 - (M : Int) + 1))).take n ++ [D.str (List.replicate W 35)] ++ (rw81 M (shift81 W M X (k2 - (M : Int) + 1))).drop (n + 1)).length = M := by
    simp [hlen]; omega
  rw [hl] at eZ gZ
  refine ⟨Z, p, some (.val (.int (n : Int))), gZ, hp, ?_⟩
  have sz : sc81 W M Z p = .tup [.int (W : Int), .tup ((rw81 M (shift81 W M X (k2 - (M : Int) + 1))).take n ++ [D.str (List.replicate W 35)] ++ (rw81 M (shift81 W M X (k2 - (M : Int) + 1))).drop (n + 1)), p] := by rw [eZ]; rfl
  have x0 : ixD (sc81 W M (shift81 W M X (k2 - (M : Int) + 1)) p) (.int 0) = some (.int (W : Int)) := x3_0 _ _ _
  have x1 : ixD (sc81 W M (shift81 W M X (k2 - (M : Int) + 1)) p) (.int 1) = some (.tup (rw81 M (shift81 W M X (k2 - (M : Int) + 1)))) := x3_1 _ _ _
  have x2 : ixD (sc81 W M (shift81 W M X (k2 - (M : Int) + 1)) p) (.int 2) = some p := x3_2 _ _ _
  have sr := s_rep (c := 35) (n := W) (by omega)
  have ct := cut_take (rw81 M (shift81 W M X (k2 - (M : Int) + 1))) n (by omega)
  have cf : cutL (rw81 M (shift81 W M X (k2 - (M : Int) + 1))) (some ((n : Int) + 1)) none = (rw81 M (shift81 W M X (k2 - (M : Int) + 1))).drop (n + 1) := cutFrom _ (n + 1)
  have zl : 100 ≤ sizeLine := by decide
  have l1 : ((rw81 M (shift81 W M X (k2 - (M : Int) + 1))).take n).length + 1 ≤ sizeLine := by simp [hlen]; omega
  have ad1 : addD (.tup ((rw81 M (shift81 W M X (k2 - (M : Int) + 1))).take n)) (.tup [D.str (List.replicate W 35)]) = some (.tup ((rw81 M (shift81 W M X (k2 - (M : Int) + 1))).take n ++ [D.str (List.replicate W 35)])) := if_pos (by simpa using l1)
  have ad2 : addD (.tup ((rw81 M (shift81 W M X (k2 - (M : Int) + 1))).take n ++ [D.str (List.replicate W 35)])) (.tup ((rw81 M (shift81 W M X (k2 - (M : Int) + 1))).drop (n + 1))) = some (.tup ((rw81 M (shift81 W M X (k2 - (M : Int) + 1))).take n ++ [D.str (List.replicate W 35)] ++ (rw81 M (shift81 W M X (k2 - (M : Int) + 1))).drop (n + 1))) := if_pos (by rw [← List.length_append, hl]; omega)
  have mk3 := t3
  have mk1 : ∀ x : D, mkT [x] = .ok (.tup [x]) := fun _ => rfl
  unfold stA law_s4
  rw [sz]
  clear sX gS hrow hlen eZ sz hl
  generalize (rw81 M (shift81 W M X (k2 - (M : Int) + 1))).take n ++ [D.str (List.replicate W 35)] ++ (rw81 M (shift81 W M X (k2 - (M : Int) + 1))).drop (n + 1) = T3 at *
  generalize (rw81 M (shift81 W M X (k2 - (M : Int) + 1))).take n ++ [D.str (List.replicate W 35)] = T2 at *
  generalize (rw81 M (shift81 W M X (k2 - (M : Int) + 1))).take n = T1 at *
  generalize (rw81 M (shift81 W M X (k2 - (M : Int) + 1))).drop (n + 1) = T1' at *
  generalize rw81 M (shift81 W M X (k2 - (M : Int) + 1)) = R' at *
  generalize sc81 W M (shift81 W M X (k2 - (M : Int) + 1)) p = A' at *
  generalize sc81 W M X p = A at *
  generalize sc81 W M Y q = B at *
  generalize List.replicate W 35 = sh at *
  walk_at "run"
theorem law81 (ns : List Int) (fz : Bool) : bodyR (law_all someF lscrF pickF scrollF (alike_rows81 C) (scroll_by81 C) (startE 10 [.lst fz (ns.map .int)])) = .ok (.bl true) := by
  obtain ⟨w1, w2, _⟩ := wS_range ns 10
  obtain ⟨m1, m2, _⟩ := mS_range ns 10
  have hs := someF_nat (fz := fz) (ns := ns) (a := 10)
  have hpl := pl_place ns (10 + 5) (wd := wS ns 10) m1
  have eA : scS ns 10 = sc81 (wS ns 10) (mS ns 10) (fun k => rowL ns (10 + 5 + 30 * k) (wS ns 10)) (pl ns (10 + 5) (wS ns 10) (mS ns 10)) := rfl
  have gX : Good81 (wS ns 10) (mS ns 10) (fun k => rowL ns (10 + 5 + 30 * k) (wS ns 10)) := fun k _ => ⟨rowL_length .., rowL_plain ..⟩
  have gY : Good81 (wS ns 10) (mS ns 10) (fun k => rowL ns (500 + 30 * k) (wS ns 10)) := fun k _ => ⟨rowL_length .., rowL_plain ..⟩
  have hl : lscrF [.lst fz (ns.map .int), .int 500, .int (wS ns 10 : Int), .int (mS ns 10 : Int)] = .ok (sc81 (wS ns 10) (mS ns 10) (fun k => rowL ns (500 + 30 * k) (wS ns 10)) (.tup [.int (pick ns (500 + 400) (mS ns 10)), .int (pick ns (500 + 401) ((wS ns 10 : Nat) + 1))])) := by
    have : lscrF [.lst fz (ns.map .int), .int 500, .int (wS ns 10 : Int), .int (mS ns 10 : Int)] = (match intsD (ns.map .int) with
      | some ns' => if (0 ≤ (500 : Int) ∧ 0 ≤ (wS ns 10 : Int) ∧ (wS ns 10 : Int) ≤ 100) ∧ 0 < (mS ns 10 : Int) ∧ (mS ns 10 : Int) ≤ 100 then .ok (scrL ns' (500 : Int).toNat (wS ns 10 : Int).toNat (mS ns 10 : Int).toNat) else .no
      | none => .no) := rfl
    rw [this, intsD_map]
    dsimp only
    rw [if_pos (by omega), Int.toNat_natCast, Int.toNat_natCast]; rfl
  rw [eA] at hs
  clear eA
  generalize (fun k => rowL ns (10 + 5 + 30 * k) (wS ns 10)) = X at *
  generalize (fun k => rowL ns (500 + 30 * k) (wS ns 10)) = Y at *
  generalize pl ns (10 + 5) (wS ns 10) (mS ns 10) = p at *
  generalize (D.tup [.int (pick ns (500 + 400) (mS ns 10)), .int (pick ns (500 + 401) ((wS ns 10 : Nat) + 1))]) = q0 at *
  generalize wS ns 10 = W at *
  generalize mS ns 10 = M at *
  have hq : place (.tup [.int 0, .int 0]) W M = true := by
    show (inB _ _ _ && inB _ _ _) = true
    simp only [inB]
    rw [Bool.and_eq_true]
    constructor
    · rw [Bool.and_eq_true]; exact ⟨by decide, by rw [decide_eq_true_iff]; omega⟩
    · rw [Bool.and_eq_true]; exact ⟨by decide, by rw [decide_eq_true_iff]; omega⟩
  obtain ⟨Z, r, x4, gZ, hr, i4⟩ := i4_81 (X := X) (Y := Y) (p := p) (q := .tup [.int 0, .int 0]) ns fz w1 (by omega) m1 (by omega) gX gY hpl hq someF lscrF (alike_rows81 C) (scroll_by81 C)
  have sX := screen81 w1 (by omega : W ≤ 40) m1 (by omega : M ≤ 12) gX hpl
  have sZ := screen81 w1 (by omega : W ≤ 40) m1 (by omega : M ≤ 12) gZ hr
  generalize hS : D.lst fz (ns.map .int) = S at *
  have i5 := i5_81 (C := C) (some (.val S)) x4 (by omega) sX sZ someF lscrF pickF scrollF (scroll_by81 C)
  obtain ⟨y6, y7, y8, y9, i9⟩ := i9_81 (X := X) (p := p) (q := r) (some (.val S)) x4 (by omega) m1 (by omega) gZ someF lscrF pickF scrollF (alike_rows81 C) (scroll_by81 C)
  have i10 := i10_81 (C := C) (some (.val S)) x4 w1 (by omega) m1 (by omega) gX gZ hpl hr someF lscrF pickF scrollF (alike_rows81 C) y6 y7 y8 y9
  have i11 := i11_81 (C := C) (some (.val S)) x4 (by omega) sX sZ someF lscrF pickF scrollF (scroll_by81 C) (some (.val (.lst false ((bys81 M).map (T81 fun b => (cnt81 W M X Z b : Nat)))))) y6 y7 y8 y9
  have i1 : law_s1 someF lscrF pickF scrollF (alike_rows81 C) (scroll_by81 C) (startE 10 [S]) = .nx [some (.val S), some (.val (sc81 W M X p)), none, none, none, none, none, none, none, none] := by
    show law_s1 someF lscrF pickF scrollF (alike_rows81 C) (scroll_by81 C) [some (.val S), none, none, none, none, none, none, none, none, none] = _
    have hs : someF [S, .int 10] = .ok (sc81 W M X p) := hs
    unfold law_s1
    clear i4 i5 i9 i10 i11 sX sZ hl
    generalize sc81 W M X p = A at *
    walk_at "run"
  have i2 : law_s2 someF lscrF pickF scrollF (alike_rows81 C) (scroll_by81 C) [some (.val S), some (.val (sc81 W M X p)), none, none, none, none, none, none, none, none] = .nx [some (.val S), some (.val (sc81 W M X p)), some (.val (.int (M : Int))), none, none, none, none, none, none, none] := by
    have x1 : ixD (sc81 W M X p) (.int 1) = some (.tup (rw81 M X)) := x3_1 _ _ _
    have ll : lenF [.tup (rw81 M X)] = some (.int (M : Int)) := by
      have : lenF [.tup (rw81 M X)] = some (.int ((rw81 M X).length : Int)) := rfl
      rw [this, rw81_len]
    unfold law_s2
    clear i1 i4 i5 i9 i10 i11 sX sZ hl hs
    generalize sc81 W M X p = A at *
    generalize rw81 M X = R1 at *
    walk_at "run"
  have i3 : law_s3 someF lscrF pickF scrollF (alike_rows81 C) (scroll_by81 C) [some (.val S), some (.val (sc81 W M X p)), some (.val (.int (M : Int))), none, none, none, none, none, none, none] = .nx (stA W M X Y p (.tup [.int 0, .int 0]) (some (.val S)) none none none none none none) := by
    have x0 : ixD (sc81 W M X p) (.int 0) = some (.int (W : Int)) := x3_0 _ _ _
    have y1 : ixD (sc81 W M Y q0) (.int 1) = some (.tup (rw81 M Y)) := x3_1 _ _ _
    have ey : sc81 W M Y (.tup [.int 0, .int 0]) = .tup [.int (W : Int), .tup (rw81 M Y), .tup [.int 0, .int 0]] := rfl
    have mk3 := t3
    have mk2 := t2
    unfold stA law_s3
    rw [ey]
    clear i1 i2 i4 i5 i9 i10 i11 sX sZ hs ey
    generalize sc81 W M X p = A at *
    generalize sc81 W M Y q0 = B0 at *
    generalize rw81 M Y = R1 at *
    walk_at "run"
  have i6 : law_s6 someF lscrF pickF scrollF (alike_rows81 C) (scroll_by81 C) (stA W M X Z p r (some (.val S)) x4 none none none none none) = .nx (stA W M X Z p r (some (.val S)) x4 (some (.own [])) none none none none) := rfl
  have fz5 : ∀ (g : Ev → O) (ds : List D), oFrz 5 g (stA W M X Z p r (some (.val S)) x4 (some (.own ds)) y6 y7 y8 y9) = g (stA W M X Z p r (some (.val S)) x4 (some (.val (.lst false ds))) y6 y7 y8 y9) := fun _ _ => rfl
  unfold law_all
  rw [sq81 i1, sq81 i2, sq81 i3, sq81 i4, sq81 i5, sq81 i6, sq81 i9, fz5, sq81 i10, sr81 i11]
  rfl
end
end Q81
namespace Q
open PySem PySem.Spec PyProof.Rows L2
theorem len1 {us : List Value} (h : us.length = 1) : ∃ a, us = [a] := by
  match us, h with
  | [a], _ => exact ⟨a, rfl⟩
theorem len2 {us : List Value} (h : us.length = 2) : ∃ a b, us = [a, b] := by
  match us, h with
  | [a, b], _ => exact ⟨a, b, rfl⟩
theorem len3 {us : List Value} (h : us.length = 3) : ∃ a b c, us = [a, b, c] := by
  match us, h with
  | [a, b, c], _ => exact ⟨a, b, c, rfl⟩
theorem len4 {us : List Value} (h : us.length = 4) : ∃ a b c d, us = [a, b, c, d] := by
  match us, h with
  | [a, b, c, d], _ => exact ⟨a, b, c, d, rfl⟩
theorem own_at {K : PySem.W.Frag} {hp : Heap} {mg : Str → Option Value} {x : Str} {C : Addr} {bm : List Value} {nid : String} (kin : K.In hp) (gl : hp.Ns mainGlobals mg) (e1 : PySem.W.nsIn K mainGlobals x = some (some (.ref C))) (e2 : PySem.W.excIn K C bm nid = true) : OwnCls x C bm nid mg hp := by
  constructor
  · exact PySem.W.mg_of kin gl e1
  · unfold PySem.W.excIn at e2
    split at e2
    · rename_i dct kl sls look
      split at e2
      · rename_i C0 more s0 s1 s2 s3 nw s5 hmro hsls
        simp only [Bool.and_eq_true, beq_iff_eq, Bool.not_eq_true'] at e2
        obtain ⟨⟨⟨⟨⟨eC, en⟩, edel⟩, etail⟩, ens⟩, einit⟩ := e2
        obtain ⟨f1, f2, f3, f4, f5, f6, f7, f8, f9, f10, f11⟩ := kl
        dsimp only at hmro edel ens einit
        have es : sls = #[s0, s1, s2, s3, some (.builtin nw), s5] := by
          obtain ⟨ls⟩ := sls
          simp only at hsls
          rw [hsls]
        subst hmro edel es eC en
        exact ⟨more, f4, f1, f5, f2, f6, f7, f8, f9, f10, dct, s0, s1, s2, s3, s5, _, kin _ _ look, .of_isNs (PySem.W.isNs_of_in kin ens), PySem.W.nsMap_none_of_in kin ens einit, PySem.W.tail_of_in kin etail⟩
      · cases e2
    · cases e2
theorem ref_at {K : PySem.W.Frag} {hp : Heap} {mg : Str → Option Value} {x : Str} {C : Addr} (kin : K.In hp) (gl : hp.Ns mainGlobals mg) (e1 : PySem.W.nsIn K mainGlobals x = some (some (.ref C))) (e2 : PySem.W.excIn K C [.type "ValueError", .type "Exception", .type "BaseException", .type "object"] "ValueError.__new__" = true) : Ref x C mg hp :=
  ⟨_, _, _, _, own_at kin gl e1 e2, PySem.F.excBase_ValueError⟩
theorem reps_ints {K : PySem.W.Frag} {G : Hp} : ∀ ns : List Int, Reps K G (ns.map V.int) (ns.map D.int)
  | [] => .nil
  | i :: ns => .cons (.int i) (reps_ints ns)
noncomputable def lawF : List D → R D
  | [.lst _ ds] => match intsD ds with
    | some _ => .ok (.bl true)
    | none => .no
  | _ => .no
theorem law_of {g : List D → R D} (h : ∀ (ns : List Int) (fz : Bool), g [.lst fz (ns.map .int)] = .ok (.bl true)) : ∀ ds : List D, ds.length = 1 → lawF ds = .no ∨ g ds = lawF ds := by
  intro ds hl
  match ds, hl with
  | [d], _ =>
    cases d <;> first | exact Or.inl rfl | skip
    rename_i fz ds hl
    cases hi : intsD ds with
    | none => exact Or.inl (by simp only [lawF, hi])
    | some ns =>
      have e := intsD_eq hi
      subst e
      refine Or.inr ?_
      rw [h ns fz]
      simp only [lawF, hi]
theorem fun_at {K : PySem.W.Frag} {h : Heap} {mg : Str → Option Value} {x : Str} {st : Stmt} {f : Addr} {oc : Value} {od an : Option Addr} {osl : Array (Option Value)} {kV doc pm cdv ct : Value} (X : K.In h) (G : h.Ns mainGlobals mg) (a : PySem.W.nsIn K mainGlobals x = some (some (.ref f)))
    (l : K.lookup f = some ⟨oc, od, .func (PySem.W.fnOf x x (defArgs st) (defBody st) (defScope st) .none kV doc pm an cdv ct), osl⟩) (c : PySem.W.codeIn K cdv x = true) (k : PySem.W.keepIn K (.ref f) = true) : ∃ f fd, Fun K x x st f fd ∧ mg x = some (.ref f) :=
  ⟨f, _, fun_mk l c k, PySem.W.mg_of X G a⟩
end Q
namespace Q
open PySem PySem.Spec PyProof.Rows L2
theorem law_callT {P : Program} {w : World} {K : PySem.W.Frag} {mg mb : Str → Option Value} {CX : CXT} {k : Nat} {fa a : Addr} {fd : FuncData} {x : Str} {sp : Sp} {s₁ : Shared} {vs : List Value} {ns : List Int} {ts : List Addr} {nm : Addr → Str}
    (KX : K.In s₁.heap) (hns : s₁.heap.Ns mainGlobals mg) (hb : s₁.heap.Ns builtinsNs mb) (hbb : ∀ x : Str, x ≠ "__name__" → mb x = bootBuiltins x) (hlim : s₁.heap.NoLimit) (hg : s₁.gens = #[])
    (ha : s₁.heap.get? a = some { cls := .type "list", data := .seq vs.toArray }) (hi : IntsAre vs ns) (hl : ns.length ≤ sizeLine) (hr : Room k callerA)
    (hts : ∀ p ∈ ts, s₁.heap.get? p = some (PySem.W.tabObj #[]) ∧ isCodeTable s₁.heap p ∧ K.lookup p = none)
    (hbm : ∃ bm ob, mg "__builtins__" = some (Value.ref bm) ∧ bm ≠ builtinsNs ∧ s₁.heap.get? bm = some ob ∧ ob.cls = Value.type "module" ∧ ob.dict = some builtinsNs ∧ ob.data = Data.plain)
    (F : ∀ base : Heap, K.In base → base.Ns mainGlobals mg → (∀ p ∈ ts, base.BuiltinsAt mg p ∧ TabB base p (nm p)) → FnOk P w K mg base CX k fa fd [x] sp) (hbind : ∀ (s : Shared) (u : Value), BindsTo s fd ⟨[u], []⟩ [(x, u)])
    (hsp : ∀ H : Hp, SqL K H a (ns.map V.int) → sp [.ref a] H (fun v _ => v = .bl true) fun _ _ _ => False)
    (hCX : ∀ H e s', CX [] H s₁ (fun _ _ _ => False) e s' → False) :
    codeAny (model P w) callerA (.call (.ref fa) ⟨[.ref a], []⟩) (fun r s' => r = .ok (.ret (.bool true)) ∧ OldK s₁.heap s'.heap ∧ s'.os = s₁.os ∧ AllBare s'.gens) s₁ := by
  let tf : Addr → Array Value := fun p => #[.str (nm p) 0]
  have rv := vals_ints hi
  have lenV := hi.length
  have nat : ∀ p ∈ ts, p ≠ a := fun p hp z => by
    have := (hts p hp).1
    rw [z, ha] at this
    have := congrArg Obj.data (Option.some.inj this)
    cases this
  -- from an abstract heap in which nothing but the script and the tables is tracked
  have core : ∀ H : Hp, (∀ b, b ∉ ts → H b = none ∨ ∃ o xs, H b = some (.frz o (.lst xs))) → (∀ p ∈ ts, H p = some (.tbl (tf p))) → SqL K H a (ns.map V.int) → HOk P w H s₁.heap → (∀ b, H b ≠ none → b = a ∨ b ∈ ts) → (H a ≠ none → K.lookup a = none) →
      codeAny (model P w) callerA (.call (.ref fa) ⟨[.ref a], []⟩) (fun r s' => r = .ok (.ret (.bool true)) ∧ OldK s₁.heap s'.heap ∧ s'.os = s₁.os ∧ AllBare s'.gens) s₁ := by
    intro H hO hO2 hS hok hA hK
    have base_of : ∀ {b : Addr} {o : Obj}, s₁.heap.get? b = some o → H b = none → (hidT s₁.heap H).get? b = some o := fun e n => hidT_get e n
    have noA : ∀ {b : Addr} {o : Obj} {es : Array DictEntry} {ep : Nat}, s₁.heap.get? b = some o → o.data = .dict es ep → H b = none := fun {b o es ep} e d => by
      cases q : H b with
      | none => rfl
      | some u =>
        rcases hA b (by rw [q]; simp) with e' | e'
        · subst e'
          rw [ha] at e; cases e
          have d' : Data.seq vs.toArray _ = Data.dict es ep := d
          cases d'
        · rw [(hts b e').1] at e; cases e
          have d' : Data.fields #[] = Data.dict es ep := d
          cases d'
    have nsK : ∀ {b : Addr} {m : Str → Option Value}, s₁.heap.Ns b m → (hidT s₁.heap H).Ns b m := fun {b m} ⟨o, es, ep, e, d, r⟩ => ⟨o, es, ep, base_of e (noA e d), d, r⟩
    have hKb : K.In (hidT s₁.heap H) := fun b o e => base_of (KX b o e) (by
      cases q : H b with
      | none => rfl
      | some u =>
        rcases hA b (by rw [q]; simp) with e' | e'
        · subst e'
          rw [hK (by rw [q]; simp)] at e; cases e
        · rw [(hts b e').2.2] at e; cases e)
    have hM : Mod K mg (hidT s₁.heap H) := ⟨hKb, nsK hns, ⟨mb, nsK hb, hbb⟩, let ⟨mc, h1, h2⟩ := hlim; ⟨mc, nsK h1, h2⟩⟩
    have e0 : Env0 P w K mg (hidT s₁.heap H) callerA [] s₁ H := ⟨rfl, hM, fun b o e => of_hidT e, Nat.le_of_eq (hidT_size _ _), trivial, fun b hb => absurd (show b ∈ ([] : List Addr) from hb) (by simp), hok, .of_eq hg, hidT_tabs _ _⟩
    have hBM0 : ∀ p ∈ ts, (hidT s₁.heap H).BuiltinsAt mg p := fun p hp => by
      obtain ⟨bm, ob, m1, m2, m3, m4, m5, m6⟩ := hbm
      have hn : H bm = none := by
        cases q : H bm with
        | none => rfl
        | some u =>
          rcases hA bm (by rw [q]; simp) with e' | e'
          · subst e'
            rw [ha] at m3; cases m3
            have d' : Data.seq vs.toArray _ = Data.plain := m6
            cases d'
          · rw [(hts bm e').1] at m3; cases m3
            have d' : Data.fields #[] = Data.plain := m6
            cases d'
      refine ⟨bm, ob, m1, m2, fun z => ?_, fun z => ?_, base_of m3 hn, m4, m5, m6⟩
      · obtain ⟨o, es, ep, e, d, _⟩ := hns
        rw [← z, m3] at e; cases e
        rw [m6] at d; cases d
      · have e := (hts p hp).1
        rw [← z, m3] at e; cases e
        have d' : Data.fields #[] = Data.plain := m6
        cases d'
    have hBM : ∀ p ∈ ts, (hidT s₁.heap H).BuiltinsAt mg p ∧ TabB (hidT s₁.heap H) p (nm p) := fun p hp => ⟨hBM0 p hp, hidT_tab (get_objs.1 (hts p hp).1).1 (hO2 p hp)⟩
    refine codeAny_mono ((F _ hKb (nsK hns) hBM).run callerA [] s₁ H ⟨[.ref a], []⟩ [.ref a] [.ref a] _ _ hr e0 (hbind s₁ (.ref a)) (.cons rfl .nil) (hsp H hS)) fun r s' h => ?_
    cases r with
    | error e => exact (hCX H e s' h).elim
    | ok fl =>
      cases fl with
      | next => exact False.elim h
      | brk => exact False.elim h
      | cont => exact False.elim h
      | ret u =>
        obtain ⟨v, H', os, bare, un, hok', r', q⟩ := h
        have q' : v = .bl true := q
        subst q'
        obtain rfl : u = Value.bool true := r'
        have tab : ∀ p ∈ ts, ∃ qs, s'.heap.get? p = some { cls := .none, data := .fields qs } := fun p hp => by
          obtain ⟨more, z⟩ := un.tbls p _ (hO2 p hp)
          obtain ⟨qs, e, _⟩ := hok' p _ z
          exact ⟨qs, e⟩
        have keep : ∀ b o, b ∉ ts → s₁.heap.get? b = some o → s'.heap.get? b = some o := fun b o hb e => by
          cases q : H b with
          | none => exact un.keep b o e q (by intro z; exact absurd (show b ∈ ([] : List Addr) from z) (by simp)) (by simp)
          | some u =>
            rcases hO b hb with z | ⟨ob, xs, z⟩
            · rw [q] at z; cases z
            · have z2 := un.frzs b ob _ z
              obtain ⟨e1, _⟩ := hok b _ z
              obtain ⟨e2, _⟩ := hok' b _ z2
              rw [e] at e1; cases e1
              exact e2
        refine ⟨rfl, ⟨fun b o e => ?_, fun b o e => ?_⟩, os, bare⟩
        · by_cases hb : b ∈ ts
          · obtain ⟨t1, t2, _⟩ := hts b hb
            rw [t1] at e
            cases e
            obtain ⟨qs, z⟩ := tab b hb
            exact .inr (.inl ⟨t2, rfl, #[], qs, rfl, by rw [z]; simp⟩)
          · exact .inl (keep b o hb e)
        · by_cases hb : b ∈ ts
          · obtain ⟨qs, z⟩ := tab b hb; exact ⟨_, z⟩
          · exact ⟨o, keep b o hb e⟩
  have tabOk : ∀ (H : Hp) (p : Addr), p ∈ ts → ObjOk P w H s₁.heap p (.tbl (tf p)) := fun H p hp => ⟨#[], (hts p hp).1, trivial, fun pos cv q => by simp [codeAmong] at q⟩
  cases hk : K.lookup a with
  | some o =>
    have e := KX a o hk
    rw [ha] at e
    cases e
    refine core (fun b => if b ∈ ts then some (.tbl (tf b)) else none) (fun b hb => .inl (if_neg hb)) (fun p hp => if_pos hp) (.inr ⟨_, vs.toArray, _, hk, rfl, rfl, rfl, by rw [List.size_toArray, lenV]; exact hl, by simpa using rv⟩) (fun b u z => ?_) (fun b z => ?_) fun z => absurd (if_neg fun hb => nat a hb rfl) z
    · by_cases hb : b ∈ ts
      · have z' := (if_pos hb).symm.trans z
        cases z'
        exact tabOk _ b hb
      · have z' := (if_neg hb).symm.trans z
        cases z'
    · by_cases hb : b ∈ ts
      · exact .inr hb
      · exact absurd (if_neg hb) z
  | none =>
    have na : a ∉ ts := fun z => nat a z rfl
    refine core (fun b => if b = a then some (.frz { cls := .type "list", data := .seq vs.toArray } (.lst (ns.map V.int))) else if b ∈ ts then some (.tbl (tf b)) else none) (fun b hb => ?_) (fun p hp => ?_) (.inl (.inr ⟨{ cls := .type "list", data := .seq vs.toArray }, if_pos rfl⟩)) (fun b u z => ?_) (fun b z => ?_) fun _ => hk
    · by_cases hb' : b = a
      · exact .inr ⟨_, _, if_pos hb'⟩
      · exact .inl ((if_neg hb').trans (if_neg hb))
    · exact (if_neg (nat p hp)).trans (if_pos hp)
    · by_cases hb : b = a
      · have z' := (if_pos hb).symm.trans z
        cases z'
        subst hb
        exact ⟨ha, by rw [List.length_map]; exact hl, vs, _, rv, ha⟩
      · have z' := (if_neg hb).symm.trans z
        by_cases hb2 : b ∈ ts
        · rw [if_pos hb2] at z'
          cases z'
          exact tabOk _ b hb2
        · rw [if_neg hb2] at z'
          cases z'
    · by_cases hb : b = a
      · exact .inl hb
      · by_cases hb2 : b ∈ ts
        · exact .inr hb2
        · exact absurd ((if_neg hb).trans (if_neg hb2)) z
theorem codeTab {h : Heap} {c p : Addr} (q : PySem.W.CodeHd h c p) : isCodeTable h p := by
  obtain ⟨o, vs, _, _, _, _, _, _, _, e, e1, e2, e3, _⟩ := q
  exact ⟨c, o, vs, e, e1, e2, e3⟩
theorem lookup_out {α β : Type} [BEq α] [LawfulBEq α] {a : α} : ∀ {l : List (α × β)}, a ∉ l.map (·.1) → l.lookup a = none
  | [], _ => rfl
  | (k, v) :: r, h => by
    simp only [List.map_cons, List.mem_cons, not_or] at h
    have : (a == k) = false := by simp; exact h.1
    simp only [List.lookup_cons, this]
    exact lookup_out h.2
theorem walkT {l : PySem.W.OpenLaw} {q : Program} {loose : List Str} {XP : (Str → Option Value) → Heap → Prop} {d : DefRec} {K : Params → PySem.W.Frag} {as : List Addr} {e : ∀ P : Params, as = (K P).map (·.1)} {L : Nat} {ts : List Addr} (hL : Room L callerA) (hn : l.most = some 63) (hdf : d.params.defaults = [])
    (hts : ∀ p ∈ ts, p ∉ as)
    (F : ∀ (w : World) (mg : Str → Option Value) (fa : Addr) (h : Heap), (K w.params).In h → h.Ns mainGlobals mg → mg d.name = some (.ref fa) →
      (∀ p ∈ ts, isCodeTable h p) ∧ ∃ nm : Addr → Str,
      ∃ fd : FuncData, (∀ (s : Shared) (u : Value), BindsTo s fd ⟨[u], []⟩ [("_law_script", u)]) ∧ ∀ base : Heap, (K w.params).In base → base.Ns mainGlobals mg → (∀ p ∈ ts, base.BuiltinsAt mg p ∧ TabB base p (nm p)) → FnF l.prog w (K w.params) mg base L fa fd ["_law_script"] lawF) :
    PySem.W.WalkO q loose XP (PySem.W.kmHook K as e ts).says l.row.toRowW d [] (fun f vs => PySem.call f vs) := by
  refine Att.attach_call hn hdf fun w s₀ s₁ mg mb fa o pm cd doc a vs ns G Y ho hd hcd hmg hobj hints hlen hg => ?_
  have KX := PySem.W.km_in_of Y
  obtain ⟨ht, nm, fd, hb, hF⟩ := F w mg fa _ KX G.T.g hmg
  refine law_callT KX G.T.g G.T.b G.T.builtins G.T.nolimit hg hobj hints (Nat.le_trans hlen (by decide)) hL (fun p hp => ⟨PySem.W.km_tabs_of Y p hp, ht p hp, lookup_out (by rw [← e w.params]; exact hts p hp)⟩) G.T.bmain hF hb (fun H hS => ⟨rfl, H, [.lst true (ns.map .int)], .refl _, .cons (.fls hS (reps_ints ns)) .nil, ?_⟩) fun H e s' z => by obtain ⟨a, C, H', _, _, z⟩ := z; exact z
  have e : lawF [.lst true (ns.map .int)] = .ok (.bl true) := by simp only [lawF, intsD_map]
  rw [e]
  exact fun v G' H' u r => r.bl_inv
theorem fun_atL {K : PySem.W.Frag} {h : Heap} {mg : Str → Option Value} {x : Str} {st : Stmt} {f c Pt : Addr} {oc : Value} {od an od2 : Option Addr} {osl sl2 : Array (Option Value)} {kV doc pm ct : Value} {vs : Array Value} {file : Str} {tf tg tt : Tok} {flags text : Int} {inF : Bool} (X : K.In h) (G : h.Ns mainGlobals mg) (a : PySem.W.nsIn K mainGlobals x = some (some (.ref f)))
    (l : K.lookup f = some ⟨oc, od, .func (PySem.W.fnOf x x (defArgs st) (defBody st) (defScope st) .none kV doc pm an (.ref c) ct), osl⟩) (cI : PySem.W.codeIn K (.ref c) x = true) (k : PySem.W.keepIn K (.ref f) = true)
    (lc : K.lookup c = some ⟨.type "code", od2, .fields vs, sl2⟩) (e11 : vs[11]? = some (.ref Pt)) (e11' : vs.getD 11 .none = .ref Pt) (e18 : vs.getD 18 .none = .str file tf) (e7 : vs.getD 7 .none = .int flags tg) (e9 : vs.getD 9 .none = .bool inF) (e10 : vs.getD 10 .none = .int text tt) (nc : c ≠ Pt) (n4 : mainGlobals ≠ Pt) :
    ∃ f fd, (Fun K x x st f fd ∧ mg x = some (.ref f)) ∧ LamDef K mg fd Pt := by
  have hc : ∀ h, K.In h → PySem.W.CodeHd h c Pt := fun h X => ⟨_, vs, file, tf, flags, tg, inF, text, tt, X _ _ lc, rfl, rfl, e11, e11', e18, e7, e9, e10, nc⟩
  exact ⟨f, _, ⟨fun_mk l cI k, PySem.W.mg_of X G a⟩, ⟨⟨c, rfl, hc⟩, n4⟩⟩
theorem LamDef.tab {K : PySem.W.Frag} {h : Heap} {mg : Str → Option Value} {fd : FuncData} {Pt : Addr} (L : LamDef K mg fd Pt) (X : K.In h) : isCodeTable h Pt := by
  obtain ⟨c, _, q⟩ := L.ex
  exact codeTab (q h X)
theorem tab_of {K : PySem.W.Frag} {h : Heap} {mg : Str → Option Value} {Pt : Addr} {q : Str} {L : List (Addr × Str)} {S : Addr → FuncData → Prop} (LD : ∃ f fd, S f fd ∧ LamDef K mg fd Pt) (X : K.In h) (r : ∀ pq ∈ L, isCodeTable h pq.1) : ∀ pq ∈ (Pt, q) :: L, isCodeTable h pq.1 := fun pq hp => by
  obtain ⟨f, fd, _, ld⟩ := LD
  rcases List.mem_cons.1 hp with z | z
  · rw [z]; exact LamDef.tab ld X
  · exact r pq z
theorem tab_no {h : Heap} : ∀ pq ∈ ([] : List (Addr × Str)), isCodeTable h pq.1 := fun pq hp => by simp at hp
theorem topT {P : Program} {w : World} {K : PySem.W.Frag} {h : Heap} {mg : Str → Option Value} {fa : Addr} {L : Nat} {ts : List Addr} {tq : List (Addr × Str)} (h1 : ∀ p ∈ ts, p ∈ tq.map (·.1)) (h2 : ∀ pq ∈ tq, pq.1 ∈ ts ∧ tq.lookup pq.1 = some pq.2) (hc : ∀ pq ∈ tq, isCodeTable h pq.1)
    (a : ∃ fd : FuncData, (∀ (s : Shared) (u : Value), BindsTo s fd ⟨[u], []⟩ [("_law_script", u)]) ∧ ∀ base : Heap, K.In base → base.Ns mainGlobals mg → (∀ pq ∈ tq, base.BuiltinsAt mg pq.1 ∧ TabB base pq.1 pq.2) → FnF P w K mg base L fa fd ["_law_script"] lawF) :
    (∀ p ∈ ts, isCodeTable h p) ∧ ∃ nm : Addr → Str, ∃ fd : FuncData, (∀ (s : Shared) (u : Value), BindsTo s fd ⟨[u], []⟩ [("_law_script", u)]) ∧ ∀ base : Heap, K.In base → base.Ns mainGlobals mg → (∀ p ∈ ts, base.BuiltinsAt mg p ∧ TabB base p (nm p)) →
      FnF P w K mg base L fa fd ["_law_script"] lawF := by
  obtain ⟨fd', hb, hF⟩ := a
  refine ⟨fun p hp => ?_, fun p => (tq.lookup p).getD Str.empty, fd', hb, fun base kb nb hB => hF base kb nb fun pq hpq => ?_⟩
  · obtain ⟨pq, hpq, rfl⟩ := List.mem_map.1 (h1 p hp)
    exact hc pq hpq
  · obtain ⟨z1, z2⟩ := h2 pq hpq
    have := hB pq.1 z1
    dsimp only at this
    rw [z2] at this
    exact this
end Q
namespace G81
open PySem PySem.Spec PyProof.Rows L2 Q Q81
noncomputable abbrev top (i : Nat) : Stmt := PySem.Challenge.pw_screenlines_k81_whole_alike_rows.main.body.getD i (.Pass ⟨0, 0, 0, 0⟩)
section
variable {P : Program} {w : World} {K : PySem.W.Frag} {mg : Str → Option Value} {base : Heap}
theorem sc_law_cell : FnScope ["_law_script", "_law_k"] ["_law_script", "_law_k"] (defScope (top 25)) := ⟨rfl, rfl, rfl, by decide +kernel, rfl, by decide +kernel, by decide +kernel⟩
theorem rd_law_cell {f : Addr} {fd : FuncData} (b_len : mg "len" = none) (Fn : Fun K "_law_cell" "_law_cell" (top 25) f fd) : FnF P w K mg base 1 f fd ["_law_script", "_law_k"] (fun ds => bodyR (law_cell_all (startE 2 ds))) := by
  have hN : (["_law_script", "_law_k"] : List Str).Nodup := by decide
  refine Fn.okF sc_law_cell (k := 0) (g := law_cell_all) fun cdv A outer s H E hr => ?_
  have hu := hr.units
  have hh := hr.hd
  exact (k_cons (k_if (k_blt (k_var at1) (k_len rfl b_len (k_acons (k_var at0) pfa_nil))) (k_cons (k_ret (pf_ix (k_var at0) (k_var at1))) k_nil) k_nil) (k_cons (k_if (k_beq hu (k_var at0) (k_list (k_lst pfa_nil))) (k_cons (k_ret pf_int) k_nil) k_nil) (k_cons (k_ret (pf_add (pf_mul (pf_ix (k_var at0) (pf_mod (k_var at1) (k_len rfl b_len (k_acons (k_var at0) pfa_nil)))) pf_int) (k_var at1))) k_nil)))
theorem sc_law_pick : FnScope ["_law_script", "_law_k", "_law_many", "_law_drawn"] ["_law_script", "_law_k", "_law_many"] (defScope (top 26)) := ⟨rfl, rfl, rfl, by decide +kernel, rfl, by decide +kernel, by decide +kernel⟩
theorem rd_law_pick {f : Addr} {fd : FuncData} {F__law_cell : List D → R D} (c__law_cell : Callee P w K mg base "_law_cell" 1 2 F__law_cell) (Fn : Fun K "_law_pick" "_law_pick" (top 26) f fd) : FnF P w K mg base 2 f fd ["_law_script", "_law_k", "_law_many"] (fun ds => bodyR (law_pick_all F__law_cell (startE 4 ds))) := by
  have hN : (["_law_script", "_law_k", "_law_many", "_law_drawn"] : List Str).Nodup := by decide
  refine Fn.okF sc_law_pick (k := 1) (g := law_pick_all F__law_cell) fun cdv A outer s H E hr => ?_
  have hu := hr.units
  have hh := hr.hd
  exact (k_cons (k_put at3 hN (pf_mod (pf_mul (pf_add (k_call c__law_cell hr (k_acons (k_var at0) (k_acons (k_var at1) pfa_nil))) (pf_mul pf_int (pf_add (k_var at1) pf_int))) pf_int) pf_int)) (k_cons (k_ret (pf_mod (pf_mod (pf_add (pf_mul (k_var at3) (k_var at3)) (pf_fdiv (k_var at3) pf_int)) pf_int) (k_var at2))) k_nil))
theorem sc_law_row : FnScope ["_law_script", "_law_at", "_law_width", "_law_made", "_law_k", "_law_long"] ["_law_script", "_law_at", "_law_width"] (defScope (top 27)) := ⟨rfl, rfl, rfl, by decide +kernel, rfl, by decide +kernel, by decide +kernel⟩
theorem rd_law_row {f : Addr} {fd : FuncData} {F__law_pick : List D → R D} (b_range : mg "range" = none) (c__law_pick : Callee P w K mg base "_law_pick" 2 3 F__law_pick) (Fn : Fun K "_law_row" "_law_row" (top 27) f fd) : FnF P w K mg base 3 f fd ["_law_script", "_law_at", "_law_width"] (fun ds => bodyR (law_row_all F__law_pick (startE 6 ds))) := by
  have hN : (["_law_script", "_law_at", "_law_width", "_law_made", "_law_k", "_law_long"] : List Str).Nodup := by decide
  refine Fn.okF sc_law_row (k := 2) (g := law_row_all F__law_pick) fun cdv A outer s H E hr => ?_
  have hu := hr.units
  have hh := hr.hd
  exact (k_cons (k_put at3 hN (pf_str (l := []) rfl (by decide))) (k_cons (k_for PassesOwn.leaving rfl (k_irange rfl b_range (k_acons (k_var at2) pfa_nil)) (pgf_name 4 hN) (k_cons (k_put at3 hN (pf_add (k_var at3) (pf_ix (pf_str (l := [32, 32, 97, 98, 35]) rfl (by decide)) (k_call c__law_pick hr (k_acons (k_var at0) (k_acons (pf_add (pf_add (k_var at1) pf_int) (k_var at4)) (k_acons pf_int pfa_nil))))))) k_nil)) (k_cons (k_put at5 hN (k_call c__law_pick hr (k_acons (k_var at0) (k_acons (k_var at1) (k_acons (pf_add (k_var at2) pf_int) pfa_nil))))) (k_cons (k_ret (pf_if (k_beq hu (k_call c__law_pick hr (k_acons (k_var at0) (k_acons (pf_add (k_var at1) pf_int) (k_acons pf_int pfa_nil)))) pf_int) (k_var at3) (pf_add (pf_slice (k_var at3) pfo_none (k_some (k_var at5))) (pf_mul (pf_str (l := [32]) rfl (by decide)) (pf_sub (k_var at2) (k_var at5)))))) k_nil))))
theorem sc_law_screen : FnScope ["_law_script", "_law_at", "_law_width", "_law_many", "_law_rows"] ["_law_script", "_law_at", "_law_width", "_law_many"] (defScope (top 28)) := ⟨rfl, rfl, rfl, by decide +kernel, rfl, by decide +kernel, by decide +kernel⟩
theorem rd_law_screen {f : Addr} {fd : FuncData} {F__law_row : List D → R D} {F__law_pick : List D → R D} (b_range : mg "range" = none) (b_tuple : mg "tuple" = none) (c__law_row : Callee P w K mg base "_law_row" 3 3 F__law_row) (c__law_pick : Callee P w K mg base "_law_pick" 3 3 F__law_pick) (Fn : Fun K "_law_screen" "_law_screen" (top 28) f fd) : FnF P w K mg base 4 f fd ["_law_script", "_law_at", "_law_width", "_law_many"] (fun ds => bodyR (law_screen_all F__law_row F__law_pick (startE 5 ds))) := by
  have hN : (["_law_script", "_law_at", "_law_width", "_law_many", "_law_rows"] : List Str).Nodup := by decide
  refine Fn.okF sc_law_screen (k := 3) (g := law_screen_all F__law_row F__law_pick) fun cdv A outer s H E hr => ?_
  have hu := hr.units
  have hh := hr.hd
  exact (k_cons (k_put at4 hN (k_tupleOf rfl b_tuple (k_acons (k_comp (pfl_comp (N' := ["_law_k", "_law_script", "_law_at", "_law_width"]) (ix := [0, 1, 2]) comp_ok rfl (k_irange rfl b_range (k_acons (k_var at3) pfa_nil)) (fun C s₂ H₂ fp => (k_call c__law_row hr (k_acons (k_varC at1) (k_acons (pf_add (k_varC at2) (pf_mul pf_int (k_varC at0))) (k_acons (k_varC at3) pfa_nil))))) (fun C s₂ H₂ fp => pts_nil))) pfa_nil))) (k_cons (k_ret (k_tup (k_acons (k_var at2) (k_acons (k_var at4) (k_acons (k_tup (k_acons (k_call c__law_pick hr (k_acons (k_var at0) (k_acons (pf_add (k_var at1) pf_int) (k_acons (k_var at3) pfa_nil)))) (k_acons (k_call c__law_pick hr (k_acons (k_var at0) (k_acons (pf_add (k_var at1) pf_int) (k_acons (pf_add (k_var at2) pf_int) pfa_nil)))) pfa_nil))) pfa_nil))))) k_nil))
theorem sc_law_some : FnScope ["_law_script", "_law_at"] ["_law_script", "_law_at"] (defScope (top 29)) := ⟨rfl, rfl, rfl, by decide +kernel, rfl, by decide +kernel, by decide +kernel⟩
theorem rd_law_some {f : Addr} {fd : FuncData} {F__law_pick : List D → R D} {F__law_screen : List D → R D} (c__law_pick : Callee P w K mg base "_law_pick" 4 3 F__law_pick) (c__law_screen : Callee P w K mg base "_law_screen" 4 4 F__law_screen) (Fn : Fun K "_law_some" "_law_some" (top 29) f fd) : FnF P w K mg base 5 f fd ["_law_script", "_law_at"] (fun ds => bodyR (law_some_all F__law_pick F__law_screen (startE 2 ds))) := by
  have hN : (["_law_script", "_law_at"] : List Str).Nodup := by decide
  refine Fn.okF sc_law_some (k := 4) (g := law_some_all F__law_pick F__law_screen) fun cdv A outer s H E hr => ?_
  have hu := hr.units
  have hh := hr.hd
  exact (k_cons (k_ret (k_call c__law_screen hr (k_acons (k_var at0) (k_acons (pf_add (k_var at1) pf_int) (k_acons (pf_add pf_int (k_call c__law_pick hr (k_acons (k_var at0) (k_acons (k_var at1) (k_acons pf_int pfa_nil))))) (k_acons (pf_add pf_int (k_call c__law_pick hr (k_acons (k_var at0) (k_acons (pf_add (k_var at1) pf_int) (k_acons pf_int pfa_nil))))) pfa_nil)))))) k_nil)
theorem sc_is_whole : FnScope ["thing"] ["thing"] (defScope (top 5)) := ⟨rfl, rfl, rfl, by decide +kernel, rfl, by decide +kernel, by decide +kernel⟩
theorem rd_is_whole {f : Addr} {fd : FuncData} (b_bool : mg "bool" = none) (b_int : mg "int" = none) (b_isinstance : mg "isinstance" = none) (Fn : Fun K "is_whole" "is_whole" (top 5) f fd) : FnF P w K mg base 1 f fd ["thing"] (fun ds => bodyR (is_whole_all (startE 1 ds))) := by
  have hN : (["thing"] : List Str).Nodup := by decide
  refine Fn.okF sc_is_whole (k := 0) (g := is_whole_all) fun cdv A outer s H E hr => ?_
  have hu := hr.units
  have hh := hr.hd
  exact (k_cons (k_ret (pf_and (k_isInt b_isinstance (k_var at0) b_int) (pf_one (pf_not (k_isBool b_isinstance (k_var at0) b_bool))))) k_nil)
theorem sc_is_within : FnScope ["thing", "low", "high"] ["thing", "low", "high"] (defScope (top 6)) := ⟨rfl, rfl, rfl, by decide +kernel, rfl, by decide +kernel, by decide +kernel⟩
theorem rd_is_within {f : Addr} {fd : FuncData} {F_is_whole : List D → R D} (c_is_whole : Callee P w K mg base "is_whole" 1 1 F_is_whole) (Fn : Fun K "is_within" "is_within" (top 6) f fd) : FnF P w K mg base 2 f fd ["thing", "low", "high"] (fun ds => bodyR (is_within_all F_is_whole (startE 3 ds))) := by
  have hN : (["thing", "low", "high"] : List Str).Nodup := by decide
  refine Fn.okF sc_is_within (k := 1) (g := is_within_all F_is_whole) fun cdv A outer s H E hr => ?_
  have hu := hr.units
  have hh := hr.hd
  exact (k_cons (k_ret (pf_and (k_call c_is_whole hr (k_acons (k_var at0) pfa_nil)) (pf_one (pf_lele (k_var at1) (k_var at0) (k_var at2))))) k_nil)
theorem sc_is_plain : FnScope ["thing"] ["thing"] (defScope (top 7)) := ⟨rfl, rfl, rfl, by decide +kernel, rfl, by decide +kernel, by decide +kernel⟩
theorem rd_is_plain {f : Addr} {fd : FuncData} (b_all : mg "all" = none) (b_isinstance : mg "isinstance" = none) (b_str : mg "str" = none) (Fn : Fun K "is_plain" "is_plain" (top 7) f fd) : FnF P w K mg base 1 f fd ["thing"] (fun ds => bodyR (is_plain_all (startE 1 ds))) := by
  have hN : (["thing"] : List Str).Nodup := by decide
  refine Fn.okF sc_is_plain (k := 0) (g := is_plain_all) fun cdv A outer s H E hr => ?_
  have hu := hr.units
  have hh := hr.hd
  exact (k_cons (k_ret (pf_and (k_isStr b_isinstance (k_var at0) b_str) (pf_one (k_all rfl rfl b_all (k_acons (k_comp (pfl_comp (N' := ["sign"]) (ix := []) comp_ok rfl (k_ival (k_var at0)) (fun C s₂ H₂ fp => (pf_lele (pf_str (l := [32]) rfl (by decide)) (k_varC at0) (pf_str (l := [126]) rfl (by decide)))) (fun C s₂ H₂ fp => pts_nil))) pfa_nil))))) k_nil)
theorem sc_are_full_rows : FnScope ["thing", "width"] ["thing", "width"] (defScope (top 11)) := ⟨rfl, rfl, rfl, by decide +kernel, rfl, by decide +kernel, by decide +kernel⟩
theorem rd_are_full_rows {f : Addr} {fd : FuncData} {F_is_plain : List D → R D} (b_all : mg "all" = none) (b_isinstance : mg "isinstance" = none) (b_len : mg "len" = none) (b_tuple : mg "tuple" = none) {t_MOST_ROWS : Tok} (g_MOST_ROWS : mg "MOST_ROWS" = some (.int 12 t_MOST_ROWS)) (c_is_plain : Callee P w K mg base "is_plain" 1 1 F_is_plain) (Fn : Fun K "are_full_rows" "are_full_rows" (top 11) f fd) : FnF P w K mg base 2 f fd ["thing", "width"] (fun ds => bodyR (are_full_rows_all F_is_plain (startE 2 ds))) := by
  have hN : (["thing", "width"] : List Str).Nodup := by decide
  refine Fn.okF sc_are_full_rows (k := 1) (g := are_full_rows_all F_is_plain) fun cdv A outer s H E hr => ?_
  have hu := hr.units
  have hh := hr.hd
  exact (k_cons (k_if (k_bop (pbw_or (k_bnot (k_bval (k_isTuple b_isinstance (k_var at0) b_tuple))) (pbw_or1 (k_bnot (k_blele pf_int (k_len rfl b_len (k_acons (k_var at0) pfa_nil)) (pf_globI rfl g_MOST_ROWS)))))) (k_cons (k_ret pf_bl) k_nil) k_nil) (k_cons (k_ret (k_all rfl rfl b_all (k_acons (k_comp (pfl_comp (N' := ["row", "width"]) (ix := [1]) comp_ok rfl (k_ival (k_var at0)) (fun C s₂ H₂ fp => (pf_and (k_call c_is_plain hr (k_acons (k_varC at0) pfa_nil)) (pf_one (pf_eq hu (k_len rfl b_len (k_acons (k_varC at0) pfa_nil)) (k_varC at1))))) (fun C s₂ H₂ fp => pts_nil))) pfa_nil))) k_nil))
theorem sc_is_place : FnScope ["thing", "width", "many"] ["thing", "width", "many"] (defScope (top 12)) := ⟨rfl, rfl, rfl, by decide +kernel, rfl, by decide +kernel, by decide +kernel⟩
theorem rd_is_place {f : Addr} {fd : FuncData} {F_is_within : List D → R D} (b_isinstance : mg "isinstance" = none) (b_len : mg "len" = none) (b_tuple : mg "tuple" = none) (c_is_within : Callee P w K mg base "is_within" 2 3 F_is_within) (Fn : Fun K "is_place" "is_place" (top 12) f fd) : FnF P w K mg base 3 f fd ["thing", "width", "many"] (fun ds => bodyR (is_place_all F_is_within (startE 3 ds))) := by
  have hN : (["thing", "width", "many"] : List Str).Nodup := by decide
  refine Fn.okF sc_is_place (k := 2) (g := is_place_all F_is_within) fun cdv A outer s H E hr => ?_
  have hu := hr.units
  have hh := hr.hd
  exact (k_cons (k_if (k_bop (pbw_or (k_bnot (k_bval (k_isTuple b_isinstance (k_var at0) b_tuple))) (pbw_or1 (k_bne hu (k_len rfl b_len (k_acons (k_var at0) pfa_nil)) pf_int)))) (k_cons (k_ret pf_bl) k_nil) k_nil) (k_cons (k_ret (pf_and (k_call c_is_within hr (k_acons (pf_ix (k_var at0) pf_int) (k_acons pf_int (k_acons (pf_sub (k_var at2) pf_int) pfa_nil)))) (pf_one (k_call c_is_within hr (k_acons (pf_ix (k_var at0) pf_int) (k_acons pf_int (k_acons (k_var at1) pfa_nil))))))) k_nil))
theorem sc_is_screen : FnScope ["thing", "width"] ["thing"] (defScope (top 13)) := ⟨rfl, rfl, rfl, by decide +kernel, rfl, by decide +kernel, by decide +kernel⟩
theorem rd_is_screen {f : Addr} {fd : FuncData} {F_is_within : List D → R D} {F_are_full_rows : List D → R D} {F_is_place : List D → R D} (b_isinstance : mg "isinstance" = none) (b_len : mg "len" = none) (b_tuple : mg "tuple" = none) {t_MOST_WIDTH : Tok} (g_MOST_WIDTH : mg "MOST_WIDTH" = some (.int 40 t_MOST_WIDTH)) (c_is_within : Callee P w K mg base "is_within" 3 3 F_is_within) (c_are_full_rows : Callee P w K mg base "are_full_rows" 3 2 F_are_full_rows) (c_is_place : Callee P w K mg base "is_place" 3 3 F_is_place) (Fn : Fun K "is_screen" "is_screen" (top 13) f fd) : FnF P w K mg base 4 f fd ["thing"] (fun ds => bodyR (is_screen_all F_is_within F_are_full_rows F_is_place (startE 2 ds))) := by
  have hN : (["thing", "width"] : List Str).Nodup := by decide
  refine Fn.okF sc_is_screen (k := 3) (g := is_screen_all F_is_within F_are_full_rows F_is_place) fun cdv A outer s H E hr => ?_
  have hu := hr.units
  have hh := hr.hd
  exact (k_cons (k_if (k_bop (pbw_or (k_bnot (k_bval (k_isTuple b_isinstance (k_var at0) b_tuple))) (pbw_or1 (k_bne hu (k_len rfl b_len (k_acons (k_var at0) pfa_nil)) pf_int)))) (k_cons (k_ret pf_bl) k_nil) k_nil) (k_cons (k_put at1 hN (pf_ix (k_var at0) pf_int)) (k_cons (k_if (k_bop (pbw_or (k_bnot (k_bval (k_call c_is_within hr (k_acons (k_var at1) (k_acons pf_int (k_acons (pf_globI rfl g_MOST_WIDTH) pfa_nil)))))) (pbw_or1 (k_bnot (k_bval (k_call c_are_full_rows hr (k_acons (pf_ix (k_var at0) pf_int) (k_acons (k_var at1) pfa_nil)))))))) (k_cons (k_ret pf_bl) k_nil) k_nil) (k_cons (k_ret (k_call c_is_place hr (k_acons (pf_ix (k_var at0) pf_int) (k_acons (k_var at1) (k_acons (k_len rfl b_len (k_acons (pf_ix (k_var at0) pf_int) pfa_nil)) pfa_nil))))) k_nil))))
theorem sc_check_screen : FnScope ["thing"] ["thing"] (defScope (top 14)) := ⟨rfl, rfl, rfl, by decide +kernel, rfl, by decide +kernel, by decide +kernel⟩
theorem rd_check_screen {f : Addr} {fd : FuncData} {F_is_screen : List D → R D} {C_NoScreen : Addr} (r_NoScreen : Ref "NoScreen" C_NoScreen mg base) (c_is_screen : Callee P w K mg base "is_screen" 4 1 F_is_screen) (Fn : Fun K "check_screen" "check_screen" (top 14) f fd) : FnF P w K mg base 5 f fd ["thing"] (fun ds => bodyR (check_screen_all F_is_screen C_NoScreen (startE 1 ds))) := by
  have hN : (["thing"] : List Str).Nodup := by decide
  refine Fn.okF sc_check_screen (k := 4) (g := check_screen_all F_is_screen C_NoScreen) fun cdv A outer s H E hr => ?_
  have hu := hr.units
  have hh := hr.hd
  exact (k_cons (k_if (k_bnot (k_bval (k_call c_is_screen hr (k_acons (k_var at0) pfa_nil)))) (k_cons (k_raise r_NoScreen hh (pf_str (l := [116, 104, 105, 115, 32, 105, 115, 32, 110, 111, 32, 115, 99, 114, 101, 101, 110]) rfl (by decide))) k_nil) k_nil) k_nil)
theorem sc_row_or_blank : FnScope ["screen", "number"] ["screen", "number"] (defScope (top 16)) := ⟨rfl, rfl, rfl, by decide +kernel, rfl, by decide +kernel, by decide +kernel⟩
theorem rd_row_or_blank {f : Addr} {fd : FuncData} (b_len : mg "len" = none) (Fn : Fun K "row_or_blank" "row_or_blank" (top 16) f fd) : FnF P w K mg base 1 f fd ["screen", "number"] (fun ds => bodyR (row_or_blank_all (startE 2 ds))) := by
  have hN : (["screen", "number"] : List Str).Nodup := by decide
  refine Fn.okF sc_row_or_blank (k := 0) (g := row_or_blank_all) fun cdv A outer s H E hr => ?_
  have hu := hr.units
  have hh := hr.hd
  exact (k_cons (k_if (k_blelt pf_int (k_var at1) (k_len rfl b_len (k_acons (pf_ix (k_var at0) pf_int) pfa_nil))) (k_cons (k_ret (pf_ix (pf_ix (k_var at0) pf_int) (k_var at1))) k_nil) k_nil) (k_cons (k_ret (pf_mul (pf_str (l := [32]) rfl (by decide)) (pf_ix (k_var at0) pf_int))) k_nil))
theorem sc_scrolled : FnScope ["screen", "by", "rows"] ["screen", "by"] (defScope (top 17)) := ⟨rfl, rfl, rfl, by decide +kernel, rfl, by decide +kernel, by decide +kernel⟩
theorem rd_scrolled {f : Addr} {fd : FuncData} {F_check_screen : List D → R D} {F_is_within : List D → R D} {F_row_or_blank : List D → R D} {C_NoNumber : Addr} (b_len : mg "len" = none) (b_range : mg "range" = none) (b_tuple : mg "tuple" = none) {t_MOST_ROWS : Tok} (g_MOST_ROWS : mg "MOST_ROWS" = some (.int 12 t_MOST_ROWS)) (r_NoNumber : Ref "NoNumber" C_NoNumber mg base) (c_check_screen : Callee P w K mg base "check_screen" 5 1 F_check_screen) (c_is_within : Callee P w K mg base "is_within" 5 3 F_is_within) (c_row_or_blank : Callee P w K mg base "row_or_blank" 5 2 F_row_or_blank) (Fn : Fun K "scrolled" "scrolled" (top 17) f fd) : FnF P w K mg base 6 f fd ["screen", "by"] (fun ds => bodyR (scrolled_all F_check_screen F_is_within F_row_or_blank C_NoNumber (startE 3 ds))) := by
  have hN : (["screen", "by", "rows"] : List Str).Nodup := by decide
  refine Fn.okF sc_scrolled (k := 5) (g := scrolled_all F_check_screen F_is_within F_row_or_blank C_NoNumber) fun cdv A outer s H E hr => ?_
  have hu := hr.units
  have hh := hr.hd
  exact (k_cons (k_expr (k_call c_check_screen hr (k_acons (k_var at0) pfa_nil))) (k_cons (k_if (k_bnot (k_bval (k_call c_is_within hr (k_acons (k_var at1) (k_acons (k_neg (pf_globI rfl g_MOST_ROWS)) (k_acons (pf_globI rfl g_MOST_ROWS) pfa_nil)))))) (k_cons (k_raise r_NoNumber hh (pf_str (l := [97, 32, 115, 99, 114, 101, 101, 110, 32, 105, 115, 32, 115, 99, 114, 111, 108, 108, 101, 100, 32, 98, 121, 32, 45, 49, 50, 32, 116, 111, 32, 49, 50, 32, 114, 111, 119, 115]) rfl (by decide))) k_nil) k_nil) (k_cons (k_compA 2 hN (N' := ["number", "screen", "by"]) (ix := [0, 1]) comp_ok rfl (k_irange rfl b_range (k_acons (k_len rfl b_len (k_acons (pf_ix (k_var at0) pf_int) pfa_nil)) pfa_nil)) (fun C s₂ H₂ fp => (k_call c_row_or_blank hr (k_acons (k_varC at1) (k_acons (pf_add (k_varC at0) (k_varC at2)) pfa_nil)))) (fun C s₂ H₂ fp => pts_nil)) (k_frz 2 (k_cons (k_ret (k_tup (k_acons (pf_ix (k_var at0) pf_int) (k_acons (k_tupleOf rfl b_tuple (k_acons (k_var at2) pfa_nil)) (k_acons (pf_ix (k_var at0) pf_int) pfa_nil))))) k_nil)))))
theorem sc_check_same_size : FnScope ["one", "other"] ["one", "other"] (defScope (top 19)) := ⟨rfl, rfl, rfl, by decide +kernel, rfl, by decide +kernel, by decide +kernel⟩
theorem rd_check_same_size {f : Addr} {fd : FuncData} {F_check_screen : List D → R D} {C_NoScreen : Addr} (b_len : mg "len" = none) (r_NoScreen : Ref "NoScreen" C_NoScreen mg base) (c_check_screen : Callee P w K mg base "check_screen" 5 1 F_check_screen) (Fn : Fun K "check_same_size" "check_same_size" (top 19) f fd) : FnF P w K mg base 6 f fd ["one", "other"] (fun ds => bodyR (check_same_size_all F_check_screen C_NoScreen (startE 2 ds))) := by
  have hN : (["one", "other"] : List Str).Nodup := by decide
  refine Fn.okF sc_check_same_size (k := 5) (g := check_same_size_all F_check_screen C_NoScreen) fun cdv A outer s H E hr => ?_
  have hu := hr.units
  have hh := hr.hd
  exact (k_cons (k_expr (k_call c_check_screen hr (k_acons (k_var at0) pfa_nil))) (k_cons (k_expr (k_call c_check_screen hr (k_acons (k_var at1) pfa_nil))) (k_cons (k_if (k_bop (pbw_or (k_bne hu (pf_ix (k_var at0) pf_int) (pf_ix (k_var at1) pf_int)) (pbw_or1 (k_bne hu (k_len rfl b_len (k_acons (pf_ix (k_var at0) pf_int) pfa_nil)) (k_len rfl b_len (k_acons (pf_ix (k_var at1) pf_int) pfa_nil)))))) (k_cons (k_raise r_NoScreen hh (pf_str (l := [116, 104, 101, 115, 101, 32, 115, 99, 114, 101, 101, 110, 115, 32, 97, 114, 101, 32, 110, 111, 116, 32, 111, 102, 32, 111, 110, 101, 32, 115, 105, 122, 101]) rfl (by decide))) k_nil) k_nil) k_nil)))
theorem sc_alike_rows : FnScope ["one", "other"] ["one", "other"] (defScope (top 20)) := ⟨rfl, rfl, rfl, by decide +kernel, rfl, by decide +kernel, by decide +kernel⟩
theorem rd_alike_rows {f : Addr} {fd : FuncData} {F_check_same_size : List D → R D} (b_enumerate : mg "enumerate" = none) (c_check_same_size : Callee P w K mg base "check_same_size" 6 2 F_check_same_size) (Fn : Fun K "alike_rows" "alike_rows" (top 20) f fd) : FnF P w K mg base 7 f fd ["one", "other"] (fun ds => bodyR (alike_rows_all F_check_same_size (startE 2 ds))) := by
  have hN : (["one", "other"] : List Str).Nodup := by decide
  refine Fn.okF sc_alike_rows (k := 6) (g := alike_rows_all F_check_same_size) fun cdv A outer s H E hr => ?_
  have hu := hr.units
  have hh := hr.hd
  exact (k_cons (k_expr (k_call c_check_same_size hr (k_acons (k_var at0) (k_acons (k_var at1) pfa_nil)))) (k_cons (k_ret (k_comp (pfl_compT (n := 2) (N' := ["number", "row", "other"]) (ix := [1]) compT_ok rfl (fun C s₂ H₂ fp => pgf_tup rfl (pgsf_cons 0 (by show (["number", "row", "other"] : List Str).Nodup; decide) (pgsf_cons 1 (by show (["number", "row", "other"] : List Str).Nodup; decide) pgsf_nil))) setT_own (k_ienum rfl b_enumerate (pf_ix (k_var at0) pf_int)) (fun C s₂ H₂ fp => (k_varC at0)) (fun C s₂ H₂ fp => (pts_one (k_beq hu (k_varC at1) (pf_ix (pf_ix (k_varC at2) pf_int) (k_varC at0)))))))) k_nil))
theorem sc_is_blank : FnScope ["row"] ["row"] (defScope (top 21)) := ⟨rfl, rfl, rfl, by decide +kernel, rfl, by decide +kernel, by decide +kernel⟩
theorem rd_is_blank {f : Addr} {fd : FuncData} (Fn : Fun K "is_blank" "is_blank" (top 21) f fd) : FnF P w K mg base 1 f fd ["row"] (fun ds => bodyR (is_blank_all (startE 1 ds))) := by
  have hN : (["row"] : List Str).Nodup := by decide
  refine Fn.okF sc_is_blank (k := 0) (g := is_blank_all) fun cdv A outer s H E hr => ?_
  have hu := hr.units
  have hh := hr.hd
  exact (k_cons (k_ret (pf_eq hu (k_stripG (k_var at0) (k_acons (pf_str (l := [32]) rfl (by decide)) pfa_nil)) (pf_str (l := []) rfl (by decide)))) k_nil)
theorem sc_alike_behind_scroll : FnScope ["one", "other", "by", "both"] ["one", "other", "by"] (defScope (top 22)) := ⟨rfl, rfl, rfl, by decide +kernel, rfl, by decide +kernel, by decide +kernel⟩
theorem rd_alike_behind_scroll {f : Addr} {fd : FuncData} {F_scrolled : List D → R D} {F_alike_rows : List D → R D} {F_is_blank : List D → R D} (b_len : mg "len" = none) (c_scrolled : Callee P w K mg base "scrolled" 7 2 F_scrolled) (c_alike_rows : Callee P w K mg base "alike_rows" 7 2 F_alike_rows) (c_is_blank : Callee P w K mg base "is_blank" 7 1 F_is_blank) (Fn : Fun K "alike_behind_scroll" "alike_behind_scroll" (top 22) f fd) : FnF P w K mg base 8 f fd ["one", "other", "by"] (fun ds => bodyR (alike_behind_scroll_all F_scrolled F_alike_rows F_is_blank (startE 4 ds))) := by
  have hN : (["one", "other", "by", "both"] : List Str).Nodup := by decide
  refine Fn.okF sc_alike_behind_scroll (k := 7) (g := alike_behind_scroll_all F_scrolled F_alike_rows F_is_blank) fun cdv A outer s H E hr => ?_
  have hu := hr.units
  have hh := hr.hd
  exact (k_cons (k_put at3 hN (k_call c_alike_rows hr (k_acons (k_call c_scrolled hr (k_acons (k_var at0) (k_acons (k_var at2) pfa_nil))) (k_acons (k_var at1) pfa_nil)))) (k_cons (k_ret (k_len rfl b_len (k_acons (k_comp (pfl_comp (N' := ["number", "other"]) (ix := [1]) comp_ok rfl (k_ival (k_var at3)) (fun C s₂ H₂ fp => (k_varC at0)) (fun C s₂ H₂ fp => (pts_one (k_bnot (k_bval (k_call c_is_blank hr (k_acons (pf_ix (pf_ix (k_varC at1) pf_int) (k_varC at0)) pfa_nil)))))))) pfa_nil))) k_nil))
theorem sc_scroll_by : FnScope ["one", "other", "most", "tried"] ["one", "other"] (defScope (top 23)) := ⟨rfl, rfl, rfl, by decide +kernel, rfl, by decide +kernel, by decide +kernel⟩
theorem rd_scroll_by {f : Addr} {fd : FuncData} {F_check_same_size : List D → R D} {F_alike_behind_scroll : List D → R D} (b_abs : mg "abs" = none) (b_len : mg "len" = none) (b_list : mg "list" = none) (b_max : mg "max" = none) (b_range : mg "range" = none) (c_check_same_size : Callee P w K mg base "check_same_size" 10 2 F_check_same_size) (d_alike_behind_scroll : Callee P w K mg base "alike_behind_scroll" 8 3 F_alike_behind_scroll) {Pt : Addr} (LB : LamB K mg base "scroll_by" fd Pt) (Fn : Fun K "scroll_by" "scroll_by" (top 23) f fd) : FnF P w K mg base 11 f fd ["one", "other"] (fun ds => bodyR (scroll_by_all F_check_same_size F_alike_behind_scroll (startE 4 ds))) := by
  have hN : (["one", "other", "most", "tried"] : List Str).Nodup := by decide
  refine Fn.okFT LB sc_scroll_by (k := 10) (g := scroll_by_all F_check_same_size F_alike_behind_scroll) fun cdv A outer s H E hr la => ?_
  have hu := hr.units
  have hh := hr.hd
  exact (k_cons (k_expr (k_call c_check_same_size hr (k_acons (k_var at0) (k_acons (k_var at1) pfa_nil)))) (k_cons (k_put at2 hN (pf_sub (k_len rfl b_len (k_acons (pf_ix (k_var at0) pf_int) pfa_nil)) pf_int)) (k_cons (k_put at3 hN (k_listR rfl rfl b_list rfl b_range (k_acons (k_neg (k_var at2)) (k_acons (pf_add (k_var at2) pf_int) pfa_nil)))) (k_cons (k_ret (k_maxK rfl rfl b_max hr la (k_var at3) (x := "by") (N' := ["one", "other"]) (ix := [0, 1]) lam_ok (fun cl f cd A outer s H E hr => by have hu := hr.units; exact (k_tup (k_acons (k_call d_alike_behind_scroll hr (k_acons (k_varL at1) (k_acons (k_varL at2) (k_acons (k_varL at0) pfa_nil)))) (k_acons (k_neg (k_abs rfl b_abs (k_acons (k_varL at0) pfa_nil))) (k_acons (k_neg (k_varL at0)) pfa_nil))))))) k_nil))))
theorem sc_law : FnScope ["_law_script", "_law_screen_here", "_law_many", "_law_other", "_law_spot", "_law_ranks", "_law_by", "_law_count", "_law_row_here", "_law_there"] ["_law_script"] (defScope (top 30)) := ⟨rfl, rfl, rfl, by decide +kernel, rfl, by decide +kernel, by decide +kernel⟩
theorem rd_law {f : Addr} {fd : FuncData} {F__law_some : List D → R D} {F__law_screen : List D → R D} {F__law_pick : List D → R D} {F_scrolled : List D → R D} {F_alike_rows : List D → R D} {F_scroll_by : List D → R D} (b_abs : mg "abs" = none) (b_int : mg "int" = none) (b_len : mg "len" = none) (b_list : mg "list" = none) (b_min : mg "min" = none) (b_range : mg "range" = none) (c__law_some : Callee P w K mg base "_law_some" 11 2 F__law_some) (c__law_screen : Callee P w K mg base "_law_screen" 11 4 F__law_screen) (c__law_pick : Callee P w K mg base "_law_pick" 11 3 F__law_pick) (c_scrolled : Callee P w K mg base "scrolled" 11 2 F_scrolled) (c_alike_rows : Callee P w K mg base "alike_rows" 11 2 F_alike_rows) (c_scroll_by : Callee P w K mg base "scroll_by" 11 2 F_scroll_by) (Fn : Fun K "law" "law" (top 30) f fd) : FnF P w K mg base 12 f fd ["_law_script"] (fun ds => bodyR (law_all F__law_some F__law_screen F__law_pick F_scrolled F_alike_rows F_scroll_by (startE 10 ds))) := by
  have hN : (["_law_script", "_law_screen_here", "_law_many", "_law_other", "_law_spot", "_law_ranks", "_law_by", "_law_count", "_law_row_here", "_law_there"] : List Str).Nodup := by decide
  refine Fn.okF sc_law (k := 11) (g := law_all F__law_some F__law_screen F__law_pick F_scrolled F_alike_rows F_scroll_by) fun cdv A outer s H E hr => ?_
  have hu := hr.units
  have hh := hr.hd
  exact (k_cons (k_put at1 hN (k_call c__law_some hr (k_acons (k_var at0) (k_acons pf_int pfa_nil)))) (k_cons (k_put at2 hN (k_len rfl b_len (k_acons (pf_ix (k_var at1) pf_int) pfa_nil))) (k_cons (k_put at3 hN (k_tup (k_acons (pf_ix (k_var at1) pf_int) (k_acons (pf_ix (k_call c__law_screen hr (k_acons (k_var at0) (k_acons pf_int (k_acons (pf_ix (k_var at1) pf_int) (k_acons (k_var at2) pfa_nil))))) pf_int) (k_acons (k_tup (k_acons pf_int (k_acons pf_int pfa_nil))) pfa_nil))))) (k_cons (k_if (k_bgt (k_call c__law_pick hr (k_acons (k_var at0) (k_acons pf_int (k_acons pf_int pfa_nil)))) pf_int) (k_cons (k_put at3 hN (k_call c_scrolled hr (k_acons (k_var at1) (k_acons (pf_add (pf_sub (k_call c__law_pick hr (k_acons (k_var at0) (k_acons pf_int (k_acons (pf_sub (pf_mul pf_int (k_var at2)) pf_int) pfa_nil)))) (k_var at2)) pf_int) pfa_nil)))) (k_cons (k_if (k_beq hu (k_call c__law_pick hr (k_acons (k_var at0) (k_acons pf_int (k_acons pf_int pfa_nil)))) pf_int) (k_cons (k_put at4 hN (k_call c__law_pick hr (k_acons (k_var at0) (k_acons pf_int (k_acons (k_var at2) pfa_nil))))) (k_cons (k_put at3 hN (k_tup (k_acons (pf_ix (k_var at3) pf_int) (k_acons (pf_add (pf_add (pf_slice (pf_ix (k_var at3) pf_int) pfo_none (k_some (k_var at4))) (k_tup (k_acons (pf_mul (pf_str (l := [35]) rfl (by decide)) (pf_ix (k_var at3) pf_int)) pfa_nil))) (pf_slice (pf_ix (k_var at3) pf_int) (k_some (pf_add (k_var at4) pf_int)) pfo_none)) (k_acons (pf_ix (k_var at3) pf_int) pfa_nil))))) k_nil)) k_nil) k_nil)) k_nil) (k_cons (k_if (k_bne hu (k_call c_alike_rows hr (k_acons (k_var at1) (k_acons (k_var at3) pfa_nil))) (k_comp (pfl_comp (N' := ["_law_row_here", "_law_screen_here", "_law_other"]) (ix := [1, 3]) comp_ok rfl (k_irange rfl b_range (k_acons (k_var at2) pfa_nil)) (fun C s₂ H₂ fp => (k_varC at0)) (fun C s₂ H₂ fp => (pts_one (k_beq hu (pf_ix (pf_ix (k_varC at1) pf_int) (k_varC at0)) (pf_ix (pf_ix (k_varC at2) pf_int) (k_varC at0)))))))) (k_cons (k_ret pf_bl) k_nil) k_nil) (k_cons (k_own 5 hN (k_lst pfa_nil)) (k_cons (k_for PassesOwn.leaving rfl (k_irange2 rfl b_range (k_acons (pf_sub pf_int (k_var at2)) (k_acons (k_var at2) pfa_nil))) (pgf_name 6 hN) (k_cons (k_put at7 hN pf_int) (k_cons (k_for PassesOwn.leaving rfl (k_irange rfl b_range (k_acons (k_var at2) pfa_nil)) (pgf_name 8 hN) (k_cons (k_put at9 hN (pf_ix (pf_ix (k_var at3) pf_int) (k_var at8))) (k_cons (k_if (k_bop (pbw_and (k_blelt pf_int (pf_add (k_var at8) (k_var at6)) (k_var at2)) (pbw_and1 (k_bne hu (k_var at9) (pf_mul (pf_str (l := [32]) rfl (by decide)) (pf_ix (k_var at3) pf_int)))))) (k_cons (k_put at7 hN (pf_add (k_var at7) (k_intOf rfl b_int (k_acons (pf_eq hu (pf_ix (pf_ix (k_var at1) pf_int) (pf_add (k_var at8) (k_var at6))) (k_var at9)) pfa_nil)))) k_nil) k_nil) k_nil))) (k_cons (k_append 5 (k_tup (k_acons (pf_sub pf_int (k_var at7)) (k_acons (k_abs rfl b_abs (k_acons (k_var at6) pfa_nil)) (k_acons (k_var at6) pfa_nil))))) k_nil)))) (k_frz 5 (k_cons (k_if (k_bop (pbw_or (k_bne hu (k_call c_scroll_by hr (k_acons (k_var at1) (k_acons (k_var at3) pfa_nil))) (pf_ix (k_minT rfl hr rfl b_min (k_acons (k_var at5) pfa_nil)) pf_int)) (pbw_or1 (k_bne hu (k_call c_scroll_by hr (k_acons (k_var at1) (k_acons (k_var at1) pfa_nil))) pf_int)))) (k_cons (k_ret pf_bl) k_nil) k_nil) (k_cons (k_ret (pf_and (pf_eq hu (k_call c_alike_rows hr (k_acons (k_var at1) (k_acons (k_var at1) pfa_nil))) (k_listR1 rfl rfl b_list rfl b_range (k_acons (k_var at2) pfa_nil))) (pf_one (pf_eq hu (k_call c_alike_rows hr (k_acons (k_var at3) (k_acons (k_var at1) pfa_nil))) (k_call c_alike_rows hr (k_acons (k_var at1) (k_acons (k_var at3) pfa_nil))))))) k_nil))))))))))
end
theorem all_mk {P : Program} {w : World} {K : PySem.W.Frag} {mg : Str → Option Value} {fa : Addr} (hfa : mg "law" = some (.ref fa)) (b_abs : mg "abs" = none) (b_all : mg "all" = none) (b_bool : mg "bool" = none) (b_enumerate : mg "enumerate" = none) (b_int : mg "int" = none) (b_isinstance : mg "isinstance" = none) (b_len : mg "len" = none) (b_list : mg "list" = none) (b_max : mg "max" = none) (b_min : mg "min" = none) (b_range : mg "range" = none) (b_str : mg "str" = none) (b_tuple : mg "tuple" = none) (g_MOST_ROWS : ∃ t, mg "MOST_ROWS" = some (.int 12 t)) (g_MOST_WIDTH : ∃ t, mg "MOST_WIDTH" = some (.int 40 t)) {C_NoNumber : Addr} {C_NoScreen : Addr} (n_NoNumber : PySem.W.nsIn K mainGlobals "NoNumber" = some (some (.ref C_NoNumber))) (x_NoNumber : PySem.W.excIn K C_NoNumber [.type "ValueError", .type "Exception", .type "BaseException", .type "object"] "ValueError.__new__" = true) (n_NoScreen : PySem.W.nsIn K mainGlobals "NoScreen" = some (some (.ref C_NoScreen))) (x_NoScreen : PySem.W.excIn K C_NoScreen [.type "ValueError", .type "Exception", .type "BaseException", .type "object"] "ValueError.__new__" = true)
    (h25 : ∃ f fd, Fun K "_law_cell" "_law_cell" (top 25) f fd ∧ mg "_law_cell" = some (.ref f))
    (h26 : ∃ f fd, Fun K "_law_pick" "_law_pick" (top 26) f fd ∧ mg "_law_pick" = some (.ref f))
    (h27 : ∃ f fd, Fun K "_law_row" "_law_row" (top 27) f fd ∧ mg "_law_row" = some (.ref f))
    (h28 : ∃ f fd, Fun K "_law_screen" "_law_screen" (top 28) f fd ∧ mg "_law_screen" = some (.ref f))
    (h29 : ∃ f fd, Fun K "_law_some" "_law_some" (top 29) f fd ∧ mg "_law_some" = some (.ref f))
    (h5 : ∃ f fd, Fun K "is_whole" "is_whole" (top 5) f fd ∧ mg "is_whole" = some (.ref f))
    (h6 : ∃ f fd, Fun K "is_within" "is_within" (top 6) f fd ∧ mg "is_within" = some (.ref f))
    (h7 : ∃ f fd, Fun K "is_plain" "is_plain" (top 7) f fd ∧ mg "is_plain" = some (.ref f))
    (h11 : ∃ f fd, Fun K "are_full_rows" "are_full_rows" (top 11) f fd ∧ mg "are_full_rows" = some (.ref f))
    (h12 : ∃ f fd, Fun K "is_place" "is_place" (top 12) f fd ∧ mg "is_place" = some (.ref f))
    (h13 : ∃ f fd, Fun K "is_screen" "is_screen" (top 13) f fd ∧ mg "is_screen" = some (.ref f))
    (h14 : ∃ f fd, Fun K "check_screen" "check_screen" (top 14) f fd ∧ mg "check_screen" = some (.ref f))
    (h16 : ∃ f fd, Fun K "row_or_blank" "row_or_blank" (top 16) f fd ∧ mg "row_or_blank" = some (.ref f))
    (h17 : ∃ f fd, Fun K "scrolled" "scrolled" (top 17) f fd ∧ mg "scrolled" = some (.ref f))
    (h19 : ∃ f fd, Fun K "check_same_size" "check_same_size" (top 19) f fd ∧ mg "check_same_size" = some (.ref f))
    (h20 : ∃ f fd, Fun K "alike_rows" "alike_rows" (top 20) f fd ∧ mg "alike_rows" = some (.ref f))
    (h21 : ∃ f fd, Fun K "is_blank" "is_blank" (top 21) f fd ∧ mg "is_blank" = some (.ref f))
    (h22 : ∃ f fd, Fun K "alike_behind_scroll" "alike_behind_scroll" (top 22) f fd ∧ mg "alike_behind_scroll" = some (.ref f))
    {Pt23 : Addr} (h23 : ∃ f fd, (Fun K "scroll_by" "scroll_by" (top 23) f fd ∧ mg "scroll_by" = some (.ref f)) ∧ LamDef K mg fd Pt23)
    (h30 : ∃ f fd, Fun K "law" "law" (top 30) f fd ∧ mg "law" = some (.ref f)) :
    ∃ fd : FuncData, (∀ (s : Shared) (u : Value), BindsTo s fd ⟨[u], []⟩ [("_law_script", u)]) ∧ ∀ base : Heap, K.In base → base.Ns mainGlobals mg → (∀ pq ∈ ([(Pt23, "scroll_by" ++ ".<locals>." ++ "<lambda>")] : List (Addr × Str)), base.BuiltinsAt mg pq.1 ∧ TabB base pq.1 pq.2) → FnF P w K mg base 12 fa fd ["_law_script"] lawF := by
  obtain ⟨t_MOST_ROWS, g_MOST_ROWS⟩ := g_MOST_ROWS
  obtain ⟨t_MOST_WIDTH, g_MOST_WIDTH⟩ := g_MOST_WIDTH
  obtain ⟨f25, d25, F25⟩ := h25
  obtain ⟨f26, d26, F26⟩ := h26
  obtain ⟨f27, d27, F27⟩ := h27
  obtain ⟨f28, d28, F28⟩ := h28
  obtain ⟨f29, d29, F29⟩ := h29
  obtain ⟨f5, d5, F5⟩ := h5
  obtain ⟨f6, d6, F6⟩ := h6
  obtain ⟨f7, d7, F7⟩ := h7
  obtain ⟨f11, d11, F11⟩ := h11
  obtain ⟨f12, d12, F12⟩ := h12
  obtain ⟨f13, d13, F13⟩ := h13
  obtain ⟨f14, d14, F14⟩ := h14
  obtain ⟨f16, d16, F16⟩ := h16
  obtain ⟨f17, d17, F17⟩ := h17
  obtain ⟨f19, d19, F19⟩ := h19
  obtain ⟨f20, d20, F20⟩ := h20
  obtain ⟨f21, d21, F21⟩ := h21
  obtain ⟨f22, d22, F22⟩ := h22
  obtain ⟨f23, d23, F23, L23⟩ := h23
  obtain ⟨f30, d30, F30⟩ := h30
  have e : fa = f30 := by
    have := hfa.symm.trans F30.2
    injection this with this
    injection this
  subst e
  refine ⟨d30, fun s u => ?_, fun base kb nb hT => ?_⟩
  · obtain ⟨oc, od, kV, doc, pm, an, cdv, ct, osl, rfl, lk, hcd⟩ := F30.1.ex
    exact .of_eq rfl
  · have r_NoNumber := ref_at (x := "NoNumber") kb nb n_NoNumber x_NoNumber
    have r_NoScreen := ref_at (x := "NoScreen") kb nb n_NoScreen x_NoScreen
    have L23 : LamB K mg base "scroll_by" d23 Pt23 := ⟨L23, (hT _ (.head _)).2, (hT _ (.head _)).1⟩
    have k25 := F25.1.callee F25.2 ((rd_law_cell (P := P) (w := w) (base := base) b_len F25.1).to law_cell_ok) fun _ _ _ _ _ _ us hl => by obtain ⟨a, b, rfl⟩ := len2 hl; rfl
    have k26 := F26.1.callee F26.2 ((rd_law_pick k25 F26.1).to law_pick_ok) fun _ _ _ _ _ _ us hl => by obtain ⟨a, b, c, rfl⟩ := len3 hl; rfl
    have k27 := F27.1.callee F27.2 ((rd_law_row b_range k26 F27.1).to law_row_ok) fun _ _ _ _ _ _ us hl => by obtain ⟨a, b, c, rfl⟩ := len3 hl; rfl
    have k28 := F28.1.callee F28.2 ((rd_law_screen b_range b_tuple k27 (k26.mono 3) F28.1).to law_screen_ok) fun _ _ _ _ _ _ us hl => by obtain ⟨a, b, c, d, rfl⟩ := len4 hl; rfl
    have k29 := F29.1.callee F29.2 ((rd_law_some (k26.mono 4) k28 F29.1).to law_some_ok) fun _ _ _ _ _ _ us hl => by obtain ⟨a, b, rfl⟩ := len2 hl; rfl
    have k5 := F5.1.callee F5.2 ((rd_is_whole (P := P) (w := w) (base := base) b_bool b_int b_isinstance F5.1).to is_whole_ok) fun _ _ _ _ _ _ us hl => by obtain ⟨a, rfl⟩ := len1 hl; rfl
    have k6 := F6.1.callee F6.2 ((rd_is_within k5 F6.1).to is_within_ok) fun _ _ _ _ _ _ us hl => by obtain ⟨a, b, c, rfl⟩ := len3 hl; rfl
    have k7 := F7.1.callee F7.2 ((rd_is_plain (P := P) (w := w) (base := base) b_all b_isinstance b_str F7.1).to is_plain_ok) fun _ _ _ _ _ _ us hl => by obtain ⟨a, rfl⟩ := len1 hl; rfl
    have k11 := F11.1.callee F11.2 ((rd_are_full_rows b_all b_isinstance b_len b_tuple g_MOST_ROWS k7 F11.1).to are_full_rows_ok) fun _ _ _ _ _ _ us hl => by obtain ⟨a, b, rfl⟩ := len2 hl; rfl
    have k12 := F12.1.callee F12.2 ((rd_is_place b_isinstance b_len b_tuple k6 F12.1).to is_place_ok) fun _ _ _ _ _ _ us hl => by obtain ⟨a, b, c, rfl⟩ := len3 hl; rfl
    have k13 := F13.1.callee F13.2 ((rd_is_screen b_isinstance b_len b_tuple g_MOST_WIDTH (k6.mono 3) (k11.mono 3) k12 F13.1).to is_screen_ok) fun _ _ _ _ _ _ us hl => by obtain ⟨a, rfl⟩ := len1 hl; rfl
    have k14 := F14.1.callee F14.2 ((rd_check_screen r_NoScreen k13 F14.1).to check_screen_ok) fun _ _ _ _ _ _ us hl => by obtain ⟨a, rfl⟩ := len1 hl; rfl
    have k16 := F16.1.callee F16.2 ((rd_row_or_blank (P := P) (w := w) (base := base) b_len F16.1).to row_or_blank_ok) fun _ _ _ _ _ _ us hl => by obtain ⟨a, b, rfl⟩ := len2 hl; rfl
    have k17 := F17.1.callee F17.2 ((rd_scrolled b_len b_range b_tuple g_MOST_ROWS r_NoNumber k14 (k6.mono 5) (k16.mono 5) F17.1).to scrolled_ok) fun _ _ _ _ _ _ us hl => by obtain ⟨a, b, rfl⟩ := len2 hl; rfl
    have k19 := F19.1.callee F19.2 ((rd_check_same_size b_len r_NoScreen k14 F19.1).to check_same_size_ok81) fun _ _ _ _ _ _ us hl => by obtain ⟨a, b, rfl⟩ := len2 hl; rfl
    have k20 := F20.1.callee F20.2 ((rd_alike_rows b_enumerate k19 F20.1).to alike_rows_ok81) fun _ _ _ _ _ _ us hl => by obtain ⟨a, b, rfl⟩ := len2 hl; rfl
    have k21 := F21.1.callee F21.2 ((rd_is_blank (P := P) (w := w) (base := base) F21.1).to is_blank_ok81) fun _ _ _ _ _ _ us hl => by obtain ⟨a, rfl⟩ := len1 hl; rfl
    have k22 := F22.1.callee F22.2 ((rd_alike_behind_scroll b_len (k17.mono 7) k20 (k21.mono 7) F22.1).to alike_behind_scroll_ok81) fun _ _ _ _ _ _ us hl => by obtain ⟨a, b, c, rfl⟩ := len3 hl; rfl
    have k23 := F23.1.callee F23.2 ((rd_scroll_by b_abs b_len b_list b_max b_range (k19.mono 10) k22 L23 F23.1).to scroll_by_ok81) fun _ _ _ _ _ _ us hl => by obtain ⟨a, b, rfl⟩ := len2 hl; rfl
    exact (rd_law b_abs b_int b_len b_list b_min b_range (k29.mono 11) (k28.mono 11) (k26.mono 11) (k17.mono 11) (k20.mono 11) k23 F30.1).to (law_of law81)
end G81
open PySem PySem.W PyProof.Rows
set_option maxRecDepth 100000 in
set_option maxHeartbeats 0 in
theorem PySem.Challenge.cw_screenlines_k81_whole_alike_rows_holds : PySem.Challenge.rw_screenlines_k81_whole_alike_rows.Holds := by
  w_on; o_law; k_head; (case hw => w_witness2)
  k_fill
  refine Q.walkT (l := PySem.Challenge.rw_screenlines_k81_whole_alike_rows) (L := 12) ⟨rfl, by decide, by decide⟩ rfl rfl (by decide) ?F
  case F =>
    intro w mg fa h KX G hmg
    have b_abs : mg "abs" = none := PySem.W.mg_none_of KX G (by k_is)
    have b_all : mg "all" = none := PySem.W.mg_none_of KX G (by k_is)
    have b_bool : mg "bool" = none := PySem.W.mg_none_of KX G (by k_is)
    have b_enumerate : mg "enumerate" = none := PySem.W.mg_none_of KX G (by k_is)
    have b_int : mg "int" = none := PySem.W.mg_none_of KX G (by k_is)
    have b_isinstance : mg "isinstance" = none := PySem.W.mg_none_of KX G (by k_is)
    have b_len : mg "len" = none := PySem.W.mg_none_of KX G (by k_is)
    have b_list : mg "list" = none := PySem.W.mg_none_of KX G (by k_is)
    have b_max : mg "max" = none := PySem.W.mg_none_of KX G (by k_is)
    have b_min : mg "min" = none := PySem.W.mg_none_of KX G (by k_is)
    have b_range : mg "range" = none := PySem.W.mg_none_of KX G (by k_is)
    have b_str : mg "str" = none := PySem.W.mg_none_of KX G (by k_is)
    have b_tuple : mg "tuple" = none := PySem.W.mg_none_of KX G (by k_is)
    have g_MOST_ROWS : ∃ t, mg "MOST_ROWS" = some (.int 12 t) := ⟨_, PySem.W.mg_of KX G (by k_is)⟩
    have g_MOST_WIDTH : ∃ t, mg "MOST_WIDTH" = some (.int 40 t) := ⟨_, PySem.W.mg_of KX G (by k_is)⟩
    have h25 := Q.fun_at (x := "_law_cell") (st := G81.top 25) KX G (by k_is) (by k_is) (by k_is) (by k_is)
    have h26 := Q.fun_at (x := "_law_pick") (st := G81.top 26) KX G (by k_is) (by k_is) (by k_is) (by k_is)
    have h27 := Q.fun_at (x := "_law_row") (st := G81.top 27) KX G (by k_is) (by k_is) (by k_is) (by k_is)
    have h28 := Q.fun_at (x := "_law_screen") (st := G81.top 28) KX G (by k_is) (by k_is) (by k_is) (by k_is)
    have h29 := Q.fun_at (x := "_law_some") (st := G81.top 29) KX G (by k_is) (by k_is) (by k_is) (by k_is)
    have h5 := Q.fun_at (x := "is_whole") (st := G81.top 5) KX G (by k_is) (by k_is) (by k_is) (by k_is)
    have h6 := Q.fun_at (x := "is_within") (st := G81.top 6) KX G (by k_is) (by k_is) (by k_is) (by k_is)
    have h7 := Q.fun_at (x := "is_plain") (st := G81.top 7) KX G (by k_is) (by k_is) (by k_is) (by k_is)
    have h11 := Q.fun_at (x := "are_full_rows") (st := G81.top 11) KX G (by k_is) (by k_is) (by k_is) (by k_is)
    have h12 := Q.fun_at (x := "is_place") (st := G81.top 12) KX G (by k_is) (by k_is) (by k_is) (by k_is)
    have h13 := Q.fun_at (x := "is_screen") (st := G81.top 13) KX G (by k_is) (by k_is) (by k_is) (by k_is)
    have h14 := Q.fun_at (x := "check_screen") (st := G81.top 14) KX G (by k_is) (by k_is) (by k_is) (by k_is)
    have h16 := Q.fun_at (x := "row_or_blank") (st := G81.top 16) KX G (by k_is) (by k_is) (by k_is) (by k_is)
    have h17 := Q.fun_at (x := "scrolled") (st := G81.top 17) KX G (by k_is) (by k_is) (by k_is) (by k_is)
    have h19 := Q.fun_at (x := "check_same_size") (st := G81.top 19) KX G (by k_is) (by k_is) (by k_is) (by k_is)
    have h20 := Q.fun_at (x := "alike_rows") (st := G81.top 20) KX G (by k_is) (by k_is) (by k_is) (by k_is)
    have h21 := Q.fun_at (x := "is_blank") (st := G81.top 21) KX G (by k_is) (by k_is) (by k_is) (by k_is)
    have h22 := Q.fun_at (x := "alike_behind_scroll") (st := G81.top 22) KX G (by k_is) (by k_is) (by k_is) (by k_is)
    have h23 := Q.fun_atL (x := "scroll_by") (st := G81.top 23) KX G (by k_is) (by k_is) (by k_is) (by k_is) (by k_is) (by rfl) (by rfl) (by rfl) (by rfl) (by rfl) (by rfl) (by decide) (by decide)
    have h30 := Q.fun_at (x := "law") (st := G81.top 30) KX G (by k_is) (by k_is) (by k_is) (by k_is)
    refine' Q.topT (tq := ([(_, "scroll_by" ++ ".<locals>." ++ "<lambda>")] : List (Addr × PySem.Str))) ?dl1 ?dl2 (Q.tab_of h23 KX Q.tab_no) (G81.all_mk (P := _) (w := w) (K := L2.KOf KX) hmg b_abs b_all b_bool b_enumerate b_int b_isinstance b_len b_list b_max b_min b_range b_str b_tuple g_MOST_ROWS g_MOST_WIDTH ?n_NoNumber ?x_NoNumber ?n_NoScreen ?x_NoScreen h25 h26 h27 h28 h29 h5 h6 h7 h11 h12 h13 h14 h16 h17 h19 h20 h21 h22 h23 h30)
    all_goals (try dsimp only [L2.KOf])
    (case dl1 => decide)
    (case dl2 => decide)
    (case n_NoNumber => k_is)
    (case n_NoScreen => k_is)
    (case x_NoNumber => k_exc)
    (case x_NoScreen => k_exc)
end
