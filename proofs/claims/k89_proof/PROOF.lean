import PyProof.Rows.All
import Wide.All
import OpenK.AllK
import Wide.FinOn
import Lean
import PyProof.EqAt
import PyProof.EqKinds
import PyProof.TupleCall
import PyProof.NeKinds
import PyProof.Draws
import KE.KTupSum
import KE.KIntText
import PyProof.Rows.Range3
import PyProof.Rows.FStr
import PyProof.StrCalls2
import PyProof.StrLawsTight
import PyProof.StrLawsIn
import PyProof.StrCalls
import KE.KLam
import KE.KMinKey
import PyProof.Rows.RuleN_abs
import PyProof.Rows.StrCut
import PySem.Challenge.RW_screenlines_k89_whole_screen_texts_spoil
-- CHANGE: your row's module here, as the last of these rows
set_option Elab.async false
set_option linter.all false
set_option maxRecDepth 100000
namespace L2
open PySem PySem.Spec PyProof.Rows

noncomputable abbrev Key := Sum Int Str
noncomputable def keyIs : Key → Value → Bool
  | .inl k, v => Value.isInt k v
  | .inr x, v => Value.isStrOf x v
noncomputable def keyH (w : World) : Key → Int
  | .inl k => hashInt k
  | .inr x => hashStr w x
theorem keyIs_shape : ∀ {k : Key} {v : Value}, keyIs k v = true → (∃ i t, k = Sum.inl i ∧ v = Value.int i t) ∨ (∃ x t, k = Sum.inr x ∧ v = Value.str x t)
  | .inl i, v, h => by
    obtain ⟨t, e⟩ := Value.isInt_shape (k := i) (v := v) h
    exact .inl ⟨i, t, rfl, e⟩
  | .inr x, v, h => by
    obtain ⟨t, e⟩ := Value.isStrOf_shape (x := x) (v := v) h
    exact .inr ⟨x, t, rfl, e⟩
theorem key_ll (a b : Int) : decide ((Sum.inl a : Key) = Sum.inl b) = (a == b) := by
  by_cases e : a = b
  · subst e; simp
  · have h : ¬ (Sum.inl a : Key) = Sum.inl b := fun q => e (Sum.inl.inj q)
    rw [decide_eq_false h]
    exact (beq_eq_false_iff_ne.mpr e).symm
theorem key_rr (a b : Str) : decide ((Sum.inr a : Key) = Sum.inr b) = decide (a = b) := by
  by_cases e : a = b
  · subst e; simp
  · have h : ¬ (Sum.inr a : Key) = Sum.inr b := fun q => e (Sum.inr.inj q)
    rw [decide_eq_false h, decide_eq_false e]
theorem key_lr (a : Int) (b : Str) : decide ((Sum.inl a : Key) = Sum.inr b) = false := decide_eq_false (fun q => nomatch q)
theorem key_rl (a : Str) (b : Int) : decide ((Sum.inr a : Key) = Sum.inl b) = false := decide_eq_false (fun q => nomatch q)

noncomputable def mixKind (prog : Program) (w : World) : PySem.KeyKind prog w Key where
  is := keyIs
  hash := keyH w
  inj := fun v a b ha hb => by
    rcases keyIs_shape ha with ⟨i, t, rfl, rfl⟩ | ⟨x, t, rfl, rfl⟩
    · rcases keyIs_shape hb with ⟨j, u, rfl, e⟩ | ⟨y, u, rfl, e⟩
      · injection e with e1 _; rw [e1]
      · exact nomatch e
    · rcases keyIs_shape hb with ⟨j, u, rfl, e⟩ | ⟨y, u, rfl, e⟩
      · exact nomatch e
      · injection e with e1 _; rw [e1]
  byValue := fun k v h => by
    rcases keyIs_shape h with ⟨i, t, rfl, rfl⟩ | ⟨x, t, rfl, rfl⟩ <;> rfl
  pyHash := fun hv h => by
    rcases keyIs_shape hv with ⟨i, t, rfl, rfl⟩ | ⟨x, t, rfl, rfl⟩
    · exact wpAny_pyHash_int h
    · exact wpAny_pyHash_str h
  eqBool := fun hu hv h => by
    rcases keyIs_shape hu with ⟨i, t, rfl, rfl⟩ | ⟨x, t, rfl, rfl⟩
    · rcases keyIs_shape hv with ⟨j, u, rfl, rfl⟩ | ⟨y, u, rfl, rfl⟩
      · rw [key_ll] at h; exact wpAny_eqBool_int h
      · rw [key_lr] at h; exact SeqAt.EqAt.int_str i t y u _ _ _ _ h
    · rcases keyIs_shape hv with ⟨j, u, rfl, rfl⟩ | ⟨y, u, rfl, rfl⟩
      · rw [key_rl] at h; exact SeqAt.EqAt.str_int x t j u _ _ _ _ h
      · rw [key_rr] at h; exact wpAny_eqBool_str h
  «strs» := fun k x t v h => by
    rcases keyIs_shape h with ⟨i, u, rfl, e⟩ | ⟨y, u, rfl, e⟩
    · exact nomatch e
    · injection e with e1 _
      subst e1
      cases v <;> rfl

end L2

namespace L2
open PySem PySem.Spec PyProof.Rows

inductive V where
  | non | bl (b : Bool) | int (i : Int) | str (x : Str) | byt (b : Array UInt8) | flt (b : UInt64) | ref (a : Addr) | ty (n : String)
  deriving DecidableEq

noncomputable def RelV : V → Value → Prop
  | .non, u => u = Value.none
  | .bl b, u => u = Value.bool b
  | .int i, u => ∃ t, u = Value.int i t
  | .str x, u => ∃ t, u = Value.str x t
  | .byt b, u => ∃ t, u = Value.bytes b t
  | .flt b, u => ∃ t, u = Value.float b t
  | .ref a, u => u = Value.ref a
  | .ty n, u => u = Value.type n

noncomputable abbrev Vals : List V → List Value → Prop := Paired RelV
theorem Vals.length {xs : List V} {us : List Value} (r : Vals xs us) : xs.length = us.length := Paired.length r
theorem Vals.get : ∀ {xs : List V} {us : List Value} {i : Nat} {x : V}, Vals xs us → xs[i]? = some x → ∃ u, us[i]? = some u ∧ RelV x u
  | _, _, _, _, .nil, e => by simp at e
  | _, _, 0, _, .cons r _, e => by simp at e; subst e; exact ⟨_, rfl, r⟩
  | _, _, i + 1, x, .cons _ t, e => by
    obtain ⟨u, h1, h2⟩ := Vals.get (i := i) (x := x) t (by simpa using e)
    exact ⟨u, by simpa using h1, h2⟩
theorem Vals.append : ∀ {xs ys : List V} {us ws : List Value}, Vals xs us → Vals ys ws → Vals (xs ++ ys) (us ++ ws)
  | _, _, _, _, .nil, s => s
  | _, _, _, _, .cons r t, s => .cons r (Vals.append t s)
theorem Vals.take : ∀ {xs : List V} {us : List Value} (n : Nat), Vals xs us → Vals (xs.take n) (us.take n)
  | _, _, 0, _ => .nil
  | _, _, _ + 1, .nil => .nil
  | _, _, n + 1, .cons r t => .cons r (Vals.take n t)
theorem Vals.drop : ∀ {xs : List V} {us : List Value} (n : Nat), Vals xs us → Vals (xs.drop n) (us.drop n)
  | _, _, 0, r => r
  | _, _, _ + 1, .nil => .nil
  | _, _, n + 1, .cons _ t => Vals.drop n t
noncomputable def RelO : Option V → Option Value → Prop
  | some v, some u => RelV v u
  | none, none => True
  | _, _ => False
noncomputable def KV {κ : Type} : List (κ × V) → List (κ × Value) → Prop := Paired fun (p : κ × V) (q : κ × Value) => p.1 = q.1 ∧ RelV p.2 q.2

noncomputable def kV : Key → V
  | .inl i => .int i
  | .inr x => .str x

inductive HO where
  /-- a list -/
  | lst (xs : List V)
  /-- a tuple (never changes) -/
  | tup (xs : List V)
  /-- a dict whose keys are ints and texts; one whose keys are tuples of ints and texts (the empty one is both) -/
  | dK (kvs : List (Key × V)) | dT (kvs : List (List Key × V))
  /-- a set of ints: its members, its size -/
  | set (S : Int → Bool) (n : Nat)
  /-- an instance of the class at C, its dict at dx, its attributes -/
  | ins (C dx : Addr) (fs : List (Str × V))
  /-- the dict of the instance at x -/
  | own (x : Addr)
  /-- the dict of an exception -/
  | xd (fs : List (Str × V))
  /-- a bound method, f of x -/
  | met (f x : Addr)
  /-- a range object lo, lo + 1, .. below hi -/
  | rng (lo hi : Int)
  /-- a thing that is known to the object (the script; a dict while a loop walks it): read, never written while it is so -/
  | frz (o : Obj) (u : HO)
  /-- a code object's table -/
  | tbl (ps : Array Value)
  /-- any other thing, by what is true of its one object (a def of one's own: SetO a S n := HO.ext fun h => ..) -/
  | ext (φ : Heap → Prop)

noncomputable abbrev Hp := Addr → Option HO
noncomputable def upd (H : Hp) (a : Addr) (o : HO) : Hp := fun b => if b = a then some o else H b
theorem upd_same {H : Hp} {a : Addr} {o : HO} : upd H a o a = some o := by unfold upd; rw [if_pos rfl]
theorem upd_ne {H : Hp} {a b : Addr} {o : HO} (h : b ≠ a) : upd H a o b = H b := by unfold upd; rw [if_neg h]
theorem ne_of_none {H : Hp} {a b : Addr} {o : HO} (h : H a = some o) (h' : H b = none) : a ≠ b := by
  intro e; subst e; rw [h] at h'; cases h'

noncomputable def qualOf (ps : Array Value) : Str := match ps.toList with
  | .str q _ :: _ => q
  | _ => Str.empty
section
variable (P : Program) (w : World)
noncomputable def ObjOk (H : Hp) (h : Heap) (a : Addr) : HO → Prop
  | .lst xs => xs.length ≤ sizeLine ∧ ∃ (its : List Value) (n : Nat), Vals xs its ∧ h.get? a = some { cls := .type "list", data := .seq its.toArray n }
  | .tup xs => xs.length ≤ sizeLine ∧ ∃ its : List Value, Vals xs its ∧ IsTup h a its.toArray
  | .dK kvs => kvs.length ≤ sizeLine ∧ (a == sysModules) = false ∧ ∃ vs, KV kvs vs ∧ h.DictOf (mixKind P w) a vs
  | .dT kvs => kvs.length ≤ sizeLine ∧ (a == sysModules) = false ∧ ∃ xs : List (List Key × Addr × Value),
      Paired (fun (p : List Key × V) (q : List Key × Addr × Value) => p.1 = q.1 ∧ H q.2.1 = some (.tup (p.1.map kV)) ∧ RelV p.2 q.2.2) kvs xs ∧
      ∃ o es ep, h.get? a = some o ∧ o.ExactDict ∧ o.data = .dict es ep ∧ es.toList = xs.map (entryOfKey (tupleKind (mixKind P w))) ∧ (xs.map (·.1)).Nodup
  | .set S n => h.SetOf (intKind P w) a S n
  | .ins C dx fs => H dx = some (.own a) ∧ fs.length ≤ 1000 ∧ dx ≠ a ∧ h.get? a = some (PySem.W.instObj C dx) ∧
      ∃ mA, h.Ns1 dx mA ∧ (∀ f, RelO (fs.lookup f) (mA f)) ∧ PySem.Within mA (fs.map (·.1))
  | .own _ => ∃ o, h.get? a = some o
  | .xd fs => ∃ mA, h.Ns1 a mA ∧ ∀ f, RelO (fs.lookup f) (mA f)
  | .rng lo hi => ∃ t u v, h.get? a = some { cls := .type "range", data := .fields #[.int lo t, .int hi u, .int 1 v] }
  | .frz o u => h.get? a = some o ∧ ObjOk H h a u
  | .tbl ps => ∃ qs : Array Value, h.get? a = some { cls := .none, data := .fields qs } ∧ TriplesOk qs.toList ∧ ∀ (pos : Pos) (cv : Value), codeAmong pos qs.toList = some cv → ∃ c o vs t, cv = .ref c ∧ H c = some (.frz o (.own a)) ∧ o.data = .fields vs ∧ vs[1]? = some (.str (qualOf ps) t)
  | .met f x => h.get? a = some (PySem.W.methodObj (.ref f) (.ref x))
  | .ext φ => φ h ∧ (∃ o, h.get? a = some o) ∧ ∀ h1 h2 : Heap, φ h1 → (∀ o, h1.get? a = some o → h2.get? a = some o) → φ h2
noncomputable def HOk (H : Hp) (h : Heap) : Prop := ∀ a o, H a = some o → ObjOk P w H h a o
end

section
variable {P : Program} {w : World} {H H' : Hp} {h h' : Heap} {a : Addr} {o : HO}
theorem ObjOk.lt (x : ObjOk P w H h a o) : a < h.objs.size := by
  cases o with
  | lst xs => obtain ⟨_, _, _, _, e⟩ := x; exact Heap.lt_size e
  | tup xs => obtain ⟨_, _, _, p⟩ := x; exact p.lt
  | dK kvs => obtain ⟨_, _, _, _, o, _, _, e, _⟩ := x; exact Heap.lt_size e
  | dT kvs => obtain ⟨_, _, _, _, o, _, _, e, _⟩ := x; exact Heap.lt_size e
  | set S n => obtain ⟨o, _, _, _, e, _⟩ := x; exact Heap.lt_size e
  | ins C dx fs => obtain ⟨_, _, _, e, _⟩ := x; exact Heap.lt_size e
  | own y => obtain ⟨_, e⟩ := x; exact Heap.lt_size e
  | xd fs => obtain ⟨_, ⟨_, _, _, e, _⟩, _⟩ := x; exact Heap.lt_size e
  | rng lo hi => obtain ⟨_, _, _, e⟩ := x; exact Heap.lt_size e
  | frz ob u => obtain ⟨e, _⟩ := x; exact Heap.lt_size e
  | tbl ps => obtain ⟨_, e, _⟩ := x; exact Heap.lt_size e
  | met f y => exact Heap.lt_size (show h.get? a = some _ from x)
  | ext φ => obtain ⟨_, ⟨_, e⟩, _⟩ := x; exact Heap.lt_size e
theorem Paired.mapP {α β : Type} {F G : α → β → Prop} : ∀ {l₁ : List α} {l₂ : List β}, Paired F l₁ l₂ → (∀ a b, F a b → G a b) → Paired G l₁ l₂
  | _, _, .nil, _ => .nil
  | _, _, .cons r t, f => .cons (f _ _ r) (Paired.mapP t f)
theorem ObjOk.stay (x : ObjOk P w H h a o) (k : ∀ b u, (b = a ∨ H b = some (.own a)) → h.get? b = some u → h'.get? b = some u)
    (ho : ∀ b, H b = some (.own a) → H' b = some (.own a)) (ht : ∀ b xs, H b = some (.tup xs) → H' b = some (.tup xs)) (hz : ∀ b o u, H b = some (.frz o u) → H' b = some (.frz o u) := by exact fun _ _ _ q => q) : ObjOk P w H' h' a o := by
  induction o with
  | lst xs => obtain ⟨z, its, n, r, e⟩ := x; exact ⟨z, its, n, r, k _ _ (.inl rfl) e⟩
  | tup xs => obtain ⟨z, its, r, ob, e, c⟩ := x; exact ⟨z, its, r, ob, k _ _ (.inl rfl) e, c⟩
  | dK kvs => obtain ⟨z, y, vs, r, ob, es, ep, e, c⟩ := x; exact ⟨z, y, vs, r, ob, es, ep, k _ _ (.inl rfl) e, c⟩
  | dT kvs =>
    obtain ⟨z, y, xs, r, ob, es, ep, e, c⟩ := x
    exact ⟨z, y, xs, Paired.mapP r fun p q z => ⟨z.1, ht _ _ z.2.1, z.2.2⟩, ob, es, ep, k _ _ (.inl rfl) e, c⟩
  | set S n => obtain ⟨ob, es, ep, t, e, c⟩ := x; exact ⟨ob, es, ep, t, k _ _ (.inl rfl) e, c⟩
  | ins C dx fs =>
    obtain ⟨d, z, ne, e, mA, ⟨od, es, ep, e2, c⟩, r⟩ := x
    exact ⟨ho _ d, z, ne, k _ _ (.inl rfl) e, mA, ⟨od, es, ep, k _ _ (.inr d) e2, c⟩, r⟩
  | own y => obtain ⟨ob, e⟩ := x; exact ⟨ob, k _ _ (.inl rfl) e⟩
  | xd fs => obtain ⟨mA, ⟨od, es, ep, e, c⟩, r⟩ := x; exact ⟨mA, ⟨od, es, ep, k _ _ (.inl rfl) e, c⟩, r⟩
  | rng lo hi => obtain ⟨t, u, v, e⟩ := x; exact ⟨t, u, v, k _ _ (.inl rfl) e⟩
  | frz ob u ih => obtain ⟨e, q⟩ := x; exact ⟨k _ _ (.inl rfl) e, ih q⟩
  | tbl ps =>
    obtain ⟨qs, e, tr, c⟩ := x
    refine ⟨qs, k _ _ (.inl rfl) e, tr, fun pos cv q => ?_⟩
    obtain ⟨c', o', vs, tk, e1, e2, e3⟩ := c pos cv q
    exact ⟨c', o', vs, tk, e1, hz _ _ _ e2, e3⟩
  | met f y =>
    have e : h.get? a = some (PySem.W.methodObj (.ref f) (.ref y)) := x
    show h'.get? a = some (PySem.W.methodObj (.ref f) (.ref y))
    exact k a _ (.inl rfl) e
  | ext φ => obtain ⟨p, ⟨o, e⟩, st⟩ := x; exact ⟨st _ _ p fun o q => k _ _ (.inl rfl) q, ⟨o, k _ _ (.inl rfl) e⟩, st⟩
theorem HOk.lt (x : HOk P w H h) (e : H a = some o) : a < h.objs.size := (x a o e).lt
theorem HOk.fresh (x : HOk P w H h) (e : h.objs.size ≤ a) : H a = none := by
  cases q : H a with
  | none => rfl
  | some u => exact absurd (Nat.lt_of_lt_of_le (x.lt q) e) (Nat.lt_irrefl _)
theorem HOk.kept (x : HOk P w H h) (k : ∀ b u, h.get? b = some u → h'.get? b = some u) : HOk P w H h' := fun a o e =>
  (x a o e).stay (fun b u _ q => k b u q) (fun _ q => q) fun _ _ q => q
theorem HOk.laid (x : HOk P w H h) (k : ∀ b u, h.get? b = some u → h'.get? b = some u) (hp : h.objs.size ≤ a) (new : ObjOk P w (upd H a o) h' a o) : HOk P w (upd H a o) h' := fun b u e => by
  have hn := x.fresh hp
  by_cases hb : b = a
  · subst hb; rw [upd_same] at e; cases e; exact new
  · rw [upd_ne hb] at e
    exact (x b u e).stay (fun c v _ q => k c v q) (fun c q => by rw [upd_ne (ne_of_none q hn)]; exact q) (fun c xs q => by rw [upd_ne (ne_of_none q hn)]; exact q) fun c ob u q => by rw [upd_ne (ne_of_none q hn)]; exact q
end

noncomputable def Rd (H : Hp) (a : Addr) (u : HO) : Prop := H a = some u ∨ ∃ o, H a = some (.frz o u)
theorem Rd.ok {P : Program} {w : World} {H : Hp} {h : Heap} {a : Addr} {u : HO} (r : Rd H a u) (x : HOk P w H h) : ObjOk P w H h a u := by
  rcases r with r | ⟨o, r⟩
  · exact x a u r
  · obtain ⟨_, q⟩ := x a _ r
    exact q
noncomputable def Mut : Option HO → Prop
  | some (.lst _) => True
  | some (.dK _) => True
  | some (.dT _) => True
  | some (.set _ _) => True
  | some (.ins _ _ _) => True
  | some (.ext _) => True
  | _ => False
section
variable {P : Program} {w : World} {H : Hp} {h h' : Heap} {x e : Addr} {o' : HO}
theorem HOk.write (ok : HOk P w H h) (mu : Mut (H x)) (he : e = x ∨ H e = some (.own x)) (k : ∀ b u, b ≠ e → h.get? b = some u → h'.get? b = some u) (heo : ∃ u, h'.get? e = some u)
    (new : ObjOk P w (upd H x o') h' x o') : HOk P w (upd H x o') h' := fun b u q => by
  have nown : ∀ c y, H c = some (.own y) → c ≠ x := fun c y r z => by subst z; rw [r] at mu; exact mu
  have ntup : ∀ c xs, H c = some (.tup xs) → c ≠ x := fun c xs r z => by subst z; rw [r] at mu; exact mu
  have nfrz : ∀ c ob u, H c = some (.frz ob u) → c ≠ x := fun c ob u r z => by subst z; rw [r] at mu; exact mu
  by_cases hb : b = x
  · subst hb; rw [upd_same] at q; cases q; exact new
  · rw [upd_ne hb] at q
    by_cases hbe : b = e
    · have q' : H b = some (.own x) := by
        rcases he with z | z
        · exact absurd (hbe.trans z) hb
        · rw [hbe]; exact z
      rw [q] at q'; cases q'
      obtain ⟨v, hv⟩ := heo
      exact ⟨v, by rw [hbe]; exact hv⟩
    · refine (ok b u q).stay (fun c v hc r => k c v ?_ r) (fun c r => by rw [upd_ne (nown c b r)]; exact r) (fun c xs r => by rw [upd_ne (ntup c xs r)]; exact r) fun c ob u r => by rw [upd_ne (nfrz c ob u r)]; exact r
      rcases hc with rfl | hc
      · exact hbe
      · rintro rfl
        rcases he with z | z
        · exact nown c b hc z
        · rw [hc] at z; cases z; exact hb rfl
end

structure Un (fs ex : List Addr) (H H' : Hp) (h h' : Heap) : Prop where
  keep : ∀ b o, h.get? b = some o → H b = none → b ∉ fs → b ∉ ex → h'.get? b = some o
  slot : ∀ b o, h.get? b = some o → H b = none → b ∈ fs → b ∉ ex → ∃ sl, h'.get? b = some { o with slots := sl }
  free : ∀ b o, h.get? b = some o → H b = none → b ∉ ex → H' b = none
  there : ∀ b o, h.get? b = some o → b ∉ ex → ∃ o', h'.get? b = some o'
  tups : ∀ b xs, H b = some (.tup xs) → H' b = some (.tup xs)
  frzs : ∀ b o u, H b = some (.frz o u) → H' b = some (.frz o u)
  tbls : ∀ b ps, H b = some (.tbl ps) → ∃ more, H' b = some (.tbl (ps ++ more))
section
variable {fs fs' ex ex' : List Addr} {H H1 H2 : Hp} {h h1 h2 h' : Heap} {a x e : Addr} {o : HO}
theorem Un.any (u : Un fs ex H H1 h h1) {b : Addr} {ob : Obj} (q : h.get? b = some ob) (n : H b = none) (hx : b ∉ ex) : ∃ sl, h1.get? b = some { ob with slots := sl } := by
  by_cases hb : b ∈ fs
  · exact u.slot b ob q n hb hx
  · exact ⟨ob.slots, u.keep b ob q n hb hx⟩
theorem Un.kept (k : ∀ b u, h.get? b = some u → h'.get? b = some u) : Un fs ex H H h h' :=
  ⟨fun b ob q _ _ _ => k b ob q, fun b ob q _ _ _ => ⟨ob.slots, k b ob q⟩, fun _ _ _ n _ => n, fun b ob q _ => ⟨ob, k b ob q⟩, fun _ _ q => q, fun _ _ _ q => q, fun _ ps q => ⟨#[], by rw [q]; simp⟩⟩
theorem Un.refl : Un fs ex H H h h := Un.kept fun _ _ q => q
theorem Un.laid (k : ∀ b u, h.get? b = some u → h'.get? b = some u) (hp : h.objs.size ≤ a) (hn : H a = none) : Un fs ex H (upd H a o) h h' where
  keep := fun b u q _ _ _ => k b u q
  slot := fun b u q _ _ _ => ⟨u.slots, k b u q⟩
  free := fun b u q n _ => by rw [upd_ne (Nat.ne_of_lt (Nat.lt_of_lt_of_le (Heap.lt_size q) hp))]; exact n
  there := fun b u q _ => ⟨u, k b u q⟩
  tups := fun b xs q => by rw [upd_ne (ne_of_none q hn)]; exact q
  frzs := fun b u xs q => by rw [upd_ne (ne_of_none q hn)]; exact q
  tbls := fun b ps q => ⟨#[], by rw [upd_ne (ne_of_none q hn), q]; simp⟩
theorem Un.write (mu : Mut (H x)) (he : e = x ∨ H e = some (.own x)) (k : ∀ b u, b ≠ e → h.get? b = some u → h'.get? b = some u) (heo : ∃ u, h'.get? e = some u) : Un fs ex H (upd H x o) h h' := by
  have hx : ∀ b, H b = none → b ≠ x := fun b n z => by subst z; rw [n] at mu; exact mu
  have hb : ∀ b, H b = none → b ≠ e := fun b n z => by
    subst z
    rcases he with r | r
    · exact hx b n r
    · rw [n] at r; cases r
  have hm : ∀ b u, H b = some u → ¬ Mut (some u) → b ≠ x := fun b u q nm z => by subst z; rw [q] at mu; exact nm mu
  refine ⟨fun b u q n _ _ => k b u (hb b n) q, fun b u q n _ _ => ⟨u.slots, k b u (hb b n) q⟩, fun b u q n _ => by rw [upd_ne (hx b n)]; exact n, fun b u q _ => ?_,
    fun b xs q => by rw [upd_ne (hm b _ q fun z => z)]; exact q, fun b u xs q => by rw [upd_ne (hm b _ q fun z => z)]; exact q, fun b ps q => ⟨#[], by rw [upd_ne (hm b _ q fun z => z), q]; simp⟩⟩
  by_cases hbe : b = e
  · subst hbe; exact heo
  · exact ⟨u, k b u hbe q⟩
end

noncomputable def markOf : HO → Value
  | .tbl ps => if ps.size = 1 then ps.getD 0 .none else .none
  | _ => .none
noncomputable def hidO (H : Hp) (b : Addr) (o : Obj) : Obj := match H b with
  | none => (match o.data with | .freed => ⟨.none, none, .freed, #[]⟩ | _ => o)
  | some u => ⟨markOf u, none, .freed, #[]⟩
noncomputable def hidT (h : Heap) (H : Hp) : Heap := ⟨h.objs.mapIdx fun b o => hidO H b o, h.life⟩
theorem hidT_size (h : Heap) (H : Hp) : (hidT h H).objs.size = h.objs.size := Array.size_mapIdx
theorem get_objs {h : Heap} {b : Addr} {o : Obj} : h.get? b = some o ↔ h.objs[b]? = some o ∧ o.data ≠ .freed := by
  unfold Heap.get?
  constructor
  · intro e
    split at e
    · cases e
    · rename_i z
      refine ⟨e, fun q => ?_⟩
      obtain ⟨a, b, c, d⟩ := o
      cases q
      exact z _ _ _ e
  · rintro ⟨e, n⟩
    rw [e]
    obtain ⟨a, b, c, d⟩ := o
    split
    · rename_i q
      cases q
      exact absurd rfl n
    · rfl
theorem hidT_objs (h : Heap) (H : Hp) (b : Addr) : (hidT h H).objs[b]? = (h.objs[b]?).map (hidO H b) := Array.getElem?_mapIdx
theorem hidT_get {h : Heap} {H : Hp} {b : Addr} {o : Obj} (e : h.get? b = some o) (n : H b = none) : (hidT h H).get? b = some o := by
  obtain ⟨e1, e2⟩ := get_objs.1 e
  have z : hidO H b o = o := by
    unfold hidO
    rw [n]
    cases q : o.data <;> first | rfl | exact absurd q e2
  exact get_objs.2 ⟨by rw [hidT_objs, e1, Option.map_some, z], e2⟩
theorem of_hidT {h : Heap} {H : Hp} {b : Addr} {o : Obj} (e : (hidT h H).get? b = some o) : h.get? b = some o ∧ H b = none := by
  obtain ⟨e1, e2⟩ := get_objs.1 e
  rw [hidT_objs] at e1
  cases q : h.objs[b]? with
  | none => rw [q] at e1; cases e1
  | some o' =>
    rw [q, Option.map_some] at e1
    have e1 := Option.some.inj e1
    unfold hidO at e1
    cases hq : H b with
    | none =>
      rw [hq] at e1
      dsimp only at e1
      split at e1
      · rw [← e1] at e2; exact absurd rfl e2
      · exact ⟨get_objs.2 ⟨by rw [q, e1], e2⟩, rfl⟩
    | some u => rw [hq] at e1; dsimp only at e1; rw [← e1] at e2; exact absurd rfl e2
noncomputable def TabB (base : Heap) (p : Addr) (q : Str) : Prop := base.objs[p]? = some ⟨.str q 0, none, .freed, #[]⟩
noncomputable def TabsIn (base : Heap) (H : Hp) : Prop := ∀ p q, TabB base p q → ∃ more, H p = some (.tbl (#[.str q 0] ++ more))
theorem hidT_tab {h : Heap} {H : Hp} {p : Addr} {q : Str} {o : Obj} (e : h.objs[p]? = some o) (t : H p = some (.tbl #[.str q 0])) : TabB (hidT h H) p q := by
  unfold TabB
  rw [hidT_objs, e, Option.map_some]
  unfold hidO
  rw [t]
  rfl
theorem hidT_tabs (h : Heap) (H : Hp) : TabsIn (hidT h H) H := fun p q e => by
  unfold TabB at e
  rw [hidT_objs] at e
  cases z : h.objs[p]? with
  | none => rw [z] at e; cases e
  | some o =>
    rw [z, Option.map_some] at e
    have e := Option.some.inj e
    unfold hidO at e
    cases hq : H p with
    | none =>
      rw [hq] at e
      dsimp only at e
      split at e
      · cases e
      · rename_i n; rw [e] at n; exact absurd rfl n
    | some u =>
      rw [hq] at e
      have e := congrArg Obj.cls e
      cases u with
      | tbl ps =>
        dsimp only [markOf] at e
        split at e
        · rename_i n
          refine ⟨#[], ?_⟩
          obtain ⟨l⟩ := ps
          match l, n with
          | [v], _ => have : v = .str q 0 := e
                      rw [this]; rfl
        · cases e
      | _ => cases e
theorem TabsIn.un {base : Heap} {fs ex : List Addr} {H H' : Hp} {h h' : Heap} (t : TabsIn base H) (u : Un fs ex H H' h h') : TabsIn base H' := fun p q e => by
  obtain ⟨m1, z⟩ := t p q e
  obtain ⟨m2, z⟩ := u.tbls p _ z
  exact ⟨m1 ++ m2, by rw [z, Array.append_assoc]⟩

noncomputable def allNews (g h : Heap) (L : Addr) : List (Addr × Obj) := (List.range h.objs.size).filterMap fun a => if a = L ∨ (g.get? a).isSome = true then none else (h.get? a).map fun o => (a, o)
noncomputable def rest (g h : Heap) (L d : Addr) : List (Addr × Obj) := (allNews g h L).filter fun p => decide (p.1 ≠ d)
end L2

namespace L2
open PySem PySem.Spec PyProof.Rows

structure Mod (K : PySem.W.Frag) (mg : Str → Option Value) (base : Heap) : Prop where
  kin : K.In base
  glob : base.Ns mainGlobals mg
  blt : ∃ mb, base.Ns builtinsNs mb ∧ ∀ x : Str, x ≠ "__name__" → mb x = bootBuiltins x
  nolimit : base.NoLimit

structure Cx where
  prog : Program
  w : World
  K : PySem.W.Frag
  mg : Str → Option Value
  base : Heap
  A : Around
  N : List Str
  s₀ : Shared
  H₀ : Hp
  env : Env
  outer : List Env
  stack : List Env
  ex : List Addr
  fn : Str → Bool
  calm : Bool
  pn : List (Addr × Obj)
  xe : Value → Shared → Prop
noncomputable def frs (l : List Env) : List Addr := l.filterMap (·.frame)
noncomputable abbrev Cx.fs (X : Cx) : List Addr := frs X.outer

noncomputable def Vis (sc : Scope) (x : Str) : Prop := sc.names.lookup x = some .local ∨ sc.names.lookup x = some .cell ∨ sc.names.lookup x = some .free
noncomputable def Loc (sc : Scope) (x : Str) : Prop := sc.names.lookup x = some .local ∨ sc.names.lookup x = some .cell
noncomputable def Look (env : Env) (h : Heap) (m : Str → Option Value) (x : Str) (u : Value) : Prop :=
  (env.kindOf x = some .local ∧ m x = some u) ∨ ((env.kindOf x = some .cell ∨ env.kindOf x = some .free) ∧ ∃ c, env.cells.lookup x = some c ∧ h.IsCell c (some u))

structure Cx.Ok (X : Cx) : Prop where
  mod : Mod X.K X.mg X.base
  kind : X.env.scope.kind = .function
  glob : X.env.globals = mainGlobals
  blt : X.env.builtins = builtinsNs
  above : X.s₀.heap.objs.size ≤ X.env.locals
  inj : ∀ x y c, X.env.cells.lookup x = some c → X.env.cells.lookup y = some c → x = y
  has : ∀ x, (X.env.kindOf x = some .cell ∨ X.env.kindOf x = some .free) → ∃ c, X.env.cells.lookup x = some c
  cab : ∀ x c, X.fn x = true → X.env.cells.lookup x = some c → X.s₀.heap.objs.size ≤ c
  hd : X.calm = true → X.A.handled = none
  frames : X.A.frames = some X.stack
  stk : X.stack = X.outer ∨ (X.stack = X.env :: X.outer ∧ X.env.frame = some X.env.locals)
  exf : ∀ b ∈ X.ex, b ≠ X.env.locals ∧ ∀ x c, X.env.cells.lookup x = some c → c ≠ b
  bs : ∀ b o, X.base.get? b = some o → X.s₀.heap.get? b = some o ∧ X.H₀ b = none
  bsz : X.base.objs.size ≤ X.s₀.heap.objs.size
  noex : ∀ b o, X.base.get? b = some o → b ∉ X.ex
  exfs : ∀ b ∈ X.ex, b ∉ X.fs
  funs : X.s₀.heap.FunFrames X.base X.outer
  frf : ∀ b ∈ X.fs, X.H₀ b = none
  tabs : TabsIn X.base X.H₀

structure Inv (X : Cx) (pins : List (Addr × Obj)) (σ : List (Option V)) (H : Hp) (s : Shared) : Prop where
  ok : X.Ok
  os : s.os = X.s₀.os
  bare : AllBare s.gens
  base : Un X.fs X.ex X.H₀ H X.s₀.heap s.heap
  loc : ∃ m, s.heap.Ns X.env.locals m ∧ ∀ (i : Nat) (x : Str) (v : V), X.N[i]? = some x → σ[i]? = some (some v) → Vis X.env.scope x → ∃ u, RelV v u ∧ Look X.env s.heap m x u
  cell : ∀ x c, X.env.cells.lookup x = some c → ∃ v, s.heap.IsCell c v
  free : H X.env.locals = none
  freeC : ∀ x c, X.env.cells.lookup x = some c → H c = none
  pin : ∀ p ∈ X.pn ++ pins, s.heap.get? p.1 = some p.2 ∧ H p.1 = none ∧ p.1 ≠ X.env.locals ∧ p.1 ∉ X.fs ∧ ∀ v, p.2.data ≠ .cell v
  hok : HOk X.prog X.w H s.heap
  len : σ.length = X.N.length

section
variable {X : Cx} {pins : List (Addr × Obj)} {σ : List (Option V)} {H H' : Hp} {s : Shared} {h' : Heap}

theorem Cx.Ok.nofr (ok : X.Ok) {b : Addr} {o : Obj} (e : X.base.get? b = some o) : b ∉ X.fs := fun hb => by
  have := (ok.funs.mem hb).1
  rw [e] at this; cases this
theorem Inv.bs (I : Inv X pins σ H s) : ∀ b o, X.base.get? b = some o → s.heap.get? b = some o ∧ H b = none := fun b o e =>
  ⟨I.base.keep b o (I.ok.bs b o e).1 (I.ok.bs b o e).2 (I.ok.nofr e) (I.ok.noex b o e), I.base.free b o (I.ok.bs b o e).1 (I.ok.bs b o e).2 (I.ok.noex b o e)⟩
theorem Inv.bk (I : Inv X pins σ H s) : ∀ b o, X.base.get? b = some o → s.heap.get? b = some o := fun b o e => (I.bs b o e).1
theorem Inv.mod (I : Inv X pins σ H s) : Mod X.K X.mg X.base := I.ok.mod
theorem Inv.kIn (I : Inv X pins σ H s) : X.K.In s.heap := I.ok.mod.kin.keeps I.bk
theorem Inv.nolimit (I : Inv X pins σ H s) : s.heap.NoLimit := I.ok.mod.nolimit.keeps I.bk
theorem Inv.lt (I : Inv X pins σ H s) : X.env.locals < s.heap.objs.size := let ⟨_, hn, _⟩ := I.loc; hn.lt
theorem Inv.sz (I : Inv X pins σ H s) : X.s₀.heap.objs.size ≤ s.heap.objs.size := Nat.le_trans I.ok.above (Nat.le_of_lt I.lt)
theorem Inv.nofs (I : Inv X pins σ H s) {a : Addr} (h : s.heap.objs.size ≤ a) : a ∉ X.fs := fun hb => by
  obtain ⟨_, o, ho, _⟩ := I.ok.funs.mem hb
  exact absurd (Nat.lt_of_lt_of_le (Heap.lt_size ho) (Nat.le_trans I.sz h)) (Nat.lt_irrefl _)
theorem Inv.cne (I : Inv X pins σ H s) : ∀ x c, X.env.cells.lookup x = some c → c ≠ X.env.locals := fun x c e z => by
  obtain ⟨v, o, ho, hd⟩ := I.cell x c e
  obtain ⟨m, ⟨o', es, ep, ho', hd', _⟩, _⟩ := I.loc
  rw [z, ho'] at ho; cases ho; rw [hd'] at hd; cases hd
theorem Inv.funs (I : Inv X pins σ H s) : s.heap.FunFrames X.base X.outer := by
  have all : ∀ (l : List Env), (∀ b ∈ frs l, b ∈ X.fs) → X.s₀.heap.FunFrames X.base l → s.heap.FunFrames X.base l := by
    intro l
    induction l with
    | nil => intro _ _; trivial
    | cons env r ih =>
      intro hs hl
      obtain ⟨hk, ⟨L, o, hf, hn, ho, hd⟩, hr⟩ := hl
      have hL : L ∈ X.fs := hs L (by unfold frs; rw [List.filterMap_cons, hf]; exact List.mem_cons_self)
      obtain ⟨sl, e⟩ := I.base.slot L o ho (I.ok.frf L hL) hL fun z => I.ok.exfs L z hL
      exact ⟨hk, ⟨L, _, hf, hn, e, hd⟩, ih (fun b hb => hs b (by unfold frs; rw [List.filterMap_cons, hf]; exact List.mem_cons_of_mem _ hb)) hr⟩
  exact all X.outer (fun _ hb => hb) I.ok.funs

theorem Inv.stack (I : Inv X pins σ H s) : s.heap.FunFrames X.base X.stack := by
  rcases I.ok.stk with e | ⟨e, hf⟩
  · rw [e]; exact I.funs
  · rw [e]
    obtain ⟨m, hn, _⟩ := I.loc
    refine .cons (by rw [I.ok.kind]; decide) hf hn ?_ I.funs
    exact Heap.get?_none_of_le (Nat.le_trans I.ok.bsz I.ok.above)
theorem Inv.stkSub (I : Inv X pins σ H s) : ∀ b ∈ frs X.stack, b ∈ X.env.locals :: X.fs := fun b hb => by
  rcases I.ok.stk with e | ⟨e, hf⟩
  · rw [e] at hb; exact List.mem_cons_of_mem _ hb
  · rw [e] at hb
    unfold frs at hb
    rw [List.filterMap_cons, hf] at hb
    exact hb
theorem Inv.stkFree (I : Inv X pins σ H s) : ∀ b ∈ frs X.stack, H b = none := fun b hb => by
  rcases List.mem_cons.mp (I.stkSub b hb) with e | hb
  · rw [e]; exact I.free
  · obtain ⟨_, o, ho, _⟩ := I.ok.funs.mem hb
    exact I.base.free b o ho (I.ok.frf b hb) fun z => I.ok.exfs b z hb

theorem Inv.step {g' : Array GenState} {t' : Nat} {d' : Drawn} {ch : List Addr} (I : Inv X pins σ H s)
    (hch : ∀ b ∈ ch, (b ∈ X.ex ∨ X.s₀.heap.objs.size ≤ b) ∧ b ≠ X.env.locals ∧ (∀ x c, X.env.cells.lookup x = some c → c ≠ b) ∧ ∀ p ∈ X.pn ++ pins, p.1 ≠ b)
    (keep : ∀ b o, b ≠ X.env.locals → b ∉ X.fs → b ∉ ch → s.heap.get? b = some o → H b = none → h'.get? b = some o)
    (slot : ∀ b o, b ≠ X.env.locals → b ∈ X.fs → b ∉ ch → s.heap.get? b = some o → H b = none → ∃ sl, h'.get? b = some { o with slots := sl }) (free : ∀ b o, b ∉ ch → s.heap.get? b = some o → H b = none → H' b = none)
    (there : ∀ b o, b ∉ ch → s.heap.get? b = some o → ∃ o', h'.get? b = some o')
    (tups : ∀ b xs, H b = some (.tup xs) → H' b = some (.tup xs)) (frzs : ∀ b o u, H b = some (.frz o u) → H' b = some (.frz o u)) (tbls : ∀ b ps, H b = some (.tbl ps) → ∃ more, H' b = some (.tbl (ps ++ more)))
    (ns : ∀ m, s.heap.Ns X.env.locals m → h'.Ns X.env.locals m) (hok : HOk X.prog X.w H' h') (hg : AllBare g') :
    Inv X pins σ H' { s with heap := h', gens := g', drawn := d', toks := t' } := by
  have neL : ∀ b o, X.s₀.heap.get? b = some o → b ≠ X.env.locals := fun b o e => Nat.ne_of_lt (Nat.lt_of_lt_of_le (Heap.lt_size e) I.ok.above)
  have neC : ∀ b o, X.s₀.heap.get? b = some o → b ∉ X.ex → b ∉ ch := fun b o e hx hb => by
    rcases (hch b hb).1 with z | z
    · exact hx z
    · exact absurd (Nat.lt_of_lt_of_le (Heap.lt_size e) z) (Nat.lt_irrefl _)
  have cellK : ∀ x c, X.env.cells.lookup x = some c → ∀ v, s.heap.IsCell c v → h'.IsCell c v := fun x c e v ⟨o, ho, hd⟩ => by
    have nch : c ∉ ch := fun z => (hch c z).2.2.1 x c e rfl
    by_cases hc : c ∈ X.fs
    · obtain ⟨sl, q⟩ := slot c o (I.cne x c e) hc nch ho (I.freeC x c e)
      exact ⟨_, q, hd⟩
    · exact ⟨o, keep c o (I.cne x c e) hc nch ho (I.freeC x c e), hd⟩
  refine ⟨I.ok, I.os, hg, ⟨fun b o e n hb hx => ?_, fun b o e n hb hx => ?_, fun b o e n hx => ?_, fun b o e hx => ?_, fun b xs e => tups b xs (I.base.tups b xs e), fun b o xs e => frzs b o xs (I.base.frzs b o xs e), fun b ps e => ?_⟩, ?_, fun x c e => ?_, ?_, fun x c e => ?_, fun p hp => ?_, hok, I.len⟩
  · exact keep b o (neL b o e) hb (neC b o e hx) (I.base.keep b o e n hb hx) (I.base.free b o e n hx)
  · obtain ⟨sl, e1⟩ := I.base.slot b o e n hb hx
    obtain ⟨sl', e2⟩ := slot b _ (neL b o e) hb (neC b o e hx) e1 (I.base.free b o e n hx)
    exact ⟨sl', e2⟩
  · obtain ⟨o', e1⟩ := I.base.there b o e hx
    exact free b o' (neC b o e hx) e1 (I.base.free b o e n hx)
  · obtain ⟨o', e1⟩ := I.base.there b o e hx
    exact there b o' (neC b o e hx) e1
  · obtain ⟨m1, e1⟩ := I.base.tbls b ps e
    obtain ⟨m2, e2⟩ := tbls b _ e1
    exact ⟨m1 ++ m2, by rw [e2, Array.append_assoc]⟩
  · obtain ⟨m, hn, hl⟩ := I.loc
    refine ⟨m, ns m hn, fun i x v e1 e2 e3 => ?_⟩
    obtain ⟨u, r, l⟩ := hl i x v e1 e2 e3
    refine ⟨u, r, ?_⟩
    rcases l with l | ⟨k, c, e, z⟩
    · exact .inl l
    · exact .inr ⟨k, c, e, cellK x c e _ z⟩
  · obtain ⟨v, z⟩ := I.cell x c e
    exact ⟨v, cellK x c e v z⟩
  · obtain ⟨m, ⟨o, _, _, ho, _⟩, _⟩ := I.loc
    exact free _ o (fun z => (hch _ z).2.1 rfl) ho I.free
  · obtain ⟨v, o, ho, hd⟩ := I.cell x c e
    exact free c o (fun z => (hch c z).2.2.1 x c e rfl) ho (I.freeC x c e)
  · obtain ⟨e, n, ne, nf, d⟩ := I.pin p hp
    have nch : p.1 ∉ ch := fun z => (hch p.1 z).2.2.2 p hp rfl
    exact ⟨keep p.1 p.2 ne nf nch e n, free p.1 p.2 nch e n, ne, nf, d⟩
theorem Inv.un {t' : Nat} (I : Inv X pins σ H s) (u : Un X.fs [] H H' s.heap h') (hok : HOk X.prog X.w H' h') : Inv X pins σ H' { s with heap := h', toks := t' } := by
  obtain ⟨m, ⟨o, es, ep, ho, r⟩, _⟩ := id I.loc
  obtain ⟨sl, hL⟩ := u.any ho I.free (by simp)
  exact I.step (g' := s.gens) (d' := s.drawn) (ch := []) (fun _ z => nomatch z) (fun b o _ hb _ e n => u.keep b o e n hb (by simp)) (fun b o _ hb _ e n => u.slot b o e n hb (by simp)) (fun b o _ e n => u.free b o e n (by simp)) (fun b o _ e => u.there b o e (by simp)) u.tups u.frzs u.tbls (fun m' hm => by
    obtain ⟨o', es', ep', ho', r'⟩ := hm
    rw [ho] at ho'; cases ho'
    exact ⟨_, es', ep', hL, r'⟩) hok I.bare
theorem Inv.call {g' : Array GenState} {t' : Nat} {d' : Drawn} {ch : List Addr} (I : Inv X pins σ H s) (u : Un (frs X.stack) ch H H' s.heap h') (hok : HOk X.prog X.w H' h') (hg : AllBare g')
    (hch : ∀ b ∈ ch, (b ∈ X.ex ∨ X.s₀.heap.objs.size ≤ b) ∧ b ≠ X.env.locals ∧ (∀ x c, X.env.cells.lookup x = some c → c ≠ b) ∧ ∀ p ∈ X.pn ++ pins, p.1 ≠ b) :
    Inv X pins σ H' { s with heap := h', gens := g', drawn := d', toks := t' } := by
  obtain ⟨m, ⟨o, es, ep, ho, r⟩, _⟩ := id I.loc
  obtain ⟨sl, hL⟩ := u.any ho I.free fun z => (hch _ z).2.1 rfl
  exact I.step (ch := ch) hch (fun b o hL hb hc e n => u.keep b o e n (fun z => (List.mem_cons.mp (I.stkSub b z)).elim hL hb) hc) (fun b o _ _ hc e n => u.any e n hc) (fun b o hc e n => u.free b o e n hc) (fun b o hc e => u.there b o e hc) u.tups u.frzs u.tbls (fun m' hm => by
    obtain ⟨o', es', ep', ho', r'⟩ := hm
    rw [ho] at ho'; cases ho'
    exact ⟨_, es', ep', hL, r'⟩) hok hg
theorem Inv.turned {t' : Nat} {it : Addr} (I : Inv X pins σ H s) (k : ∀ b o, b ≠ it → s.heap.get? b = some o → h'.get? b = some o) (hn : H it = none) (hL : it ≠ X.env.locals)
    (h1 : it ∈ X.ex ∨ X.s₀.heap.objs.size ≤ it) (h2 : ∀ x c, X.env.cells.lookup x = some c → c ≠ it) (h3 : ∀ p ∈ X.pn ++ pins, p.1 ≠ it) : Inv X pins σ H { s with heap := h', toks := t' } := by
  have nit : ∀ b u, H b = some u → b ≠ it := fun b u e z => by rw [z, hn] at e; cases e
  refine I.step (g' := s.gens) (d' := s.drawn) (ch := [it]) (fun b hb => ?_) (fun b o _ _ hc e _ => k b o (fun z => hc (by simp [z])) e) (fun b o _ _ hc e _ => ⟨o.slots, k b o (fun z => hc (by simp [z])) e⟩) (fun _ _ _ _ n => n)
    (fun b o hc e => ⟨o, k b o (fun z => hc (by simp [z])) e⟩) (fun _ _ e => e) (fun _ _ _ e => e) (fun b ps e => ⟨#[], by rw [e]; simp⟩) (fun m hm => ?_) (fun b u e => ?_) I.bare
  · have e : b = it := by simpa using hb
    subst e
    exact ⟨h1, hL, h2, h3⟩
  · obtain ⟨o, es, ep, ho, r⟩ := hm
    exact ⟨o, es, ep, k _ o (Ne.symm hL) ho, r⟩
  · refine (I.hok b u e).stay (fun c v hc q => k c v ?_ q) (fun _ q => q) fun _ _ q => q
    rcases hc with z | z
    · rw [z]; exact nit b u e
    · exact nit c _ z
theorem Inv.tok (I : Inv X pins σ H s) (t : Nat) : Inv X pins σ H { s with toks := t } := I.un (h' := s.heap) (t' := t) Un.refl I.hok
theorem Inv.kept {t' : Nat} (I : Inv X pins σ H s) (k : ∀ b u, s.heap.get? b = some u → h'.get? b = some u) : Inv X pins σ H { s with heap := h', toks := t' } := I.un (Un.kept k) (I.hok.kept k)
theorem Inv.laid {a : Addr} {o : HO} {t' : Nat} (I : Inv X pins σ H s) (k : ∀ b u, s.heap.get? b = some u → h'.get? b = some u) (hp : s.heap.objs.size ≤ a) (new : ObjOk X.prog X.w (upd H a o) h' a o) :
    Inv X pins σ (upd H a o) { s with heap := h', toks := t' } := I.un (Un.laid k hp (I.hok.fresh hp)) (I.hok.laid k hp new)
theorem Inv.write {x e : Addr} {o : HO} {t' : Nat} (I : Inv X pins σ H s) (mu : Mut (H x)) (he : e = x ∨ H e = some (.own x)) (k : ∀ b u, b ≠ e → s.heap.get? b = some u → h'.get? b = some u) (heo : ∃ u, h'.get? e = some u)
    (new : ObjOk X.prog X.w (upd H x o) h' x o) : Inv X pins σ (upd H x o) { s with heap := h', toks := t' } := I.un (Un.write mu he k heo) (I.hok.write mu he k heo new)
theorem Inv.pins_of {pins' : List (Addr × Obj)} (I : Inv X pins σ H s) (h : ∀ p ∈ pins', s.heap.get? p.1 = some p.2 ∧ H p.1 = none ∧ p.1 ≠ X.env.locals ∧ p.1 ∉ X.fs ∧ ∀ v, p.2.data ≠ .cell v) : Inv X pins' σ H s :=
  ⟨I.ok, I.os, I.bare, I.base, I.loc, I.cell, I.free, I.freeC, fun p hp => (List.mem_append.mp hp).elim (fun z => I.pin p (List.mem_append_left _ z)) (h p), I.hok, I.len⟩

theorem nodup_ix {N : List Str} (hN : N.Nodup) {i j : Nat} {x : Str} (a : N[i]? = some x) (b : N[j]? = some x) : i = j := by
  obtain ⟨h1, e1⟩ := List.getElem?_eq_some_iff.mp a
  obtain ⟨h2, e2⟩ := List.getElem?_eq_some_iff.mp b
  exact (List.getElem_inj hN).mp (e1.trans e2.symm)

theorem store_ok2 {M : Model} {A : Around} {E : Value → Shared → Prop} {i : Nat} {x : Str} {v : V} {u : Value} {Q : Unit → Shared → Prop} (I : Inv X pins σ H s) (hN : X.N.Nodup) (hi : X.N[i]? = some x) (hx : Loc X.env.scope x) (r : RelV v u)
    (h : ∀ s', Inv X pins (σ.set i (some v)) H s' → (∃ a, Heap.SameBut a s.heap s'.heap ∧ (a = X.env.locals ∨ X.env.cells.lookup x = some a)) → Q () s') (hf : X.fn x = true ∨ X.env.scope.names.lookup x = some .local := by first | exact .inl rfl | exact .inr rfl | assumption) : wpAny M A (storeName X.env x u) Q E s := by
  obtain ⟨m, hn, hl⟩ := id I.loc
  have hcls : (X.env.scope.kind == .class || (X.env.scope.kind == .module && X.env.locals != X.env.globals)) = false := by rw [I.ok.kind]; rfl
  have hiσ : i < σ.length := by rw [I.len]; exact (List.getElem?_eq_some_iff.mp hi).1
  have cne := I.cne
  have tracked : ∀ {a : Addr} {h' : Heap}, (∃ o, s.heap.get? a = some o ∧ H a = none) → Heap.SameBut a s.heap h' → HOk X.prog X.w H h' := fun {a h'} ha hs b ob e => by
    obtain ⟨_, _, hfree⟩ := ha
    refine (I.hok b ob e).stay (fun c w' hc q => (hs.2 c ?_).trans q) (fun _ q => q) fun _ _ q => q
    rintro rfl
    rcases hc with rfl | hc
    · rw [hfree] at e; cases e
    · rw [hfree] at hc; cases hc
  rcases hx with hk | hk
  · refine wpAny_storeName_local hk hn (fun h' hn' hs => ?_) hcls
    obtain ⟨oL, _, _, hoL, _⟩ := id hn
    refine h _ ⟨I.ok, I.os, I.bare, ⟨fun b o e n hb hx => ?_, fun b o e n hb hx => ?_, I.base.free, fun b o e hx => ?_, I.base.tups, I.base.frzs, I.base.tbls⟩, ⟨_, hn', fun j y v' e1 e2 e3 => ?_⟩, fun y c e => ?_, I.free, I.freeC, fun p hp => ?_, tracked ⟨oL, hoL, I.free⟩ hs, by simpa using I.len⟩ ⟨_, hs, .inl rfl⟩
    · exact (hs.2 b (Nat.ne_of_lt (Nat.lt_of_lt_of_le (Heap.lt_size e) I.ok.above))).trans (I.base.keep b o e n hb hx)
    · obtain ⟨sl, e1⟩ := I.base.slot b o e n hb hx
      exact ⟨sl, (hs.2 b (Nat.ne_of_lt (Nat.lt_of_lt_of_le (Heap.lt_size e) I.ok.above))).trans e1⟩
    · obtain ⟨o', e1⟩ := I.base.there b o e hx
      exact ⟨o', (hs.2 b (Nat.ne_of_lt (Nat.lt_of_lt_of_le (Heap.lt_size e) I.ok.above))).trans e1⟩
    · by_cases hj : j = i
      · subst hj
        rw [hi] at e1; cases e1
        rw [List.getElem?_set_self hiσ] at e2
        cases e2
        exact ⟨u, r, .inl ⟨hk, by simp⟩⟩
      · rw [List.getElem?_set_ne (Ne.symm hj)] at e2
        obtain ⟨u', r', q⟩ := hl j y v' e1 e2 e3
        refine ⟨u', r', ?_⟩
        rcases q with ⟨k, e⟩ | ⟨k, c, e, z⟩
        · refine .inl ⟨k, ?_⟩
          have : y ≠ x := fun e => hj (nodup_ix hN e1 (e ▸ hi))
          simp [this, e]
        · exact .inr ⟨k, c, e, z.sameBut hs (cne y c e)⟩
    · obtain ⟨w', z⟩ := I.cell y c e
      exact ⟨w', z.sameBut hs (cne y c e)⟩
    · obtain ⟨e, n, ne, nf, d⟩ := I.pin p hp
      exact ⟨(hs.2 p.1 ne).trans e, n, ne, nf, d⟩
  · have hfn : X.fn x = true := by
      rcases hf with z | z
      · exact z
      · rw [z] at hk; cases hk
    obtain ⟨c, hc⟩ := I.ok.has x (.inl hk)
    obtain ⟨w', z⟩ := I.cell x c hc
    refine wpAny_storeName_cell I.ok.kind hk hc z (fun h' hc' hs => ?_)
    obtain ⟨oc, hoc, hocd⟩ := id z
    refine h { s with heap := h' } ⟨I.ok, I.os, I.bare, ⟨fun b o e n hb hx => ?_, fun b o e n hb hx => ?_, I.base.free, fun b o e hx => ?_, I.base.tups, I.base.frzs, I.base.tbls⟩, ⟨m, hn.sameBut hs (Ne.symm (cne x c hc)), fun j y v' e1 e2 e3 => ?_⟩, fun y c' e => ?_, I.free, I.freeC, fun p hp => ?_, tracked ⟨oc, hoc, I.freeC x c hc⟩ hs, by simpa using I.len⟩ ⟨c, hs, .inr hc⟩
    · exact (hs.2 b (Nat.ne_of_lt (Nat.lt_of_lt_of_le (Heap.lt_size e) (I.ok.cab x c hfn hc)))).trans (I.base.keep b o e n hb hx)
    · obtain ⟨sl, e1⟩ := I.base.slot b o e n hb hx
      exact ⟨sl, (hs.2 b (Nat.ne_of_lt (Nat.lt_of_lt_of_le (Heap.lt_size e) (I.ok.cab x c hfn hc)))).trans e1⟩
    · obtain ⟨o', e1⟩ := I.base.there b o e hx
      exact ⟨o', (hs.2 b (Nat.ne_of_lt (Nat.lt_of_lt_of_le (Heap.lt_size e) (I.ok.cab x c hfn hc)))).trans e1⟩
    · by_cases hj : j = i
      · subst hj
        rw [hi] at e1; cases e1
        rw [List.getElem?_set_self hiσ] at e2
        cases e2
        exact ⟨u, r, .inr ⟨.inl hk, c, hc, hc'⟩⟩
      · rw [List.getElem?_set_ne (Ne.symm hj)] at e2
        obtain ⟨u', r', q⟩ := hl j y v' e1 e2 e3
        refine ⟨u', r', ?_⟩
        rcases q with q | ⟨k, c', e, z'⟩
        · exact .inl q
        · refine .inr ⟨k, c', e, z'.sameBut hs ?_⟩
          rintro rfl
          exact hj (nodup_ix hN e1 (I.ok.inj _ _ _ e hc ▸ hi))
    · by_cases hcc : c' = c
      · subst hcc; exact ⟨_, hc'⟩
      · obtain ⟨w2, z2⟩ := I.cell y c' e
        exact ⟨w2, z2.sameBut hs hcc⟩
    · obtain ⟨e, n, ne, nf, d⟩ := I.pin p hp
      refine ⟨(hs.2 p.1 ?_).trans e, n, ne, nf, d⟩
      intro q
      rw [q, hoc] at e
      have q' : oc = p.2 := Option.some.inj e
      exact d w' (by rw [← q']; exact hocd)
theorem store_ok {M : Model} {A : Around} {E : Value → Shared → Prop} {i : Nat} {x : Str} {v : V} {u : Value} {Q : Unit → Shared → Prop} (I : Inv X pins σ H s) (hN : X.N.Nodup) (hi : X.N[i]? = some x) (hx : Loc X.env.scope x) (r : RelV v u)
    (h : ∀ s', Inv X pins (σ.set i (some v)) H s' → Q () s') (hf : X.fn x = true ∨ X.env.scope.names.lookup x = some .local := by first | exact .inl rfl | exact .inr rfl | assumption) : wpAny M A (storeName X.env x u) Q E s :=
  store_ok2 I hN hi hx r (fun s' I' _ => h s' I') hf
theorem Inv.call' {s' : Shared} {ch : List Addr} (I : Inv X pins σ H s) (ho : s'.os = s.os) (u : Un (frs X.stack) ch H H' s.heap s'.heap) (hok : HOk X.prog X.w H' s'.heap) (hg : AllBare s'.gens)
    (hch : ∀ b ∈ ch, (b ∈ X.ex ∨ X.s₀.heap.objs.size ≤ b) ∧ b ≠ X.env.locals ∧ (∀ x c, X.env.cells.lookup x = some c → c ≠ b) ∧ ∀ p ∈ X.pn ++ pins, p.1 ≠ b) : Inv X pins σ H' s' := by
  obtain ⟨h', g', d', t', o'⟩ := s'
  have e : o' = s.os := ho
  subst e
  exact I.call (g' := g') (t' := t') (d' := d') u hok hg hch
end

noncomputable abbrev XK := Value → Option Addr → Hp → Prop
noncomputable abbrev St := List (Option V)
noncomputable abbrev VK := V → Hp → Prop
noncomputable abbrev TE := St → Hp → VK → Prop
noncomputable abbrev TT := St → Hp → (Bool → Hp → Prop) → Prop
noncomputable abbrev TA := St → Hp → (List V → Hp → Prop) → Prop
structure Ends where
  nx : St → Hp → Prop
  rt : VK
  bk : St → Hp → Prop := fun _ _ => False
  ct : St → Hp → Prop := fun _ _ => False
noncomputable abbrev TS := Ends → St → Hp → Prop

noncomputable def EP (X : Cx) (pins : List (Addr × Obj)) (σ : St) (Q : VK) (u : Value) (s' : Shared) : Prop := ∃ v H', Inv X pins σ H' s' ∧ RelV v u ∧ Q v H'
noncomputable def TP (X : Cx) (pins : List (Addr × Obj)) (σ : St) (Q : Bool → Hp → Prop) (b : Bool) (s' : Shared) : Prop := ∃ H', Inv X pins σ H' s' ∧ Q b H'
noncomputable def AP (X : Cx) (pins : List (Addr × Obj)) (σ : St) (Q : List V → Hp → Prop) (us : List Value) (s' : Shared) : Prop := ∃ vs H', Inv X pins σ H' s' ∧ Vals vs us ∧ Q vs H'
noncomputable def SP (X : Cx) (pins : List (Addr × Obj)) (D : Ends) (f : Flow) (s' : Shared) : Prop :=
  match f with
  | .next => ∃ σ' H', Inv X pins σ' H' s' ∧ D.nx σ' H'
  | .brk => ∃ σ' H', Inv X pins σ' H' s' ∧ D.bk σ' H'
  | .cont => ∃ σ' H', Inv X pins σ' H' s' ∧ D.ct σ' H'
  | .ret u => ∃ v σ' H', Inv X pins σ' H' s' ∧ RelV v u ∧ D.rt v H'

noncomputable def PE (X : Cx) (e : Expr) (t : TE) : Prop :=
  ∀ (pins : List (Addr × Obj)) (s : Shared) (σ : St) (H : Hp) (Q : VK), Inv X pins σ H s → t σ H Q → wpAny (model X.prog X.w) X.A (eval e X.env) (EP X pins σ Q) X.xe s
noncomputable def PT (X : Cx) (e : Expr) (t : TT) : Prop :=
  ∀ (pins : List (Addr × Obj)) (s : Shared) (σ : St) (H : Hp) (Q : Bool → Hp → Prop), Inv X pins σ H s → t σ H Q → wpAny (model X.prog X.w) X.A (isTrue e X.env (eval e X.env)) (TP X pins σ Q) X.xe s
noncomputable def PW (X : Cx) (e : Expr) (t : TT) : Prop :=
  ∀ (whole : Sem Value) (pins : List (Addr × Obj)) (s : Shared) (σ : St) (H : Hp) (Q : Bool → Hp → Prop), Inv X pins σ H s → t σ H Q → wpAny (model X.prog X.w) X.A (isTrue e X.env whole) (TP X pins σ Q) X.xe s
noncomputable def PA (X : Cx) (es : List Expr) (t : TA) : Prop :=
  ∀ (pos : Pos) (pins : List (Addr × Obj)) (s : Shared) (σ : St) (H : Hp) (Q : List V → Hp → Prop), Inv X pins σ H s → t σ H Q → wpAny (model X.prog X.w) X.A (spliced (backTo pos (starEach es X.env))) (AP X pins σ Q) X.xe s
noncomputable def PS (X : Cx) (st : Stmt) (t : TS) : Prop :=
  ∀ (pins : List (Addr × Obj)) (s : Shared) (σ : St) (H : Hp) (D : Ends), Inv X pins σ H s → t D σ H → wpAny (model X.prog X.w) X.A (exec st X.env) (SP X pins D) X.xe s
noncomputable def PSs (X : Cx) (st : List Stmt) (t : TS) : Prop :=
  ∀ (pins : List (Addr × Obj)) (s : Shared) (σ : St) (H : Hp) (D : Ends), Inv X pins σ H s → t D σ H → wpAny (model X.prog X.w) X.A (execs st X.env) (SP X pins D) X.xe s
theorem thn {α : Type} {t : Sem α} {Q Q' : α → Shared → Prop} {M : Model} {A : Around} {E : Value → Shared → Prop} {s : Shared} (h : wpAny M A t Q E s) (hQ : ∀ a s, Q a s → Q' a s) : wpAny M A t Q' E s := wpAny_mono h hQ fun _ _ x => x
end L2

namespace L2
open PySem PySem.Spec PyProof.Rows
section
variable {X : Cx}

noncomputable def tVar (i : Nat) : TE := fun σ H Q => ∃ v, σ[i]? = some (some v) ∧ Q v H
noncomputable def tC (v : V) : TE := fun _ H Q => Q v H
theorem pe_var {i : Nat} {x : Str} {pos : Pos} (hN : X.N[i]? = some x) (hv : Vis X.env.scope x) (hd : (x == ("__debug__" : Str)) = false := by decide) (hcd : (x == ("__classdict__" : Str)) = false := by decide) : PE X (.Name x pos) (tVar i) := by
  intro pins s σ H Q I h
  obtain ⟨v, e, h⟩ := h
  obtain ⟨m, hn, hl⟩ := I.loc
  obtain ⟨u, r, l⟩ := hl i x v hN e hv
  have fin : EP X pins σ Q u s := ⟨v, H, I, r, h⟩
  rcases l with ⟨hk, hm⟩ | ⟨hk, c, hc, hcell⟩
  · exact wpAny_Name (wpAny_loadName_local I.ok.kind hk hn hm fin) hd
  · rcases hk with hk | hk
    · exact wpAny_Name (wpAny_loadName_cell I.ok.kind hk hc hcell fin) hd
    · exact wpAny_Name (wpAny_loadName_free I.ok.kind hk hc hcell fin hcd) hd
theorem pe_int {i j pos} : PE X (.Constant (.int i) j pos) (tC (.int i)) := fun _ _ _ H _ I h => wpAny_Constant_int ⟨.int i, H, I.tok _, ⟨_, rfl⟩, h⟩
theorem pe_bl {b j pos} : PE X (.Constant (.bool b) j pos) (tC (.bl b)) := fun _ _ _ H _ I h => Constant_bool ⟨.bl b, H, I, rfl, h⟩
theorem pe_non {j pos} : PE X (.Constant .none j pos) (tC .non) := fun _ _ _ H _ I h => Constant_none ⟨.non, H, I, rfl, h⟩
theorem pe_str {x j pos} : PE X (.Constant (.str x) j pos) (tC (.str x)) := fun _ _ _ H _ I h => Calls.Constant_str ⟨.str x, H, I.tok _, ⟨_, rfl⟩, h⟩

noncomputable def Gl (X : Cx) (x : Str) : Prop := X.env.kindOf x = some .globalImplicit
theorem ld_glob {E : Value → Shared → Prop} {pins : List (Addr × Obj)} {s : Shared} {σ : St} {H : Hp} {x : Str} {u : Value} {pos : Pos} {Q : Value → Shared → Prop} (I : Inv X pins σ H s) (hg : Gl X x) (hm : X.mg x = some u) (h : Q u s)
    (hd : (x == ("__debug__" : Str)) = false := by decide) : wpAny (model X.prog X.w) X.A (eval (.Name x pos) X.env) Q E s :=
  Calls.Name_function_global I.ok.kind hg (Calls.loadGlobal_global (by rw [I.ok.glob]; exact I.mod.glob.keeps I.bk) hm h) hd
theorem ld_blt {E : Value → Shared → Prop} {pins : List (Addr × Obj)} {s : Shared} {σ : St} {H : Hp} {x : Str} {u : Value} {pos : Pos} {Q : Value → Shared → Prop} (I : Inv X pins σ H s) (hg : Gl X x) (hm : X.mg x = none) (hv : bootBuiltins x = some u) (h : Q u s)
    (hn : x ≠ "__name__" := by decide) (hd : (x == ("__debug__" : Str)) = false := by decide) : wpAny (model X.prog X.w) X.A (eval (.Name x pos) X.env) Q E s := by
  obtain ⟨mb, h1, h2⟩ := I.mod.blt
  exact Calls.Name_function_global I.ok.kind hg (Calls.loadGlobal_builtin (by rw [I.ok.glob]; exact I.mod.glob.keeps I.bk) hm (by rw [I.ok.blt]; exact h1.keeps I.bk) ((h2 x hn).trans hv) h) hd
theorem pe_glob {x : Str} {v : V} {u : Value} {pos : Pos} (hg : Gl X x) (hm : X.mg x = some u) (r : RelV v u) (hd : (x == ("__debug__" : Str)) = false := by decide) : PE X (.Name x pos) (tC v) :=
  fun _ _ _ H _ I h => ld_glob I hg hm ⟨v, H, I, r, h⟩ hd
theorem pe_bltn {x : Str} {v : V} {u : Value} {pos : Pos} (hg : Gl X x) (hm : X.mg x = none) (hv : bootBuiltins x = some u) (r : RelV v u) (hn : x ≠ "__name__" := by decide) (hd : (x == ("__debug__" : Str)) = false := by decide) : PE X (.Name x pos) (tC v) :=
  fun _ _ _ H _ I h => ld_blt I hg hm hv ⟨v, H, I, r, h⟩ hn hd

variable {a b : Expr} {ta tb : TE} {pos : Pos}
variable {tA tB' : TT} {rest : List Expr}
noncomputable def tAnd (t u : TT) : TT := fun σ H Q => t σ H fun c H1 => if c = true then u σ H1 Q else Q false H1
noncomputable def tOr (t u : TT) : TT := fun σ H Q => t σ H fun c H1 => if c = true then Q true H1 else u σ H1 Q
noncomputable def tNot (t : TT) : TT := fun σ H Q => t σ H fun c H1 => Q (!c) H1
theorem pw_and1 (ha : PT X a tA) : PW X (.BoolOp .And [a] pos) tA := by
  intro wh pins s σ H Q I h
  refine isTrue_and (thn (ha pins s σ H Q I h) fun c s1 e => ?_)
  cases c with
  | true => exact isTrue_and_nil e
  | false => exact e
theorem pw_or1 (ha : PT X a tA) : PW X (.BoolOp .Or [a] pos) tA := by
  intro wh pins s σ H Q I h
  refine isTrue_or (thn (ha pins s σ H Q I h) fun c s1 e => ?_)
  cases c with
  | false => exact isTrue_or_nil e
  | true => exact e
theorem pw_and (ha : PT X a tA) (hb : PW X (.BoolOp .And (b :: rest) pos) tB') : PW X (.BoolOp .And (a :: b :: rest) pos) (tAnd tA tB') := by
  intro wh pins s σ H Q I h
  refine isTrue_and (thn (ha pins s σ H _ I h) fun c s1 ⟨H1, I1, q1⟩ => ?_)
  cases c with
  | true => exact hb wh pins s1 σ H1 Q I1 q1
  | false => exact ⟨H1, I1, q1⟩
theorem pw_or (ha : PT X a tA) (hb : PW X (.BoolOp .Or (b :: rest) pos) tB') : PW X (.BoolOp .Or (a :: b :: rest) pos) (tOr tA tB') := by
  intro wh pins s σ H Q I h
  refine isTrue_or (thn (ha pins s σ H _ I h) fun c s1 ⟨H1, I1, q1⟩ => ?_)
  cases c with
  | true => exact ⟨H1, I1, q1⟩
  | false => exact hb wh pins s1 σ H1 Q I1 q1
theorem pt_not (ha : PT X a tA) : PT X (.UnaryOp .Not a pos) (tNot tA) := by
  intro pins s σ H Q I h
  exact isTrue_not (ha pins s σ H (fun c H1 => Q (!c) H1) I h)
noncomputable def tAndV (ta tb : TE) : TE := fun σ H Q => ta σ H fun x H1 => ∃ c, x = .bl c ∧ if c = true then tb σ H1 Q else Q (.bl false) H1
noncomputable def tNotV (ta : TE) : TE := fun σ H Q => ta σ H fun x H1 => ∃ c, x = .bl c ∧ Q (.bl (!c)) H1
theorem pe_one {op} {t : TE} (h : PE X a t) : PE X (.BoolOp op [a] pos) t := fun pins s σ H Q I hw => BoolOp_one (h pins s σ H Q I hw)
theorem pe_and (ha : PE X a ta) (hb : PE X (.BoolOp .And (b :: rest) pos) tb) : PE X (.BoolOp .And (a :: b :: rest) pos) (tAndV ta tb) := by
  intro pins s σ H Q I h
  refine BoolOp_and (thn (ha pins s σ H _ I h) fun v s1 ⟨x, H1, I1, r1, q1⟩ => ?_)
  obtain ⟨c, rfl, q1⟩ := q1
  cases r1
  refine wpAny_truthy_bool ?_
  cases c with
  | true => exact hb pins s1 σ H1 Q I1 q1
  | false => exact ⟨.bl false, H1, I1, rfl, q1⟩
theorem pe_not (ha : PE X a ta) : PE X (.UnaryOp .Not a pos) (tNotV ta) := by
  intro pins s σ H Q I h
  refine UnaryOp_ (thn (ha pins s σ H _ I h) fun v s1 ⟨x, H1, I1, r1, q1⟩ => ?_)
  obtain ⟨c, rfl, q1⟩ := q1
  cases r1
  exact not_of (wpAny_truthy_bool ⟨.bl (!c), H1, I1, rfl, q1⟩)
noncomputable def tIf (t : TT) (ta tb : TE) : TE := fun σ H Q => t σ H fun c H1 => if c = true then ta σ H1 Q else tb σ H1 Q
theorem pe_ifExp {c : Expr} (hc : PT X c tA) (ha : PE X a ta) (hb : PE X b tb) : PE X (.IfExp c a b pos) (tIf tA ta tb) := by
  intro pins s σ H Q I h
  refine wpAny_IfExp (thn (hc pins s σ H _ I h) fun d s1 ⟨H1, I1, q1⟩ => ?_)
  cases d with
  | true => exact ha pins s1 σ H1 Q I1 q1
  | false => exact hb pins s1 σ H1 Q I1 q1
end
end L2

namespace L2
open PySem PySem.Spec PyProof.Rows

noncomputable def SqL (K : PySem.W.Frag) (H : Hp) (a : Addr) (xs : List V) : Prop :=
  Rd H a (.lst xs) ∨
    ∃ (o : Obj) (its : Array Value) (n : Nat), K.lookup a = some o ∧ o.cls = .type "list" ∧ o.dict = none ∧ o.data = .seq its n ∧ its.size ≤ sizeLine ∧ Vals xs its.toList
noncomputable def SqT (K : PySem.W.Frag) (H : Hp) (a : Addr) (xs : List V) : Prop :=
  Rd H a (.tup xs) ∨
    ∃ (o : Obj) (its : Array Value) (n : Nat), K.lookup a = some o ∧ o.cls = .type "tuple" ∧ o.data = .seq its n ∧ its.size ≤ sizeLine ∧ Vals xs its.toList
noncomputable def absV : Value → Option V
  | .none => some .non
  | .bool b => some (.bl b)
  | .int i _ => some (.int i)
  | .str x _ => some (.str x)
  | .bytes b _ => some (.byt b)
  | .float b _ => some (.flt b)
  | .ref a => some (.ref a)
  | .type n => some (.ty n)
  | _ => none
theorem RelV.abs {x : V} {u : Value} (r : RelV x u) : absV u = some x := by
  cases x with
  | non => cases r; rfl
  | bl _ => cases r; rfl
  | int _ => obtain ⟨t, rfl⟩ := r; rfl
  | str _ => obtain ⟨t, rfl⟩ := r; rfl
  | byt _ => obtain ⟨t, rfl⟩ := r; rfl
  | flt _ => obtain ⟨t, rfl⟩ := r; rfl
  | ref _ => cases r; rfl
  | ty _ => cases r; rfl
theorem RelV.inj {x y : V} {u : Value} (r : RelV x u) (q : RelV y u) : x = y := Option.some.inj (r.abs.symm.trans q.abs)
theorem Vals.inj : ∀ {xs ys : List V} {us : List Value}, Vals xs us → Vals ys us → xs = ys
  | _, _, _, .nil, .nil => rfl
  | _, _, _, .cons r t, .cons r' t' => by rw [r.inj r', Vals.inj t t']
section
variable {X : Cx} {pins : List (Addr × Obj)} {σ : St} {H : Hp} {s : Shared} {a : Addr} {xs ys : List V}
theorem SqL.of {K : PySem.W.Frag} (h : H a = some (.lst xs)) : SqL K H a xs := .inl (.inl h)
theorem SqT.of {K : PySem.W.Frag} (h : H a = some (.tup xs)) : SqT K H a xs := .inl (.inl h)
theorem Inv.list (I : Inv X pins σ H s) (h : SqL X.K H a xs) : ∃ its : List Value, Vals xs its ∧ PlainL s.heap a its.toArray ∧ xs.length ≤ sizeLine := by
  rcases h with h | ⟨o, its, n, hk, hc, hd, hs, hz, r⟩
  · obtain ⟨z, its, n, r, e⟩ := h.ok I.hok
    exact ⟨its, r, ⟨_, n, e, rfl, rfl, rfl⟩, z⟩
  · refine ⟨its.toList, r, ⟨o, n, I.kIn a o hk, hc, hd, by simpa using hs⟩, ?_⟩
    have e := r.length
    simp only [Array.length_toList] at e
    omega
theorem Inv.tuple (I : Inv X pins σ H s) (h : SqT X.K H a xs) : ∃ its : List Value, Vals xs its ∧ IsTup s.heap a its.toArray ∧ xs.length ≤ sizeLine := by
  rcases h with h | ⟨o, its, n, hk, hc, hs, hz, r⟩
  · obtain ⟨z, its, r, p⟩ := h.ok I.hok
    exact ⟨its, r, p, z⟩
  · refine ⟨its.toList, r, ⟨o, I.kIn a o hk, hc, n, by simpa using hs⟩, ?_⟩
    have e := r.length
    simp only [Array.length_toList] at e
    omega
theorem Inv.list_inj (I : Inv X pins σ H s) (h : SqL X.K H a xs) (h' : SqL X.K H a ys) : xs = ys := by
  obtain ⟨its, r, ⟨o, n, e, _, _, d⟩, _⟩ := I.list h
  obtain ⟨its', r', ⟨o', n', e', _, _, d'⟩, _⟩ := I.list h'
  rw [e] at e'; cases e'
  rw [d] at d'
  injection d' with d1 _
  have : its = its' := by simpa using congrArg Array.toList d1
  subst this
  exact r.inj r'
theorem Inv.tuple_inj (I : Inv X pins σ H s) (h : SqT X.K H a xs) (h' : SqT X.K H a ys) : xs = ys := by
  obtain ⟨its, r, ⟨o, e, _, n, d⟩, _⟩ := I.tuple h
  obtain ⟨its', r', ⟨o', e', _, n', d'⟩, _⟩ := I.tuple h'
  rw [e] at e'; cases e'
  rw [d] at d'
  injection d' with d1 _
  have : its = its' := by simpa using congrArg Array.toList d1
  subst this
  exact r.inj r'
end

noncomputable abbrev Cx.wish (X : Cx) (E : Value → Shared → Prop) : Cx := { X with xe := E }
section
variable {X : Cx} {pins : List (Addr × Obj)} {σ : St} {H : Hp} {s : Shared} {E : Value → Shared → Prop}
end

section
variable {X : Cx} {st : Stmt} {rest : List Stmt} {t u : TS} {e : Expr} {te : TE} {pos : Pos}
noncomputable def tNext : TS := fun D σ H => D.nx σ H
noncomputable def tSeq (t u : TS) : TS := fun D σ H => t { D with nx := u D } σ H
theorem pss_nil : PSs X [] tNext := fun _ _ σ H _ I h => wpAny_execs_nil ⟨σ, H, I, h⟩
theorem pss_cons (h1 : PS X st t) (h2 : PSs X rest u) : PSs X (st :: rest) (tSeq t u) := by
  intro pins s σ H D I h
  refine wpAny_execs_cons (thn (h1 pins s σ H { D with nx := u D } I h) fun f s1 q => ?_)
  cases f with
  | next =>
    obtain ⟨σ', H', I', q⟩ := q
    exact h2 pins s1 σ' H' D I' q
  | ret v => exact q
  | brk => exact q
  | cont => exact q
theorem pss_one (h1 : PS X st t) : PSs X [st] t := by
  intro pins s σ H D I h
  refine wpAny_execs_cons (thn (h1 pins s σ H D I h) fun f s1 q => ?_)
  cases f with
  | next => exact wpAny_execs_nil q
  | ret v => exact q
  | brk => exact q
  | cont => exact q
theorem Inv.quiet {pins : List (Addr × Obj)} {σ : St} {H : Hp} {s : Shared} (I : Inv X pins σ H s) : interactive X.env = false := by simp [interactive, I.ok.kind]
noncomputable def tDrop (te : TE) : TS := fun D σ H => te σ H fun _ H1 => D.nx σ H1
theorem ps_expr (he : PE X e te) (hs : swapsWith e none pos.line X.env = pure false := by rfl) : PS X (.Expr e pos) (tDrop te) := by
  intro pins s σ H D I h
  exact wpAny_Expr_any (thn (he pins s σ H _ I h) fun v s1 ⟨x, H1, I1, r1, q1⟩ => ⟨σ, H1, I1, q1⟩) I.quiet hs
noncomputable def tRet (te : TE) : TS := fun D σ H => te σ H D.rt
theorem ps_ret (he : PE X e te) : PS X (.Return (some e) pos) (tRet te) := by
  intro pins s σ H D I h
  exact wpAny_Return_some (thn (he pins s σ H _ I h) fun v s1 ⟨x, H1, I1, r1, q1⟩ => ⟨x, σ, H1, I1, r1, q1⟩)
noncomputable def tIfS (c : TT) (t u : TS) : TS := fun D σ H => c σ H fun b H1 => if b = true then t D σ H1 else u D σ H1
theorem ps_if {c : Expr} {a b : List Stmt} {tc : TT} (hc : PT X c tc) (ha : PSs X a t) (hb : PSs X b u) : PS X (.If c a b pos) (tIfS tc t u) := by
  intro pins s σ H D I h
  refine wpAny_If (thn (hc pins s σ H _ I h) fun d s1 ⟨H1, I1, q1⟩ => ?_)
  cases d with
  | true => exact ha pins s1 σ H1 D I1 q1
  | false => exact hb pins s1 σ H1 D I1 q1
end

noncomputable abbrev TG := V → St → Hp → (St → Hp → Prop) → Prop
noncomputable def PG (X : Cx) (target : Expr) (t : TG) : Prop :=
  ∀ (pins : List (Addr × Obj)) (s : Shared) (σ : St) (H : Hp) (v : V) (u : Value) (Q : St → Hp → Prop), Inv X pins σ H s → RelV v u → t v σ H Q →
    wpAny (model X.prog X.w) X.A (assign target X.env u) (fun _ s' => ∃ σ' H', Inv X pins σ' H' s' ∧ Q σ' H') X.xe s
section
variable {X : Cx} {pos : Pos}
noncomputable def gName (i : Nat) : TG := fun v σ H Q => Q (σ.set i (some v)) H
theorem pg_name {i : Nat} {x : Str} (hN : X.N.Nodup) (hi : X.N[i]? = some x) (hx : Loc X.env.scope x) (hf : X.fn x = true ∨ X.env.scope.names.lookup x = some .local := by first | exact .inl rfl | exact .inr rfl | assumption) : PG X (.Name x pos) (gName i) := by
  intro pins s σ H v u Q I r h
  exact wpAny_assign_Name (store_ok I hN hi hx r (fun s' I' => ⟨_, H, I', h⟩) hf)
noncomputable def tAsg (te : TE) (g : TG) : TS := fun D σ H => te σ H fun x H1 => g x σ H1 D.nx
theorem ps_asg {tg e : Expr} {te : TE} {g : TG} (he : PE X e te) (hg : PG X tg g) (hs : swapsWithSole [tg] e pos.line X.env = pure false := by rfl) (hw : swappedStores [tg] e X.env = pure none := by rfl)
    (h1 : (assignEach [tg] X.env).map (·.2) = [assign tg X.env] := by rfl) : PS X (.Assign [tg] e pos) (tAsg te g) := by
  intro pins s σ H D I h
  refine wpAny_Assign_stores (thn (he pins s σ H _ I h) fun v s1 ⟨x, H1, I1, r1, q1⟩ => ?_) hs hw
  rw [h1]
  exact thn (hg pins s1 σ H1 x v _ I1 r1 q1) fun _ s2 q => q
noncomputable def tPar (i j : Nat) (ta : TA) : TS := fun D σ H => ta σ H fun vs H1 => ∃ v w, vs = [v, w] ∧ D.nx ((σ.set i (some v)).set j (some w)) H1
theorem ps_par {i j : Nat} {x y : Str} {a b : Expr} {ta : TA} {px py pt : Pos} {kt k2 pt2} (hc : X.calm = true) (hN : X.N.Nodup) (hi : X.N[i]? = some x) (hj : X.N[j]? = some y) (hij : i ≠ j)
    (hx : X.env.scope.names.lookup x = some .local) (hy : X.env.scope.names.lookup y = some .local) (ha : PA X [a, b] ta)
    (hw : swappedStores [.Tuple [.Name x px, .Name y py] kt pt] (.Tuple [a, b] k2 pt2) X.env = pure (some [x, y]))
    (hs : swapsWithSole [.Tuple [.Name x px, .Name y py] kt pt] (.Tuple [a, b] k2 pt2) pos.line X.env = pure false := by rfl) :
    PS X (.Assign [.Tuple [.Name x px, .Name y py] kt pt] (.Tuple [a, b] k2 pt2) pos) (tPar i j ta) := by
  intro pins s σ H D I h
  rw [exec_Assign_arm]
  refine wpAny_bind (wpAny_standAt ?_)
  rw [hs]
  refine wpAny_bind (wpAny_pure ?_)
  rw [if_neg (by decide)]
  refine wpAny_bind (Tuple_ (thn (ha _ pins s σ H _ I h) fun us s1 ⟨vs, H1, I1, r1, q1⟩ => ?_))
  obtain ⟨v, w, e1, q1⟩ := q1
  subst e1
  obtain ⟨u1, u2, rfl, rv, rw'⟩ : ∃ u1 u2, us = [u1, u2] ∧ RelV v u1 ∧ RelV w u2 := by
    cases r1 with
    | cons p q =>
      cases q with
      | cons p' q' =>
        cases q'
        exact ⟨_, _, rfl, p, p'⟩
  refine wpAny_newObj_type ?_ (by show 2 ≤ sizeLine; decide)
  have I2 : Inv X pins σ H1 { s1 with heap := s1.heap.push { cls := .type "tuple", data := .seq [u1, u2].toArray } } := I1.kept (t' := s1.toks) fun b o e => Heap.get?_push_of_some _ e
  rw [hw]
  refine wpAny_bind (wpAny_pure ?_)
  show wpAny (model X.prog X.w) X.A (do rule "assign.swapped-stores"; let items ← unpackItems (.ref s1.heap.objs.size) 2 none; assignInOrder [fun v => bindName X.env y v, fun v => bindName X.env x v] items.reverse; pure Flow.next) _ _ _
  refine wpAny_bind (wpAny_rule (wpAny_bind (unpackItems_tuple (items := #[u1, u2]) (I.ok.hd hc) (IsTup.new s1.heap _) fun h' hx' => ?_)))
  have I3 := I2.kept (h' := h') (t' := s1.toks) fun b o e => hx' b o (Nat.ne_of_lt (Heap.lt_size e)) e
  show wpAny _ _ (assignInOrder [fun v => bindName X.env y v, fun v => bindName X.env x v] [u2, u1] >>= fun _ => pure Flow.next) _ _ _
  refine wpAny_bind (assignInOrder_cons (wpAny_bindName (store_ok I3 hN hj (.inl hy) rw' (fun s2 I4 => ?_) (.inr hy))))
  refine assignInOrder_cons (wpAny_bindName (store_ok I4 hN hi (.inl hx) rv (fun s3 I5 => assignInOrder_nil (wpAny_pure ?_)) (.inr hx)))
  rw [List.set_comm _ _ (Ne.symm hij)] at I5
  exact ⟨_, H1, I5, q1⟩
end

section
variable {X : Cx} {pos : Pos}
end

structure It where
  go : Nat → Hp → Prop
  yld : Nat → Hp → V → Hp → Prop
  stop : Nat → Hp → Prop
noncomputable def FpOk (X : Cx) (pins : List (Addr × Obj)) (H : Hp) (b : Addr) : Prop :=
  H b = none ∧ b ≠ X.env.locals ∧ b ∉ X.fs ∧ (b ∈ X.ex ∨ X.s₀.heap.objs.size ≤ b) ∧ (∀ x c, X.env.cells.lookup x = some c → c ≠ b) ∧ ∀ p ∈ X.pn ++ pins, p.1 ≠ b
theorem Inv.fpOk {X : Cx} {pins : List (Addr × Obj)} {σ : St} {H H' : Hp} {s : Shared} {b : Addr} (I : Inv X pins σ H s) (hb : s.heap.objs.size ≤ b) (hn : H' b = none) : FpOk X pins H' b := by
  refine ⟨hn, Nat.ne_of_gt (Nat.lt_of_lt_of_le I.lt hb), I.nofs hb, .inr (Nat.le_trans I.sz hb), fun x c e z => ?_, fun p hp z => ?_⟩
  · obtain ⟨v, q⟩ := I.cell x c e
    exact absurd (Nat.lt_of_lt_of_le q.lt (by rw [z]; exact hb)) (Nat.lt_irrefl _)
  · exact absurd (Nat.lt_of_lt_of_le (Heap.lt_size (I.pin p hp).1) (by rw [z]; exact hb)) (Nat.lt_irrefl _)
structure Turn (P : Program) (w : World) (K : PySem.W.Frag) (tg : Expr) (J : It) (fp : List Addr) (it : Addr) (tn : Nat → Heap → Prop) : Prop where
  mem : it ∈ fp
  obj : ∀ i h, tn i h → ∀ b ∈ fp, ∃ o, h.get? b = some o ∧ ∀ v, o.data ≠ .cell v
  keep : ∀ i h h', tn i h → (∀ b ∈ fp, ∀ o, h.get? b = some o → h'.get? b = some o) → tn i h'
  item : ∀ (X : Cx), X.prog = P → X.w = w → X.K = K → X.calm = true → ∀ (i : Nat) (pins : List (Addr × Obj)) (s : Shared) (σ : St) (H : Hp) (E : Value → Shared → Prop), Inv X pins σ H s → (∀ b ∈ fp, FpOk X pins H b) → tn i s.heap → J.go i H →
    wpAny (model P w) X.A (pyNext (.ref it)) (fun r s1 => ∃ u, r = some u ∧
      wpAny (model P w) X.A (letOwnedTupleGo tg (.ref it) u) (fun _ s2 => ∃ x H', Inv X pins σ H' s2 ∧ RelV x u ∧ J.yld i H x H' ∧ tn (i + 1) s2.heap ∧ ∀ b ∈ fp, H' b = none) E s1) E s
  done : ∀ (X : Cx), X.prog = P → X.w = w → X.K = K → X.calm = true → ∀ (i : Nat) (pins : List (Addr × Obj)) (s : Shared) (σ : St) (H : Hp) (E : Value → Shared → Prop), Inv X pins σ H s → (∀ b ∈ fp, FpOk X pins H b) → tn i s.heap → J.stop i H →
    wpAny (model P w) X.A (pyNext (.ref it)) (fun r s1 => r = none ∧ Inv X pins σ H s1) E s
  self : ∀ (A : Around) (i : Nat) (s : Shared) (Q : Value → Shared → Prop) (E : Value → Shared → Prop), tn i s.heap → Q (.ref it) s → wpAny (model P w) A (pyIter (.ref it)) Q E s
noncomputable abbrev TI := St → Hp → (It → Hp → Prop) → Prop
noncomputable def PIE (X : Cx) (pins : List (Addr × Obj)) (σ : St) (tg : Expr) (R : It → Hp → Prop) (itv : Value) (s2 : Shared) : Prop :=
  ∃ (it : Addr) (fp : List Addr) (tn : Nat → Heap → Prop) (J : It) (H' : Hp), itv = .ref it ∧ Inv X pins σ H' s2 ∧ Turn X.prog X.w X.K tg J fp it tn ∧ tn 0 s2.heap ∧ (∀ b ∈ fp, FpOk X pins H' b) ∧ R J H'
noncomputable def PI (X : Cx) (tg iter : Expr) (wi : TI) : Prop :=
  ∀ (pins : List (Addr × Obj)) (s : Shared) (σ : St) (H : Hp) (R : It → Hp → Prop), Inv X pins σ H s → wi σ H R →
    wpAny (model X.prog X.w) X.A (eval iter X.env) (fun v s1 => wpAny (model X.prog X.w) X.A (pyIter v) (PIE X pins σ tg R) X.xe s1) X.xe s

theorem go_of {M : Model} {A : Around} {E : Value → Shared → Prop} {s : Shared} {tg : Expr} {it : Addr} {u : Value} {o : Obj} {n : String} {vs : Array Value} {Q : Unit → Shared → Prop} (ho : s.heap.get? it = some o) (hc : o.cls = .type n) (hd : o.data = .fields vs)
    (hn : ["enumerate", "zip", "dict_itemiterator", "dict_reverseitemiterator", "odict_iterator", "itertools.zip_longest", "itertools.pairwise"].contains n = false) (hQ : Q () s) : wpAny M A (letOwnedTupleGo tg (.ref it) u) Q E s := by
  unfold letOwnedTupleGo
  cases tg <;> first
    | exact wpAny_pure hQ
    | (cases u <;> first
        | exact wpAny_pure hQ
        | (refine wpAny_bind (wpAny_load ho ?_)
           rw [hc, hd]
           show wpAny M A (if (["enumerate", "zip", "dict_itemiterator", "dict_reverseitemiterator", "odict_iterator", "itertools.zip_longest", "itertools.pairwise"].contains n && vs[0]? == some (rawInt _)) = true then _ else _) Q E s
           rw [if_neg (by intro h; rw [hn, Bool.false_and] at h; cases h)]
           exact wpAny_pure hQ))

noncomputable def Itl (K : PySem.W.Frag) (a : Addr) : It :=
  ⟨fun i H => ∃ xs x, SqL K H a xs ∧ xs[i]? = some x, fun i H x H' => H' = H ∧ ∀ xs, SqL K H a xs → xs[i]? = some x, fun i H => ∃ xs, SqL K H a xs ∧ xs.length ≤ i⟩
noncomputable def Itt (K : PySem.W.Frag) (a : Addr) : It :=
  ⟨fun i H => ∃ xs x, SqT K H a xs ∧ xs[i]? = some x, fun i H x H' => H' = H ∧ ∀ xs, SqT K H a xs → xs[i]? = some x, fun i H => ∃ xs, SqT K H a xs ∧ xs.length ≤ i⟩
noncomputable def Itr (lo : Int) (n : Nat) : It := ⟨fun i _ => i < n, fun i H x H' => H' = H ∧ x = .int (lo + i), fun i _ => n ≤ i⟩
theorem turn_list {P : Program} {w : World} {K : PySem.W.Frag} {tg : Expr} (a it : Addr) : Turn P w K tg (Itl K a) [it] it (fun i h => h.IsListIter it a i) where
  mem := by simp
  obj := fun i h st b hb => by
    have e : b = it := by simpa using hb
    subst e
    obtain ⟨o, e, c, d⟩ := st
    exact ⟨o, e, fun v z => by rw [d] at z; cases z⟩
  keep := fun i h h' st k => st.at fun o e => k it (by simp) o e
  item := by
    intro X hP hw hK hc i pins s σ H E I hf st hg
    subst hP hw hK
    obtain ⟨xs, x, hq, hx⟩ := hg
    obtain ⟨its, rv, p, hz⟩ := I.list hq
    obtain ⟨u, hu, ru⟩ := rv.get hx
    obtain ⟨f0, f1, f2, f3, f4, f5⟩ := hf it (by simp)
    refine wpAny_pyNext_list_item st p.isList (x := u) (by simpa using hu) fun h' st' sb => ?_
    have I1 : Inv X pins σ H { s with heap := h' } := I.turned (t' := s.toks) (fun b o hb e => (sb.2 b hb).trans e) f0 f1 f3 f4 f5
    obtain ⟨o, e, c, d⟩ := id st'
    exact ⟨u, rfl, go_of (s := { s with heap := h' }) e c d (by decide) ⟨x, H, I1, ru, ⟨rfl, fun ys hy => by rw [I.list_inj hy hq]; exact hx⟩, st', fun b hb => (hf b hb).1⟩⟩
  done := by
    intro X hP hw hK hc i pins s σ H E I hf st hg
    subst hP hw hK
    obtain ⟨xs, hq, hx⟩ := hg
    obtain ⟨its, rv, p, hz⟩ := I.list hq
    obtain ⟨f0, f1, f2, f3, f4, f5⟩ := hf it (by simp)
    have hl := rv.length
    exact wpAny_pyNext_list_end (I.ok.hd hc) st p.isList (by simp; omega) fun h' eb => ⟨rfl, I.turned (t' := s.toks) (fun b o hb e => eb b o hb e) f0 f1 f3 f4 f5⟩
  self := fun _ _ _ _ _ st h => wpAny_pyIter_listiter st h
theorem turn_tuple {P : Program} {w : World} {K : PySem.W.Frag} {tg : Expr} (a it : Addr) : Turn P w K tg (Itt K a) [it] it (fun i h => h.IsTupleIter it a i) where
  mem := by simp
  obj := fun i h st b hb => by
    have e : b = it := by simpa using hb
    subst e
    obtain ⟨o, e, c, d⟩ := st
    exact ⟨o, e, fun v z => by rw [d] at z; cases z⟩
  keep := fun i h h' st k => st.at fun o e => k it (by simp) o e
  item := by
    intro X hP hw hK hc i pins s σ H E I hf st hg
    subst hP hw hK
    obtain ⟨xs, x, hq, hx⟩ := hg
    obtain ⟨its, rv, p, hz⟩ := I.tuple hq
    obtain ⟨u, hu, ru⟩ := rv.get hx
    obtain ⟨f0, f1, f2, f3, f4, f5⟩ := hf it (by simp)
    refine wpAny_pyNext_tuple_item st (show s.heap.IsTuple a its.toArray from p) (x := u) (by simpa using hu) fun h' st' sb => ?_
    have I1 : Inv X pins σ H { s with heap := h' } := I.turned (t' := s.toks) (fun b o hb e => (sb.2 b hb).trans e) f0 f1 f3 f4 f5
    obtain ⟨o, e, c, d⟩ := id st'
    exact ⟨u, rfl, go_of (s := { s with heap := h' }) e c d (by decide) ⟨x, H, I1, ru, ⟨rfl, fun ys hy => by rw [I.tuple_inj hy hq]; exact hx⟩, st', fun b hb => (hf b hb).1⟩⟩
  done := by
    intro X hP hw hK hc i pins s σ H E I hf st hg
    subst hP hw hK
    obtain ⟨xs, hq, hx⟩ := hg
    obtain ⟨its, rv, p, hz⟩ := I.tuple hq
    obtain ⟨f0, f1, f2, f3, f4, f5⟩ := hf it (by simp)
    have hl := rv.length
    exact wpAny_pyNext_tuple_end (I.ok.hd hc) st (show s.heap.IsTuple a its.toArray from p) (by simp; omega) fun h' eb => ⟨rfl, I.turned (t' := s.toks) (fun b o hb e => eb b o hb e) f0 f1 f3 f4 f5⟩
  self := fun _ _ _ _ _ st h => wpAny_pyIter_tupleiter st h
theorem turn_range {P : Program} {w : World} {K : PySem.W.Frag} {tg : Expr} (it : Addr) (lo : Int) (n : Nat) : Turn P w K tg (Itr lo n) [it] it (fun i h => IsRangeIter h it (lo + (i : Nat) * 1) ((n : Int) - (i : Nat)) 1) where
  mem := by simp
  obj := fun i h st b hb => by
    have e : b = it := by simpa using hb
    subst e
    exact ⟨_, st, fun v z => by
      have z' : Data.fields _ = Data.cell v := z
      cases z'⟩
  keep := fun i h h' st k => k it (by simp) _ st
  item := by
    intro X hP hw hK hc i pins s σ H E I hf st hg
    subst hP hw hK
    obtain ⟨f0, f1, f2, f3, f4, f5⟩ := hf it (by simp)
    have W := Walks.range (prog := X.prog) (w := X.w) (I.ok.hd hc) it lo 1 n
    refine W.item i s _ _ hg st fun v h' tk hv st' kk => ?_
    obtain ⟨t, rfl⟩ := hv
    have I1 : Inv X pins σ H { s with heap := h', toks := tk } := I.turned (fun b o hb e => kk b o (by simpa using hb) e) f0 f1 f3 f4 f5
    refine ⟨_, rfl, go_of (s := { s with heap := h', toks := tk }) (n := "range_iterator") st' rfl rfl (by decide) ⟨.int (lo + i), H, I1, ⟨t, ?_⟩, ⟨rfl, rfl⟩, st', fun b hb => (hf b hb).1⟩⟩
    rw [Int.mul_one]
  done := by
    intro X hP hw hK hc i pins s σ H E I hf st hg
    subst hP hw hK
    obtain ⟨f0, f1, f2, f3, f4, f5⟩ := hf it (by simp)
    exact wpAny_pyNext_range_end (I.ok.hd hc) st (by have : n ≤ i := hg; omega) fun h' eb => ⟨rfl, I.turned (t' := s.toks) (fun b o hb e => eb b o hb e) f0 f1 f3 f4 f5⟩
  self := fun _ _ _ _ _ st h => wpAny_pyIter_rangeiter st h
end L2

namespace L2
open PySem PySem.Spec PyProof.Rows
section
variable {X : Cx} {tg : Expr}
theorem range_it {pins : List (Addr × Obj)} {σ : St} {H : Hp} {s : Shared} {R : It → Hp → Prop} {E : Value → Shared → Prop} {lo hi : Int} {t u v : Tok} {tk : Nat} (I : Inv X pins σ H s) (h1 : -(2 ^ 62) ≤ lo) (h2 : lo < 2 ^ 62) (h3 : -(2 ^ 62) ≤ hi) (h4 : hi < 2 ^ 62)
    (q : R (Itr lo (hi - lo).toNat) H) : wpAny (model X.prog X.w) X.A (pyIter (.ref s.heap.objs.size)) (PIE X pins σ tg R) E { s with heap := s.heap.push { cls := .type "range", data := .fields #[.int lo t, .int hi u, .int 1 v] }, toks := tk } := by
  refine wpAny_pyIter_range (IsRange.new ..) (small_one h1 h2 h3 h4) ?_
  have I1 : Inv X pins σ H { s with heap := s.heap.push { cls := .type "range", data := .fields #[.int lo t, .int hi u, .int 1 v] }, toks := tk } := I.kept fun b o e => Heap.get?_push_of_some _ e
  refine ⟨(s.heap.push { cls := .type "range", data := .fields #[.int lo t, .int hi u, .int 1 v] }).objs.size, [(s.heap.push { cls := .type "range", data := .fields #[.int lo t, .int hi u, .int 1 v] }).objs.size], _, _, H, rfl,
    I1.kept (t' := tk) fun b o e => Heap.get?_push_of_some _ e, turn_range _ lo (hi - lo).toNat, ?_, fun b hb => ?_, q⟩
  · have e1 : lo + ((0 : Nat) : Int) * 1 = lo := by simp
    have e2 : (((hi - lo).toNat : Nat) : Int) - ((0 : Nat) : Int) = Builtin.Range.rangeSize lo hi 1 := by rw [rangeSize_one]; split <;> omega
    show IsRangeIter _ _ (lo + ((0 : Nat) : Int) * 1) ((((hi - lo).toNat : Nat) : Int) - ((0 : Nat) : Int)) 1
    rw [e1, e2]
    exact Heap.get?_push_size _ rfl
  · have e : b = (s.heap.push { cls := .type "range", data := .fields #[.int lo t, .int hi u, .int 1 v] }).objs.size := by simpa using hb
    subst e
    exact I1.fpOk (Nat.le_refl _) (I1.hok.fresh (Nat.le_refl _))
noncomputable def iRng1 (ta : TA) : TI := fun σ H R => ta σ H fun vs H1 => ∃ j : Int, vs = [.int j] ∧ -(2 ^ 62) ≤ j ∧ j < 2 ^ 62 ∧ R (Itr 0 j.toNat) H1
theorem pi_range1 {a : Expr} {ta : TA} {p pos : Pos} (hg : Gl X "range") (hm : X.mg "range" = none) (ha : PA X [a] ta) (hs : starEach [a] X.env = [(false, eval a X.env)] := by rfl) : PI X tg (.Call (.Name "range" p) [a] [] pos) (iRng1 ta) := by
  intro pins s σ H R I h
  refine Call_ (ld_blt I hg hm boot_range (PyProof.Rows.callWith_type1 (thn (ha pos pins s σ H _ I h) fun us s1 ⟨vs, H1, I1, r1, q1⟩ => ?_) hs rfl))
  obtain ⟨j, e, q1, q2, q⟩ := q1
  subst e
  cases r1 with
  | cons r rr =>
    cases rr
    obtain ⟨t, rfl⟩ := r
    exact call_range_1 (range_it I1 (by omega) (by omega) q1 q2 (by simpa using q))
noncomputable def tFor (wi : TI) (g : TG) (tb : TS) : TS := fun D σ H => wi σ H fun J H1 => ∃ W : Nat → Nat → St → Hp → Prop, (∃ m, W 0 m σ H1) ∧ ∀ i m σ H, W i m σ H →
  (J.stop i H ∧ D.nx σ H) ∨ (J.go i H ∧ ∃ N : St → Hp → Prop, (∀ σ' H', N σ' H' → ∃ m', m' < m ∧ W (i + 1) m' σ' H') ∧ ∀ x H', J.yld i H x H' → g x σ H' fun σ2 H2 => tb { D with nx := N, ct := N, bk := D.nx } σ2 H2)
noncomputable def pinsAt (fp : List Addr) (h : Heap) : List (Addr × Obj) := fp.filterMap fun b => (h.get? b).map fun o => (b, o)
theorem mem_pinsAt {fp : List Addr} {h : Heap} {b : Addr} {o : Obj} (hb : b ∈ fp) (e : h.get? b = some o) : (b, o) ∈ pinsAt fp h := List.mem_filterMap.mpr ⟨b, hb, by rw [e]; rfl⟩
theorem of_pinsAt {fp : List Addr} {h : Heap} {p : Addr × Obj} (hp : p ∈ pinsAt fp h) : p.1 ∈ fp ∧ h.get? p.1 = some p.2 := by
  obtain ⟨b, hb, e⟩ := List.mem_filterMap.mp hp
  cases q : h.get? b with
  | none => rw [q] at e; cases e
  | some o =>
    rw [q] at e
    have e' : (b, o) = p := Option.some.inj e
    subst e'
    exact ⟨hb, q⟩
theorem Inv.pinned {pins : List (Addr × Obj)} {σ : St} {H : Hp} {s : Shared} {fp : List Addr} (I : Inv X pins σ H s) (hf : ∀ b ∈ fp, FpOk X pins H b) (ho : ∀ b ∈ fp, ∃ o, s.heap.get? b = some o ∧ ∀ v, o.data ≠ .cell v) : Inv X (pins ++ pinsAt fp s.heap) σ H s :=
  I.pins_of fun p hp => (List.mem_append.mp hp).elim (fun z => I.pin p (List.mem_append_right _ z)) fun z => by
    obtain ⟨hb, e⟩ := of_pinsAt z
    obtain ⟨f0, f1, f2, _⟩ := hf p.1 hb
    obtain ⟨o, e', d⟩ := ho p.1 hb
    rw [e] at e'; cases e'
    exact ⟨e, f0, f1, f2, d⟩
theorem Inv.unpinned {pins pl : List (Addr × Obj)} {σ : St} {H : Hp} {s : Shared} (I : Inv X (pins ++ pl) σ H s) : Inv X pins σ H s := I.pins_of fun p hp => I.pin p (List.mem_append_right _ (List.mem_append_left _ hp))
theorem ps_for {iter : Expr} {body : List Stmt} {wi : TI} {g : TG} {tb : TS} {pos : Pos} (hp : PassesOwn (model X.prog X.w) X.A X.env X.xe) (hc : X.calm = true) (hi : PI X tg iter wi) (hg : PG X tg g) (hb : PSs X body tb)
    (hs : ∀ x, foldedSetIterable iter X.env x = pure x := by intro _; rfl) : PS X (.For tg iter body [] pos) (tFor wi g tb) := by
  intro pins s σ H D I h
  refine wpAny_For (thn (hi pins s σ H _ I h) fun v s1 h1 => thn h1 fun itv s2 h2 => ?_) hs
  obtain ⟨it, fp, tn, J, H2, e, I2, T, st2, f2, W, ⟨m0, w0⟩, turn⟩ := h2
  subst e
  -- what stays true of the iterator's objects through the loop
  have stat : ∀ {H' : Hp}, (∀ b ∈ fp, H' b = none) → ∀ b ∈ fp, FpOk X pins H' b := fun hn b hb => ⟨hn b hb, (f2 b hb).2⟩
  refine codeAny_forLoop_any (fun n s' => ∃ i σ' H', Inv X pins σ' H' s' ∧ tn i s'.heap ∧ (∀ b ∈ fp, H' b = none) ∧ W i n σ' H') ?_ m0 ⟨0, σ, H2, I2, st2, fun b hb => (f2 b hb).1, w0⟩
  rintro n s3 ⟨i, σ3, H3, I3, st3, fr3, w3⟩
  rcases turn i n σ3 H3 w3 with ⟨stop, qn⟩ | ⟨go, N, hN, step⟩
  · refine wpAny_passesOwn hp (thn (T.done X rfl rfl rfl hc i pins s3 σ3 H3 X.xe I3 (stat fr3) st3 stop) fun r s4 ⟨hr, I4⟩ => ?_)
    subst hr
    exact wpAny_execs_nil ⟨σ3, H3, I4, qn⟩
  · refine wpAny_passesOwn hp (thn (T.item X rfl rfl rfl hc i pins s3 σ3 H3 X.xe I3 (stat fr3) st3 go) fun r s4 ⟨u, hr, h4⟩ => ?_)
    subst hr
    refine wpAny_passesOwn hp (thn h4 fun _ s5 ⟨x, H5, I5, r5, y5, st5, fr5⟩ => ?_)
    have I5' := I5.pinned (stat fr5) (T.obj _ _ st5)
    refine wpAny_passesOwn hp (thn (hg _ s5 σ3 H5 x u _ I5' r5 (step x H5 y5)) fun _ s6 ⟨σ6, H6, I6, q6⟩ => ?_)
    refine wpAny_passesOwn hp (thn (hb _ s6 σ6 H6 _ I6 q6) fun f s7 q7 => ?_)
    have again : ∀ {σ7 : St} {H7 : Hp}, Inv X (pins ++ pinsAt fp s5.heap) σ7 H7 s7 → N σ7 H7 → ∃ m, m < n ∧ ∃ i σ' H', Inv X pins σ' H' s7 ∧ tn i s7.heap ∧ (∀ b ∈ fp, H' b = none) ∧ W i m σ' H' := fun {σ7 H7} I7 n7 => by
      obtain ⟨m', hm, w7⟩ := hN σ7 H7 n7
      refine ⟨m', hm, i + 1, σ7, H7, I7.unpinned, T.keep _ _ _ st5 fun b hb o e => (I7.pin (b, o) (List.mem_append_right _ (List.mem_append_right _ (mem_pinsAt hb e)))).1, fun b hb => ?_, w7⟩
      obtain ⟨o, e, d⟩ := T.obj _ _ st5 b hb
      exact (I7.pin (b, o) (List.mem_append_right _ (List.mem_append_right _ (mem_pinsAt hb e)))).2.1
    cases f with
    | next => obtain ⟨σ7, H7, I7, n7⟩ := q7; exact again I7 n7
    | cont => obtain ⟨σ7, H7, I7, n7⟩ := q7; exact again I7 n7
    | brk => obtain ⟨σ7, H7, I7, q7⟩ := q7; exact ⟨σ7, H7, I7.unpinned, q7⟩
    | ret v => obtain ⟨x7, σ7, H7, I7, r7, q7⟩ := q7; exact ⟨x7, σ7, H7, I7.unpinned, r7, q7⟩
end

end L2

namespace L2
open PySem PySem.Spec PyProof.Rows

noncomputable abbrev R2 := V → V → Hp → VK → Prop
noncomputable def OpR (X : Cx) (f : Value → Value → Sem Value) (r : R2) : Prop :=
  ∀ (pins : List (Addr × Obj)) (s : Shared) (σ : St) (H : Hp) (x y : V) (v u : Value) (Q : VK), Inv X pins σ H s → RelV x v → RelV y u → r x y H Q →
    wpAny (model X.prog X.w) X.A (f v u) (EP X pins σ Q) X.xe s
noncomputable def UnR (X : Cx) (f : Value → Sem Value) (r : V → Hp → VK → Prop) : Prop :=
  ∀ (pins : List (Addr × Obj)) (s : Shared) (σ : St) (H : Hp) (x : V) (v : Value) (Q : VK), Inv X pins σ H s → RelV x v → r x H Q →
    wpAny (model X.prog X.w) X.A (f v) (EP X pins σ Q) X.xe s
noncomputable def CallR (X : Cx) (f : Value) (r : List V → Hp → VK → Prop) : Prop :=
  ∀ (pins : List (Addr × Obj)) (s : Shared) (σ : St) (H : Hp) (xs : List V) (us : List Value) (Q : VK), Inv X pins σ H s → Vals xs us → r xs H Q →
    wpAny (model X.prog X.w) X.A (call f us) (EP X pins σ Q) X.xe s
noncomputable def TruR (X : Cx) (r : V → Hp → (Bool → Hp → Prop) → Prop) : Prop :=
  ∀ (pins : List (Addr × Obj)) (s : Shared) (σ : St) (H : Hp) (x : V) (v : Value) (Q : Bool → Hp → Prop), Inv X pins σ H s → RelV x v → r x H Q →
    wpAny (model X.prog X.w) X.A (truthy v) (TP X pins σ Q) X.xe s

noncomputable def tOp (r : R2) (ta tb : TE) : TE := fun σ H Q => ta σ H fun x H1 => tb σ H1 fun y H2 => r x y H2 Q
noncomputable def tUn (r : V → Hp → VK → Prop) (ta : TE) : TE := fun σ H Q => ta σ H fun x H1 => r x H1 Q
noncomputable def rI (C : Int → Int → Prop) (g : Int → Int → V) : R2 := fun x y H Q => ∃ i j, x = .int i ∧ y = .int j ∧ C i j ∧ Q (g i j) H
noncomputable def rI0 (g : Int → Int → V) : R2 := fun x y H Q => ∃ i j, x = .int i ∧ y = .int j ∧ Q (g i j) H
noncomputable def rU (g : Int → V) : V → Hp → VK → Prop := fun x H Q => ∃ i, x = .int i ∧ Q (g i) H

section
variable {X : Cx} {a b c : Expr} {ta tb tc : TE} {pos : Pos}

theorem binT (ha : PE X a ta) (hb : PE X b tb) {pins : List (Addr × Obj)} {s : Shared} {σ : St} {H : Hp} {R : V → V → Hp → Prop} (I : Inv X pins σ H s)
    (h : ta σ H fun x H1 => tb σ H1 fun y H2 => R x y H2) {Q : Value → Shared → Prop} {f : Value → Value → Sem Value}
    (hf : ∀ v u s2 x y H2, Inv X pins σ H2 s2 → RelV x v → RelV y u → R x y H2 → wpAny (model X.prog X.w) X.A (f v u) Q X.xe s2) :
    wpAny (model X.prog X.w) X.A (eval a X.env) (fun v s₁ => wpAny (model X.prog X.w) X.A (eval b X.env) (fun u s₂ => wpAny (model X.prog X.w) X.A (f v u) Q X.xe s₂) X.xe s₁) X.xe s := by
  refine thn (ha pins s σ H _ I h) fun v s1 ⟨x, H1, I1, r1, q1⟩ => ?_
  refine thn (hb pins s1 σ H1 _ I1 q1) fun u s2 ⟨y, H2, I2, r2, q2⟩ => ?_
  exact hf v u s2 x y H2 I2 r1 r2 q2

theorem pe_op {op : Operator} {r : R2} (ho : OpR X (binaryOp op) r) (ha : PE X a ta) (hb : PE X b tb) : PE X (.BinOp a op b pos) (tOp r ta tb) := by
  intro pins s σ H Q I h
  exact wpAny_BinOp (binT ha hb I h fun v u s2 x y H2 I2 rx ry q => ho pins s2 σ H2 x y v u Q I2 rx ry q)
theorem pe_un {op : UnaryOp} {r : V → Hp → VK → Prop} (ho : UnR X (unaryOp op) r) (ha : PE X a ta) : PE X (.UnaryOp op a pos) (tUn r ta) := by
  intro pins s σ H Q I h
  exact UnaryOp_ (thn (ha pins s σ H _ I h) fun v s1 ⟨x, H1, I1, r1, q1⟩ => ho pins s1 σ H1 x v Q I1 r1 q1)
theorem opI {f : Value → Value → Sem Value} {C : Int → Int → Prop} {g : Int → Int → Int}
    (rule : ∀ (i j : Int) (t u : Tok) (s : Shared) (Q : Value → Shared → Prop) (E : Value → Shared → Prop), C i j → Q (.int (g i j) s.toks) { s with toks := s.toks + 1 } → wpAny (model X.prog X.w) X.A (f (.int i t) (.int j u)) Q E s) :
    OpR X f (rI C fun i j => .int (g i j)) := by
  intro pins s σ H x y v u Q I rx ry h
  obtain ⟨i, j, rfl, rfl, hc, q⟩ := h
  obtain ⟨t, rfl⟩ := rx
  obtain ⟨t', rfl⟩ := ry
  exact rule i j t t' s _ _ hc ⟨.int (g i j), H, I.tok _, ⟨_, rfl⟩, q⟩
theorem opI0 {f : Value → Value → Sem Value} {g : Int → Int → Int}
    (rule : ∀ (i j : Int) (t u : Tok) (s : Shared) (Q : Value → Shared → Prop) (E : Value → Shared → Prop), Q (.int (g i j) s.toks) { s with toks := s.toks + 1 } → wpAny (model X.prog X.w) X.A (f (.int i t) (.int j u)) Q E s) :
    OpR X f (rI0 fun i j => .int (g i j)) := by
  intro pins s σ H x y v u Q I rx ry h
  obtain ⟨i, j, rfl, rfl, q⟩ := h
  obtain ⟨t, rfl⟩ := rx
  obtain ⟨t', rfl⟩ := ry
  exact rule i j t t' s _ _ ⟨.int (g i j), H, I.tok _, ⟨_, rfl⟩, q⟩
theorem opB0 {f : Value → Value → Sem Value} {g : Int → Int → Bool}
    (rule : ∀ (i j : Int) (t u : Tok) (s : Shared) (Q : Value → Shared → Prop) (E : Value → Shared → Prop), Q (.bool (g i j)) s → wpAny (model X.prog X.w) X.A (f (.int i t) (.int j u)) Q E s) :
    OpR X f (rI0 fun i j => .bl (g i j)) := by
  intro pins s σ H x y v u Q I rx ry h
  obtain ⟨i, j, rfl, rfl, q⟩ := h
  obtain ⟨t, rfl⟩ := rx
  obtain ⟨t', rfl⟩ := ry
  exact rule i j t t' s _ _ ⟨.bl (g i j), H, I, rfl, q⟩

noncomputable def CDiv (i j : Int) : Prop := 0 < j ∧ j < 1073741824
noncomputable def CMul (i j : Int) : Prop := (-(2 ^ 64) < i ∧ i < 2 ^ 64) ∨ (-(2 ^ 64) < j ∧ j < 2 ^ 64)
theorem CMul.ok {i j : Int} (h : CMul i j) : IntMulOk i j := by
  rcases h with ⟨h1, h2⟩ | ⟨h1, h2⟩
  · exact .of_left (intBits_le_64 h1 h2)
  · exact .of_right (intBits_le_64 h1 h2)
theorem op_add : OpR X (binaryOp .Add) (rI0 fun i j => .int (i + j)) := opI0 fun _ _ _ _ _ _ _ q => add_int q
theorem op_sub : OpR X (binaryOp .Sub) (rI0 fun i j => .int (i - j)) := opI0 fun _ _ _ _ _ _ _ q => sub_int q
theorem op_mul : OpR X (binaryOp .Mult) (rI CMul fun i j => .int (i * j)) := opI fun _ _ _ _ _ _ _ hc q => mul_int q hc.ok
theorem op_fdiv : OpR X (binaryOp .FloorDiv) (rI CDiv fun i j => .int (i / j)) := opI fun i j _ _ _ _ _ hc q => by
  have h1 : (0 : Int) < j := hc.1
  have h2 : j < 1073741824 := hc.2
  exact floordiv_int (by omega) (by rw [Int.fdiv_eq_ediv_of_nonneg i (by omega)]; exact q) (.inl (PyProof.noPylong_small (by omega)))
theorem op_mod : OpR X (binaryOp .Mod) (rI (fun _ j => 0 < j) fun i j => .int (i % j)) := opI fun i j _ _ _ _ _ hc q => by
  have h1 : (0 : Int) < j := hc
  exact mod_int' (by omega) (by rw [Int.fmod_eq_emod_of_nonneg i (by omega)]; exact q)
theorem unI {f : Value → Sem Value} {g : Int → Int}
    (rule : ∀ (i : Int) (t : Tok) (s : Shared) (Q : Value → Shared → Prop) (E : Value → Shared → Prop), Q (.int (g i) s.toks) { s with toks := s.toks + 1 } → wpAny (model X.prog X.w) X.A (f (.int i t)) Q E s) :
    UnR X f (rU fun i => .int (g i)) := by
  intro pins s σ H x v Q I rx h
  obtain ⟨i, rfl, q⟩ := h
  obtain ⟨t, rfl⟩ := rx
  exact rule i t s _ _ ⟨.int (g i), H, I.tok _, ⟨_, rfl⟩, q⟩
theorem un_neg : UnR X (unaryOp .USub) (rU fun i => .int (-i)) := unI fun _ _ _ _ _ q => neg_int q
end

section
variable {X : Cx} {a b c : Expr} {ta tb tc : TE} {pos : Pos}
theorem fin_bl {pins : List (Addr × Obj)} {σ : St} {H : Hp} {s : Shared} {Q : VK} {k k' : Bool} (I : Inv X pins σ H s) (q : Q (.bl k) H) (e : k = k') : EP X pins σ Q (.bool k') s := by
  subst e
  exact ⟨.bl k, H, I, rfl, q⟩
theorem op_lt : OpR X (compareOp .Lt) (rI0 fun i j => .bl (decide (i < j))) := opB0 fun _ _ _ _ _ _ _ q => lt_int q
theorem op_le : OpR X (compareOp .LtE) (rI0 fun i j => .bl (decide (i ≤ j))) := opB0 fun _ _ _ _ _ _ _ q => le_int q
theorem op_lt_str : OpR X (compareOp .Lt) (fun x y H Q => ∃ i j, x = .str i ∧ y = .str j ∧ Q (.bl (decide (i.cps.toList < j.cps.toList))) H) := by
  intro pins s σ H x y v u Q I rx ry h
  obtain ⟨i, j, rfl, rfl, q⟩ := h
  obtain ⟨t, rfl⟩ := rx
  obtain ⟨t', rfl⟩ := ry
  exact lt_str (fin_bl I q rfl)
theorem op_in_str : OpR X (compareOp .In) (fun x y H Q => ∃ i j, x = .str i ∧ y = .str j ∧ Q (.bl (!(Builtin.Str.occurrences j i 0 j.length 1).isEmpty)) H) := by
  intro pins s σ H x y v u Q I rx ry h
  obtain ⟨i, j, rfl, rfl, q⟩ := h
  obtain ⟨t, rfl⟩ := rx
  obtain ⟨t', rfl⟩ := ry
  exact in_str (fin_bl I q rfl)

theorem OpR.or {f : Value → Value → Sem Value} {r r' : R2} (h : OpR X f r) (h' : OpR X f r') : OpR X f (fun x y H Q => r x y H Q ∨ r' x y H Q) := by
  intro pins s σ H x y v u Q I rx ry q
  rcases q with q | q
  · exact h pins s σ H x y v u Q I rx ry q
  · exact h' pins s σ H x y v u Q I rx ry q

theorem nomark (b : Expr) {op : CmpOp} (h : op ≠ .In := by decide) (h2 : op ≠ .NotIn := by decide) : behindInMarks op b = false := by
  have e1 : (op == CmpOp.In) = false := by cases op <;> first | rfl | exact absurd rfl h
  have e2 : (op == CmpOp.NotIn) = false := by cases op <;> first | rfl | exact absurd rfl h2
  cases b <;> simp [behindInMarks, e1, e2]
theorem pe_cmpR {op : CmpOp} {r : R2} (ho : OpR X (compareOp op) r) (ha : PE X a ta) (hb : PE X b tb) (hm : behindInMarks op b = false) : PE X (.Compare a [op] [b] pos) (tOp r ta tb) := by
  intro pins s σ H Q I h
  exact wpAny_Compare1 (binT ha hb I h fun v u s2 x y H2 I2 rx ry q => ho pins s2 σ H2 x y v u Q I2 rx ry q) hm
noncomputable def tTest (t : TE) : TT := fun σ H Q => t σ H fun x H' => ∃ k, x = .bl k ∧ Q k H'
theorem pt_cmpR {op : CmpOp} {r : R2} (ho : OpR X (compareOp op) r) (ha : PE X a ta) (hb : PE X b tb) (hm : behindInMarks op b = false) : PT X (.Compare a [op] [b] pos) (tTest (tOp r ta tb)) := by
  intro pins s σ H Q I h
  refine wpAny_isTrue_Compare1 (thn (ha pins s σ H _ I h) fun v s1 ⟨x, H1, I1, r1, q1⟩ => thn (hb pins s1 σ H1 _ I1 q1) fun u s2 ⟨y, H2, I2, r2, q2⟩ =>
    thn (ho pins s2 σ H2 x y v u _ I2 r1 r2 q2) fun c s3 ⟨z, H3, I3, r3, k, e, q3⟩ => ?_) hm
  subst e
  cases r3
  exact wpAny_truthy_bool ⟨H3, I3, q3⟩
noncomputable def tChain (r r' : R2) (ta tb tc : TE) : TE := fun σ H Q => ta σ H fun x H1 => tb σ H1 fun y H2 => r x y H2 fun z H3 => ∃ k, z = .bl k ∧
  (if k = true then tc σ H3 fun w' H4 => r' y w' H4 Q else Q (.bl false) H3)
theorem pe_chain {op op' : CmpOp} {r r' : R2} (ho : OpR X (compareOp op) r) (ho' : OpR X (compareOp op') r') (ha : PE X a ta) (hb : PE X b tb) (hc : PE X c tc)
    (hm : lastMarks [op, op'] [b, c] = false := by with_unfolding_all rfl) : PE X (.Compare a [op, op'] [b, c] pos) (tChain r r' ta tb tc) := by
  intro pins s σ H Q I h
  refine Compare_chain (thn (ha pins s σ H _ I h) fun v s1 ⟨x, H1, I1, r1, q1⟩ => chain_link (thn (hb pins s1 σ H1 _ I1 q1) fun u s2 ⟨y, H2, I2, r2, q2⟩ =>
    thn (ho pins s2 σ H2 x y v u _ I2 r1 r2 q2) fun d s3 ⟨z, H3, I3, r3, k, e, q3⟩ => ?_)) hm
  subst e
  cases r3
  refine wpAny_truthy_bool ?_
  cases k with
  | false => exact ite_ff ⟨.bl false, H3, I3, rfl, q3⟩
  | true => exact ite_tt (chain_last (thn (hc pins s3 σ H3 _ I3 q3) fun w' s4 ⟨z', H4, I4, r4, q4⟩ => ho' pins s4 σ H4 y z' u w' Q I4 r2 r4 q4))
theorem pt_chain {op op' : CmpOp} {r r' : R2} (ho : OpR X (compareOp op) r) (ho' : OpR X (compareOp op') r') (ha : PE X a ta) (hb : PE X b tb) (hc : PE X c tc)
    (hm : lastMarks [op, op'] [b, c] = false := by with_unfolding_all rfl) : PT X (.Compare a [op, op'] [b, c] pos) (tTest (tChain r r' ta tb tc)) := by
  intro pins s σ H Q I h
  refine isTrue_chain (thn (ha pins s σ H _ I h) fun v s1 ⟨x, H1, I1, r1, q1⟩ => test_link (thn (hb pins s1 σ H1 _ I1 q1) fun u s2 ⟨y, H2, I2, r2, q2⟩ =>
    thn (ho pins s2 σ H2 x y v u _ I2 r1 r2 q2) fun d s3 ⟨z, H3, I3, r3, k, e, q3⟩ => ?_)) hm
  subst e
  cases r3
  refine wpAny_truthy_bool ?_
  cases k with
  | false =>
    obtain ⟨k', e', q'⟩ := q3
    cases e'
    exact ite_ff ⟨H3, I3, q'⟩
  | true =>
    refine ite_tt (test_last (thn (hc pins s3 σ H3 _ I3 q3) fun w' s4 ⟨z', H4, I4, r4, q4⟩ => thn (ho' pins s4 σ H4 y z' u w' _ I4 r2 r4 q4) fun d' s5 ⟨z2, H5, I5, r5, k2, e2, q5⟩ => ?_))
    subst e2
    cases r5
    exact wpAny_truthy_bool ⟨H5, I5, q5⟩

noncomputable def TruV (K : PySem.W.Frag) (x : V) (H : Hp) (k : Bool) : Prop :=
  match x with
  | .non => k = false
  | .bl b => k = b
  | .int i => k = (i != 0)
  | .str y => y.length ≤ sizeLine ∧ k = ((y.length : Int) != 0)
  | .byt y => y.size ≤ sizeLine ∧ k = ((y.size : Int) != 0)
  | .ref p => (∃ xs, SqL K H p xs ∧ k = !xs.isEmpty) ∨ (∃ xs, SqT K H p xs ∧ k = !xs.isEmpty) ∨ ∃ kvs, H p = some (.dK kvs) ∧ k = !kvs.isEmpty
  | _ => False
theorem isEmpty_kv {κ : Type} {kvs : List (κ × V)} {vs : List (κ × Value)} (r : KV kvs vs) : (!vs.isEmpty) = !kvs.isEmpty := by
  cases r <;> rfl
theorem isEmpty_of {xs : List V} {its : List Value} (r : Vals xs its) : (!its.toArray.isEmpty) = !xs.isEmpty := by
  cases r <;> simp
theorem line63 : (sizeLine : Nat) < 2 ^ 63 := by rw [sizeLine_eq]; decide
theorem tru_ok : TruR X (fun x H Q => ∃ k, TruV X.K x H k ∧ Q k H) := by
  intro pins s σ H x v Q I rx h
  obtain ⟨k, e, q⟩ := h
  have hl := line63
  have hs : sizeLine = 16777216 := sizeLine_eq
  cases x with
  | non =>
    cases rx
    have e' : k = false := e
    subst e'
    exact truthy_none ⟨H, I, q⟩
  | bl b =>
    cases rx
    have e' : k = b := e
    subst e'
    exact wpAny_truthy_bool ⟨H, I, q⟩
  | int i =>
    obtain ⟨t, rfl⟩ := rx
    have e' : k = (i != 0) := e
    subst e'
    exact PySem.P.truthy_int ⟨H, I, q⟩
  | str y =>
    obtain ⟨t, rfl⟩ := rx
    obtain ⟨hy, e'⟩ : y.length ≤ sizeLine ∧ k = ((y.length : Int) != 0) := e
    subst e'
    exact PySem.P.truthy_str (by omega) ⟨H, I.tok _, q⟩
  | byt y =>
    obtain ⟨t, rfl⟩ := rx
    obtain ⟨hy, e'⟩ : y.size ≤ sizeLine ∧ k = ((y.size : Int) != 0) := e
    subst e'
    exact PySem.W.truthy_bytes (by omega) ⟨H, I.tok _, q⟩
  | ref p =>
    cases rx
    have e' : (∃ xs, SqL X.K H p xs ∧ k = !xs.isEmpty) ∨ (∃ xs, SqT X.K H p xs ∧ k = !xs.isEmpty) ∨ ∃ kvs, H p = some (.dK kvs) ∧ k = !kvs.isEmpty := e
    rcases e' with ⟨xs, hx, e'⟩ | ⟨xs, hx, e'⟩ | ⟨kvs, hx, e'⟩
    · subst e'
      obtain ⟨its, r, pl, hz⟩ := I.list hx
      have hlen := r.length
      exact wpAny_truthy_list pl.isList (by simp only [List.size_toArray]; omega) ⟨H, I.tok _, by rw [isEmpty_of r]; exact q⟩
    · subst e'
      obtain ⟨its, r, pl, hz⟩ := I.tuple hx
      have hlen := r.length
      exact truthy_tuple pl (by simp only [List.size_toArray]; omega) ⟨H, I.tok _, by rw [isEmpty_of r]; exact q⟩
    · subst e'
      obtain ⟨hz, hS, vs, r, m⟩ : kvs.length ≤ sizeLine ∧ (p == sysModules) = false ∧ ∃ vs, KV kvs vs ∧ s.heap.DictOf (mixKind X.prog X.w) p vs := I.hok p _ hx
      have hlen : kvs.length = vs.length := Paired.length r
      exact wpAny_truthy_dict hS m (by omega) ⟨H, I.tok _, by rw [isEmpty_kv r]; exact q⟩
  | _ => exact (show False from e).elim
theorem pt_truth (ha : PE X a ta) (he : ∀ whole, isTrue a X.env whole = (do let v ← whole; standAt a.pos; holding [v] (truthy v))) :
    PT X a (fun σ H Q => ta σ H fun x H' => ∃ k, TruV X.K x H' k ∧ Q k H') := by
  intro pins s σ H Q I h
  exact isTrue_plain (thn (ha pins s σ H _ I h) fun v s1 ⟨x, H1, I1, r1, q1⟩ => tru_ok pins s1 σ H1 x v Q I1 r1 q1) (he _)

theorem op_add_str : OpR X (binaryOp .Add) (fun x y H Q => ∃ i j, x = .str i ∧ y = .str j ∧ i.length + j.length ≤ sizeLine ∧ Q (.str (i ++ j)) H) := by
  intro pins s σ H x y v u Q I rx ry h
  obtain ⟨i, j, rfl, rfl, hz, q⟩ := h
  obtain ⟨t, rfl⟩ := rx
  obtain ⟨t', rfl⟩ := ry
  exact add_str (fun t' tk => ⟨.str (i ++ j), H, I.tok _, ⟨_, rfl⟩, q⟩) hz
theorem vals1 {x : V} {us : List Value} (r : Vals [x] us) : ∃ u, us = [u] ∧ RelV x u := by
  cases r with
  | cons r1 r2 => cases r2; exact ⟨_, rfl, r1⟩
noncomputable def LenV (K : PySem.W.Frag) (x : V) (H : Hp) (n : Nat) : Prop :=
  match x with
  | .str y => y.length ≤ sizeLine ∧ n = y.length
  | .byt y => y.size ≤ sizeLine ∧ n = y.size
  | .ref p => (∃ xs, SqL K H p xs ∧ n = xs.length) ∨ ∃ xs, SqT K H p xs ∧ n = xs.length
  | _ => False
theorem call_len : CallR X (.builtin "len") (fun xs H Q => ∃ x n, xs = [x] ∧ LenV X.K x H n ∧ Q (.int n) H) := by
  intro pins s σ H xs us Q I r h
  obtain ⟨x, n, rfl, e, q⟩ := h
  obtain ⟨u, rfl, rx⟩ := vals1 r
  have hl := line63
  have hs : sizeLine = 16777216 := sizeLine_eq
  cases x with
  | str y =>
    obtain ⟨t, rfl⟩ := rx
    obtain ⟨hy, e'⟩ : y.length ≤ sizeLine ∧ n = y.length := e
    subst e'
    exact len_str (by omega) ⟨.int _, H, I.tok _, ⟨_, rfl⟩, q⟩
  | byt y =>
    obtain ⟨t, rfl⟩ := rx
    obtain ⟨hy, e'⟩ : y.size ≤ sizeLine ∧ n = y.size := e
    subst e'
    exact PySem.W.len_bytes (by omega) ⟨.int _, H, I.tok _, ⟨_, rfl⟩, q⟩
  | ref p =>
    cases rx
    have e' : (∃ xs, SqL X.K H p xs ∧ n = xs.length) ∨ ∃ xs, SqT X.K H p xs ∧ n = xs.length := e
    rcases e' with ⟨xs, hx, e'⟩ | ⟨xs, hx, e'⟩
    · subst e'
      obtain ⟨its, r', pl, hz⟩ := I.list hx
      have hlen := r'.length
      exact Calls.call_len_list pl.isList (by simp only [List.size_toArray]; omega) ⟨.int xs.length, H, I.tok _, ⟨_, by simp only [List.size_toArray]; rw [hlen]⟩, q⟩
    · subst e'
      obtain ⟨its, r', pl, hz⟩ := I.tuple hx
      have hlen := r'.length
      exact len_tuple pl (by simp only [List.size_toArray]; omega) ⟨.int xs.length, H, I.tok _, ⟨_, by simp only [List.size_toArray]; rw [hlen]⟩, q⟩
  | _ => exact (show False from e).elim
end
end L2

namespace L2
open PySem PySem.Spec PyProof.Rows

structure ObjM (h : Heap) (x dx C : Addr) (mA : Str → Option Value) : Prop where
  obj : h.get? x = some (PySem.W.instObj C dx)
  ns : h.Ns1 dx mA
  ne : dx ≠ x

section
variable {prog : Program} {w : World} {A : Around} {E : Value → Shared → Prop} {s : Shared} {K : PySem.W.Frag} {x dx C f : Addr} {mA : Str → Option Value} {name : Str} {v : Value}

end

noncomputable def putF (f : Str) (v : V) : List (Str × V) → List (Str × V)
  | [] => [(f, v)]
  | (g, x) :: r => if g = f then (g, v) :: r else (g, x) :: putF f v r
section
variable {P : Program} {w : World} {H H' : Hp} {h h' : Heap} {a C dx : Addr} {fs fs' : List (Str × V)}
end

structure Cls (K : PySem.W.Frag) (C : Addr) : Prop where
  pg : PySem.W.plainGet K C Str.empty = true
  hd : PySem.W.hasDictIn K C = true
  po : PySem.W.plainOver K C = true
  sa : PySem.W.findIn K (.ref C) "__setattr__" = some (some (.builtin "object.__setattr__"))
noncomputable def NoAttr (K : PySem.W.Frag) (C : Addr) (f : Str) : Prop := PySem.W.findIn K (.ref C) f = some none
structure Con (K : PySem.W.Frag) (C : Addr) (f : Str) (v : V) (u : Value) : Prop where
  at_ : PySem.W.findIn K (.ref C) f = some (some u)
  rel : RelV v u
  get : PySem.W.specialIn K u "__get__" = some none
  cp : PySem.W.copiedNames.contains f = false
structure Meth (K : PySem.W.Frag) (C : Addr) (m : Str) (f : Addr) : Prop where
  at_ : PySem.W.findIn K (.ref C) m = some (some (.ref f))
  fn : PySem.W.isFn K (.ref f) = true
  kp : PySem.W.keepIn K (.ref f) = true

section
variable {X : Cx} {pins : List (Addr × Obj)} {σ : St} {H : Hp} {s : Shared} {a C dx : Addr} {fs : List (Str × V)} {f : Str} {v : V} {A : Around} {E : Value → Shared → Prop}

end

section
variable {X : Cx} {o e value : Expr} {f : Str} {pos pos' tpos : Pos} {ta tv : TE}
end

section
variable {X : Cx} {pins : List (Addr × Obj)} {σ : St} {H : Hp} {s : Shared} {A : Around} {E : Value → Shared → Prop} {Q : Value → Shared → Prop} {c : Value} {b : Bool}
inductive TyOf (K : PySem.W.Frag) (H : Hp) : V → Value → Prop where
  | non : TyOf K H .non (.type "NoneType")
  | bl (x : Bool) : TyOf K H (.bl x) (.type "bool")
  | int (i : Int) : TyOf K H (.int i) (.type "int")
  | str (x : Str) : TyOf K H (.str x) (.type "str")
  | flt (x : UInt64) : TyOf K H (.flt x) (.type "float")
  | lst {a : Addr} {xs : List V} (e : H a = some (.lst xs)) : TyOf K H (.ref a) (.type "list")
  | frz {a : Addr} {o : Obj} {xs : List V} (e : H a = some (.frz o (.lst xs))) : TyOf K H (.ref a) (.type "list")
  | tup {a : Addr} {xs : List V} (e : H a = some (.tup xs)) : TyOf K H (.ref a) (.type "tuple")
  | dK {a : Addr} {kvs : List (Key × V)} (e : H a = some (.dK kvs)) : TyOf K H (.ref a) (.type "dict")
  | dT {a : Addr} {kvs : List (List Key × V)} (e : H a = some (.dT kvs)) : TyOf K H (.ref a) (.type "dict")
  | ins {a C dx : Addr} {fs : List (Str × V)} (e : H a = some (.ins C dx fs)) (cl : Cls K C) (ha : PySem.W.findIn K (.ref C) "__class__" = some (some (.builtin "object.__class__")))
      (hn : PySem.W.specialIn K (.builtin "object.__class__") "__get__" = some (some (.builtin "getset_descriptor.__get__"))) (htk : PySem.W.takesIn K (.builtin "object.__class__") = some true)
      (hm : PySem.W.mroIn K C (.type "object") = some true) : TyOf K H (.ref a) (.ref C)
end
end L2

namespace L2
open PySem PySem.Spec PyProof.Rows

structure Room (k : Nat) (A : Around) : Prop where
  hd : A.handled = none
  dp : A.depth + 3 * k + 5 < recursionLimit
  un : A.units + 16 * k + 200 < cLine
theorem Room.mono {j k : Nat} {A : Around} (r : Room k A) (h : j ≤ k) : Room j A := ⟨r.hd, by have := r.dp; omega, by have := r.un; omega⟩
theorem Room.deeper {k : Nat} {A : Around} (r : Room (k + 1) A) (env : Env) : Room k (A.deeper env) :=
  ⟨r.hd, by have := r.dp; show A.depth + 1 + 3 * k + 5 < _; omega, by have := r.un; show A.units + 3 + 16 * k + 200 < _; omega⟩
theorem Room.depth {k : Nat} {A : Around} (r : Room k A) : A.depth < recursionLimit := by have := r.dp; omega
theorem Room.units {k : Nat} {A : Around} (r : Room k A) : A.units + 64 < cLine := by have := r.un; omega
noncomputable def tNil : TA := fun _ H Q => Q [] H
noncomputable def tCons (ta : TE) (tr : TA) : TA := fun σ H Q => ta σ H fun x H1 => tr σ H1 fun xs H2 => Q (x :: xs) H2
section
variable {X : Cx} {e : Expr} {es : List Expr} {te : TE} {t : TA} {pos : Pos}
theorem pa_nil : PA X [] tNil := fun _ _ _ _ H Q I h => Calls.spliced_nil ⟨[], H, I, .nil, h⟩
theorem pa_cons (ha : PE X e te) (hr : PA X es t) (hs : starEach (e :: es) X.env = (false, eval e X.env) :: starEach es X.env := by rfl) : PA X (e :: es) (tCons te t) := by
  intro pos pins s σ H Q I h
  rw [hs]
  show wpAny _ _ (spliced ((false, eval e X.env) :: backTo pos (starEach es X.env))) _ _ s
  refine Calls.spliced_cons (thn (ha pins s σ H _ I h) fun u s1 ⟨x, H1, I1, r1, q1⟩ => ?_)
  exact thn (hr pos pins s1 σ H1 _ I1 q1) fun us s2 ⟨xs, H2, I2, r2, q2⟩ => ⟨x :: xs, H2, I2, .cons r1 r2, q2⟩

noncomputable def tTup (t : TA) : TE := fun σ H Q => t σ H fun xs H1 => xs.length ≤ sizeLine ∧ ∀ p, H1 p = none → Q (.ref p) (upd H1 p (.tup xs))
noncomputable def tLst (t : TA) : TE := fun σ H Q => t σ H fun xs H1 => xs.length ≤ sizeLine ∧ ∀ p, H1 p = none → Q (.ref p) (upd H1 p (.lst xs))
theorem pe_tup {x1} (h : PA X es t) : PE X (.Tuple es x1 pos) (tTup t) := by
  intro pins s σ H Q I hq
  refine wpAny_Tuple_spliced (thn (h pos pins s σ H _ I hq) fun us s1 ⟨xs, H1, I1, r, z, q⟩ => ⟨by rw [← r.length]; exact z, ?_⟩)
  have hf : H1 s1.heap.objs.size = none := I1.hok.fresh (Nat.le_refl _)
  refine ⟨.ref s1.heap.objs.size, upd H1 s1.heap.objs.size (.tup xs), I1.laid (t' := s1.toks) (fun b u e => Heap.get?_push_of_some _ e) (Nat.le_refl _) ?_, rfl, q _ hf⟩
  exact ⟨z, us, r, ⟨_, Heap.get?_push_size _ rfl, rfl, _, rfl⟩⟩
theorem pe_lst (h : PA X es t) : PE X (.List es pos) (tLst t) := by
  intro pins s σ H Q I hq
  refine wpAny_List_spliced (thn (h pos pins s σ H _ I hq) fun us s1 ⟨xs, H1, I1, r, z, q⟩ => ⟨by rw [← r.length]; exact z, ?_⟩)
  have hf : H1 s1.heap.objs.size = none := I1.hok.fresh (Nat.le_refl _)
  refine ⟨.ref s1.heap.objs.size, upd H1 s1.heap.objs.size (.lst xs), I1.laid (t' := s1.toks) (fun b u e => Heap.get?_push_of_some _ e) (Nat.le_refl _) ?_, rfl, q _ hf⟩
  exact ⟨z, us, 0, r, Heap.get?_push_size _ rfl⟩
end

noncomputable abbrev Sp := List V → Hp → VK → XK → Prop
noncomputable abbrev CXT := List Env → Hp → Shared → XK → Value → Shared → Prop

structure Env0 (P : Program) (w : World) (K : PySem.W.Frag) (mg : Str → Option Value) (base : Heap) (A : Around) (outer : List Env) (s : Shared) (H : Hp) : Prop where
  frames : A.frames = some outer
  mod : Mod K mg base
  bs : ∀ b o, base.get? b = some o → s.heap.get? b = some o ∧ H b = none
  bsz : base.objs.size ≤ s.heap.objs.size
  funs : s.heap.FunFrames base outer
  frf : ∀ b ∈ frs outer, H b = none
  hok : HOk P w H s.heap
  bare : AllBare s.gens
  tabs : TabsIn base H
noncomputable def CE (outer : List Env) (P : Program) (w : World) (H : Hp) (s : Shared) (Q : VK) (u : Value) (s' : Shared) : Prop :=
  ∃ v H', s'.os = s.os ∧ AllBare s'.gens ∧ Un (frs outer) [] H H' s.heap s'.heap ∧ HOk P w H' s'.heap ∧ RelV v u ∧ Q v H'
noncomputable def CR (CX : CXT) (outer : List Env) (P : Program) (w : World) (H : Hp) (s : Shared) (Q : VK) (E : XK) (r : Result) (s' : Shared) : Prop :=
  match r with
  | .ok (.ret u) => CE outer P w H s Q u s'
  | .ok _ => False
  | .error e => CX outer H s E e s'
structure FnOk (P : Program) (w : World) (K : PySem.W.Frag) (mg : Str → Option Value) (base : Heap) (CX : CXT) (k : Nat) (f : Addr) (fd : FuncData) (ps : List Str) (sp : Sp) : Prop where
  len : ∀ vs H Q E, sp vs H Q E → vs.length = ps.length
  run : ∀ (A : Around) (outer : List Env) (s : Shared) (H : Hp) (args : Args) (us : List Value) (vs : List V) (Q : VK) (E : XK), Room k A → Env0 P w K mg base A outer s H → BindsTo s fd args (ps.zip us) → Vals vs us → sp vs H Q E →
    codeAny (model P w) A (.call (.ref f) args) (CR CX outer P w H s Q E) s
theorem FnOk.imp {P : Program} {w : World} {K : PySem.W.Frag} {mg : Str → Option Value} {base : Heap} {CX : CXT} {k : Nat} {f : Addr} {fd : FuncData} {ps : List Str} {sp sp' : Sp} (F : FnOk P w K mg base CX k f fd ps sp)
    (h : ∀ vs H Q E, sp' vs H Q E → sp vs H Q E) : FnOk P w K mg base CX k f fd ps sp' :=
  ⟨fun vs H Q E q => F.len vs H Q E (h _ _ _ _ q), fun A outer s H args us vs Q E hr he hb hv hs => F.run A outer s H args us vs Q E hr he hb hv (h _ _ _ _ hs)⟩

section
variable {X : Cx} {pins : List (Addr × Obj)} {σ : St} {H : Hp} {s s' : Shared}
theorem Inv.env0 (I : Inv X pins σ H s) : Env0 X.prog X.w X.K X.mg X.base X.A X.stack s H :=
  ⟨I.ok.frames, I.ok.mod, I.bs, Nat.le_trans I.ok.bsz I.sz, I.stack, I.stkFree, I.hok, I.bare, I.ok.tabs.un I.base⟩
theorem Inv.after {Q : VK} {u : Value} (I : Inv X pins σ H s) (h : CE X.stack X.prog X.w H s Q u s') : EP X pins σ Q u s' := by
  obtain ⟨v, H', os, bare, un, hok, r, q⟩ := h
  obtain ⟨hh, g, d, t, os'⟩ := s'
  obtain rfl : os' = s.os := os
  exact ⟨v, H', I.call (h' := hh) (g' := g) (d' := d) (t' := t) (ch := []) un hok bare (fun b z => absurd z (by simp)), r, q⟩
end

noncomputable def Binds (K : PySem.W.Frag) (fd : FuncData) (ps : List Str) (ds : List Value) : Prop :=
  ∀ (s : Shared) (us : List Value), K.In s.heap → (us ++ ds).length = ps.length → BindsTo s fd ⟨us, []⟩ (ps.zip (us ++ ds))
theorem Binds.all {K : PySem.W.Frag} {fd : FuncData} {ps : List Str} (h : ∀ us : List Value, us.length = ps.length → bindArgs fd ⟨us, []⟩ = pure (ps.zip us)) : Binds K fd ps [] := fun s us _ hl => by
  rw [List.append_nil] at hl ⊢
  exact .of_eq (h us hl)

section
variable {X : Cx} {CX : CXT} {k : Nat} {f C : Addr} {fd : FuncData} {ps : List Str} {sp : Sp} {dvs : List V} {ds : List Value} {E : XK} {x m : Str} {p pos apos : Pos} {e o : Expr} {es : List Expr} {ta : TE} {t : TA}

structure Mk (K : PySem.W.Frag) (C f : Addr) : Prop where
  makes : PySem.W.makesIn K C = true
  init : PySem.W.findIn K (.ref C) "__init__" = some (some (.ref f))
  fn : PySem.W.isFn K (.ref f) = true
  kp : PySem.W.keepIn K (.ref C) = true

end

section
variable {X : Cx} {CX : CXT} {k : Nat} {f C : Addr} {fd : FuncData} {ps ks : List Str} {sp : Sp} {E : XK} {x m : Str} {p pos apos kpos : Pos} {e o : Expr} {es : List Expr} {kws : List Keyword} {te ta : TE} {t tk : TA} {nm : Option Str}
structure KBinds (K : PySem.W.Frag) (fd : FuncData) (ps ks : List Str) (g : List Value → List Value → List Value) (gV : List V → List V → List V) : Prop where
  to : ∀ (s : Shared) (us ws : List Value), K.In s.heap → (g us ws).length = ps.length → BindsTo s fd ⟨us, ks.zip ws⟩ (ps.zip (g us ws))
  rel : ∀ {vs : List V} {us : List Value} {zs : List V} {ws : List Value}, Vals vs us → Vals zs ws → Vals (gV vs zs) (g us ws)
variable {g : List Value → List Value → List Value} {gV : List V → List V → List V}
end

structure FnScope (N P : List Str) (sc : Scope) : Prop where
  kind : sc.kind = .function
  co : sc.isCoroutine = false
  gen : sc.isGenerator = false
  nd : N.Nodup
  pre : N.take P.length = P
  par : ∀ x ∈ P, sc.names.lookup x = some .local ∨ sc.names.lookup x = some .cell
  nofree : ∀ y ∈ sc.names, y.2 ≠ .free

theorem bindL_out {kindOf : Str → Option NameKind} {x : Str} : ∀ {binds : List (Str × Value)} {m : Str → Option Value}, (∀ v, (x, v) ∉ binds) → bindL kindOf binds m x = m x
  | [], _, _ => rfl
  | (n, v) :: r, m, h => by
    unfold bindL
    rw [bindL_out fun w hw => h w (List.mem_cons_of_mem _ hw)]
    split
    · have : x ≠ n := by rintro rfl; exact h v List.mem_cons_self
      simp [this]
    · rfl
theorem bindC_out {kindOf : Str → Option NameKind} {x : Str} : ∀ {binds : List (Str × Value)} {m : Str → Option Value}, (∀ v, (x, v) ∉ binds) → bindC kindOf binds m x = m x
  | [], _, _ => rfl
  | (n, v) :: r, m, h => by
    unfold bindC
    rw [bindC_out fun w hw => h w (List.mem_cons_of_mem _ hw)]
    split
    · rfl
    · have : x ≠ n := by rintro rfl; exact h v List.mem_cons_self
      simp [this]
theorem bindL_get {kindOf : Str → Option NameKind} {x : Str} {v : Value} : ∀ {P : List Str} {vs : List Value} {i : Nat} {m : Str → Option Value}, P.Nodup → P[i]? = some x → vs[i]? = some v → kindOf x = some .local →
    bindL kindOf (P.zip vs) m x = some v
  | [], _, _, _, _, h, _, _ => by simp at h
  | _ :: _, [], _, _, _, _, h, _ => by simp at h
  | p :: P, w :: vs, 0, m, nd, h1, h2, hk => by
    simp at h1 h2; subst h1; subst h2
    show bindL kindOf ((p, w) :: P.zip vs) m p = _
    unfold bindL
    rw [bindL_out fun v hv => (List.nodup_cons.mp nd).1 (List.of_mem_zip hv).1, if_pos hk]
    simp
  | p :: P, w :: vs, i + 1, m, nd, h1, h2, hk => by
    show bindL kindOf ((p, w) :: P.zip vs) m x = _
    unfold bindL
    exact bindL_get (i := i) (List.nodup_cons.mp nd).2 (by simpa using h1) (by simpa using h2) hk
theorem bindC_get {kindOf : Str → Option NameKind} {x : Str} {v : Value} : ∀ {P : List Str} {vs : List Value} {i : Nat} {m : Str → Option Value}, P.Nodup → P[i]? = some x → vs[i]? = some v → kindOf x ≠ some .local →
    bindC kindOf (P.zip vs) m x = some v
  | [], _, _, _, _, h, _, _ => by simp at h
  | _ :: _, [], _, _, _, _, h, _ => by simp at h
  | p :: P, w :: vs, 0, m, nd, h1, h2, hk => by
    simp at h1 h2; subst h1; subst h2
    show bindC kindOf ((p, w) :: P.zip vs) m p = _
    unfold bindC
    rw [bindC_out fun v hv => (List.nodup_cons.mp nd).1 (List.of_mem_zip hv).1, if_neg hk]
    simp
  | p :: P, w :: vs, i + 1, m, nd, h1, h2, hk => by
    show bindC kindOf ((p, w) :: P.zip vs) m x = _
    unfold bindC
    exact bindC_get (i := i) (List.nodup_cons.mp nd).2 (by simpa using h1) (by simpa using h2) hk

noncomputable def start (N : List Str) (vs : List V) : St := vs.map some ++ List.replicate (N.length - vs.length) none

noncomputable def cxOf (CX : CXT) (P : Program) (w : World) (K : PySem.W.Frag) (mg : Str → Option Value) (base : Heap) (N : List Str) (qual : Str) (scope : Scope) (f : Addr) (cd : Value) (A : Around) (outer : List Env) (s : Shared) (H : Hp) (E : XK) : Cx where
  prog := P
  w := w
  K := K
  mg := mg
  base := base
  A := A.deeper (envOfC qual scope s.heap.objs.size f cd)
  N := N
  s₀ := s
  H₀ := H
  env := envOfC qual scope s.heap.objs.size f cd
  outer := outer
  stack := envOfC qual scope s.heap.objs.size f cd :: outer
  ex := []
  calm := true
  fn := fun _ => true
  pn := []
  xe := fun e s' => wpAny (model P w) (A.deeper (envOfC qual scope s.heap.objs.size f cd)) (leaving (envOfC qual scope s.heap.objs.size f cd) e) (fun _ s'' => CX outer H s E e s'') (fun e' s'' => CX outer H s E e' s'') s'

theorem cell_has {sc : Scope} {n : Nat} {x : Str} (h : sc.names.lookup x = some .cell) : ∃ c, (cellsFrom n sc.names []).lookup x = some c := by
  have q := PySem.W.cellsFrom_some sc.names n [] (.inl h)
  exact Option.isSome_iff_exists.mp q

theorem inv_start {CX : CXT} {P : Program} {w : World} {K : PySem.W.Frag} {mg : Str → Option Value} {base : Heap} {N ps : List Str} {qual : Str} {scope : Scope} {f : Addr} {cd : Value} {A : Around} {outer : List Env} {s s1 : Shared} {H : Hp} {E : XK} {us : List Value} {vs : List V}
    (S : FnScope N ps scope) (hd : A.handled = none) (e0 : Env0 P w K mg base A outer s H) (hl : vs.length = ps.length) (r : Vals vs us)
    (x : InCallC s s.heap.objs.size (bindL (envOfC qual scope s.heap.objs.size f cd).kindOf (ps.zip us) fun _ => none) (cellsFrom (s.heap.objs.size + 1) scope.names []) (bindC (envOfC qual scope s.heap.objs.size f cd).kindOf (ps.zip us) fun _ => none) s1) :
    Inv (cxOf CX P w K mg base N qual scope f cd A outer s H E) [] (start N vs) H s1 := by
  have hpl : ps.length ≤ N.length := by have := congrArg List.length S.pre; rw [List.length_take] at this; omega
  obtain ⟨h1, tk, rfl, hk⟩ := x.done
  have noA : ∀ b : Addr, b ∉ (cxOf CX P w K mg base N qual scope f cd A outer s H E).ex := fun b z => absurd (show b ∈ ([] : List Addr) from z) (by simp)
  refine ⟨⟨e0.mod, S.kind, rfl, rfl, Nat.le_refl _, fun y z c h1 h2 => ?_, fun y hy => ?_, fun y c _ h => ?_, fun _ => hd, Around.frames_deeper e0.frames, .inr ⟨rfl, rfl⟩, fun b z => absurd z (noA b), e0.bs, e0.bsz, fun b _ _ => noA b, fun b z => absurd z (noA b), e0.funs, e0.frf, e0.tabs⟩,
    rfl, e0.bare, Un.kept hk, ⟨_, x.toInCall.ns, fun i y v h1 h2 h3 => ?_⟩, fun y c h => ⟨_, x.cell y c h⟩, e0.hok.fresh (Nat.le_refl _), fun y c h => ?_, fun p hp => absurd (show p ∈ ([] : List (Addr × Obj)) from hp) (by simp), e0.hok.kept hk, ?_⟩
  · exact name_of_addr x.apart (PySem.mem_of_lookup h1) (PySem.mem_of_lookup h2)
  · have hy : scope.names.lookup y = some .cell ∨ scope.names.lookup y = some .free := hy
    rcases hy with hy | hy
    · exact cell_has hy
    · exact absurd rfl (S.nofree _ (PySem.mem_of_lookup hy))
  · exact Nat.le_of_lt (x.above y c (PySem.mem_of_lookup h))
  · have hi : i < vs.length := by
      unfold start at h2
      by_cases hi : i < vs.length
      · exact hi
      · rw [List.getElem?_append_right (by simpa using hi)] at h2
        rw [List.getElem?_replicate] at h2
        split at h2 <;> cases h2
    have ha : vs[i]? = some v := by
      unfold start at h2
      rw [List.getElem?_append_left (by simpa using hi), List.getElem?_map] at h2
      cases e : vs[i]? with
      | none => rw [e] at h2; cases h2
      | some a => rw [e] at h2; cases h2; rfl
    obtain ⟨u, hu, rv⟩ := r.get ha
    have hp : ps[i]? = some y := by
      rw [← S.pre, List.getElem?_take_of_lt (by omega)]; exact h1
    have ndP : ps.Nodup := by rw [← S.pre]; exact S.nd.sublist (List.take_sublist _ _)
    refine ⟨u, rv, ?_⟩
    rcases S.par y (List.mem_of_getElem? hp) with k | k
    · exact .inl ⟨k, bindL_get ndP hp hu k⟩
    · obtain ⟨c, e⟩ := cell_has (n := s.heap.objs.size + 1) k
      refine .inr ⟨.inl k, c, e, ?_⟩
      have q := x.cell y c e
      rw [bindC_get ndP hp hu (by show scope.names.lookup y ≠ _; rw [k]; decide)] at q
      exact q
  · exact e0.hok.fresh (Nat.le_of_lt (x.above y c (PySem.mem_of_lookup h)))
  · unfold start
    show _ = N.length
    rw [List.length_append, List.length_map, List.length_replicate]
    omega

theorem fn_of {CX : CXT} {P : Program} {w : World} {K : PySem.W.Frag} {mg : Str → Option Value} {base : Heap} {k : Nat} {f : Addr} {name qual : Str} {params : Arguments} {body : List Stmt} {scope : Scope} {dV kV doc pm cdv ct oc : Value} {an od : Option Addr}
    {osl : Array (Option Value)} {N ps : List Str} {sp : Sp} (lk : K.lookup f = some ⟨oc, od, .func (PySem.W.fnOf name qual params body scope dV kV doc pm an cdv ct), osl⟩) (hcd : PySem.W.codeIn K cdv qual = true) (S : FnScope N ps scope)
    (len : ∀ vs H Q E, sp vs H Q E → vs.length = ps.length)
    (hbody : ∀ (A : Around) (outer : List Env) (s : Shared) (H : Hp) (vs : List V) (Q : VK) (E : XK), Room k (A.deeper (envOfC qual scope s.heap.objs.size f cdv)) → sp vs H Q E →
      ∃ t, PSs (cxOf CX P w K mg base N qual scope f cdv A outer s H E) body t ∧ t { nx := fun _ H' => Q .non H', rt := Q } (start N vs) H) :
    FnOk P w K mg base CX (k + 1) f (PySem.W.fnOf name qual params body scope dV kV doc pm an cdv ct) ps sp := by
  refine ⟨len, fun A outer s H args us vs Q E hr e0 hb r hsp => ?_⟩
  have hl := len _ _ _ _ hsp
  have KX : K.In s.heap := e0.mod.kin.keeps fun b o e => (e0.bs b o e).1
  have lim : s.heap.NoLimit := e0.mod.nolimit.keeps fun b o e => (e0.bs b o e).1
  have hkind : ∀ y ∈ ps.zip us, scope.names.lookup y.1 = some .local ∨ (scope.names.lookup y.1 = some .cell ∧ ((cellsFrom (s.heap.objs.size + 1) scope.names []).lookup y.1).isSome = true) := fun ⟨n, v⟩ hy => by
    rcases S.par n (List.of_mem_zip hy).1 with q | q
    · exact .inl q
    · exact .inr ⟨q, PySem.W.cellsFrom_some _ _ _ (.inl q)⟩
  refine codeAny_call_function hr.depth (KX _ _ lk) rfl S.co S.gen rfl (PySem.W.codeRec_of KX hcd) (hb _ _ _ _ ?_)
  refine wpAny_newFunctionEnv_cells S.kind hkind fun env he s1 x => ?_
  subst he
  refine ⟨lim.keeps x.toInCall.keep, codeAny_func ?_⟩
  obtain ⟨t, ht, hq⟩ := hbody A outer s H vs Q E (hr.deeper _) hsp
  have I : Inv (cxOf CX P w K mg base N qual scope f cdv A outer s H E) [] (start N vs) H s1 := inv_start S hr.hd e0 hl r x
  refine wpAny_mono (ht [] s1 (start N vs) H _ I hq) (fun fl s' hs => ?_) fun e s' hs => hs
  have fin : ∀ {σ' : St} {H' : Hp} {v : V} {u : Value}, Inv (cxOf CX P w K mg base N qual scope f cdv A outer s H E) [] σ' H' s' → RelV v u → Q v H' → CE outer P w H s Q u s' :=
    fun {σ' H' v u} J rv q => ⟨v, H', J.os, J.bare, J.base, J.hok, rv, q⟩
  cases fl with
  | ret u =>
    obtain ⟨v, σ', H', J, rv, q⟩ := hs
    exact fin J rv q
  | next =>
    obtain ⟨σ', H', J, q⟩ := hs
    exact fin (v := V.non) (u := Value.none) J rfl q
  | brk =>
    obtain ⟨_, _, _, q⟩ := hs
    exact False.elim q
  | cont =>
    obtain ⟨_, _, _, q⟩ := hs
    exact False.elim q
end L2

namespace L2
open PySem PySem.Spec PyProof.Rows
section
variable {X : Cx} {x : Str} {p pos : Pos} {e : Expr} {es : List Expr} {t : TA} {id T : String} {r : List V → Hp → VK → Prop}

noncomputable def tCB (r : List V → Hp → VK → Prop) (t : TA) : TE := fun σ H Q => t σ H fun vs H1 => r vs H1 Q
theorem pe_callB (hc : CallR X (.builtin id) r) (hg : Gl X x) (hm : X.mg x = none) (hv : bootBuiltins x = some (.builtin id)) (ha : PA X (e :: es) t) (hn : x ≠ "__name__" := by decide) (hdb : (x == ("__debug__" : Str)) = false := by decide)
    (he : starEach (e :: es) X.env = (false, eval e X.env) :: starEach es X.env := by rfl) (hpl : (backTo pos (starEach es X.env)).any (·.1) = false := by rfl) : PE X (.Call (.Name x p) (e :: es) [] pos) (tCB r t) := by
  intro pins s σ H Q I h
  refine wpAny_Call_Name_kw (ld_blt I hg hm hv ?_ hn hdb)
  exact PyProof.Rows.callWith_builtin1 (thn (ha pos pins s σ H _ I h) fun us s1 ⟨vs, H1, I1, r1, q1⟩ => hc pins s1 σ H1 vs us Q I1 r1 q1) he hpl
theorem pe_callTy (hc : CallR X (.type T) r) (hg : Gl X x) (hm : X.mg x = none) (hv : bootBuiltins x = some (.type T)) (ha : PA X (e :: es) t) (hn : x ≠ "__name__" := by decide) (hdb : (x == ("__debug__" : Str)) = false := by decide)
    (he : starEach (e :: es) X.env = (false, eval e X.env) :: starEach es X.env := by rfl) (hpl : (backTo pos (starEach es X.env)).any (·.1) = false := by rfl) : PE X (.Call (.Name x p) (e :: es) [] pos) (tCB r t) := by
  intro pins s σ H Q I h
  refine wpAny_Call_Name_kw (ld_blt I hg hm hv ?_ hn hdb)
  exact PyProof.Rows.callWith_type1 (thn (ha pos pins s σ H _ I h) fun us s1 ⟨vs, H1, I1, r1, q1⟩ => hc pins s1 σ H1 vs us Q I1 r1 q1) he hpl
end
end L2

namespace HT
open PySem PyProof.Rows

section
open PySem.SeqAt
open PySem.AutoSeq1 (wpAny_loadPart')
open PySem.MeetsSeq PySem.MeetsSeq2 PySem.MeetsSeq3

end

section
variable {prog : Program} {w : World} {A : Around} {E : Value → Shared → Prop} {s : Shared}

theorem cat_tup {t b : Addr} {vs ws : List Value} {Q : Value → Shared → Prop} (ht : IsTup s.heap t vs.toArray) (hb : IsTup s.heap b ws.toArray) (hv : vs ≠ [])
    (h1 : ws = [] → Q (.ref t) s) (h2 : ws ≠ [] → Q (.ref s.heap.objs.size) { s with heap := s.heap.push { cls := .type "tuple", data := .seq (vs ++ ws).toArray } })
    (hsz : vs.length + ws.length ≤ sizeLine) : wpAny (model prog w) A (binaryOp .Add (.ref t) (.ref b)) Q E s := by
  obtain ⟨⟨cls, dd, data, sl⟩, ho, hc, n, hd⟩ := id ht
  obtain ⟨⟨cls2, dd2, data2, sl2⟩, ho2, hc2, n2, hd2⟩ := id hb
  simp only at hc hd hc2 hd2
  subst hc hd hc2 hd2
  have e : vs.toArray ++ ws.toArray = (vs ++ ws).toArray := by simp
  by_cases hw : ws = []
  · exact concat_meets ⟨_, ho, rfl⟩ ⟨_, ho2, rfl⟩ noFill_tuple_add seq_tuple_add PySem.F.slot_tuple_add PySem.F.entry_tuple_add (PySem.F.args_tuple_add_2 _ _)
      (tuple_addW1 t b vs.toArray ws.toArray n n2 dd dd2 sl sl2 (by simpa using hv) (by simp [hw])) ⟨ho, ho2, h1 hw⟩
  · refine concat_meets ⟨_, ho, rfl⟩ ⟨_, ho2, rfl⟩ noFill_tuple_add seq_tuple_add PySem.F.slot_tuple_add PySem.F.entry_tuple_add (PySem.F.args_tuple_add_2 _ _)
      (tuple_addW2 t b vs.toArray ws.toArray n n2 dd dd2 sl sl2 (by simpa using hv) (by simpa using hw) (by rw [List.size_toArray, List.size_toArray]; exact hsz)) ⟨ho, ho2, ?_⟩
    rw [e]
    exact h2 hw

noncomputable def sIx (n d : Nat) : Option Int → Nat
  | none => d
  | some v => if v < 0 then (v + (n : Int)).toNat else min v.toNat n
theorem sIx_none (n d : Nat) : sIx n d none = d := rfl
theorem sIx_nat (n d k : Nat) : sIx n d (some (k : Int)) = min k n := by
  show (if (k : Int) < 0 then ((k : Int) + (n : Int)).toNat else min (k : Int).toNat n) = min k n
  rw [if_neg (by omega), Int.toNat_natCast]
theorem sIx_le (n d : Nat) (hd : d ≤ n) (o : Option Int) : sIx n d o ≤ n := by
  cases o with
  | none => exact hd
  | some v =>
    show (if v < 0 then (v + (n : Int)).toNat else min v.toNat n) ≤ n
    by_cases hv : v < 0
    · rw [if_pos hv]; omega
    · rw [if_neg hv]; exact Nat.min_le_right _ _
theorem clip_eq (v : Int) (n d : Nat) : (if v < 0 then max (v + (n : Int)) 0 else min v (n : Int)) = ((sIx n d (some v) : Nat) : Int) := by
  show (if v < 0 then max (v + (n : Int)) 0 else min v (n : Int)) = (((if v < 0 then (v + (n : Int)).toNat else min v.toNat n) : Nat) : Int)
  by_cases hv : v < 0
  · simp only [if_pos hv]; omega
  · simp only [if_neg hv]; omega
theorem adjust_gen (lo hi : Option Int) (n : Nat) : Builtin.Slice.sliceAdjust lo hi 1 (n : Int) = (((sIx n 0 lo : Nat) : Int), ((sIx n n hi : Nat) : Int)) := by
  have h1 : ¬ ((1 : Int) < 0) := by omega
  unfold Builtin.Slice.sliceAdjust
  simp only [h1, if_false]
  refine Prod.ext ?_ ?_
  · cases lo with
    | none => rfl
    | some v => exact clip_eq v n 0
  · cases hi with
    | none => rfl
    | some v => exact clip_eq v n n
theorem places_gen (i j : Nat) : Builtin.Slice.slicePlaces (i : Int) (j : Int) 1 = j - i := by
  unfold Builtin.Slice.slicePlaces
  have h1 : (1 : Int) > 0 := by omega
  simp only [h1, if_true, Int.ediv_one]
  split <;> omega
theorem slicePart_ {v : Value} {o : Option Int} {Q : Option Int → Shared → Prop} (p : IsPart v o) (h : Q o s) : wpAny (model prog w) A (Builtin.Slice.slicePartIndex v) Q E s := by
  cases p with
  | none => exact slicePart_none h
  | int i t => exact slicePart_int h
theorem sliceApplied_gen {sl : Addr} {vl vu : Value} {lo hi : Option Int} {n : Nat} {Q : Int × Int × Nat → Shared → Prop} (hs : s.heap.IsSliceOf sl vl vu .none) (pl : IsPart vl lo) (pu : IsPart vu hi)
    (h : Q (((sIx n 0 lo : Nat) : Int), 1, sIx n n hi - sIx n 0 lo) s) : wpAny (model prog w) A (Builtin.Slice.sliceApplied (.ref sl) (pure (n : Int))) Q E s := by
  obtain ⟨os, hos, hcs, hds⟩ := id hs
  unfold Builtin.Slice.sliceApplied Builtin.Slice.sliceFields
  refine wpAny_bind (wpAny_bind (wpAny_field hos hds (x := vl) rfl (wpAny_bind (wpAny_field hos hds (x := vu) rfl (wpAny_bind (wpAny_field hos hds (x := .none) rfl (wpAny_pure ?_)))))))
  refine wpAny_bind (slicePart_none ?_)
  show wpAny _ _ (if ((1 : Int) == 0) = true then _ else _) _ _ s
  rw [if_neg (by decide)]
  refine wpAny_bind (slicePart_ pl (wpAny_bind (slicePart_ pu (wpAny_bind (wpAny_pure ?_)))))
  show wpAny _ _ (match Builtin.Slice.sliceAdjust lo hi 1 (n : Int) with | (lo, hi) => pure (lo, (1 : Int), Builtin.Slice.slicePlaces lo hi 1)) _ _ s
  rw [adjust_gen lo hi n]
  show wpAny _ _ (pure (((sIx n 0 lo : Nat) : Int), (1 : Int), Builtin.Slice.slicePlaces ((sIx n 0 lo : Nat) : Int) ((sIx n n hi : Nat) : Int) 1)) _ _ s
  rw [places_gen]
  exact wpAny_pure h
theorem pick_gen (xs : Array Value) (i k : Nat) : ((List.range k).filterMap fun (m : Nat) => xs[((i : Int) + (m : Int) * 1).toNat]?).toArray = ((xs.toList.drop i).take k).toArray := by
  have e : (fun (m : Nat) => xs[((i : Int) + (m : Int) * 1).toNat]?) = fun m => xs[i + m]? := by
    funext m
    have : ((i : Int) + (m : Int) * 1).toNat = i + m := by omega
    rw [this]
  rw [e]
  have := pick_run xs i k
  rw [List.filterMap_map] at this
  have e2 : ((fun x => xs[x]?) ∘ fun x => i + x) = fun m => xs[i + m]? := rfl
  rw [e2] at this
  rw [this]

theorem getItem_tuple_cut {t sl : Addr} {items : Array Value} {vl vu : Value} {lo hi : Option Int} {Q : Value → Shared → Prop} (ht : IsTup s.heap t items) (hs : s.heap.IsSliceOf sl vl vu .none) (pl : IsPart vl lo) (pu : IsPart vu hi)
    (hw : ¬ (sIx items.size 0 lo = 0 ∧ sIx items.size items.size hi = items.size))
    (h : Q (.ref s.heap.objs.size) { s with heap := s.heap.push { cls := .type "tuple", data := .seq ((items.toList.drop (sIx items.size 0 lo)).take (sIx items.size items.size hi - sIx items.size 0 lo)).toArray } })
    (hsz : items.size ≤ sizeLine) : wpAny (model prog w) A (getItem (.ref t) (.ref sl)) Q E s := by
  have htake : sizeOk (.seq ((items.toList.drop (sIx items.size 0 lo)).take (sIx items.size items.size hi - sIx items.size 0 lo)).toArray) := by
    show ((items.toList.drop (sIx items.size 0 lo)).take (sIx items.size items.size hi - sIx items.size 0 lo)).toArray.size ≤ sizeLine
    rw [List.size_toArray, List.length_take, List.length_drop, Array.length_toList]
    omega
  have hj : sIx items.size items.size hi ≤ items.size := sIx_le _ _ (Nat.le_refl _) hi
  obtain ⟨os, hos, hcs, hds⟩ := id hs
  have hTs : s.TypeIs (.ref sl) "slice" := ⟨os, hos, hcs⟩
  unfold getItem
  try with_reducible refine wpAny_holding ?_
  first | refine wpAny_bind (wpAny_pure ?_) | skip
  refine wpAny_bind (wpAny_sequenceKey ht.typeIs (by decide) ?_)
  refine wpAny_bind (wpAny_callSpecial?_slot (name := Str.ofString "__getitem__") ht.typeIs PyProof.Rows.slot_tuple_getitem
    (wpAny_call_entry PyProof.Rows.slot_tuple_getitem ht.typeIs entry_tuple_getitem ?_ (args_tuple_getitem _ _)))
  show wpAny _ _ (Builtin.Tuple.tupleItemsOf (.ref t) >>= _) _ _ s
  refine wpAny_bind (tupleItemsOf_ ht ?_)
  refine wpAny_bind (wpAny_typeOf hTs ?_)
  rw [if_pos (by decide)]
  refine wpAny_bind (sliceApplied_gen hs pl pu ?_)
  have hno : ¬ ((((sIx items.size 0 lo : Nat) : Int) == 0 && (1 : Int) == 1 && (sIx items.size items.size hi - sIx items.size 0 lo) == items.size) = true) := by
    intro q
    rw [Bool.and_eq_true, Bool.and_eq_true] at q
    have q1 : ((sIx items.size 0 lo : Nat) : Int) = 0 := eq_of_beq q.1.1
    have q2 : sIx items.size items.size hi - sIx items.size 0 lo = items.size := eq_of_beq q.2
    exact hw ⟨by omega, by omega⟩
  show wpAny _ _ (if (((sIx items.size 0 lo : Nat) : Int) == 0 && (1 : Int) == 1 && (sIx items.size items.size hi - sIx items.size 0 lo) == items.size) = true then _ else _) _ _ s
  rw [if_neg hno, pick_gen]
  first
    | exact wpAny_bind (m := Builtin.Tuple.tupleExact _) (wpAny_newObj_type (wpAny_pure ⟨_, rfl, wpAny_pure h⟩) htake)
    | exact wpAny_bind (m := Builtin.Tuple.tupleExact _) (wpAny_newObj_type (wpAny_bind (wpAny_pure (wpAny_pure ⟨_, rfl, wpAny_pure h⟩))) htake)
    | exact wpAny_bind (wpAny_bind (m := Builtin.Tuple.tupleExact _) (wpAny_newObj_type (wpAny_pure (wpAny_pure ⟨_, rfl, wpAny_pure h⟩)) htake))
    | exact wpAny_bind (wpAny_bind (m := Builtin.Tuple.tupleExact _) (wpAny_newObj_type (wpAny_pure ⟨_, rfl, wpAny_pure h⟩) htake))
end
end HT

namespace L2
open PySem PySem.Spec PyProof.Rows

noncomputable abbrev TO := St → Hp → (Option Int → Hp → Prop) → Prop
noncomputable def PO (X : Cx) (e : Option Expr) (t : TO) : Prop :=
  ∀ (pins : List (Addr × Obj)) (s : Shared) (σ : St) (H : Hp) (Q : Option Int → Hp → Prop), Inv X pins σ H s → t σ H Q →
    wpAny (model X.prog X.w) X.A (evalPart e X.env) (fun u s' => ∃ o H', Inv X pins σ H' s' ∧ IsPart u o ∧ Q o H') X.xe s
noncomputable def tNoPart : TO := fun _ H Q => Q none H
noncomputable def tPart (t : TE) : TO := fun σ H Q => t σ H fun x H1 => ∃ i, x = .int i ∧ Q (some i) H1

section
variable {X : Cx} {e : Expr} {te : TE} {lo hi : Option Expr} {tl th : TO} {pos p2 : Pos}

theorem po_none : PO X none tNoPart := by
  intro pins s σ H Q I h
  rw [evalPart_none]
  exact wpAny_pure ⟨none, H, I, .none, h⟩
theorem po_some (h : PE X e te) : PO X (some e) (tPart te) := by
  intro pins s σ H Q I hw
  rw [evalPart_some]
  refine thn (h pins s σ H _ I hw) fun u s1 ⟨x, H1, I1, r1, q1⟩ => ?_
  obtain ⟨i, rfl, q⟩ := q1
  obtain ⟨t, rfl⟩ := r1
  exact ⟨some i, H1, I1, .int i t, q⟩

noncomputable def SlR (X : Cx) (r : V → Option Int → Option Int → Hp → VK → Prop) : Prop :=
  ∀ (pins : List (Addr × Obj)) (s : Shared) (σ : St) (H : Hp) (x : V) (v vl vu : Value) (lo hi : Option Int) (sl : Addr) (Q : VK), Inv X pins σ H s → RelV x v → s.heap.IsSliceOf sl vl vu .none → IsPart vl lo → IsPart vu hi → r x lo hi H Q →
    ∃ T id, typeLookup (.type T) "__getitem__" = pure (some (.builtin id)) ∧ s.TypeIs v T ∧ wpAny (model X.prog X.w) X.A (getItem v (.ref sl)) (EP X pins σ Q) X.xe s
theorem SlR.or {r r' : V → Option Int → Option Int → Hp → VK → Prop} (h : SlR X r) (h' : SlR X r') : SlR X (fun x lo hi H Q => r x lo hi H Q ∨ r' x lo hi H Q) := by
  intro pins s σ H x v vl vu lo hi sl Q I rx hs pl pu q
  rcases q with q | q
  · exact h pins s σ H x v vl vu lo hi sl Q I rx hs pl pu q
  · exact h' pins s σ H x v vl vu lo hi sl Q I rx hs pl pu q
noncomputable def tSl (r : V → Option Int → Option Int → Hp → VK → Prop) (te : TE) (tl th : TO) : TE := fun σ H Q => te σ H fun x H1 => tl σ H1 fun l H2 => th σ H2 fun u H3 => r x l u H3 Q
theorem pe_slice {r : V → Option Int → Option Int → Hp → VK → Prop} (hr : SlR X r) (he : PE X e te) (hl : PO X lo tl) (hu : PO X hi th) : PE X (.Subscript e (.Slice lo hi none p2) pos) (tSl r te tl th) := by
  intro pins s σ H Q I h
  refine Subscript_ (thn (he pins s σ H _ I h) fun v s1 ⟨x, H1, I1, r1, q1⟩ => ?_)
  refine wpAny_Slice (thn (hl pins s1 σ H1 _ I1 q1) fun vl s2 ⟨l, H2, I2, pl, q2⟩ => thn (hu pins s2 σ H2 _ I2 q2) fun vu s3 ⟨u, H3, I3, pu, q3⟩ => ?_)
  rw [evalPart_none]
  refine wpAny_pure ?_
  have I4 : Inv X pins σ H3 { s3 with heap := s3.heap.push { cls := .type "slice", data := .fields #[vl, vu, .none] } } := I3.kept (t' := s3.toks) fun b ob q => Heap.get?_push_of_some _ q
  obtain ⟨T, id, hT, ht, hg⟩ := hr pins { s3 with heap := s3.heap.push { cls := .type "slice", data := .fields #[vl, vu, .none] } } σ H3 x v vl vu l u s3.heap.objs.size Q I4 r1 (Heap.IsSliceOf.new ..) pl pu q3
  show wpAny (model X.prog X.w) X.A (subscriptTail e (.Slice lo hi none p2) v (.ref s3.heap.objs.size)) (EP X pins σ Q) X.xe { s3 with heap := s3.heap.push { cls := .type "slice", data := .fields #[vl, vu, .none] } }
  exact tail_any (ops := [.ref s3.heap.objs.size, v]) ht hT hg (by with_unfolding_all rfl)

noncomputable def cutV (xs : List V) (lo hi : Option Int) : List V := (xs.drop (HT.sIx xs.length 0 lo)).take (HT.sIx xs.length xs.length hi - HT.sIx xs.length 0 lo)
theorem cutV_length (xs : List V) (lo hi : Option Int) : (cutV xs lo hi).length ≤ xs.length := by
  unfold cutV
  rw [List.length_take, List.length_drop]
  omega
noncomputable def rSlT (K : PySem.W.Frag) : V → Option Int → Option Int → Hp → VK → Prop := fun x lo hi H Q => ∃ a xs, x = .ref a ∧ SqT K H a xs ∧
  ¬ (HT.sIx xs.length 0 lo = 0 ∧ HT.sIx xs.length xs.length hi = xs.length) ∧ ∀ p, H p = none → Q (.ref p) (upd H p (.tup (cutV xs lo hi)))
theorem sl_tup : SlR X (rSlT X.K) := by
  intro pins s σ H x v vl vu lo hi sl Q I rx hs pl pu h
  obtain ⟨a, xs, rfl, hx, hw, q⟩ := h
  cases rx
  obtain ⟨its, r, ht, hz⟩ := I.tuple hx
  have hlen : its.toArray.size = xs.length := by rw [List.size_toArray]; exact r.length.symm
  refine ⟨"tuple", _, PyProof.Rows.slot_tuple_getitem.lookup, ht.typeIs, ?_⟩
  refine HT.getItem_tuple_cut ht hs pl pu (by rw [hlen]; exact hw) ?_ (by rw [hlen]; exact hz)
  rw [hlen]
  refine ⟨.ref s.heap.objs.size, _, I.laid (t' := s.toks) (o := .tup (cutV xs lo hi)) (fun b ob q => Heap.get?_push_of_some _ q) (Nat.le_refl _) ?_, rfl, q _ (I.hok.fresh (Nat.le_refl _))⟩
  exact ⟨Nat.le_trans (cutV_length xs lo hi) hz, _, (r.drop (HT.sIx xs.length 0 lo)).take (HT.sIx xs.length xs.length hi - HT.sIx xs.length 0 lo), IsTup.new _ _⟩

noncomputable def rCatT (K : PySem.W.Frag) : R2 := fun x y H Q => ∃ a b xs ys, x = .ref a ∧ y = .ref b ∧ SqT K H a xs ∧ SqT K H b ys ∧ xs ≠ [] ∧ xs.length + ys.length ≤ sizeLine ∧
  (ys = [] → Q (.ref a) H) ∧ (ys ≠ [] → ∀ p, H p = none → Q (.ref p) (upd H p (.tup (xs ++ ys))))
theorem Vals.nil_iff {xs : List V} {us : List Value} (r : Vals xs us) : us = [] ↔ xs = [] := by
  cases r with
  | nil => simp
  | cons _ _ => simp
theorem op_catT : OpR X (binaryOp .Add) (rCatT X.K) := by
  intro pins s σ H x y v u Q I rx ry h
  obtain ⟨a, b, xs, ys, rfl, rfl, ha, hb, hx, hz, q1, q2⟩ := h
  cases rx
  cases ry
  obtain ⟨its, r1, p1, _⟩ := I.tuple ha
  obtain ⟨its2, r2, p2, _⟩ := I.tuple hb
  refine HT.cat_tup p1 p2 (fun z => hx (r1.nil_iff.mp z)) (fun z => ⟨.ref a, H, I, rfl, q1 (r2.nil_iff.mp z)⟩) (fun z => ?_) (by rw [← r1.length, ← r2.length]; exact hz)
  refine ⟨.ref s.heap.objs.size, _, I.laid (t' := s.toks) (o := .tup (xs ++ ys)) (fun b ob q => Heap.get?_push_of_some _ q) (Nat.le_refl _) ?_, rfl, q2 (fun w => z (r2.nil_iff.mpr w)) _ (I.hok.fresh (Nat.le_refl _))⟩
  exact ⟨by rw [List.length_append]; exact hz, _, r1.append r2, IsTup.new _ _⟩
end
end L2

namespace L2
open PySem PySem.Spec PyProof.Rows

noncomputable def ixN (n : Nat) (i : Int) : Option Nat := if 0 ≤ i then (if i < n then some i.toNat else none) else if -(n : Int) ≤ i then some (i + n).toNat else none
noncomputable def atI {α : Type} (xs : List α) (i : Int) : Option α := (ixN xs.length i).bind fun j => xs[j]?
theorem ixN_seq {n : Nat} {i : Int} {j : Nat} (h : ixN n i = some j) : seqIndex? i n = some j ∧ j < n ∧ -(n : Int) ≤ i ∧ i < n := by
  unfold ixN at h
  by_cases h0 : 0 ≤ i
  · rw [if_pos h0] at h
    by_cases h1 : i < n
    · rw [if_pos h1] at h
      have e : i.toNat = j := Option.some.inj h
      exact ⟨by rw [seqIndex_of h0 h1, e], by omega, by omega, h1⟩
    · rw [if_neg h1] at h; cases h
  · rw [if_neg h0] at h
    by_cases h1 : -(n : Int) ≤ i
    · rw [if_pos h1] at h
      have e : (i + n).toNat = j := Option.some.inj h
      exact ⟨by rw [seqIndex_neg (by omega) h1, e], by omega, h1, by omega⟩
    · rw [if_neg h1] at h; cases h
theorem atI_get {α : Type} {xs : List α} {i : Int} {v : α} (h : atI xs i = some v) : ∃ j, seqIndex? i xs.length = some j ∧ xs[j]? = some v ∧ j < xs.length ∧ -(xs.length : Int) ≤ i ∧ i < xs.length := by
  unfold atI at h
  cases e : ixN xs.length i with
  | none => rw [e] at h; cases h
  | some j =>
    rw [e] at h
    obtain ⟨h1, h2, h3, h4⟩ := ixN_seq e
    exact ⟨j, h1, h, h2, h3, h4⟩
theorem atI_nat {α : Type} {xs : List α} {j : Nat} {v : α} (h : xs[j]? = some v) : atI xs (j : Int) = some v := by
  have hj : j < xs.length := (List.getElem?_eq_some_iff.mp h).1
  have e : ixN xs.length (j : Int) = some j := by
    unfold ixN
    rw [if_pos (by omega), if_pos (by omega)]; simp
  unfold atI; rw [e]; exact h
noncomputable def PlainIx (b : Expr) : Prop := ∀ o i, subscripted b false o i = operate [o, i] (getItem o i)
noncomputable def IxR (X : Cx) (r : R2) : Prop :=
  ∀ (value slice : Expr) (pins : List (Addr × Obj)) (s : Shared) (σ : St) (H : Hp) (x y : V) (v u : Value) (Q : VK), Inv X pins σ H s → RelV x v → RelV y u → r x y H Q →
    subscripted slice false v u = operate [v, u] (getItem v u) → wpAny (model X.prog X.w) X.A (subscriptTail value slice v u) (EP X pins σ Q) X.xe s
noncomputable def MtR (X : Cx) (id : String) (r : V → List V → Hp → VK → Prop) : Prop :=
  ∀ (pins : List (Addr × Obj)) (s : Shared) (σ : St) (H : Hp) (x : V) (xs : List V) (v : Value) (us : List Value) (Q : VK), Inv X pins σ H s → RelV x v → Vals xs us → r x xs H Q →
    wpAny (model X.prog X.w) X.A (call (.builtin id) (v :: us)) (EP X pins σ Q) X.xe s
section
variable {X : Cx} {a b : Expr} {ta tb : TE} {pos : Pos}
theorem IxR.or {r r' : R2} (h : IxR X r) (h' : IxR X r') : IxR X (fun x y H Q => r x y H Q ∨ r' x y H Q) := by
  intro value slice pins s σ H x y v u Q I rx ry q hs
  rcases q with q | q
  · exact h value slice pins s σ H x y v u Q I rx ry q hs
  · exact h' value slice pins s σ H x y v u Q I rx ry q hs
theorem pe_ix {r : R2} (hr : IxR X r) (ha : PE X a ta) (hb : PE X b tb) (hs : PlainIx b) : PE X (.Subscript a b pos) (tOp r ta tb) := by
  intro pins s σ H Q I h
  exact Subscript_ (binT ha hb I h fun v u s2 x y H2 I2 rx ry q => hr a b pins s2 σ H2 x y v u Q I2 rx ry q (hs _ _))

noncomputable def rIxL (K : PySem.W.Frag) : R2 := fun x y H Q => ∃ p xs i v, x = .ref p ∧ y = .int i ∧ SqL K H p xs ∧ atI xs i = some v ∧ Q v H
noncomputable def rIxT (K : PySem.W.Frag) : R2 := fun x y H Q => ∃ p xs i v, x = .ref p ∧ y = .int i ∧ SqT K H p xs ∧ atI xs i = some v ∧ Q v H
noncomputable def rIxS : R2 := fun x y H Q => ∃ z i c, x = .str z ∧ y = .int i ∧ z.length ≤ sizeLine ∧ atI z.cps.toList i = some c ∧ Q (.str ⟨#[c]⟩) H
theorem ix_list : IxR X (rIxL X.K) := by
  intro value slice pins s σ H x y v u Q I rx ry h hs
  obtain ⟨p, xs, i, z, rfl, rfl, hq, he, q⟩ := h
  cases rx
  obtain ⟨t, rfl⟩ := ry
  obtain ⟨its, r, pl, hz⟩ := I.list hq
  obtain ⟨j, h1, h2, h3, h4, h5⟩ := atI_get he
  obtain ⟨w, ew, rw'⟩ := r.get h2
  have hl := r.length
  have hn := line63
  have fin : EP X pins σ Q w s := ⟨z, H, I, rw', q⟩
  by_cases h0 : 0 ≤ i
  · have hj : i.toNat = j := by
      rw [seqIndex_of h0 h5] at h1
      exact Option.some.inj h1
    exact item_listR pl.isList h0 (by omega) (by rw [hj]; simpa using ew) fin hs
  · have hj : (i + (its.toArray.size : Int)).toNat = j := by
      rw [seqIndex_neg (by omega) h4] at h1
      rw [List.size_toArray, ← hl]
      exact Option.some.inj h1
    exact subscriptTail_builtinR (x := w) pl.isList.typeIs slot_list_getitem.lookup
      (wpAny_getItem_list_neg (Q := fun r s' => r = w ∧ EP X pins σ Q r s') pl.isList (by omega) (by rw [List.size_toArray] <;> omega) (by omega) (by rw [hj]; simpa using ew) ⟨rfl, fin⟩) hs
theorem ix_tup : IxR X (rIxT X.K) := by
  intro value slice pins s σ H x y v u Q I rx ry h hs
  obtain ⟨p, xs, i, z, rfl, rfl, hq, he, q⟩ := h
  cases rx
  obtain ⟨t, rfl⟩ := ry
  obtain ⟨its, r, pl, hz⟩ := I.tuple hq
  obtain ⟨j, h1, h2, h3, h4, h5⟩ := atI_get he
  obtain ⟨w, ew, rw'⟩ := r.get h2
  have hl := r.length
  have hn := line63
  have fin : EP X pins σ Q w s := ⟨z, H, I, rw', q⟩
  exact subscriptTail_builtinR (x := w) pl.typeIs slot_tuple_getitem.lookup
    (getItem_tuple (j := j) (Q := fun r s' => r = w ∧ EP X pins σ Q r s') pl (by omega) (by omega) (by rw [List.size_toArray, ← hl]; exact h1) (by simpa using ew) ⟨rfl, fin⟩) hs
theorem ix_str : IxR X rIxS := by
  intro value slice pins s σ H x y v u Q I rx ry h hs
  obtain ⟨z, i, c, rfl, rfl, hz, he, q⟩ := h
  obtain ⟨t, rfl⟩ := rx
  obtain ⟨t', rfl⟩ := ry
  obtain ⟨j, h1, h2, h3, h4, h5⟩ := atI_get he
  have hl : z.cps.toList.length = z.length := by simp [Str.length]
  rw [hl] at h1 h4 h5
  have hn := line63
  exact tail_any (typeIs_str s z t) slot_str_getitem.lookup (getItem_str (c := c) (by
    have e1 : decide (i < -(2 ^ 63 : Int)) = false := decide_eq_false (by omega)
    have e2 : decide (i ≥ 2 ^ 63) = false := decide_eq_false (by omega)
    rw [e1, e2, Bool.or_false]) (by rw [h1]; simpa using h2) ⟨.str ⟨#[c]⟩, H, I.tok _, ⟨_, rfl⟩, q⟩) hs
noncomputable def rIx (K : PySem.W.Frag) : R2 := fun x y H Q => rIxL K x y H Q ∨ rIxT K x y H Q ∨ rIxS x y H Q
theorem ix_seq : IxR X (rIx X.K) := ix_list.or (ix_tup.or ix_str)

theorem slice_bounds (lo hi : Option Int) (n : Nat) : (sliceBounds lo hi none n).1 = ((HT.sIx n 0 lo : Nat) : Int) ∧ (sliceBounds lo hi none n).2.1 = ((HT.sIx n n hi : Nat) : Int) ∧ (sliceBounds lo hi none n).2.2 = 1 := by
  refine ⟨?_, ?_, rfl⟩
  · cases lo with
    | none => simp [sliceBounds, HT.sIx]
    | some i =>
      simp only [sliceBounds, HT.sIx, Option.getD_none, show (1 : Int) > 0 by decide, if_true]
      by_cases h : i < 0
      · simp only [h, if_true] <;> omega
      · simp only [h, if_false] <;> omega
  · cases hi with
    | none => simp [sliceBounds, HT.sIx]
    | some i =>
      simp only [sliceBounds, HT.sIx, Option.getD_none, show (1 : Int) > 0 by decide, if_true]
      by_cases h : i < 0
      · simp only [h, if_true] <;> omega
      · simp only [h, if_false] <;> omega
theorem slicePick_cut (its : List Value) (lo hi : Option Int) : slicePick its.toArray lo hi none = ((its.drop (HT.sIx its.length 0 lo)).take (HT.sIx its.length its.length hi - HT.sIx its.length 0 lo)).toArray := by
  obtain ⟨h1, h2, h3⟩ := slice_bounds lo hi its.toArray.size
  unfold slicePick
  rw [h1, h2, h3]
  simp only [sliceRange_one, pick_run, List.size_toArray] <;> rfl
noncomputable def rSlL (K : PySem.W.Frag) : V → Option Int → Option Int → Hp → VK → Prop := fun x lo hi H Q => ∃ a xs, x = .ref a ∧ SqL K H a xs ∧ ∀ p, H p = none → Q (.ref p) (upd H p (.lst (cutV xs lo hi)))
theorem sl_list : SlR X (rSlL X.K) := by
  intro pins s σ H x v vl vu lo hi sl Q I rx hs pl pu h
  obtain ⟨a, xs, rfl, hx, q⟩ := h
  cases rx
  obtain ⟨its, r, ht, hz⟩ := I.list hx
  have hlen := r.length
  refine ⟨"list", _, slot_list_getitem.lookup, ht.isList.typeIs, ?_⟩
  refine wpAny_getItem_list_slice ht.isList hs pl pu .none (by simp) ?_ (by rw [List.size_toArray] <;> omega)
  rw [slicePick_cut, ← hlen]
  refine ⟨.ref s.heap.objs.size, _, I.laid (t' := s.toks) (o := .lst (cutV xs lo hi)) (fun b ob q => Heap.get?_push_of_some _ q) (Nat.le_refl _) ?_, rfl, q _ (I.hok.fresh (Nat.le_refl _))⟩
  exact ⟨Nat.le_trans (cutV_length xs lo hi) hz, _, 0, (r.drop (HT.sIx xs.length 0 lo)).take (HT.sIx xs.length xs.length hi - HT.sIx xs.length 0 lo), Heap.get?_push_size _ rfl⟩

theorem call_tuple_of : CallR X (.type "tuple") (fun xs H Q => ∃ p ys, xs = [.ref p] ∧ ((SqL X.K H p ys ∧ ∀ l, H l = none → Q (.ref l) (upd H l (.tup ys))) ∨ (SqT X.K H p ys ∧ Q (.ref p) H))) := by
  intro pins s σ H xs us Q I r h
  obtain ⟨p, ys, rfl, h⟩ := h
  obtain ⟨u, rfl, rx⟩ := vals1 r
  cases rx
  rcases h with ⟨hq, q⟩ | ⟨hq, q⟩
  · obtain ⟨its, r', pl, hz⟩ := I.list hq
    have hlen := r'.length
    refine call_tuple_list pl.isList (fun h' kp => ?_) (by simp only [List.size_toArray] <;> omega)
    have I1 : Inv X pins σ H { s with heap := h' } := I.kept (t' := s.toks) kp
    have I2 : Inv X pins σ (upd H h'.objs.size (.tup ys)) { s with heap := h'.push { cls := .type "tuple", data := .seq its.toArray } } :=
      I1.laid (t' := s.toks) (fun b o e => Heap.get?_push_of_some _ e) (Nat.le_refl _) (show ObjOk X.prog X.w _ _ _ (.tup ys) from ⟨hz, its, r', IsTup.new _ _⟩)
    exact ⟨.ref h'.objs.size, _, I2, rfl, q _ (I1.hok.fresh (Nat.le_refl _))⟩
  · obtain ⟨its, r', pl, hz⟩ := I.tuple hq
    exact call_tuple_same pl ⟨.ref p, H, I, rfl, q⟩

noncomputable def tyV (K : PySem.W.Frag) (T : String) (x : V) (H : Hp) : Prop := match x with
  | .str _ => T = "str"
  | .int _ => T = "int"
  | .ref p => (T = "list" ∧ ∃ xs, SqL K H p xs) ∨ (T = "tuple" ∧ ∃ o, K.lookup p = some o ∧ o.cls = .type "tuple" ∧ o.dict = none) ∨
      (T = "dict" ∧ ((∃ kvs, H p = some (.dK kvs)) ∨ ∃ kvs, H p = some (.dT kvs))) ∨ (T = "set" ∧ ∃ S n, H p = some (.set S n))
  | _ => False
theorem tyV_is {pins : List (Addr × Obj)} {σ : St} {H : Hp} {s : Shared} {T : String} {x : V} {v : Value} (I : Inv X pins σ H s) (r : RelV x v) (ty : tyV X.K T x H) :
    s.TypeIs v T ∧ ∀ a, v = .ref a → ∃ ob, s.heap.get? a = some ob ∧ ob.dict = none := by
  cases x with
  | str z =>
    obtain ⟨t, rfl⟩ := r
    cases (show T = "str" from ty)
    exact ⟨typeIs_str s z t, fun _ e => nomatch e⟩
  | int i =>
    obtain ⟨t, rfl⟩ := r
    cases (show T = "int" from ty)
    exact ⟨typeIs_int s i t, fun _ e => nomatch e⟩
  | ref p =>
    cases r
    rcases ty with ⟨rfl, xs, hq⟩ | ⟨rfl, o, hk, hc, hd⟩ | ⟨rfl, hk⟩ | ⟨rfl, S, n, hk⟩
    · obtain ⟨its, _, pl, _⟩ := I.list hq
      refine ⟨pl.isList.typeIs, fun a e => ?_⟩
      cases e
      obtain ⟨o, n, e, c, hd, _⟩ := pl
      exact ⟨o, e, hd⟩
    · refine ⟨⟨o, I.kIn p o hk, hc⟩, fun a e => ?_⟩
      cases e
      exact ⟨o, I.kIn _ o hk, hd⟩
    · have z : ∃ o, s.heap.get? p = some o ∧ o.ExactDict := by
        rcases hk with ⟨kvs, hk⟩ | ⟨kvs, hk⟩
        · obtain ⟨_, _, _, _, o, _, _, e, ex, _⟩ := I.hok p _ hk
          exact ⟨o, e, ex⟩
        · obtain ⟨_, _, _, _, o, _, _, e, ex, _⟩ := I.hok p _ hk
          exact ⟨o, e, ex⟩
      obtain ⟨o, e, ex⟩ := z
      refine ⟨⟨o, e, ex.1⟩, fun a e2 => ?_⟩
      cases e2
      exact ⟨o, e, ex.2.1⟩
    · obtain ⟨o, _, _, _, e, ex, _⟩ := I.hok p _ hk
      refine ⟨⟨o, e, ex.1⟩, fun a e2 => ?_⟩
      cases e2
      exact ⟨o, e, ex.2.1⟩
  | _ => exact False.elim ty
noncomputable def tBM (K : PySem.W.Frag) (T : String) (r : V → List V → Hp → VK → Prop) (to : TE) (t : TA) : TE := fun σ H Q => to σ H fun x H1 => tyV K T x H1 ∧ t σ H1 fun xs H2 => r x xs H2 Q
variable {o e : Expr} {es : List Expr} {to : TE} {t : TA} {name : Str} {apos cpos : Pos} {T id : String} {r : V → List V → Hp → VK → Prop}
theorem pe_bm (pa : PlainAttrs T) (slot : Slot T name id) (hty : typeOf (.builtin id) = pure (.type "method_descriptor")) (hm : MtR X id r) (ho : PE X o to) (ha : PA X (e :: es) t)
    (hbase : attributeBase o name X.env (eval o X.env) = eval o X.env := by rfl)
    (hfew : ((backTo cpos (starEach (e :: es) X.env)).all (fun x => !x.1) && (backToKw cpos (keywordEach [] X.env)).all (fun x => x.1.isSome)
      && decide ((e :: es).length + ([] : List Keyword).length + (if ([] : List Keyword).isEmpty then 0 else 1) < 30)) = true := by rfl)
    (hline : (apos.endLine == cpos.line) = true := by rfl) (hs : starEach (e :: es) X.env = (false, eval e X.env) :: starEach es X.env := by rfl) (hplain : (backTo cpos (starEach es X.env)).any (·.1) = false := by rfl) :
    PE X (.Call (.Attribute o name apos) (e :: es) [] cpos) (tBM X.K T r to t) := by
  intro pins s σ H Q I h
  refine wpAny_Call_method_late hbase hfew hline rfl (thn (ho pins s σ H _ I h) fun v s1 ⟨x, H1, I1, r1, ty, q1⟩ => ?_)
  obtain ⟨h1, h2⟩ := tyV_is I1 r1 ty
  refine ⟨T, id, pa, slot, hty, h1, h2, ?_⟩
  have hA := ha cpos pins s1 σ H1 _ I1 q1
  rw [hs] at hA ⊢
  refine Calls.callWith_builtin (by show (false || (backTo cpos (starEach es X.env)).any (·.1)) = false; rw [hplain] <;> rfl) (Calls.evalArgs_plain ?_)
  exact thn hA fun us s2 ⟨vs, H2, I2, r2, q2⟩ => hm pins s2 σ H2 x vs v us Q I2 r1 r2 q2
/- xs.append(e), list.index on a module's tuple .. are MtR facts of 06m -/
end
end L2

namespace L2
open PySem PySem.Spec PyProof.Rows

noncomputable def MtM (X : Cx) (id : String) (r : V → List V → Hp → VK → Prop) : Prop :=
  ∀ (pins : List (Addr × Obj)) (s : Shared) (σ : St) (H : Hp) (x : V) (xs : List V) (v : Value) (us : List Value) (Q : VK), Inv X pins σ H s → RelV x v → Vals xs us → r x xs H Q →
    wpAny (model X.prog X.w) X.A (call (.builtin id) (v :: us)) (EP X pins σ Q) X.xe s

theorem Vals.one : ∀ {x : V} {us : List Value}, Vals [x] us → ∃ u, us = [u] ∧ RelV x u
  | _, _, .cons r .nil => ⟨_, rfl, r⟩
theorem Vals.two : ∀ {x y : V} {us : List Value}, Vals [x, y] us → ∃ u v, us = [u, v] ∧ RelV x u ∧ RelV y v
  | _, _, _, .cons r (.cons q .nil) => ⟨_, _, rfl, r, q⟩
theorem Vals.rep {xs : List V} {us : List Value} (h : Vals xs us) : ∀ k : Nat, Vals (List.replicate k xs).flatten (List.replicate k us).flatten
  | 0 => .nil
  | k + 1 => by
    rw [List.replicate_succ, List.replicate_succ, List.flatten_cons, List.flatten_cons]
    exact Vals.append h (Vals.rep h k)
theorem foldl_rep (its : List Value) : ∀ (k : Nat) (acc : List Value),
    List.foldl (fun x1 x2 => x1 ++ x2) acc.toArray (List.replicate k its.toArray) = (acc ++ (List.replicate k its).flatten).toArray
  | 0, acc => by simp
  | k + 1, acc => by
    have e : acc.toArray ++ its.toArray = (acc ++ its).toArray := by simp
    have e2 : (acc ++ its) ++ (List.replicate k its).flatten = acc ++ (List.replicate (k + 1) its).flatten := by
      rw [List.replicate_succ, List.flatten_cons, List.append_assoc]
    rw [← e2, ← foldl_rep its k (acc ++ its), ← e, List.replicate_succ, List.foldl_cons]

section
variable {X : Cx} {pins : List (Addr × Obj)} {σ : St} {H : Hp} {s : Shared} {l b : Addr} {xs ys zs : List V}

theorem Inv.lset {its its' : List Value} {n : Nat} {f : Array Value → Array Value} {t' : Nat} (I : Inv X pins σ H s) (hH : H l = some (.lst xs))
    (e : s.heap.get? l = some { cls := .type "list", data := .seq its.toArray n }) (hf : f its.toArray = its'.toArray) (hv : Vals ys its') (hz : ys.length ≤ sizeLine) :
    Inv X pins σ (upd H l (.lst ys)) { s with heap := s.heap.update l (Obj.mapSeq f), toks := t' } := by
  have q := PySem.IsL.update e f
  rw [hf] at q
  refine I.write (x := l) (e := l) (by rw [hH]; exact trivial) (.inl rfl) (fun b' u hb hu => (Heap.get?_update_other s.heap (Obj.mapSeq f) (Ne.symm hb)).trans hu) ⟨_, q⟩ ?_
  exact ⟨hz, its', _, hv, q⟩
theorem Inv.lnew {its : List Value} {t' : Nat} (I : Inv X pins σ H s) (hv : Vals ys its) (hz : ys.length ≤ sizeLine) :
    Inv X pins σ (upd H s.heap.objs.size (.lst ys)) { s with heap := s.heap.push { cls := .type "list", data := .seq its.toArray }, toks := t' } :=
  I.laid (fun _ _ q => Heap.get?_push_of_some _ q) (Nat.le_refl _) ⟨hz, its, 0, hv, Heap.get?_push_size _ rfl⟩
theorem Inv.fresh (I : Inv X pins σ H s) : H s.heap.objs.size = none := I.hok.fresh (Nat.le_refl _)
theorem Inv.lstM (I : Inv X pins σ H s) (hH : H l = some (.lst xs)) : xs.length ≤ sizeLine ∧ ∃ (its : List Value) (n : Nat), Vals xs its ∧ xs.length = its.length ∧ s.heap.get? l = some { cls := .type "list", data := .seq its.toArray n } := by
  obtain ⟨z, its, n, r, e⟩ := I.hok l _ hH
  exact ⟨z, its, n, r, r.length, e⟩

theorem notLongL {n : Nat} (h : n ≤ sizeLine) : Builtin.List.listTooLong n = false := by
  unfold Builtin.List.listTooLong
  exact decide_eq_false (by omega)
end

section
variable {X : Cx}

noncomputable def rAppend : V → List V → Hp → VK → Prop := fun x vs H Q => ∃ l xs y, x = .ref l ∧ vs = [y] ∧ H l = some (.lst xs) ∧ xs.length < sizeLine ∧ Q .non (upd H l (.lst (xs ++ [y])))
theorem mt_append : MtM X "list.append" rAppend := by
  intro pins s σ H x vs v us Q I rx rv h
  obtain ⟨l, xs, y, rfl, rfl, hH, hz, q⟩ := h
  cases rx
  obtain ⟨u, rfl, ru⟩ := rv.one
  obtain ⟨z, its, n, r, hl, e⟩ := I.lstM hH
  refine call_meets F.slot_list_append ⟨_, e, rfl⟩ F.entry_list_append (F.args_list_append_2 _ _) (PySem.list_append l its.toArray n u (by rw [List.size_toArray]; omega)) ⟨e, ?_⟩
  refine ⟨.non, _, I.lset (its' := its ++ [u]) hH e (by simp) (r.append (.cons ru .nil)) ?_, rfl, q⟩
  rw [List.length_append, List.length_singleton]
  omega

noncomputable def rExtend : V → List V → Hp → VK → Prop := fun x vs H Q => ∃ l b xs zs, x = .ref l ∧ vs = [.ref b] ∧ H l = some (.lst xs) ∧ H b = some (.lst zs) ∧ xs.length + zs.length ≤ sizeLine ∧ Q .non (upd H l (.lst (xs ++ zs)))
theorem mt_extend : MtM X "list.extend" rExtend := by
  intro pins s σ H x vs v us Q I rx rv h
  obtain ⟨l, b, xs, zs, rfl, rfl, hH, hB, hz, q⟩ := h
  cases rx
  obtain ⟨u, rfl, ru⟩ := rv.one
  cases ru
  obtain ⟨z, its, n, r, hl, e⟩ := I.lstM hH
  obtain ⟨z2, its2, n2, r2, hl2, e2⟩ := I.lstM hB
  have hsz : its.toArray.size + its2.toArray.size ≤ sizeLine := by rw [List.size_toArray, List.size_toArray]; omega
  have hlong : ¬ (!its.toArray.isEmpty && Builtin.List.listTooLong (its.toArray.size + its2.toArray.size)) = true := by
    rw [notLongL hsz, Bool.and_false]
    exact Bool.false_ne_true
  refine call_meets F.slot_list_extend ⟨_, e, rfl⟩ F.entry_list_extend (F.args_list_extend_2 _ _)
    (AutoSeq1.list_extend_list_list_0 l its.toArray n b its2.toArray n2 hlong (by rw [List.size_toArray]; omega) (by omega)) ⟨e, e2, ?_⟩
  refine ⟨.non, _, I.lset (its' := its ++ its2) hH e (by simp) (r.append r2) ?_, rfl, q⟩
  rw [List.length_append]
  omega

noncomputable def rCat : R2 := fun x y H Q => ∃ l b xs zs, x = .ref l ∧ y = .ref b ∧ H l = some (.lst xs) ∧ H b = some (.lst zs) ∧ xs.length + zs.length ≤ sizeLine ∧ ∀ p, H p = none → Q (.ref p) (upd H p (.lst (xs ++ zs)))
theorem op_cat : OpR X (binaryOp .Add) rCat := by
  intro pins s σ H x y v u Q I rx ry h
  obtain ⟨l, b, xs, zs, rfl, rfl, hH, hB, hz, q⟩ := h
  cases rx
  cases ry
  obtain ⟨z, its, n, r, hl, e⟩ := I.lstM hH
  obtain ⟨z2, its2, n2, r2, hl2, e2⟩ := I.lstM hB
  refine PySem.P.add_list e e2 ?_ (by rw [List.size_toArray, List.size_toArray]; omega)
  have ea : its.toArray ++ its2.toArray = (its ++ its2).toArray := by simp
  rw [ea]
  exact ⟨.ref _, _, I.lnew (t' := s.toks) (r.append r2) (by rw [List.length_append]; omega), rfl, q _ I.fresh⟩
noncomputable def rRep : R2 := fun x y H Q => ∃ l k xs, x = .ref l ∧ y = .int k ∧ H l = some (.lst xs) ∧ -(2 ^ 63) ≤ k ∧ k < 2 ^ 63 ∧ xs.length * k.toNat ≤ sizeLine ∧
  ∀ p, H p = none → Q (.ref p) (upd H p (.lst (List.replicate k.toNat xs).flatten))
theorem len_rep {α : Type} (xs : List α) (k : Nat) : (List.replicate k xs).flatten.length = k * xs.length := by
  induction k with
  | zero => simp
  | succ k ih => rw [List.replicate_succ, List.flatten_cons, List.length_append, ih, Nat.succ_mul, Nat.add_comm]
theorem op_rep : OpR X (binaryOp .Mult) rRep := by
  intro pins s σ H x y v u Q I rx ry h
  obtain ⟨l, k, xs, rfl, rfl, hH, h1, h2, hz, q⟩ := h
  cases rx
  obtain ⟨t, rfl⟩ := ry
  obtain ⟨z, its, n, r, hl, e⟩ := I.lstM hH
  have hlen : its.toArray.size * k.toNat ≤ sizeLine := by rw [List.size_toArray, ← hl]; exact hz
  have hcap : ¬ its.toArray.size * k.toNat > (2 ^ 63 - 1) / 8 := by
    have : (sizeLine : Nat) ≤ (2 ^ 63 - 1) / 8 := by decide
    omega
  have hfit : ¬ (!Builtin.List.listFitsIndex k) = true := by
    rw [fitsIndex_both h1 h2]
    exact Bool.false_ne_true
  have hlong : ¬ Builtin.List.listTooLong (its.toArray.size * k.toNat) = true := by
    rw [notLongL hlen]
    exact Bool.false_ne_true
  have hnew : List.foldl (fun x1 x2 => x1 ++ x2) #[] (List.replicate (if its.toArray.isEmpty = true then 0 else k.toNat) its.toArray) = (List.replicate k.toNat its).flatten.toArray := by
    have f0 : ∀ m : Nat, List.foldl (fun x1 x2 => x1 ++ x2) #[] (List.replicate m its.toArray) = (List.replicate m its).flatten.toArray := fun m => by
      have := foldl_rep its m []
      rw [List.nil_append] at this
      exact this
    rw [f0]
    cases its with
    | nil => simp
    | cons a r' => rw [if_neg (by simp)]
  refine wpAny_binaryOp_repeat_ref (T := "list") (U := "int") (by decide) ⟨_, e, rfl⟩ (fun s' => typeIs_int s' k t) noFill_list_mul F.fills_int_mul F.slot_int_rmul repeat_list F.slot_int_index.lookup
    (call_meets F.slot_int_rmul (typeIs_int s k t) F.entry_int_rmul (F.args_int_rmul_2 _ _) (int___rmul___int_list k t l its.toArray n)
      ⟨e, rfl, ⟨_, e, rfl⟩, call_meets F.slot_list_mul ⟨_, e, rfl⟩ F.entry_list_mul (F.args_list_mul_2 _ _) (AutoListH.list___mul___list_int_3 l its.toArray n k t hfit hcap hlong) ⟨e, ?_⟩⟩)
  rw [hnew]
  exact ⟨.ref _, _, I.lnew (t' := s.toks) (r.rep k.toNat) (by rw [len_rep, Nat.mul_comm]; exact hz), rfl, q _ I.fresh⟩

end

section
variable {prog : Program} {w : World} {A : Around} {E : Value → Shared → Prop} {s : Shared}
end

section
variable {X : Cx}
end
end L2

namespace Att
open PySem PySem.W PySem.Calls PyProof.Rows

theorem ints_of_wellAll {P : Params} {h : Heap} : ∀ (ns : List Int) (vs : List Value), WellAll P h vs (ns.map WData.int) → IntsAre vs ns := by
  intro ns
  induction ns with
  | nil =>
    intro vs w
    rw [List.map_nil] at w
    cases w
    exact .nil
  | cons n ns ih =>
    intro vs w
    rw [List.map_cons] at w
    cases w with
    | cons a b =>
      cases a
      exact .cons _ _ (ih _ b)

theorem script_of {l : OpenLaw} {n : Nat} (hn : l.most = some n) {P : Params} {h : Heap} {args : List WData} {vals : List Value}
    (hpre : l.row.toRowW.claim.pre args = true) (hwl : WellAll P h vals args) :
    ∃ a vs ns, vals = [Value.ref a] ∧ args = [WData.list (ns.map WData.int)] ∧ h.get? a = some { cls := .type "list", data := .seq vs.toArray } ∧ IntsAre vs ns ∧ ns.length ≤ n := by
  have hsh : WShape.hasAll [] args [.list .int] = true := (pre_splitW hpre).1
  have hc : l.pre.holds [] { args := args } = true := (pre_splitW hpre).2
  obtain ⟨d, r, rfl, h1, h2⟩ := hasAllW_cons hsh
  obtain rfl := hasAllW_nil h2
  obtain ⟨xs, rfl, h3⟩ := hasW_list h1
  obtain ⟨ns, rfl⟩ := items_int h3
  have hlen : ns.length ≤ n := by
    unfold OpenLaw.pre at hc
    have h4 : (WTm.not (.lt (.lit (.int (n : Int))) (.len (.arg 0)))).holds [] { args := [.list (ns.map .int)] } = true := by
      have h4 := (holds_andW hc).1
      rw [hn] at h4
      exact h4
    have h5 := condW_of h4 (w_not (w_lt w_lit (w_len_list (w_arg rfl))))
    rw [List.length_map] at h5
    refine Nat.le_of_not_lt fun q => ?_
    have q' : (n : Int) < ((ns.length : Nat) : Int) := by omega
    first
      | (rw [decide_eq_true q'] at h5; exact absurd h5 (by decide))
      | (simp at h5; omega)
  cases hwl with
  | cons w1 w2 =>
    cases w2
    cases w1 with
    | list ho hall => exact ⟨_, _, ns, rfl, rfl, ho, ints_of_wellAll ns _ hall, hlen⟩

theorem post_true (l : OpenLaw) (args : List WData) : l.row.toRowW.claim.post args (.bool true) args = true :=
  postW_of (r := l.row.toRowW) (X := (true == true))
    (show WShape.has [] (.bool true) .bool = true by first | rfl | decide | simp [WShape.has, WShape.arms, WShape.armsAll])
    (show (WTm.eq .res (.lit (.bool true))).value [] { args := args, res := some (.bool true), after := args } = some (.bool (true == true)) from w_eq_bool (w_res rfl) w_lit) rfl

theorem attach_call {l : OpenLaw} {n : Nat} {q : Program} {loose : List Str} {XP : (Str → Option Value) → Heap → Prop} {YP : World → Heap → Prop} {d : DefRec}
    (hn : l.most = some n) (hdf : d.params.defaults = [])
    (call : ∀ (w : World) (s₀ s₁ : Shared) (mg mb : Str → Option Value) (fa : Addr) (o : Obj) (pm cd doc : Value) (a : Addr) (vs : List Value) (ns : List Int),
      Ground q loose [] XP w s₀ mg mb s₁.heap → YP w s₁.heap →
      s₁.heap.get? fa = some o → o.data = .func (docDef d.name d.params d.body d.scope pm cd doc) → s₁.heap.CodeRec cd d.name → mg d.name = some (.ref fa) →
      s₁.heap.get? a = some { cls := .type "list", data := .seq vs.toArray } → IntsAre vs ns → ns.length ≤ n → s₁.gens = #[] →
      codeAny (model l.prog w) callerA (.call (.ref fa) ⟨[.ref a], []⟩) (fun r s' => r = .ok (.ret (.bool true)) ∧ OldK s₁.heap s'.heap ∧ s'.os = s₁.os ∧ AllBare s'.gens) s₁) :
    WalkO q loose XP YP l.row.toRowW d [] (fun f vs => PySem.call f vs) := by
  intro w s₀ s₁ mg mb G Y fa o pm cd doc dV kV ho hd hcd hD hmg hg args vals as hpre hlay hrd hwl hlo
  obtain rfl : dV = .none := Dflts.none hD hdf
  obtain rfl : kV = .none := Dflts.noKw hD
  obtain ⟨a, vs, ns, rfl, rfl, hobj, hints, hlen⟩ := script_of hn hpre hwl
  refine enter_call (codeAny_mono (call w s₀ s₁ mg mb fa o pm cd doc a vs ns G Y ho (fd_plain hd) hcd hmg hobj hints hlen hg) fun r s' hq => ?_)
  obtain ⟨rfl, h2, h3, h4⟩ := hq
  exact ⟨.inl ⟨.bool true, .bool true, [], rfl, fun _ => rfl, .bool true, post_true l _, fun _ => ⟨List.Pairwise.nil, fun _ hm => (nomatch hm)⟩⟩, h2, h3, h4⟩

section
variable {prog : Program} {w : World} {A : Around} {E : Value → Shared → Prop} {s : Shared} {K : Frag}

noncomputable def ledger (h : Heap) (L d : Addr) : List (Addr × Obj) := (List.range h.objs.size).filterMap fun a => if a = L ∨ a = d then none else (h.get? a).map fun o => (a, o)
end
end Att

namespace L2
open PySem PySem.Spec PyProof.Rows

theorem vals_ints : ∀ {vs : List Value} {ns : List Int}, IntsAre vs ns → Vals (ns.map V.int) vs
  | _, _, .nil => .nil
  | _, _, .cons n t h => .cons ⟨t, rfl⟩ (vals_ints h)

end L2

namespace L2
open PySem PySem.Spec PyProof.Rows

noncomputable abbrev KOf {K : PySem.W.Frag} {h : Heap} (_ : K.In h) : PySem.W.Frag := K

end L2

/- THE LAST THEOREM (shape; LID, My.* are yours):
   My.Adr: a structure of the addresses that your layer names (classes, functions); My.Txt K t: a structure (Prop) of the equations over K;
   My.txt_mk : {K} {implicit addresses ..} (e1 : nsIn K mainGlobals "law" = some (some (.ref f))) (e2 : K.lookup f = some ⟨oc, od, .func (fnOf "law" "law" params body scope dV kV doc pm an cdv ct), sl⟩) (e3 : codeIn K cdv "law" = true) .. : ∃ t, My.Txt K t

set_option maxRecDepth 100000 in
set_option maxHeartbeats 0 in
theorem PySem.Challenge.cw_LID_holds : PySem.Challenge.rw_LID.Holds := by
  w_on; o_law; k_head; (case hw => w_witness2)
  k_fill
  refine L2.walk_of (l := PySem.Challenge.rw_LID) (n := 63) (k := 40) (x := "script") (CX := fun w => ..) (sp := fun _ => My.sp_law) rfl (by decide) rfl ⟨rfl, by decide, by decide⟩ (fun w h Y => PySem.W.kIn_of Y) ?F ?S ?C
  case F =>
    intro w mg fa h KX G hmg
    have T : ∃ t, My.Txt (L2.KOf KX) t := by
      dsimp only [L2.KOf]                          -- K must stand as «<heap const> w.params» for k_is
      refine' My.txt_mk ?e1 ?e2 ?e3 ..
      (case e1 => PySem.W.k_is)                    -- in the order: a name -> its address -> its object -> its parts
      (case e2 => PySem.W.k_is)
      ..
    obtain ⟨t, T⟩ := T
    have e0 := hmg.symm.trans (PySem.W.mg_of KX G T.law)
    cases e0                                       -- fa is the law's own address
    exact ⟨_, fun s u => .of_eq rfl, fun base kb nb => My.law_fn T kb nb⟩     -- if «.of_eq rfl» comes too early: refine' ⟨_, ?b, fun base kb nb => My.law_fn T kb nb⟩; exact fun s u => .of_eq rfl
  case S => exact fun w H a ns hl hO hS => ..
  case C => exact ..
(the tactic k_is has no namespace: write k_is) -/

namespace L2
open PySem PySem.Spec PyProof.Rows

noncomputable def defArgs (s : Stmt) : Arguments := match s with
  | .FunctionDef _ a _ _ _ _ _ _ _ _ => a
  | _ => { posonlyargs := [], args := [], vararg := none, kwonlyargs := [], kw_defaults := [], kwarg := none, defaults := [] }
noncomputable def defBody (s : Stmt) : List Stmt := match s with
  | .FunctionDef _ _ b _ _ _ _ _ _ _ => b
  | _ => []
noncomputable def defScope (s : Stmt) : Scope := match s with
  | .FunctionDef _ _ _ _ _ _ sc _ _ _ => sc
  | _ => { kind := .function, names := [], isGenerator := false, isCoroutine := false }

structure Fun (K : PySem.W.Frag) (x qual : Str) (st : Stmt) (f : Addr) (fd : FuncData) : Prop where
  ex : ∃ (oc : Value) (od : Option Addr) (kV doc pm : Value) (an : Option Addr) (cdv ct : Value) (osl : Array (Option Value)),
    fd = PySem.W.fnOf x qual (defArgs st) (defBody st) (defScope st) .none kV doc pm an cdv ct ∧ K.lookup f = some ⟨oc, od, .func fd, osl⟩ ∧ PySem.W.codeIn K cdv qual = true
  kp : PySem.W.keepIn K (.ref f) = true
section
variable {P : Program} {w : World} {K : PySem.W.Frag} {mg : Str → Option Value} {base : Heap}
theorem Fun.binds {x qual : Str} {st : Stmt} {f : Addr} {fd : FuncData} {ps : List Str} (F : Fun K x qual st f fd)
    (h : ∀ (kV doc pm : Value) (an : Option Addr) (cdv ct : Value) (us : List Value), us.length = ps.length → bindArgs (PySem.W.fnOf x qual (defArgs st) (defBody st) (defScope st) .none kV doc pm an cdv ct) ⟨us, []⟩ = pure (ps.zip us)) : Binds K fd ps [] := by
  obtain ⟨oc, od, kV, doc, pm, an, cdv, ct, osl, rfl, lk, hcd⟩ := F.ex
  exact .all (h kV doc pm an cdv ct)
theorem fun_mk {x qual : Str} {st : Stmt} {f : Addr} {oc : Value} {od an : Option Addr} {osl : Array (Option Value)} {kV doc pm cdv ct : Value} (l : K.lookup f = some ⟨oc, od, .func (PySem.W.fnOf x qual (defArgs st) (defBody st) (defScope st) .none kV doc pm an cdv ct), osl⟩)
    (c : PySem.W.codeIn K cdv qual = true) (k : PySem.W.keepIn K (.ref f) = true) : Fun K x qual st f (PySem.W.fnOf x qual (defArgs st) (defBody st) (defScope st) .none kV doc pm an cdv ct) := ⟨⟨oc, od, kV, doc, pm, an, cdv, ct, osl, rfl, l, c⟩, k⟩
end
section
variable {X : Cx}
end

noncomputable def Same (H H' : Hp) : Prop := ∀ b o, H b = some o → H' b = some o
theorem Same.refl (H : Hp) : Same H H := fun _ _ h => h
theorem Same.trans {H H1 H2 : Hp} (a : Same H H1) (b : Same H1 H2) : Same H H2 := fun c o h => b c o (a c o h)
theorem Same.free {H H' : Hp} (e : Same H H') {l : Addr} (h : H' l = Option.none) : H l = Option.none := by
  cases q : H l with
  | none => rfl
  | some o =>
    rw [e l o q] at h
    cases h
theorem Same.seq {K : PySem.W.Frag} {H H' : Hp} {a : Addr} {xs : List V} (e : Same H H') (h : SqL K H a xs) : SqL K H' a xs := by
  rcases h with (h | ⟨o, h⟩) | h
  · exact .inl (.inl (e _ _ h))
  · exact .inl (.inr ⟨o, e _ _ h⟩)
  · exact .inr h

end L2
set_option maxRecDepth 100000
set_option maxHeartbeats 4000000
namespace L2
open PySem PySem.Spec PyProof.Rows

inductive D where
  | non | bl (b : Bool) | int (i : Int) | str (x : List Nat) | tup (xs : List D) | lst (fz : Bool) (xs : List D) | exc (C : Addr)

noncomputable def ExcObj (a C : Addr) : Heap → Prop := fun h => ∃ ob, h.get? a = some ob ∧ ob.cls = .ref C

mutual
inductive Rep (K : PySem.W.Frag) (G : Hp) : V → D → Prop
  | non : Rep K G .non .non
  | bl (b : Bool) : Rep K G (.bl b) (.bl b)
  | int (i : Int) : Rep K G (.int i) (.int i)
  | str (x : Str) (h : x.length ≤ sizeLine) : Rep K G (.str x) (.str x.cps.toList)
  | tup {a : Addr} {vs : List V} {ds : List D} (h : SqT K G a vs) (r : Reps K G vs ds) : Rep K G (.ref a) (.tup ds)
  | lst {a : Addr} {vs : List V} {ds : List D} (h : G a = some (.lst vs)) (r : Reps K G vs ds) : Rep K G (.ref a) (.lst false ds)
  | fls {a : Addr} {vs : List V} {ds : List D} (h : SqL K G a vs) (r : Reps K G vs ds) : Rep K G (.ref a) (.lst true ds)
  | exc {a C : Addr} (h : G a = some (.ext (ExcObj a C))) : Rep K G (.ref a) (.exc C)
inductive Reps (K : PySem.W.Frag) (G : Hp) : List V → List D → Prop
  | nil : Reps K G [] []
  | cons {v : V} {d : D} {vs : List V} {ds : List D} (r : Rep K G v d) (t : Reps K G vs ds) : Reps K G (v :: vs) (d :: ds)
end

section
variable {K : PySem.W.Frag} {G G' H H' G1 H1 G2 H2 : Hp}
theorem SqT.mono {a : Addr} {xs : List V} (e : Same G G') (h : SqT K G a xs) : SqT K G' a xs := by
  rcases h with (h | ⟨o, h⟩) | h
  · exact .inl (.inl (e _ _ h))
  · exact .inl (.inr ⟨o, e _ _ h⟩)
  · exact .inr h
theorem SqL.mono {a : Addr} {xs : List V} (e : Same G G') (h : SqL K G a xs) : SqL K G' a xs := e.seq h
mutual
theorem Rep.mono (e : Same G G') : ∀ {v : V} {d : D}, Rep K G v d → Rep K G' v d
  | _, _, .non => .non
  | _, _, .bl b => .bl b
  | _, _, .int i => .int i
  | _, _, .str x h => .str x h
  | _, _, .tup h r => .tup (h.mono e) (Reps.mono e r)
  | _, _, .lst h r => .lst (e _ _ h) (Reps.mono e r)
  | _, _, .fls h r => .fls (h.mono e) (Reps.mono e r)
  | _, _, .exc h => .exc (e _ _ h)
theorem Reps.mono (e : Same G G') : ∀ {vs : List V} {ds : List D}, Reps K G vs ds → Reps K G' vs ds
  | _, _, .nil => .nil
  | _, _, .cons r t => .cons (Rep.mono e r) (Reps.mono e t)
end
section inv
variable {v : V}
theorem Rep.int_inv {i : Int} (r : Rep K G v (.int i)) : v = .int i := by cases r; rfl
theorem Rep.bl_inv {b : Bool} (r : Rep K G v (.bl b)) : v = .bl b := by cases r; rfl
theorem Rep.non_inv (r : Rep K G v .non) : v = .non := by cases r; rfl
theorem Rep.str_inv {x : List Nat} (r : Rep K G v (.str x)) : ∃ y : Str, v = .str y ∧ y.cps.toList = x ∧ y.length ≤ sizeLine := by
  generalize e : D.str x = d at r
  cases r with
  | str y h => cases e; exact ⟨y, rfl, rfl, h⟩
  | _ => cases e
theorem Rep.tup_inv {ds : List D} (r : Rep K G v (.tup ds)) : ∃ a vs, v = .ref a ∧ SqT K G a vs ∧ Reps K G vs ds := by
  cases r with
  | tup h t => exact ⟨_, _, rfl, h, t⟩
theorem Rep.lst_inv {ds : List D} (r : Rep K G v (.lst false ds)) : ∃ a vs, v = .ref a ∧ G a = some (.lst vs) ∧ Reps K G vs ds := by
  cases r with
  | lst h t => exact ⟨_, _, rfl, h, t⟩
theorem Rep.seq_inv {f : Bool} {ds : List D} (r : Rep K G v (.lst f ds)) : ∃ a vs, v = .ref a ∧ SqL K G a vs ∧ Reps K G vs ds := by
  cases r with
  | lst h t => exact ⟨_, _, rfl, .of h, t⟩
  | fls h t => exact ⟨_, _, rfl, h, t⟩
theorem Rep.exc_inv {C : Addr} (r : Rep K G v (.exc C)) : ∃ a, v = .ref a ∧ G a = some (.ext (ExcObj a C)) := by
  cases r with
  | exc h => exact ⟨_, rfl, h⟩
theorem Rep.strL {x : List Nat} {y : Str} (e : y.cps.toList = x) (h : x.length ≤ sizeLine) : Rep K G (.str y) (.str x) := by
  subst e; exact .str y (by simpa [Str.length] using h)
end inv
theorem Reps.length : ∀ {vs : List V} {ds : List D}, Reps K G vs ds → vs.length = ds.length
  | _, _, .nil => rfl
  | _, _, .cons _ t => by simp [Reps.length t]
theorem Reps.get : ∀ {vs : List V} {ds : List D} {i : Nat} {d : D}, Reps K G vs ds → ds[i]? = some d → ∃ v, vs[i]? = some v ∧ Rep K G v d
  | _, _, _, _, .nil, e => by simp at e
  | _, _, 0, _, .cons r _, e => by simp at e; subst e; exact ⟨_, rfl, r⟩
  | _, _, i + 1, d, .cons _ t, e => by
    obtain ⟨v, h1, h2⟩ := Reps.get (i := i) (d := d) t (by simpa using e)
    exact ⟨v, by simpa using h1, h2⟩
theorem Reps.append : ∀ {vs ws : List V} {ds es : List D}, Reps K G vs ds → Reps K G ws es → Reps K G (vs ++ ws) (ds ++ es)
  | _, _, _, _, .nil, s => s
  | _, _, _, _, .cons r t, s => .cons r (Reps.append t s)
theorem Reps.take : ∀ {vs : List V} {ds : List D} (n : Nat), Reps K G vs ds → Reps K G (vs.take n) (ds.take n)
  | _, _, 0, _ => by simpa using Reps.nil
  | _, _, _ + 1, .nil => .nil
  | _, _, n + 1, .cons r t => .cons r (Reps.take n t)
theorem Reps.drop : ∀ {vs : List V} {ds : List D} (n : Nat), Reps K G vs ds → Reps K G (vs.drop n) (ds.drop n)
  | _, _, 0, r => r
  | _, _, _ + 1, .nil => .nil
  | _, _, n + 1, .cons _ t => Reps.drop n t
theorem Reps.rep {vs : List V} {ds : List D} (r : Reps K G vs ds) : ∀ n : Nat, Reps K G (List.replicate n vs).flatten (List.replicate n ds).flatten
  | 0 => .nil
  | n + 1 => by
    simp only [List.replicate_succ, List.flatten_cons]
    exact Reps.append r (Reps.rep r n)

structure Up (G H G' H' : Hp) : Prop where
  sub : Same G' H'
  gg : Same G G'
  hh : Same H H'
  fr : ∀ a o, G' a = some o → G a = some o ∨ H a = none
theorem Up.refl (s : Same G H) : Up G H G H := ⟨s, .refl _, .refl _, fun _ _ h => .inl h⟩
theorem Up.trans (a : Up G H G1 H1) (b : Up G1 H1 G2 H2) : Up G H G2 H2 := ⟨b.sub, a.gg.trans b.gg, a.hh.trans b.hh, fun c o h => by
  rcases b.fr c o h with h | h
  · exact a.fr c o h
  · exact .inr (a.hh.free h)⟩
theorem Same.both {p : Addr} {o : HO} (s : Same G H) : Same (upd G p o) (upd H p o) := fun a u h => by
  unfold L2.upd at h ⊢
  split
  · rename_i e; rw [if_pos e] at h; exact h
  · rename_i e; rw [if_neg e] at h; exact s a u h
theorem Same.into {p : Addr} {o : HO} (h : H p = none) : Same H (upd H p o) := fun a u e => by
  rw [upd_ne (ne_of_none e h)]; exact e
theorem Up.new {p : Addr} {o : HO} (s : Same G H) (hp : H p = none) : Up G H (upd G p o) (upd H p o) :=
  ⟨s.both, .into (s.free hp), .into hp, fun a u h => by
    by_cases e : a = p
    · subst e; exact .inr hp
    · rw [upd_ne e] at h; exact .inl h⟩
end

inductive R (α : Type) where
  | ok (a : α) | ex (C : Addr) | no
noncomputable def R.bind {α β : Type} : R α → (α → R β) → R β
  | .ok a, f => f a
  | .ex C, _ => .ex C
  | .no, _ => .no
noncomputable instance : Monad R where
  pure := .ok
  bind := R.bind
section
variable {α β : Type}
@[simp] theorem R.ok_bind (a : α) (f : α → R β) : (R.ok a >>= f) = f a := rfl
@[simp] theorem R.ex_bind (C : Addr) (f : α → R β) : ((R.ex C : R α) >>= f) = .ex C := rfl
noncomputable def R.post (m : R α) (P : α → Prop) (E : Addr → Prop) : Prop := match m with
  | .ok a => P a
  | .ex C => E C
  | .no => False
theorem R.post.mono {m : R α} {P P' : α → Prop} {E E' : Addr → Prop} (h : m.post P E) (hp : ∀ a, P a → P' a) (he : ∀ C, E C → E' C) : m.post P' E' := by
  cases m with
  | ok a => exact hp a h
  | ex C => exact he C h
  | no => exact h
noncomputable def ofO : Option α → R α
  | some a => .ok a
  | none => .no
@[simp] theorem ofO_some (a : α) : ofO (some a) = R.ok a := rfl
theorem ofO.ok {o : Option α} {P : α → Prop} {E : Addr → Prop} (h : (ofO o).post P E) : ∃ a, o = some a ∧ P a := by
  cases o with
  | none => exact h.elim
  | some a => exact ⟨a, rfl, h⟩
end

inductive Fd where
  | val (d : D) | own (ds : List D)
inductive Sl where
  | val (d : D)
  /-- a list that no other name, and no datum, holds -/
  | own (ds : List D)
  /-- an instance of the class at C, at p, that no other name, and no datum, holds; m: it may be changed -/
  | obj (m : Bool) (C p : Addr) (fs : List (Nat × Fd))
noncomputable abbrev Ev := List (Option Sl)
noncomputable def rdV (ρ : Ev) (i : Nat) : R D := match ρ[i]? with
  | some (some (.val d)) => .ok d
  | _ => .no
noncomputable def fnames : List Str := ["states", "taken_back", "width", "screen", "last_notes", "tasks", "numbers_given"]
noncomputable def fname (k : Nat) : Str := fnames.getD k ""
noncomputable abbrev Owns := Addr → Option (Nat × Nat)
noncomputable def FdAt (K : PySem.W.Frag) (H₀ G H : Hp) (ow : Owns) (i : Nat) (m : Bool) (k : Nat) : Fd → V → Prop
  | .val d, v => Rep K G v d
  | .own ds, v => ∃ l ws, v = .ref l ∧ H l = some (.lst ws) ∧ G l = none ∧ (m = true → H₀ l = none) ∧ Reps K G ws ds ∧ ow l = some (i, k + 1)
inductive FdsAt (K : PySem.W.Frag) (H₀ G H : Hp) (ow : Owns) (i : Nat) (m : Bool) : List (Nat × Fd) → List (Str × V) → Prop
  | nil : FdsAt K H₀ G H ow i m [] []
  | cons {k : Nat} {fd : Fd} {v : V} {fs : List (Nat × Fd)} {vs : List (Str × V)} (h : k < fnames.length) (nk : fs.lookup k = none) (r : FdAt K H₀ G H ow i m k fd v) (t : FdsAt K H₀ G H ow i m fs vs) : FdsAt K H₀ G H ow i m ((k, fd) :: fs) ((fname k, v) :: vs)
noncomputable def ObjAt (K : PySem.W.Frag) (H₀ G H : Hp) (ow : Owns) (i : Nat) (m : Bool) (C p : Addr) (fs : List (Nat × Fd)) : Prop :=
  ∃ dx vs, H p = some (.ins C dx vs) ∧ H dx = some (.own p) ∧ G p = none ∧ G dx = none ∧ (m = true → H₀ p = none ∧ H₀ dx = none) ∧ ow p = some (i, 0) ∧ ow dx = some (i, 0) ∧ FdsAt K H₀ G H ow i m fs vs
section
variable {K : PySem.W.Frag} {H₀ H₀' G H G' H' : Hp} {ow ow' : Owns} {i : Nat}
structure ObKeep (H₀ H₀' G H G' H' : Hp) (ow ow' : Owns) (i : Nat) : Prop where
  hh : ∀ a t o, ow a = some (i, t) → H a = some o → H' a = some o
  gg : Same G G'
  gn : ∀ a t o, ow a = some (i, t) → H a = some o → G a = none → G' a = none
  oo : ∀ a t o, ow a = some (i, t) → H a = some o → ow' a = some (i, t)
  h0 : ∀ a o, H a = some o → G a = none → H₀ a = none → H₀' a = none
theorem FdAt.keep (k : ObKeep H₀ H₀' G H G' H' ow ow' i) {m : Bool} {n : Nat} : ∀ {fd : Fd} {v : V}, FdAt K H₀ G H ow i m n fd v → FdAt K H₀' G' H' ow' i m n fd v
  | .val d, v, r => Rep.mono k.gg (show Rep K G v d from r)
  | .own ds, v, ⟨l, ws, e, h1, h2, h3, h4, h5⟩ => ⟨l, ws, e, k.hh l _ _ h5 h1, k.gn l _ _ h5 h1 h2, fun z => k.h0 l _ h1 h2 (h3 z), h4.mono k.gg, k.oo l _ _ h5 h1⟩
theorem FdsAt.keep (k : ObKeep H₀ H₀' G H G' H' ow ow' i) {m : Bool} : ∀ {fs : List (Nat × Fd)} {vs : List (Str × V)}, FdsAt K H₀ G H ow i m fs vs → FdsAt K H₀' G' H' ow' i m fs vs
  | _, _, .nil => .nil
  | _, _, .cons h nk r t => .cons h nk (FdAt.keep k r) (FdsAt.keep k t)
theorem ObjAt.keep (k : ObKeep H₀ H₀' G H G' H' ow ow' i) {m : Bool} {C p : Addr} {fs : List (Nat × Fd)} (h : ObjAt K H₀ G H ow i m C p fs) : ObjAt K H₀' G' H' ow' i m C p fs := by
  obtain ⟨dx, vs, h1, h2, h3, h4, h5, h6, h7, h8⟩ := h
  exact ⟨dx, vs, k.hh p _ _ h6 h1, k.hh dx _ _ h7 h2, k.gn p _ _ h6 h1 h3, k.gn dx _ _ h7 h2 h4, fun z => ⟨k.h0 p _ h1 h3 (h5 z).1, k.h0 dx _ h2 h4 (h5 z).2⟩, k.oo p _ _ h6 h1, k.oo dx _ _ h7 h2, h8.keep k⟩
theorem ObKeep.up (u : Up G H G' H') : ObKeep H₀ H₀ G H G' H' ow ow i := by
  have gn : ∀ a o, H a = some o → G a = none → G' a = none := fun a o e n => by
    cases q : G' a with
    | none => rfl
    | some o' =>
      rcases u.fr a o' q with z | z
      · rw [n] at z; cases z
      · rw [e] at z; cases z
  exact ⟨fun a t o _ e => u.hh a o e, u.gg, fun a t o _ e n => gn a o e n, fun a t o e _ => e, fun a o _ _ n => n⟩
end
theorem ObjAt.rd {K : PySem.W.Frag} {H₀ G H : Hp} {ow : Owns} {i : Nat} {m : Bool} {C p : Addr} {fs : List (Nat × Fd)} (h : ObjAt K H₀ G H ow i m C p fs) : ObjAt K (fun _ => none) G H ow i m C p fs :=
  h.keep ⟨fun _ _ _ _ e => e, .refl _, fun _ _ _ _ _ n => n, fun _ _ _ e _ => e, fun _ _ _ _ _ => rfl⟩
structure StE (K : PySem.W.Frag) (G H : Hp) (σ : St) (ρ : Ev) : Prop where
  sub : Same G H
  len : σ.length = ρ.length
  val : ∀ (i : Nat) d, ρ[i]? = some (some (.val d)) → ∃ v, σ[i]? = some (some v) ∧ Rep K G v d
  obs : ∀ (i : Nat) m C p fs, ρ[i]? = some (some (.obj m C p fs)) → σ[i]? = some (some (.ref p)) ∧ ∃ ow, ObjAt K (fun _ => none) G H ow i m C p fs
theorem StE.up {K : PySem.W.Frag} {G H G' H' : Hp} {σ : St} {ρ : Ev} (s : StE K G H σ ρ) (u : Up G H G' H') : StE K G' H' σ ρ :=
  ⟨u.sub, s.len, fun i d e => let ⟨v, h1, h2⟩ := s.val i d e; ⟨v, h1, h2.mono u.gg⟩, fun i m C p fs e => let ⟨h1, ow, h2⟩ := s.obs i m C p fs e; ⟨h1, ow, h2.keep (.up u)⟩⟩

noncomputable def Flown (P : Program) (w : World) (outer : List Env) (H : Hp) (s : Shared) (a C : Addr) (H' : Hp) (s' : Shared) : Prop :=
  s'.os = s.os ∧ AllBare s'.gens ∧ Un (frs outer) [] H H' s.heap s'.heap ∧ HOk P w H' s'.heap ∧ H' a = none ∧
  ∃ (B : Heap) (a0 : Value), Heap.FlyingW B outer a (.ref C) a0 s'.heap ∧ ∀ b o, b ∉ frs outer → ((∃ o0, s.heap.get? b = some o0) ∨ ∃ u, H' b = some u) → s'.heap.get? b = some o → B.get? b = some o
noncomputable def CXo (P : Program) (w : World) : CXT := fun outer H s E e s' => ∃ a C H', e = .ref a ∧ Flown P w outer H s a C H' s' ∧ E (.ref C) none H'
noncomputable def ChOk (X : Cx) (pins : List (Addr × Obj)) (b : Addr) : Prop :=
  (b ∈ X.ex ∨ X.s₀.heap.objs.size ≤ b) ∧ b ≠ X.env.locals ∧ (∀ x c, X.env.cells.lookup x = some c → c ≠ b) ∧ ∀ p ∈ X.pn ++ pins, p.1 ≠ b
noncomputable def FlownH (X : Cx) (pins : List (Addr × Obj)) (L : Addr) (H : Hp) (s : Shared) (a C : Addr) (H' : Hp) (s' : Shared) : Prop :=
  s'.os = s.os ∧ AllBare s'.gens ∧ (∃ ch, (∀ b ∈ ch, ChOk X pins b) ∧ Un (frs X.stack) ch H H' s.heap s'.heap) ∧ HOk X.prog X.w H' s'.heap ∧ H' a = none ∧ s.heap.get? a = none ∧
  ∃ (B : Heap) (a0 : Value), Heap.HeldW B X.stack a (.ref C) a0 L s'.heap ∧ ∀ b o, b ∉ frs X.stack → ((∃ o0, s.heap.get? b = some o0) ∨ ∃ u, H' b = some u) → s'.heap.get? b = some o → B.get? b = some o
noncomputable def FlyR (X : Cx) (σ : St) (G₁ H₁ : Hp) (C : Addr) (e : Value) (s' : Shared) : Prop :=
  ∃ pins s₁ a, e = .ref a ∧ Inv X pins σ H₁ s₁ ∧
    ((∃ h' vs, Heap.MadeExcOf s₁.heap h' a (.ref C) vs ∧ s' = { s₁ with heap := h' }) ∨ (∃ G' H', Flown X.prog X.w X.stack H₁ s₁ a C H' s' ∧ Up G₁ H₁ G' H') ∨ ∃ G' H' L, X.env.frame = some L ∧ FlownH X pins L H₁ s₁ a C H' s' ∧ Up G₁ H₁ G' H')
noncomputable def Fly (X : Cx) (σ : St) (G H : Hp) (C : Addr) (e : Value) (s' : Shared) : Prop := ∃ G₁ H₁, Up G H G₁ H₁ ∧ FlyR X σ G₁ H₁ C e s'
theorem Fly.up {X : Cx} {σ : St} {G H G1 H1 : Hp} {C : Addr} {e : Value} {s' : Shared} (u : Up G H G1 H1) (f : Fly X σ G1 H1 C e s') : Fly X σ G H C e s' :=
  let ⟨G2, H2, v, q⟩ := f; ⟨G2, H2, u.trans v, q⟩

section
variable {α β : Type}
noncomputable def Fin (G H : Hp) (rep : Hp → β → α → Prop) (Q : β → Hp → Prop) : α → Prop := fun d => ∀ v G' H', Up G H G' H' → rep G' v d → Q v H'
noncomputable def Exx (X : Cx) (σ : St) (G H : Hp) : Addr → Prop := fun C => ∀ e s', Fly X σ G H C e s' → X.xe e s'
theorem Fin.up {G H G1 H1 : Hp} {rep : Hp → β → α → Prop} {Q : β → Hp → Prop} {d : α} (u : Up G H G1 H1) (h : Fin G H rep Q d) : Fin G1 H1 rep Q d := fun v G' H' u' r => h v G' H' (u.trans u') r
theorem Exx.up {X : Cx} {σ : St} {G H G1 H1 : Hp} {C : Addr} (u : Up G H G1 H1) (h : Exx X σ G H C) : Exx X σ G1 H1 C := fun e s' f => h e s' (f.up u)
theorem post_up {X : Cx} {σ : St} {G H G1 H1 : Hp} {rep : Hp → β → α → Prop} {Q : β → Hp → Prop} {m : R α} (u : Up G H G1 H1) (h : m.post (Fin G H rep Q) (Exx X σ G H)) : m.post (Fin G1 H1 rep Q) (Exx X σ G1 H1) :=
  h.mono (fun _ => Fin.up u) fun _ => Exx.up u
noncomputable def tG (X : Cx) (rep : Hp → β → α → Prop) (g : Ev → R α) : St → Hp → (β → Hp → Prop) → Prop := fun σ H Q => ∃ G ρ, StE X.K G H σ ρ ∧ (g ρ).post (Fin G H rep Q) (Exx X σ G H)
theorem tG.intro {γ δ : Type} {X : Cx} {σ : St} {G H : Hp} {ρ : Ev} {rep : Hp → β → α → Prop} {rep' : Hp → δ → γ → Prop} {g : Ev → R α} {k : α → R γ} {Q : β → Hp → Prop} {Q' : δ → Hp → Prop} (st : StE X.K G H σ ρ)
    (h : (g ρ >>= k).post (Fin G H rep' Q') (Exx X σ G H)) (hk : ∀ a, ∀ v G1 H1, Up G H G1 H1 → StE X.K G1 H1 σ ρ → rep G1 v a → (k a).post (Fin G1 H1 rep' Q') (Exx X σ G1 H1) → Q v H1) : tG X rep g σ H Q := by
  refine ⟨G, ρ, st, ?_⟩
  cases e : g ρ with
  | ok a => rw [e] at h; exact fun v G' H' u r => hk a v G' H' u (st.up u) r (post_up u h)
  | ex C => rw [e] at h; exact h
  | no => rw [e] at h; exact h
theorem tG.last {X : Cx} {σ : St} {G H : Hp} {ρ : Ev} {rep : Hp → β → α → Prop} {g : Ev → R α} {Q : β → Hp → Prop} (st : StE X.K G H σ ρ) (h : (g ρ).post (Fin G H rep Q) (Exx X σ G H)) : tG X rep g σ H Q := ⟨G, ρ, st, h⟩
end
noncomputable abbrev tF (X : Cx) (g : Ev → R D) : TE := tG X (Rep X.K) g
noncomputable abbrev tTF (X : Cx) (g : Ev → R Bool) : TT := tG X (fun _ b c => b = c) g
noncomputable abbrev tAF (X : Cx) (g : Ev → R (List D)) : TA := tG X (Reps X.K) g
noncomputable def QF (X : Cx) (e : Expr) (g : Ev → R D) : Prop := PE X e (tF X g)
noncomputable def QB (X : Cx) (e : Expr) (g : Ev → R Bool) : Prop := PT X e (tTF X g)
noncomputable def QBW (X : Cx) (e : Expr) (g : Ev → R Bool) : Prop := PW X e (tTF X g)
noncomputable def QFA (X : Cx) (es : List Expr) (g : Ev → R (List D)) : Prop := PA X es (tAF X g)
end L2
namespace L2
open PySem PySem.Spec PyProof.Rows

theorem rdV.ok {ρ : Ev} {i : Nat} {P : D → Prop} {E : Addr → Prop} (h : (rdV ρ i).post P E) : ∃ d, ρ[i]? = some (some (.val d)) ∧ P d := by
  unfold rdV at h
  split at h
  · rename_i d e; exact ⟨d, e, h⟩
  · exact h.elim

section
variable {X : Cx} {e a b c : Expr} {ga gb gc : Ev → R D} {pos : Pos}
theorem pf_var_0 (i : Nat) {x : Str} (hN : X.N[i]? = some x := by rfl) (hv : Vis X.env.scope x := by first | exact Or.inl rfl | exact Or.inr (Or.inl rfl) | exact Or.inr (Or.inr rfl)) (hd : (x == ("__debug__" : Str)) = false := by decide)
    (hcd : (x == ("__classdict__" : Str)) = false := by decide) : QF X (.Name x pos) (fun ρ => rdV ρ i) := by
  intro pins s σ H Q I h
  obtain ⟨G, ρ, st, h⟩ := h
  refine pe_var hN hv hd hcd pins s σ H Q I ?_
  obtain ⟨d, e, q⟩ := rdV.ok h
  obtain ⟨v, e', r⟩ := st.val i d e
  exact ⟨v, e', q v G H (.refl st.sub) r⟩
theorem pf_const_0 {v : V} {d : D} (h : PE X e (tC v)) (hr : ∀ K G, Rep K G v d) : QF X e (fun _ => .ok d) := by
  intro pins s σ H Q I q
  obtain ⟨G, ρ, st, q⟩ := q
  exact h pins s σ H Q I (q v G H (.refl st.sub) (hr _ _))
theorem pf_int_0 {i : Int} {j : Nat} : QF X (.Constant (.int i) j pos) (fun _ => .ok (.int i)) := pf_const_0 pe_int fun _ _ => .int i
theorem pf_bl_0 {k : Bool} {j : Nat} : QF X (.Constant (.bool k) j pos) (fun _ => .ok (.bl k)) := pf_const_0 pe_bl fun _ _ => .bl k
theorem pf_non_0 {j : Nat} : QF X (.Constant .none j pos) (fun _ => .ok .non) := pf_const_0 pe_non fun _ _ => .non
theorem pf_str_0 {x : Str} {j : Nat} {l : List Nat} (hl : x.cps.toList = l := by rfl) (hz : l.length ≤ 1000 := by decide) : QF X (.Constant (.str x) j pos) (fun _ => .ok (.str l)) :=
  pf_const_0 pe_str fun _ _ => .strL hl (Nat.le_trans hz (by decide))
theorem pf_globI_0 {x : Str} {i : Int} {t : Tok} (hg : Gl X x) (hm : X.mg x = some (.int i t)) (hd : (x == ("__debug__" : Str)) = false := by decide) : QF X (.Name x pos) (fun _ => .ok (.int i)) :=
  pf_const_0 (pe_glob (v := .int i) hg hm ⟨t, rfl⟩ hd) fun _ _ => .int i

noncomputable def ROk (K : PySem.W.Frag) (r : R2) (f : D → D → Option D) : Prop := ∀ (G H : Hp) (x y : V) (dx dy d : D) (Q : VK), Same G H → Rep K G x dx → Rep K G y dy → f dx dy = some d → Fin G H (Rep K) Q d → r x y H Q
noncomputable def g2 (f : D → D → Option D) (ga gb : Ev → R D) : Ev → R D := fun ρ => ga ρ >>= fun x => gb ρ >>= fun y => ofO (f x y)
theorem t2_of {r : R2} {f : D → D → Option D} (hf : ROk X.K r f) {σ : St} {H : Hp} {Q : VK} (h : tF X (g2 f ga gb) σ H Q) : tOp r (tF X ga) (tF X gb) σ H Q := by
  obtain ⟨G, ρ, st, h⟩ := h
  refine tG.intro st h fun x v G1 H1 u1 st1 r1 h1 => ?_
  refine tG.intro st1 h1 fun y w G2 H2 u2 st2 r2 h2 => ?_
  obtain ⟨d, e, q⟩ := ofO.ok h2
  exact hf G2 H2 v w x y d Q st2.sub (r1.mono u2.gg) r2 e q
theorem pf_bin_0 {op : Operator} {r : R2} {f : D → D → Option D} (ho : OpR X (binaryOp op) r) (hf : ROk X.K r f) (ha : QF X a ga) (hb : QF X b gb) : QF X (.BinOp a op b pos) (g2 f ga gb) :=
  fun pins s σ H Q I h => pe_op ho ha hb pins s σ H Q I (t2_of hf h)
theorem pf_cmp_0 {op : CmpOp} {r : R2} {f : D → D → Option D} (ho : OpR X (compareOp op) r) (hf : ROk X.K r f) (ha : QF X a ga) (hb : QF X b gb) (hm : behindInMarks op b = false) : QF X (.Compare a [op] [b] pos) (g2 f ga gb) :=
  fun pins s σ H Q I h => pe_cmpR ho ha hb hm pins s σ H Q I (t2_of hf h)
noncomputable def g3 (f f' : D → D → Option D) (ga gb gc : Ev → R D) : Ev → R D := fun ρ => ga ρ >>= fun x => gb ρ >>= fun y => ofO (f x y) >>= fun z => match z with
  | .bl true => gc ρ >>= fun w => ofO (f' y w)
  | .bl false => .ok (.bl false)
  | _ => .no
theorem pf_chain_0 {op op' : CmpOp} {r r' : R2} {f f' : D → D → Option D} (ho : OpR X (compareOp op) r) (ho' : OpR X (compareOp op') r') (hf : ROk X.K r f) (hf' : ROk X.K r' f') (ha : QF X a ga) (hb : QF X b gb) (hc : QF X c gc)
    (hm : lastMarks [op, op'] [b, c] = false := by with_unfolding_all rfl) : QF X (.Compare a [op, op'] [b, c] pos) (g3 f f' ga gb gc) := by
  intro pins s σ H Q I h
  refine pe_chain ho ho' ha hb hc hm pins s σ H Q I ?_
  obtain ⟨G, ρ, st, h⟩ := h
  refine tG.intro st h fun x v G1 H1 u1 st1 r1 h1 => ?_
  refine tG.intro st1 h1 fun y w G2 H2 u2 st2 r2 h2 => ?_
  cases e : f x y with
  | none => rw [e] at h2; exact h2.elim
  | some d =>
    rw [e] at h2
    refine hf G2 H2 v w x y d _ st2.sub (r1.mono u2.gg) r2 e fun z G3 H3 u3 r3 => ?_
    have h3 := post_up u3 h2
    have st3 := st2.up u3
    cases r3 with
    | bl k =>
      refine ⟨k, rfl, ?_⟩
      cases k with
      | false => rw [if_neg Bool.false_ne_true]; exact h3 _ G3 H3 (.refl st3.sub) (.bl false)
      | true =>
        rw [if_pos rfl]
        refine tG.intro st3 (show (gc ρ >>= fun w => ofO (f' y w)).post _ _ from h3) fun q vq G4 H4 u4 st4 r4 h4 => ?_
        obtain ⟨d, e', q'⟩ := ofO.ok h4
        exact hf' G4 H4 w vq y q d Q st4.sub ((r2.mono u3.gg).mono u4.gg) r4 e' q'
    | _ => exact h3.elim
end

section
variable {X : Cx}
noncomputable def addD : D → D → Option D
  | .int i, .int j => some (.int (i + j))
  | .str x, .str y => if x.length + y.length ≤ sizeLine then some (.str (x ++ y)) else none
  | .lst false xs, .lst false ys => if xs.length + ys.length ≤ sizeLine then some (.lst false (xs ++ ys)) else none
  | .tup xs, .tup ys => if xs.length + ys.length ≤ sizeLine then some (.tup (xs ++ ys)) else none
  | _, _ => none
noncomputable def rCatT' (K : PySem.W.Frag) : R2 := fun x y H Q => ∃ a b xs ys, x = .ref a ∧ y = .ref b ∧ SqT K H a xs ∧ SqT K H b ys ∧ xs.length + ys.length ≤ sizeLine ∧
  (xs = [] → Q (.ref b) H) ∧ (xs ≠ [] → ys = [] → Q (.ref a) H) ∧ (xs ≠ [] → ys ≠ [] → ∀ p, H p = none → Q (.ref p) (upd H p (.tup (xs ++ ys))))
theorem op_catT' : OpR X (binaryOp .Add) (rCatT' X.K) := by
  intro pins s σ H x y v u Q I rx ry h
  obtain ⟨a, b, xs, ys, rfl, rfl, ha, hb, hz, q0, q1, q2⟩ := h
  by_cases hx : xs = []
  · cases rx
    cases ry
    obtain ⟨its, r1, p1, _⟩ := I.tuple ha
    obtain ⟨its2, r2, p2, _⟩ := I.tuple hb
    have hi : its = [] := r1.nil_iff.mpr hx
    obtain ⟨⟨cls, dd, data, sl⟩, ho, hc, n, hd⟩ := id p1
    obtain ⟨⟨cls2, dd2, data2, sl2⟩, ho2, hc2, n2, hd2⟩ := id p2
    simp only at hc hd hc2 hd2
    subst hc hd hc2 hd2
    exact concat_meets ⟨_, ho, rfl⟩ ⟨_, ho2, rfl⟩ noFill_tuple_add seq_tuple_add PySem.F.slot_tuple_add PySem.F.entry_tuple_add (PySem.F.args_tuple_add_2 _ _)
      (tuple_addW0 a b its.toArray its2.toArray n n2 dd dd2 sl sl2 (by simp [hi])) ⟨ho, ho2, .ref b, H, I, rfl, q0 hx⟩
  · exact op_catT pins s σ H _ _ v u Q I rx ry ⟨a, b, xs, ys, rfl, rfl, ha, hb, hx, hz, q1 hx, q2 hx⟩
noncomputable def rAdd' (K : PySem.W.Frag) : R2 := fun x y H Q => (rI0 fun i j => .int (i + j)) x y H Q ∨ (∃ i j, x = .str i ∧ y = .str j ∧ i.length + j.length ≤ sizeLine ∧ Q (.str (i ++ j)) H) ∨ rCat x y H Q ∨ rCatT' K x y H Q
theorem op_add' : OpR X (binaryOp .Add) (rAdd' X.K) := op_add.or (op_add_str.or (op_cat.or op_catT'))
theorem Str.app_list (x y : Str) : (x ++ y).cps.toList = x.cps.toList ++ y.cps.toList := by
  show (x.cps ++ y.cps).toList = _
  simp
theorem Str.len_list (x : Str) : x.cps.toList.length = x.length := by simp [Str.length]
theorem ok_add (K : PySem.W.Frag) : ROk K (rAdd' K) addD := by
  intro G H x y dx dy d Q s rx ry e q
  unfold addD at e
  split at e
  · cases e
    exact .inl ⟨_, _, rx.int_inv, ry.int_inv, q _ G H (.refl s) (.int _)⟩
  · split at e
    · rename_i hz
      cases e
      obtain ⟨i, rfl, ei, hi⟩ := rx.str_inv
      obtain ⟨j, rfl, ej, hj⟩ := ry.str_inv
      subst ei ej
      rw [Str.len_list, Str.len_list] at hz
      exact .inr (.inl ⟨i, j, rfl, rfl, hz, q _ G H (.refl s) (.strL (Str.app_list i j) (by rw [List.length_append, Str.len_list, Str.len_list]; exact hz))⟩)
    · cases e
  · split at e
    · rename_i hz
      cases e
      obtain ⟨a, vs, rfl, ha, ra⟩ := rx.lst_inv
      obtain ⟨b, ws, rfl, hb, rb⟩ := ry.lst_inv
      refine .inr (.inr (.inl ⟨a, b, vs, ws, rfl, rfl, s _ _ ha, s _ _ hb, by rw [ra.length, rb.length]; exact hz, fun p hp => q _ _ _ (.new s hp) (.lst upd_same ?_)⟩))
      exact (ra.append rb).mono (.into (s.free hp))
    · cases e
  · split at e
    · rename_i hz
      cases e
      obtain ⟨a, vs, rfl, ha, ra⟩ := rx.tup_inv
      obtain ⟨b, ws, rfl, hb, rb⟩ := ry.tup_inv
      refine .inr (.inr (.inr ⟨a, b, vs, ws, rfl, rfl, ha.mono s, hb.mono s, by rw [ra.length, rb.length]; exact hz, fun z => ?_, fun _ z => ?_, fun _ _ p hp => ?_⟩))
      · subst z
        cases ra
        exact q _ G H (.refl s) (.tup hb rb)
      · subst z
        cases rb
        rw [List.append_nil] at q
        exact q _ G H (.refl s) (.tup ha ra)
      · exact q _ _ _ (.new s hp) (.tup (.of upd_same) ((ra.append rb).mono (.into (s.free hp))))
    · cases e
  · cases e
theorem pf_add_0 {a b : Expr} {ga gb : Ev → R D} {pos : Pos} (ha : QF X a ga) (hb : QF X b gb) : QF X (.BinOp a .Add b pos) (g2 addD ga gb) := pf_bin_0 op_add' (ok_add _) ha hb
noncomputable def subD : D → D → Option D
  | .int i, .int j => some (.int (i - j))
  | _, _ => none
theorem pf_sub_0 {a b : Expr} {ga gb : Ev → R D} {pos : Pos} (ha : QF X a ga) (hb : QF X b gb) : QF X (.BinOp a .Sub b pos) (g2 subD ga gb) := pf_bin_0 op_sub (by
  intro G H x y dx dy d Q s rx ry e q
  unfold subD at e
  split at e
  · cases e
    exact ⟨_, _, rx.int_inv, ry.int_inv, q _ G H (.refl s) (.int _)⟩
  · cases e) ha hb
noncomputable def fdivD : D → D → Option D
  | .int i, .int j => if 0 < j ∧ j < 1073741824 then some (.int (i / j)) else none
  | _, _ => none
theorem pf_fdiv_0 {a b : Expr} {ga gb : Ev → R D} {pos : Pos} (ha : QF X a ga) (hb : QF X b gb) : QF X (.BinOp a .FloorDiv b pos) (g2 fdivD ga gb) := pf_bin_0 op_fdiv (by
  intro G H x y dx dy d Q s rx ry e q
  unfold fdivD at e
  split at e
  · split at e
    · rename_i hc
      cases e
      exact ⟨_, _, rx.int_inv, ry.int_inv, hc, q _ G H (.refl s) (.int _)⟩
    · cases e
  · cases e) ha hb
noncomputable def modD : D → D → Option D
  | .int i, .int j => if 0 < j then some (.int (i % j)) else none
  | _, _ => none
theorem pf_mod_0 {a b : Expr} {ga gb : Ev → R D} {pos : Pos} (ha : QF X a ga) (hb : QF X b gb) : QF X (.BinOp a .Mod b pos) (g2 modD ga gb) := pf_bin_0 op_mod (by
  intro G H x y dx dy d Q s rx ry e q
  unfold modD at e
  split at e
  · split at e
    · rename_i hc
      cases e
      exact ⟨_, _, rx.int_inv, ry.int_inv, hc, q _ G H (.refl s) (.int _)⟩
    · cases e
  · cases e) ha hb
end
end L2
namespace L2
open PySem PySem.Spec PyProof.Rows

section
variable {X : Cx} {a b c e : Expr} {ga gb gc : Ev → R D} {pos : Pos}
noncomputable def leD : D → D → Option D
  | .int i, .int j => some (.bl (decide (i ≤ j)))
  | .str x, .str y => some (.bl (!decide (y < x)))
  | _, _ => none
noncomputable def ltD : D → D → Option D
  | .int i, .int j => some (.bl (decide (i < j)))
  | .str x, .str y => some (.bl (decide (x < y)))
  | _, _ => none
noncomputable def gtD : D → D → Option D
  | .int i, .int j => some (.bl (decide (j < i)))
  | _, _ => none
noncomputable def geD : D → D → Option D
  | .int i, .int j => some (.bl (decide (j ≤ i)))
  | _, _ => none
theorem op_le_str : OpR X (compareOp .LtE) (fun x y H Q => ∃ i j : Str, x = .str i ∧ y = .str j ∧ Q (.bl (!decide (j.cps.toList < i.cps.toList))) H) := by
  intro pins s σ H x y v u Q I rx ry h
  obtain ⟨i, j, rfl, rfl, q⟩ := h
  obtain ⟨t, rfl⟩ := rx
  obtain ⟨t', rfl⟩ := ry
  exact PySem.P.le_str (fin_bl I q rfl)
theorem ok_le (K : PySem.W.Frag) : ROk K (fun x y H Q => (rI0 fun i j => .bl (decide (i ≤ j))) x y H Q ∨ ∃ i j : Str, x = .str i ∧ y = .str j ∧ Q (.bl (!decide (j.cps.toList < i.cps.toList))) H) leD := by
  intro G H x y dx dy d Q s rx ry e q
  unfold leD at e
  split at e
  · cases e
    exact .inl ⟨_, _, rx.int_inv, ry.int_inv, q _ G H (.refl s) (.bl _)⟩
  · cases e
    obtain ⟨i, rfl, ei, hi⟩ := rx.str_inv
    obtain ⟨j, rfl, ej, hj⟩ := ry.str_inv
    subst ei ej
    exact .inr ⟨i, j, rfl, rfl, q _ G H (.refl s) (.bl _)⟩
  · cases e
theorem ok_lt (K : PySem.W.Frag) : ROk K (fun x y H Q => (rI0 fun i j => .bl (decide (i < j))) x y H Q ∨ ∃ i j : Str, x = .str i ∧ y = .str j ∧ Q (.bl (decide (i.cps.toList < j.cps.toList))) H) ltD := by
  intro G H x y dx dy d Q s rx ry e q
  unfold ltD at e
  split at e
  · cases e
    exact .inl ⟨_, _, rx.int_inv, ry.int_inv, q _ G H (.refl s) (.bl _)⟩
  · cases e
    obtain ⟨i, rfl, ei, hi⟩ := rx.str_inv
    obtain ⟨j, rfl, ej, hj⟩ := ry.str_inv
    subst ei ej
    exact .inr ⟨i, j, rfl, rfl, q _ G H (.refl s) (.bl _)⟩
  · cases e
theorem op_le' : OpR X (compareOp .LtE) (fun x y H Q => (rI0 fun i j => .bl (decide (i ≤ j))) x y H Q ∨ ∃ i j : Str, x = .str i ∧ y = .str j ∧ Q (.bl (!decide (j.cps.toList < i.cps.toList))) H) := op_le.or op_le_str
theorem op_lt' : OpR X (compareOp .Lt) (fun x y H Q => (rI0 fun i j => .bl (decide (i < j))) x y H Q ∨ ∃ i j : Str, x = .str i ∧ y = .str j ∧ Q (.bl (decide (i.cps.toList < j.cps.toList))) H) := op_lt.or op_lt_str
theorem pf_le_0 (ha : QF X a ga) (hb : QF X b gb) : QF X (.Compare a [.LtE] [b] pos) (g2 leD ga gb) := pf_cmp_0 op_le' (ok_le _) ha hb (nomark _)
theorem pf_lele_0 (ha : QF X a ga) (hb : QF X b gb) (hc : QF X c gc) (hm : lastMarks [.LtE, .LtE] [b, c] = false := by with_unfolding_all rfl) : QF X (.Compare a [.LtE, .LtE] [b, c] pos) (g3 leD leD ga gb gc) := pf_chain_0 op_le' op_le' (ok_le _) (ok_le _) ha hb hc hm
end

noncomputable def eqZ (f : D → D → Option Bool) : List D → List D → Option (List Bool)
  | x :: xs, y :: ys => (f x y).bind fun b => (eqZ f xs ys).map (b :: ·)
  | _, _ => some []
noncomputable def eqD : Nat → D → D → Option Bool
  | 0, _, _ => none
  | n + 1, a, b => match a, b with
    | .non, .non => some true
    | .bl x, .bl y => some (x == y)
    | .int i, .int j => some (i == j)
    | .str x, .str y => some (x == y)
    | .bl x, .int j => some ((if x then 1 else 0) == j)
    | .int i, .bl y => some (i == (if y then 1 else 0))
    | .lst _ xs, .lst _ ys => if xs.length = ys.length then (eqZ (eqD n) xs ys).map fun bs => bs.all id else some false
    | .tup xs, .tup ys => (eqZ (eqD n) xs ys).map fun bs => bs.all id && xs.length == ys.length
    | .exc _, _ => none
    | _, .exc _ => none
    | _, _ => some false
theorem eqZ.get {f : D → D → Option Bool} : ∀ {xs ys : List D} {bs : List Bool}, eqZ f xs ys = some bs → bs.length = min xs.length ys.length ∧ ∀ (j : Nat) (x y : D), xs[j]? = some x → ys[j]? = some y → ∃ b, bs[j]? = some b ∧ f x y = some b
  | [], _, _, e => by simp [eqZ] at e; subst e; exact ⟨by simp, fun j x y h => by simp at h⟩
  | _ :: _, [], _, e => by simp [eqZ] at e; subst e; exact ⟨by simp, fun j x y _ h => by simp at h⟩
  | x :: xs, y :: ys, bs, e => by
    unfold eqZ at e
    cases e1 : f x y with
    | none => rw [e1] at e; cases e
    | some b =>
      rw [e1] at e
      cases e2 : eqZ f xs ys with
      | none => rw [e2] at e; cases e
      | some cs =>
        rw [e2] at e
        cases e
        obtain ⟨h1, h2⟩ := eqZ.get e2
        refine ⟨by simp [h1], fun j => ?_⟩
        cases j with
        | zero => intro x' y' hx hy; simp at hx hy; subst hx hy; exact ⟨b, rfl, e1⟩
        | succ j => intro x' y' hx hy; exact h2 j x' y' (by simpa using hx) (by simpa using hy)
theorem range_all {bs : List Bool} {n : Nat} (h : bs.length = n) : (List.range n).all (fun j => bs.getD j true) = bs.all id := by
  subst h
  rw [Bool.eq_iff_iff, List.all_eq_true, List.all_eq_true]
  constructor
  · intro h b hb
    obtain ⟨i, hi, rfl⟩ := List.mem_iff_getElem.mp hb
    have := h i (by simpa using hi)
    simpa [List.getD_eq_getElem?_getD, hi] using this
  · intro h j hj
    have hj' : j < bs.length := by simpa using hj
    have := h bs[j] (List.getElem_mem hj')
    simpa [List.getD_eq_getElem?_getD, hj'] using this
theorem list_ne_tuple : (Value.type "list" : Value) ≠ .type "tuple" := by
  intro h
  injection h with h
  exact absurd h (by decide)
section
variable {X : Cx} {pins : List (Addr × Obj)} {σ : St} {G H : Hp} {s : Shared}
open SeqAt
theorem eq_same (I : Inv X pins σ H s) (sub : Same G H) : ∀ (n : Nat) (a b : D) (k : Bool) (x : V), eqD n a b = some k → Rep X.K G x a → Rep X.K G x b → k = true := by
  intro n
  induction n with
  | zero => intro a b k x e; cases e
  | succ n ih =>
    have sq : ∀ (vs : List V) (xs ys : List D), Reps X.K G vs xs → Reps X.K G vs ys → ∀ bs, eqZ (eqD n) xs ys = some bs → bs.all id = true := by
      intro vs
      induction vs with
      | nil => intro xs ys h1 h2 bs e; cases h1; cases h2; simp [eqZ] at e; subst e; rfl
      | cons v vs ihv =>
        intro xs ys h1 h2 bs e
        cases h1 with
        | cons r1 t1 =>
          cases h2 with
          | cons r2 t2 =>
            unfold eqZ at e
            rename_i d1 ds1 d2 ds2
            cases e1 : eqD n d1 d2 with
            | none => rw [e1] at e; cases e
            | some b =>
              rw [e1] at e
              cases e2 : eqZ (eqD n) ds1 ds2 with
              | none => rw [e2] at e; cases e
              | some cs =>
                rw [e2] at e
                cases e
                rw [List.all_cons, ih _ _ _ _ e1 r1 r2, ihv _ _ t1 t2 _ e2]
                rfl
    intro a b k x e ra rb
    cases ra with
    | non => cases rb; simp [eqD] at e; exact e
    | bl y => cases rb; simp [eqD] at e; exact e
    | int i => cases rb; simp [eqD] at e; exact e
    | str y h =>
      cases rb with
      | str z h' => simp [eqD] at e; exact e
    | tup h r =>
      cases rb with
      | tup h' r' =>
        have q := I.tuple_inj (h.mono sub) (h'.mono sub)
        subst q
        simp only [eqD] at e
        rename_i ds es
        cases e2 : eqZ (eqD n) ds es with
        | none => rw [e2] at e; cases e
        | some cs =>
          rw [e2] at e
          have this : (cs.all id && ds.length == es.length) = k := Option.some.inj e
          rw [sq _ _ _ r r' _ e2, Bool.true_and] at this
          rw [← this, ← r.length, ← r'.length]
          simp
      | lst h' r' =>
        obtain ⟨its, _, ⟨o, e1, c1, _⟩, _⟩ := I.tuple (h.mono sub)
        obtain ⟨_, its', n', _, e2⟩ := I.hok _ _ (sub _ _ h')
        rw [e1] at e2; cases e2; exact absurd c1 list_ne_tuple
      | fls h' r' =>
        obtain ⟨its, _, ⟨o, e1, c1, _⟩, _⟩ := I.tuple (h.mono sub)
        obtain ⟨its', _, ⟨o', n', e2, c2, _⟩, _⟩ := I.list (h'.mono sub)
        rw [e1] at e2; cases e2; rw [c1] at c2; exact absurd c2.symm list_ne_tuple
      | exc h' => simp [eqD] at e
    | lst h r =>
      have hl : SqL X.K G _ _ := SqL.of h
      cases rb with
      | tup h' r' =>
        obtain ⟨its, _, ⟨o, e1, c1, _⟩, _⟩ := I.tuple (h'.mono sub)
        obtain ⟨_, its', n', _, e2⟩ := I.hok _ _ (sub _ _ h)
        rw [e1] at e2; cases e2; exact absurd c1 list_ne_tuple
      | lst h' r' =>
        rw [h] at h'; cases h'
        simp only [eqD] at e
        rw [if_pos (by rw [← r.length, ← r'.length])] at e
        rename_i ds es
        cases e2 : eqZ (eqD n) ds es with
        | none => rw [e2] at e; cases e
        | some cs => rw [e2] at e; have := Option.some.inj e; rw [← this]; exact sq _ _ _ r r' _ e2
      | fls h' r' =>
        have q := I.list_inj (hl.mono sub) (h'.mono sub)
        subst q
        simp only [eqD] at e
        rw [if_pos (by rw [← r.length, ← r'.length])] at e
        rename_i ds es
        cases e2 : eqZ (eqD n) ds es with
        | none => rw [e2] at e; cases e
        | some cs => rw [e2] at e; have := Option.some.inj e; rw [← this]; exact sq _ _ _ r r' _ e2
      | exc h' => simp [eqD] at e
    | fls h r =>
      cases rb with
      | tup h' r' =>
        obtain ⟨its, _, ⟨o, e1, c1, _⟩, _⟩ := I.tuple (h'.mono sub)
        obtain ⟨its', _, ⟨o', n', e2, c2, _⟩, _⟩ := I.list (h.mono sub)
        rw [e1] at e2; cases e2; rw [c1] at c2; exact absurd c2.symm list_ne_tuple
      | lst h' r' =>
        have q := I.list_inj (h.mono sub) ((SqL.of h' : SqL X.K G _ _).mono sub)
        subst q
        simp only [eqD] at e
        rw [if_pos (by rw [← r.length, ← r'.length])] at e
        rename_i ds es
        cases e2 : eqZ (eqD n) ds es with
        | none => rw [e2] at e; cases e
        | some cs => rw [e2] at e; have := Option.some.inj e; rw [← this]; exact sq _ _ _ r r' _ e2
      | fls h' r' =>
        have q := I.list_inj (h.mono sub) (h'.mono sub)
        subst q
        simp only [eqD] at e
        rw [if_pos (by rw [← r.length, ← r'.length])] at e
        rename_i ds es
        cases e2 : eqZ (eqD n) ds es with
        | none => rw [e2] at e; cases e
        | some cs => rw [e2] at e; have := Option.some.inj e; rw [← this]; exact sq _ _ _ r r' _ e2
      | exc h' => simp [eqD] at e
    | exc h => simp [eqD] at e

structure Eqs (A : Around) (s : Shared) (v u : Value) (k : Bool) : Prop where
  eq : EqAt A s v u k
  rc : RcAt A s v u k
  ne : RcNeAt A s v u (!k)
theorem list_of {f : Bool} {x : V} {u : Value} {ds : List D} (I : Inv X pins σ H s) (sub : Same G H) (r : Rep X.K G x (.lst f ds)) (ru : RelV x u) : ∃ a its vs, u = .ref a ∧ s.heap.IsList a (List.toArray its) ∧ Vals vs its ∧ Reps X.K G vs ds := by
  obtain ⟨a, vs, rfl, h, t⟩ := r.seq_inv
  cases ru
  obtain ⟨its, rv, ⟨o, n, e1, c1, _, d1⟩, _⟩ := I.list (h.mono sub)
  exact ⟨a, its, vs, rfl, ⟨o, e1, c1, n, d1⟩, rv, t⟩
theorem tup_of {x : V} {u : Value} {ds : List D} (I : Inv X pins σ H s) (sub : Same G H) (r : Rep X.K G x (.tup ds)) (ru : RelV x u) : ∃ a its vs, u = .ref a ∧ s.heap.IsTuple a (List.toArray its) ∧ Vals vs its ∧ Reps X.K G vs ds := by
  obtain ⟨a, vs, rfl, h, t⟩ := r.tup_inv
  cases ru
  obtain ⟨its, rv, p, _⟩ := I.tuple (h.mono sub)
  exact ⟨a, its, vs, rfl, p, rv, t⟩
theorem eq_main (I : Inv X pins σ H s) (sub : Same G H) : ∀ (n : Nat) (A : Around) (a b : D) (k : Bool) (x y : V) (v u : Value), A.units + n < cLine → eqD n a b = some k → Rep X.K G x a → Rep X.K G y b → RelV x v → RelV y u → Eqs A s v u k := by
  intro n
  induction n with
  | zero => intro A a b k x y v u _ e; cases e
  | succ n ih =>
    have sq : ∀ (A : Around) (vs ws : List V) (xs ys : List D) (is js : List Value) (bs : List Bool), A.units + (n + 1) < cLine → Reps X.K G vs xs → Reps X.K G ws ys → Vals vs is → Vals ws js → eqZ (eqD n) xs ys = some bs →
        bs.length = min is.length js.length ∧ ∀ j (h1 : j < is.toArray.size) (h2 : j < js.toArray.size), EqAt A.in1 s is.toArray[j] js.toArray[j] (bs.getD j true) := by
      intro A vs ws xs ys is js bs hA r1 r2 v1 v2 e
      obtain ⟨h1, h2⟩ := eqZ.get e
      refine ⟨by rw [h1, ← r1.length, ← r2.length, v1.length, v2.length], fun j q1 q2 => ?_⟩
      rw [List.size_toArray] at q1 q2
      have p1 : j < xs.length := by rw [← r1.length, v1.length]; exact q1
      have p2 : j < ys.length := by rw [← r2.length, v2.length]; exact q2
      obtain ⟨b, e1, e2⟩ := h2 j xs[j] ys[j] (by simp [p1]) (by simp [p2])
      obtain ⟨x', ex, rx⟩ := r1.get (i := j) (d := xs[j]) (by simp [p1])
      obtain ⟨y', ey, ry⟩ := r2.get (i := j) (d := ys[j]) (by simp [p2])
      obtain ⟨u1, eu1, ru1⟩ := v1.get ex
      obtain ⟨u2, eu2, ru2⟩ := v2.get ey
      have g1 : is.toArray[j] = u1 := by simpa [q1] using eu1
      have g2 : js.toArray[j] = u2 := by simpa [q2] using eu2
      rw [List.getD_eq_getElem?_getD, e1]
      simp only [List.getElem_toArray] at g1 g2 ⊢
      rw [g1, g2]
      exact (ih A.in1 _ _ b x' y' u1 u2 (by show A.units + 1 + n < cLine; omega) e2 rx ry ru1 ru2).eq
    intro A a b k x y v u hA e ra rb rv ru
    have hu : A.units < cLine := by omega
    have same : ∀ c d : Addr, v = .ref c → u = .ref d → c = d → k = true := fun c d h1 h2 h3 => by
      subst h1 h2 h3
      cases ra with
      | tup h r => cases rv; cases rb with
        | tup h' r' => cases ru; exact eq_same I sub (n + 1) _ _ k _ e (.tup h r) (.tup h' r')
        | lst h' r' => cases ru; exact eq_same I sub (n + 1) _ _ k _ e (.tup h r) (.lst h' r')
        | fls h' r' => cases ru; exact eq_same I sub (n + 1) _ _ k _ e (.tup h r) (.fls h' r')
        | exc h' => simp [eqD] at e
        | str _ _ => obtain ⟨t, z⟩ := ru; cases z
        | int _ => obtain ⟨t, z⟩ := ru; cases z
        | non => cases ru
        | bl _ => cases ru
      | lst h r => cases rv; cases rb with
        | tup h' r' => cases ru; exact eq_same I sub (n + 1) _ _ k _ e (.lst h r) (.tup h' r')
        | lst h' r' => cases ru; exact eq_same I sub (n + 1) _ _ k _ e (.lst h r) (.lst h' r')
        | fls h' r' => cases ru; exact eq_same I sub (n + 1) _ _ k _ e (.lst h r) (.fls h' r')
        | exc h' => simp [eqD] at e
        | str _ _ => obtain ⟨t, z⟩ := ru; cases z
        | int _ => obtain ⟨t, z⟩ := ru; cases z
        | non => cases ru
        | bl _ => cases ru
      | fls h r => cases rv; cases rb with
        | tup h' r' => cases ru; exact eq_same I sub (n + 1) _ _ k _ e (.fls h r) (.tup h' r')
        | lst h' r' => cases ru; exact eq_same I sub (n + 1) _ _ k _ e (.fls h r) (.lst h' r')
        | fls h' r' => cases ru; exact eq_same I sub (n + 1) _ _ k _ e (.fls h r) (.fls h' r')
        | exc h' => simp [eqD] at e
        | str _ _ => obtain ⟨t, z⟩ := ru; cases z
        | int _ => obtain ⟨t, z⟩ := ru; cases z
        | non => cases ru
        | bl _ => cases ru
      | exc h => simp [eqD] at e
      | str _ _ => obtain ⟨t, z⟩ := rv; cases z
      | int _ => obtain ⟨t, z⟩ := rv; cases z
      | non => cases rv
      | bl _ => cases rv
    have refs : ∀ c d : Addr, v = .ref c → u = .ref d → RcAt A s v u k → EqAt A s v u k := fun c d h1 h2 h => by
      subst h1 h2
      by_cases h3 : c = d
      · have := same c d rfl rfl h3
        subst h3 this
        exact EqAt.same _
      · exact EqAt.of_refs h3 h
    cases a with
    | exc C => simp [eqD] at e
    | non =>
      obtain rfl := ra.non_inv
      cases rv
      cases b with
      | exc C => simp [eqD] at e
      | non => obtain rfl := rb.non_inv; cases ru; simp [eqD] at e; subst e; exact ⟨EqAt.same _, RcAt.none_none, RcNeAt.none_none⟩
      | bl z => obtain rfl := rb.bl_inv; cases ru; simp [eqD] at e; subst e; exact ⟨EqAt.none_bool _, RcAt.none_bool _, RcNeAt.none_bool _⟩
      | int z => obtain rfl := rb.int_inv; obtain ⟨t, rfl⟩ := ru; simp [eqD] at e; subst e; exact ⟨EqAt.none_int _ _, RcAt.none_int _ _, RcNeAt.none_int _ _⟩
      | str z => obtain ⟨z, rfl, -, -⟩ := rb.str_inv; obtain ⟨t, rfl⟩ := ru; simp [eqD] at e; subst e; exact ⟨EqAt.none_str _ _, RcAt.none_str _ _, RcNeAt.none_str _ _⟩
      | tup ds => obtain ⟨c, its, vs, rfl, p, _, _⟩ := tup_of I sub rb ru; simp [eqD] at e; subst e; exact ⟨EqAt.none_tuple p hu, RcAt.none_tuple p hu, RcNeAt.none_tuple p hu⟩
      | lst f ds => obtain ⟨c, its, vs, rfl, p, _, _⟩ := list_of I sub rb ru; simp [eqD] at e; subst e; exact ⟨EqAt.none_list p hu, RcAt.none_list p hu, RcNeAt.none_list p hu⟩
    | bl w =>
      obtain rfl := ra.bl_inv
      cases rv
      cases b with
      | exc C => simp [eqD] at e
      | non => obtain rfl := rb.non_inv; cases ru; simp [eqD] at e; subst e; exact ⟨EqAt.bool_none _, RcAt.bool_none _, RcNeAt.bool_none _⟩
      | bl z => obtain rfl := rb.bl_inv; cases ru; simp only [eqD] at e; cases e; exact ⟨EqAt.bool_bool _ _, RcAt.bool_bool _ _, RcNeAt.bool_bool _ _⟩
      | int z => obtain rfl := rb.int_inv; obtain ⟨t, rfl⟩ := ru; simp only [eqD] at e; cases e; exact ⟨EqAt.bool_int _ _ _, RcAt.bool_int _ _ _, RcNeAt.bool_int _ _ _⟩
      | str z => obtain ⟨z, rfl, -, -⟩ := rb.str_inv; obtain ⟨t, rfl⟩ := ru; simp [eqD] at e; subst e; exact ⟨EqAt.bool_str _ _ _, RcAt.bool_str _ _ _, RcNeAt.bool_str _ _ _⟩
      | tup ds => obtain ⟨c, its, vs, rfl, p, _, _⟩ := tup_of I sub rb ru; simp [eqD] at e; subst e; exact ⟨EqAt.bool_tuple _ p hu, RcAt.bool_tuple _ p hu, RcNeAt.bool_tuple _ p hu⟩
      | lst f ds => obtain ⟨c, its, vs, rfl, p, _, _⟩ := list_of I sub rb ru; simp [eqD] at e; subst e; exact ⟨EqAt.bool_list _ p hu, RcAt.bool_list _ p hu, RcNeAt.bool_list _ p hu⟩
    | int w =>
      obtain rfl := ra.int_inv
      obtain ⟨t0, rfl⟩ := rv
      cases b with
      | exc C => simp [eqD] at e
      | non => obtain rfl := rb.non_inv; cases ru; simp [eqD] at e; subst e; exact ⟨EqAt.int_none _ _, RcAt.int_none _ _, RcNeAt.int_none _ _⟩
      | bl z => obtain rfl := rb.bl_inv; cases ru; simp only [eqD] at e; cases e; exact ⟨EqAt.int_bool _ _ _, RcAt.int_bool _ _ _, RcNeAt.int_bool _ _ _⟩
      | int z => obtain rfl := rb.int_inv; obtain ⟨t, rfl⟩ := ru; simp only [eqD] at e; cases e; exact ⟨EqAt.int_int _ _ _ _, RcAt.int_int _ _ _ _, RcNeAt.int_int _ _ _ _⟩
      | str z => obtain ⟨z, rfl, -, -⟩ := rb.str_inv; obtain ⟨t, rfl⟩ := ru; simp [eqD] at e; subst e; exact ⟨EqAt.int_str _ _ _ _, RcAt.int_str _ _ _ _, RcNeAt.int_str _ _ _ _⟩
      | tup ds => obtain ⟨c, its, vs, rfl, p, _, _⟩ := tup_of I sub rb ru; simp [eqD] at e; subst e; exact ⟨EqAt.int_tuple _ _ p hu, RcAt.int_tuple _ _ p hu, RcNeAt.int_tuple _ _ p hu⟩
      | lst f ds => obtain ⟨c, its, vs, rfl, p, _, _⟩ := list_of I sub rb ru; simp [eqD] at e; subst e; exact ⟨EqAt.int_list _ _ p hu, RcAt.int_list _ _ p hu, RcNeAt.int_list _ _ p hu⟩
    | str w =>
      obtain ⟨w, rfl, ew, -⟩ := ra.str_inv
      obtain ⟨t0, rfl⟩ := rv
      cases b with
      | exc C => simp [eqD] at e
      | non => obtain rfl := rb.non_inv; cases ru; simp [eqD] at e; subst e; exact ⟨EqAt.str_none _ _, RcAt.str_none _ _, RcNeAt.str_none _ _⟩
      | bl z => obtain rfl := rb.bl_inv; cases ru; simp [eqD] at e; subst e; exact ⟨EqAt.str_bool _ _ _, RcAt.str_bool _ _ _, RcNeAt.str_bool _ _ _⟩
      | int z => obtain rfl := rb.int_inv; obtain ⟨t, rfl⟩ := ru; simp [eqD] at e; subst e; exact ⟨EqAt.str_int _ _ _ _, RcAt.str_int _ _ _ _, RcNeAt.str_int _ _ _ _⟩
      | str z =>
        obtain ⟨z, rfl, ez, -⟩ := rb.str_inv; obtain ⟨t, rfl⟩ := ru
        simp only [eqD] at e
        subst ew ez
        rw [str_beq] at e
        cases e
        exact ⟨EqAt.str_str _ _ _ _, RcAt.str_str _ _ _ _, RcNeAt.str_str _ _ _ _⟩
      | tup ds => obtain ⟨c, its, vs, rfl, p, _, _⟩ := tup_of I sub rb ru; simp [eqD] at e; subst e; exact ⟨EqAt.str_tuple _ _ p hu, RcAt.str_tuple _ _ p hu, RcNeAt.str_tuple _ _ p hu⟩
      | lst f ds => obtain ⟨c, its, vs, rfl, p, _, _⟩ := list_of I sub rb ru; simp [eqD] at e; subst e; exact ⟨EqAt.str_list _ _ p hu, RcAt.str_list _ _ p hu, RcNeAt.str_list _ _ p hu⟩
    | tup ds1 =>
      obtain ⟨c1, its1, vs1, rfl, p1, w1, q1⟩ := tup_of I sub ra rv
      cases b with
      | exc C => simp [eqD] at e
      | non => obtain rfl := rb.non_inv; cases ru; simp [eqD] at e; subst e; exact ⟨EqAt.tuple_none p1 hu, RcAt.tuple_none p1 hu, RcNeAt.tuple_none p1 hu⟩
      | bl z => obtain rfl := rb.bl_inv; cases ru; simp [eqD] at e; subst e; exact ⟨EqAt.tuple_bool _ p1 hu, RcAt.tuple_bool _ p1 hu, RcNeAt.tuple_bool _ p1 hu⟩
      | int z => obtain rfl := rb.int_inv; obtain ⟨t, rfl⟩ := ru; simp [eqD] at e; subst e; exact ⟨EqAt.tuple_int _ _ p1 hu, RcAt.tuple_int _ _ p1 hu, RcNeAt.tuple_int _ _ p1 hu⟩
      | str z => obtain ⟨z, rfl, -, -⟩ := rb.str_inv; obtain ⟨t, rfl⟩ := ru; simp [eqD] at e; subst e; exact ⟨EqAt.tuple_str _ _ p1 hu, RcAt.tuple_str _ _ p1 hu, RcNeAt.tuple_str _ _ p1 hu⟩
      | lst f ds => obtain ⟨c, its, vs, rfl, p, _, _⟩ := list_of I sub rb ru; simp [eqD] at e; subst e; exact ⟨EqAt.tuple_list p1 p hu, RcAt.tuple_list p1 p hu, RcNeAt.tuple_list p1 p hu⟩
      | tup ds2 =>
        obtain ⟨c2, its2, vs2, rfl, p2, w2, q2⟩ := tup_of I sub rb ru
        simp only [eqD] at e
        cases e2 : eqZ (eqD n) ds1 ds2 with
        | none => rw [e2] at e; cases e
        | some bs =>
          rw [e2] at e
          have ek := Option.some.inj e
          obtain ⟨hl, he⟩ := sq A _ _ _ _ _ _ bs hA q1 q2 w1 w2 e2
          have e3 : ((List.range (min its1.toArray.size its2.toArray.size)).all (fun j => bs.getD j true) && its1.toArray.size == its2.toArray.size) = k := by
            rw [← ek, List.size_toArray, List.size_toArray, range_all hl, ← w1.length, ← w2.length, q1.length, q2.length]
          have hrc : RcAt A s (.ref c1) (.ref c2) k := by rw [← e3]; exact RcAt.tuples p1 p2 hu he
          have hne : RcNeAt A s (.ref c1) (.ref c2) (!k) := by rw [← e3]; exact RcNeAt.tuples p1 p2 hu he
          exact ⟨refs _ _ rfl rfl hrc, hrc, hne⟩
    | lst f1 ds1 =>
      obtain ⟨c1, its1, vs1, rfl, p1, w1, q1⟩ := list_of I sub ra rv
      cases b with
      | exc C => simp [eqD] at e
      | non => obtain rfl := rb.non_inv; cases ru; simp [eqD] at e; subst e; exact ⟨EqAt.list_none p1 hu, RcAt.list_none p1 hu, RcNeAt.list_none p1 hu⟩
      | bl z => obtain rfl := rb.bl_inv; cases ru; simp [eqD] at e; subst e; exact ⟨EqAt.list_bool _ p1 hu, RcAt.list_bool _ p1 hu, RcNeAt.list_bool _ p1 hu⟩
      | int z => obtain rfl := rb.int_inv; obtain ⟨t, rfl⟩ := ru; simp [eqD] at e; subst e; exact ⟨EqAt.list_int _ _ p1 hu, RcAt.list_int _ _ p1 hu, RcNeAt.list_int _ _ p1 hu⟩
      | str z => obtain ⟨z, rfl, -, -⟩ := rb.str_inv; obtain ⟨t, rfl⟩ := ru; simp [eqD] at e; subst e; exact ⟨EqAt.list_str _ _ p1 hu, RcAt.list_str _ _ p1 hu, RcNeAt.list_str _ _ p1 hu⟩
      | tup ds => obtain ⟨c, its, vs, rfl, p, _, _⟩ := tup_of I sub rb ru; simp [eqD] at e; subst e; exact ⟨EqAt.list_tuple p1 p hu, RcAt.list_tuple p1 p hu, RcNeAt.list_tuple p1 p hu⟩
      | lst f2 ds2 =>
        obtain ⟨c2, its2, vs2, rfl, p2, w2, q2⟩ := list_of I sub rb ru
        simp only [eqD] at e
        by_cases hlen : ds1.length = ds2.length
        · rw [if_pos hlen] at e
          cases e2 : eqZ (eqD n) ds1 ds2 with
          | none => rw [e2] at e; cases e
          | some bs =>
            rw [e2] at e
            have ek := Option.some.inj e
            obtain ⟨hl, he⟩ := sq A _ _ _ _ _ _ bs hA q1 q2 w1 w2 e2
            have hz : its1.toArray.size = its2.toArray.size := by rw [List.size_toArray, List.size_toArray, ← w1.length, ← w2.length, q1.length, q2.length]; exact hlen
            have e3 : (List.range its1.toArray.size).all (fun j => bs.getD j true) = k := by
              rw [← ek, range_all]
              rw [hl, List.size_toArray]
              simp only [List.size_toArray] at hz
              omega
            have hrc : RcAt A s (.ref c1) (.ref c2) k := by rw [← e3]; exact RcAt.lists p1 p2 hz hu he
            have hne : RcNeAt A s (.ref c1) (.ref c2) (!k) := by rw [← e3]; exact RcNeAt.lists p1 p2 hz hu he
            exact ⟨refs _ _ rfl rfl hrc, hrc, hne⟩
        · rw [if_neg hlen] at e
          cases e
          have hz : (its1.toArray.size != its2.toArray.size) = true := by
            rw [List.size_toArray, List.size_toArray, ← w1.length, ← w2.length, q1.length, q2.length]
            simpa using hlen
          have hrc : RcAt A s (.ref c1) (.ref c2) false := RcAt.lists_lengths p1 p2 hz hu
          exact ⟨refs _ _ rfl rfl hrc, hrc, RcNeAt.lists_lengths p1 p2 hz hu⟩
end
section
variable {X : Cx} {a b : Expr} {ga gb : Ev → R D} {pos : Pos}
noncomputable def eqF (x y : D) : Option D := (eqD 40 x y).map .bl
noncomputable def neF (x y : D) : Option D := (eqD 40 x y).map fun k => .bl (!k)
noncomputable def rEqD (K : PySem.W.Frag) (neg : Bool) : R2 := fun x y H Q => ∃ G dx dy k, Same G H ∧ Rep K G x dx ∧ Rep K G y dy ∧ eqD 40 dx dy = some k ∧ Q (.bl (if neg then !k else k)) H
theorem op_eqD (hu : X.A.units + 64 < cLine) : OpR X (compareOp .Eq) (rEqD X.K false) := by
  intro pins s σ H x y v u Q I rx ry h
  obtain ⟨G, dx, dy, k, sub, r1, r2, e, q⟩ := h
  exact (eq_main I sub 40 X.A dx dy k x y v u (by omega) e r1 r2 rx ry).rc _ _ _ _ ⟨.bl k, H, I, rfl, q⟩
theorem op_neD (hu : X.A.units + 64 < cLine) : OpR X (compareOp .NotEq) (rEqD X.K true) := by
  intro pins s σ H x y v u Q I rx ry h
  obtain ⟨G, dx, dy, k, sub, r1, r2, e, q⟩ := h
  exact (eq_main I sub 40 X.A dx dy k x y v u (by omega) e r1 r2 rx ry).ne _ _ _ _ ⟨.bl (!k), H, I, rfl, q⟩
theorem pf_eq_0 (hu : X.A.units + 64 < cLine) (ha : QF X a ga) (hb : QF X b gb) : QF X (.Compare a [.Eq] [b] pos) (g2 eqF ga gb) := pf_cmp_0 (op_eqD hu) (by
  intro G H x y dx dy d Q s rx ry e q
  unfold eqF at e
  cases e1 : eqD 40 dx dy with
  | none => rw [e1] at e; cases e
  | some k => rw [e1] at e; cases e; exact ⟨G, dx, dy, k, s, rx, ry, e1, q _ G H (.refl s) (.bl k)⟩) ha hb (nomark _)
theorem pf_ne_0 (hu : X.A.units + 64 < cLine) (ha : QF X a ga) (hb : QF X b gb) : QF X (.Compare a [.NotEq] [b] pos) (g2 neF ga gb) := pf_cmp_0 (op_neD hu) (by
  intro G H x y dx dy d Q s rx ry e q
  unfold neF at e
  cases e1 : eqD 40 dx dy with
  | none => rw [e1] at e; cases e
  | some k => rw [e1] at e; cases e; exact ⟨G, dx, dy, k, s, rx, ry, e1, q _ G H (.refl s) (.bl (!k))⟩) ha hb (nomark _)
end
end L2
namespace L2
open PySem PySem.Spec PyProof.Rows
section
variable {X : Cx} {a b c e : Expr} {es rest : List Expr} {ga gb gc : Ev → R D} {gt gu : Ev → R Bool} {gl : Ev → R (List D)} {pos : Pos}

noncomputable def asB : D → R Bool
  | .bl k => .ok k
  | _ => .no
noncomputable def gAnd (ga gb : Ev → R D) : Ev → R D := fun ρ => ga ρ >>= fun x => asB x >>= fun k => if k = true then gb ρ else .ok (.bl false)
noncomputable def gOr (ga gb : Ev → R D) : Ev → R D := fun ρ => ga ρ >>= fun x => asB x >>= fun k => if k = true then .ok (.bl true) else gb ρ
noncomputable def gNot (ga : Ev → R D) : Ev → R D := fun ρ => ga ρ >>= fun x => asB x >>= fun k => .ok (.bl (!k))
theorem asB.ok {β : Type} {K : PySem.W.Frag} {G : Hp} {v : V} {d : D} {k : Bool → R β} {P : β → Prop} {E : Addr → Prop} (r : Rep K G v d) (h : (asB d >>= k).post P E) : ∃ c, v = .bl c ∧ d = .bl c ∧ (k c).post P E := by
  cases r with
  | bl c => exact ⟨c, rfl, rfl, h⟩
  | _ => exact h.elim
theorem pf_one_0 {op : BoolOp} (h : QF X a ga) : QF X (.BoolOp op [a] pos) ga := pe_one h
theorem pf_and_0 (ha : QF X a ga) (hb : QF X (.BoolOp .And (b :: rest) pos) gb) : QF X (.BoolOp .And (a :: b :: rest) pos) (gAnd ga gb) := by
  intro pins s σ H Q I h
  refine pe_and ha hb pins s σ H Q I ?_
  obtain ⟨G, ρ, st, h⟩ := h
  refine tG.intro st h fun x v G1 H1 u1 st1 r1 h1 => ?_
  obtain ⟨c, ec, ed, h2⟩ := asB.ok r1 h1
  subst ec ed
  refine ⟨c, rfl, ?_⟩
  cases c with
  | true => rw [if_pos rfl] at h2 ⊢; exact tG.last st1 h2
  | false => rw [if_neg Bool.false_ne_true] at h2 ⊢; exact h2 _ G1 H1 (.refl st1.sub) (.bl false)
theorem pf_not_0 (ha : QF X a ga) : QF X (.UnaryOp .Not a pos) (gNot ga) := by
  intro pins s σ H Q I h
  refine pe_not ha pins s σ H Q I ?_
  obtain ⟨G, ρ, st, h⟩ := h
  refine tG.intro st h fun x v G1 H1 u1 st1 r1 h1 => ?_
  obtain ⟨c, ec, ed, h2⟩ := asB.ok r1 h1
  subst ec ed
  exact ⟨c, rfl, h2 _ G1 H1 (.refl st1.sub) (.bl _)⟩
noncomputable def negD : D → R D
  | .int i => .ok (.int (-i))
  | _ => .no
theorem pf_neg_0 (ha : QF X a ga) : QF X (.UnaryOp .USub a pos) (fun ρ => ga ρ >>= negD) := by
  intro pins s σ H Q I h
  refine pe_un un_neg ha pins s σ H Q I ?_
  obtain ⟨G, ρ, st, h⟩ := h
  refine tG.intro st h fun x v G1 H1 u1 st1 r1 h1 => ?_
  cases r1 with
  | int i => exact ⟨i, rfl, h1 _ G1 H1 (.refl st1.sub) (.int _)⟩
  | _ => exact h1.elim

noncomputable def truD : D → R Bool
  | .non => .ok false
  | .bl k => .ok k
  | .int i => .ok (i != 0)
  | .str x => .ok (!x.isEmpty)
  | .tup xs => .ok (!xs.isEmpty)
  | .lst _ xs => .ok (!xs.isEmpty)
  | .exc _ => .no
theorem Reps.isEmpty {K : PySem.W.Frag} {G : Hp} {vs : List V} {ds : List D} (r : Reps K G vs ds) : vs.isEmpty = ds.isEmpty := by cases r <;> rfl
theorem pb_val_0 (h : QF X e ga) (he : ∀ whole, isTrue e X.env whole = (do let v ← whole; standAt e.pos; holding [v] (truthy v)) := by intro _; rfl) : QB X e (fun ρ => ga ρ >>= truD) := by
  intro pins s σ H Q I hq
  refine pt_truth h he pins s σ H Q I ?_
  obtain ⟨G, ρ, st, hq⟩ := hq
  refine tG.intro st hq fun x v G1 H1 u1 st1 r1 h1 => ?_
  have fin : ∀ k, truD x = .ok k → Q k H1 := fun k ek => by rw [ek] at h1; exact h1 k G1 H1 (.refl st1.sub) rfl
  cases r1 with
  | non => exact ⟨_, rfl, fin _ rfl⟩
  | bl k => exact ⟨_, rfl, fin _ rfl⟩
  | int i => exact ⟨_, rfl, fin _ rfl⟩
  | str y hy =>
    refine ⟨_, ⟨hy, rfl⟩, fin _ ?_⟩
    show R.ok _ = R.ok _
    congr 1
    have : y.cps.toList.length = y.length := Str.len_list y
    cases h : y.cps.toList with
    | nil => rw [h] at this; rw [← this]; rfl
    | cons c cs => rw [h] at this; rw [← this]; simp; omega
  | tup h r => exact ⟨_, .inr (.inl ⟨_, h.mono st1.sub, rfl⟩), fin _ (by show R.ok _ = R.ok _; rw [r.isEmpty])⟩
  | lst h r => exact ⟨_, .inl ⟨_, .of (st1.sub _ _ h), rfl⟩, fin _ (by show R.ok _ = R.ok _; rw [r.isEmpty])⟩
  | fls h r => exact ⟨_, .inl ⟨_, h.mono st1.sub, rfl⟩, fin _ (by show R.ok _ = R.ok _; rw [r.isEmpty])⟩
  | exc h => exact h1.elim
theorem pb_cmp_0 {op : CmpOp} {r : R2} {f : D → D → Option D} (ho : OpR X (compareOp op) r) (hf : ROk X.K r f) (ha : QF X a ga) (hb : QF X b gb) (hm : behindInMarks op b = false) : QB X (.Compare a [op] [b] pos) (fun ρ => g2 f ga gb ρ >>= asB) := by
  intro pins s σ H Q I h
  refine pt_cmpR ho ha hb hm pins s σ H Q I ?_
  obtain ⟨G, ρ, st, h⟩ := h
  refine t2_of hf ?_
  refine tG.intro st h fun x v G1 H1 u1 st1 r1 h1 => ?_
  cases r1 with
  | bl k => exact ⟨k, rfl, h1 k G1 H1 (.refl st1.sub) rfl⟩
  | _ => exact h1.elim
theorem pb_lt_0 (ha : QF X a ga) (hb : QF X b gb) : QB X (.Compare a [.Lt] [b] pos) (fun ρ => g2 ltD ga gb ρ >>= asB) := pb_cmp_0 op_lt' (ok_lt _) ha hb (nomark _)
theorem ok_eqD (K : PySem.W.Frag) (neg : Bool) : ROk K (rEqD K neg) (fun x y => (eqD 40 x y).map fun k => .bl (if neg then !k else k)) := by
  intro G H x y dx dy d Q s rx ry e q
  dsimp only at e
  cases e1 : eqD 40 dx dy with
  | none => rw [e1] at e; cases e
  | some k => rw [e1] at e; cases e; exact ⟨G, dx, dy, k, s, rx, ry, e1, q _ G H (.refl s) (.bl _)⟩
theorem pb_eq_0 (hu : X.A.units + 64 < cLine) (ha : QF X a ga) (hb : QF X b gb) : QB X (.Compare a [.Eq] [b] pos) (fun ρ => g2 eqF ga gb ρ >>= asB) := pb_cmp_0 (op_eqD hu) (ok_eqD _ false) ha hb (nomark _)
theorem pb_ne_0 (hu : X.A.units + 64 < cLine) (ha : QF X a ga) (hb : QF X b gb) : QB X (.Compare a [.NotEq] [b] pos) (fun ρ => g2 neF ga gb ρ >>= asB) := pb_cmp_0 (op_neD hu) (ok_eqD _ true) ha hb (nomark _)
theorem pb_chain_0 {op op' : CmpOp} {r r' : R2} {f f' : D → D → Option D} (ho : OpR X (compareOp op) r) (ho' : OpR X (compareOp op') r') (hf : ROk X.K r f) (hf' : ROk X.K r' f') (ha : QF X a ga) (hb : QF X b gb) (hc : QF X c gc)
    (hm : lastMarks [op, op'] [b, c] = false := by with_unfolding_all rfl) : QB X (.Compare a [op, op'] [b, c] pos) (fun ρ => g3 f f' ga gb gc ρ >>= asB) := by
  intro pins s σ H Q I h
  refine pt_chain ho ho' ha hb hc hm pins s σ H Q I ?_
  obtain ⟨G, ρ, st, h⟩ := h
  have h' : (ga ρ >>= fun x => gb ρ >>= fun y => ofO (f x y) >>= fun z => (match z with | .bl true => gc ρ >>= fun w => ofO (f' y w) | .bl false => .ok (.bl false) | _ => .no) >>= asB).post (Fin G H (fun _ b c => b = c) Q) (Exx X σ G H) := by
    have e : (g3 f f' ga gb gc ρ >>= asB) = (ga ρ >>= fun x => gb ρ >>= fun y => ofO (f x y) >>= fun z => (match z with | .bl true => gc ρ >>= fun w => ofO (f' y w) | .bl false => .ok (.bl false) | _ => .no) >>= asB) := by
      unfold g3
      cases ga ρ with
      | ok x => cases gb ρ with
        | ok y => simp only [R.ok_bind]; cases ofO (f x y) <;> rfl
        | _ => rfl
      | _ => rfl
    rw [← e]; exact h
  refine tG.intro st h' fun x v G1 H1 u1 st1 r1 h1 => ?_
  refine tG.intro st1 h1 fun y w G2 H2 u2 st2 r2 h2 => ?_
  cases e : f x y with
  | none => rw [e] at h2; exact h2.elim
  | some d =>
    rw [e] at h2
    refine hf G2 H2 v w x y d _ st2.sub (r1.mono u2.gg) r2 e fun z G3 H3 u3 r3 => ?_
    have h3 := post_up u3 h2
    have st3 := st2.up u3
    cases r3 with
    | bl k =>
      refine ⟨k, rfl, ?_⟩
      cases k with
      | false => rw [if_neg Bool.false_ne_true]; exact ⟨false, rfl, h3 _ G3 H3 (.refl st3.sub) rfl⟩
      | true =>
        rw [if_pos rfl]
        have h3' : (gc ρ >>= fun w => ofO (f' y w) >>= asB).post (Fin G3 H3 (fun _ b c => b = c) Q) (Exx X σ G3 H3) := by
          have e : ((gc ρ >>= fun w => ofO (f' y w)) >>= asB) = (gc ρ >>= fun w => ofO (f' y w) >>= asB) := by cases gc ρ <;> rfl
          rw [← e]; exact h3
        refine tG.intro st3 h3' fun q vq G4 H4 u4 st4 r4 h4 => ?_
        cases e' : f' y q with
        | none => rw [e'] at h4; exact h4.elim
        | some d' =>
          rw [e'] at h4
          refine hf' G4 H4 w vq y q d' _ st4.sub ((r2.mono u3.gg).mono u4.gg) r4 e' fun z' G5 H5 u5 r5 => ?_
          have h5 := post_up u5 h4
          cases r5 with
          | bl k' => exact ⟨k', rfl, h5 k' G5 H5 (.refl u5.sub) rfl⟩
          | _ => exact h5.elim
    | _ => exact h3.elim
theorem pb_lele_0 (ha : QF X a ga) (hb : QF X b gb) (hc : QF X c gc) (hm : lastMarks [.LtE, .LtE] [b, c] = false := by with_unfolding_all rfl) : QB X (.Compare a [.LtE, .LtE] [b, c] pos) (fun ρ => g3 leD leD ga gb gc ρ >>= asB) := pb_chain_0 op_le' op_le' (ok_le _) (ok_le _) ha hb hc hm
noncomputable def tAndB (t u : Ev → R Bool) : Ev → R Bool := fun ρ => t ρ >>= fun k => if k = true then u ρ else .ok false
noncomputable def tOrB (t u : Ev → R Bool) : Ev → R Bool := fun ρ => t ρ >>= fun k => if k = true then .ok true else u ρ
theorem pbw_and1_0 (ha : QB X a gt) : QBW X (.BoolOp .And [a] pos) gt := pw_and1 ha
theorem pbw_or1_0 (ha : QB X a gt) : QBW X (.BoolOp .Or [a] pos) gt := pw_or1 ha
theorem pbw_and_0 (ha : QB X a gt) (hb : QBW X (.BoolOp .And (b :: rest) pos) gu) : QBW X (.BoolOp .And (a :: b :: rest) pos) (tAndB gt gu) := by
  intro whole pins s σ H Q I h
  refine pw_and ha hb whole pins s σ H Q I ?_
  obtain ⟨G, ρ, st, h⟩ := h
  refine tG.intro st h fun x v G1 H1 u1 st1 r1 h1 => ?_
  subst r1
  cases v with
  | true => rw [if_pos rfl] at h1 ⊢; exact tG.last st1 h1
  | false => rw [if_neg Bool.false_ne_true] at h1 ⊢; exact h1 _ G1 H1 (.refl st1.sub) rfl
theorem pbw_or_0 (ha : QB X a gt) (hb : QBW X (.BoolOp .Or (b :: rest) pos) gu) : QBW X (.BoolOp .Or (a :: b :: rest) pos) (tOrB gt gu) := by
  intro whole pins s σ H Q I h
  refine pw_or ha hb whole pins s σ H Q I ?_
  obtain ⟨G, ρ, st, h⟩ := h
  refine tG.intro st h fun x v G1 H1 u1 st1 r1 h1 => ?_
  subst r1
  cases v with
  | true => rw [if_pos rfl] at h1 ⊢; exact h1 _ G1 H1 (.refl st1.sub) rfl
  | false => rw [if_neg Bool.false_ne_true] at h1 ⊢; exact tG.last st1 h1
theorem pb_not_0 (ha : QB X a gt) : QB X (.UnaryOp .Not a pos) (fun ρ => gt ρ >>= fun k => .ok (!k)) := by
  intro pins s σ H Q I h
  refine pt_not ha pins s σ H Q I ?_
  obtain ⟨G, ρ, st, h⟩ := h
  refine tG.intro st h fun x v G1 H1 u1 st1 r1 h1 => ?_
  subst r1
  exact h1 _ G1 H1 (.refl st1.sub) rfl
noncomputable def gIf (gt : Ev → R Bool) (ga gb : Ev → R D) : Ev → R D := fun ρ => gt ρ >>= fun k => if k = true then ga ρ else gb ρ
theorem pf_if_0 (hc : QB X c gt) (ha : QF X a ga) (hb : QF X b gb) : QF X (.IfExp c a b pos) (gIf gt ga gb) := by
  intro pins s σ H Q I h
  refine pe_ifExp hc ha hb pins s σ H Q I ?_
  obtain ⟨G, ρ, st, h⟩ := h
  refine tG.intro st h fun x v G1 H1 u1 st1 r1 h1 => ?_
  subst r1
  cases v with
  | true => rw [if_pos rfl] at h1 ⊢; exact tG.last st1 h1
  | false => rw [if_neg Bool.false_ne_true] at h1 ⊢; exact tG.last st1 h1

theorem pfa_nil_0 : QFA X [] (fun _ => .ok []) := by
  intro pos pins s σ H Q I h
  obtain ⟨G, ρ, st, h⟩ := h
  exact pa_nil pos pins s σ H Q I (h [] G H (.refl st.sub) .nil)
theorem pfa_cons_0 (ha : QF X e ga) (hr : QFA X es gl) (hs : starEach (e :: es) X.env = (false, eval e X.env) :: starEach es X.env := by rfl) : QFA X (e :: es) (fun ρ => ga ρ >>= fun x => gl ρ >>= fun xs => .ok (x :: xs)) := by
  intro pos pins s σ H Q I h
  refine pa_cons ha hr hs pos pins s σ H Q I ?_
  obtain ⟨G, ρ, st, h⟩ := h
  refine tG.intro st h fun x v G1 H1 u1 st1 r1 h1 => ?_
  refine tG.intro st1 h1 fun y w G2 H2 u2 st2 r2 h2 => ?_
  exact h2 _ G2 H2 (.refl st2.sub) (.cons (r1.mono u2.gg) r2)
noncomputable def mkT (ds : List D) : R D := if ds.length ≤ sizeLine then .ok (.tup ds) else .no
theorem pf_tup_0 {k : Nat} (h : QFA X es gl) : QF X (.Tuple es k pos) (fun ρ => gl ρ >>= mkT) := by
  intro pins s σ H Q I hq
  refine pe_tup h pins s σ H Q I ?_
  obtain ⟨G, ρ, st, hq⟩ := hq
  refine tG.intro st hq fun ds vs G1 H1 u1 st1 r1 h1 => ?_
  unfold mkT at h1
  split at h1
  · rename_i hz
    exact ⟨by rw [r1.length]; exact hz, fun p hp => h1 _ _ _ (.new st1.sub hp) (.tup (.of upd_same) (r1.mono (.into (st1.sub.free hp))))⟩
  · exact h1.elim
theorem one_le {c : Nat} : [c].length ≤ sizeLine := by show 1 ≤ sizeLine; decide
noncomputable def ixD : D → D → Option D
  | .lst _ xs, .int i => atI xs i
  | .tup xs, .int i => atI xs i
  | .str x, .int i => (atI x i).map fun c => .str [c]
  | _, _ => none
theorem Reps.atI {K : PySem.W.Frag} {G : Hp} {vs : List V} {ds : List D} {i : Int} {d : D} (r : Reps K G vs ds) (h : atI ds i = some d) : ∃ v, atI vs i = some v ∧ Rep K G v d := by
  unfold L2.atI at h ⊢
  rw [r.length]
  cases e : ixN ds.length i with
  | none => rw [e] at h; cases h
  | some j => rw [e] at h; exact r.get h
theorem ok_ix (K : PySem.W.Frag) : ROk K (rIx K) ixD := by
  intro G H x y dx dy d Q s rx ry e q
  unfold ixD at e
  split at e
  · obtain ⟨a, vs, rfl, h, r⟩ := rx.seq_inv
    obtain ⟨v, e1, r1⟩ := r.atI e
    exact .inl ⟨a, vs, _, v, rfl, ry.int_inv, h.mono s, e1, q v G H (.refl s) r1⟩
  · obtain ⟨a, vs, rfl, h, r⟩ := rx.tup_inv
    obtain ⟨v, e1, r1⟩ := r.atI e
    exact .inr (.inl ⟨a, vs, _, v, rfl, ry.int_inv, h.mono s, e1, q v G H (.refl s) r1⟩)
  · rename_i z i
    obtain ⟨y', rfl, ey, hy⟩ := rx.str_inv
    subst ey
    cases e1 : L2.atI y'.cps.toList i with
    | none => rw [e1] at e; cases e
    | some c =>
      rw [e1] at e
      cases e
      exact .inr (.inr ⟨y', i, c, rfl, ry.int_inv, hy, e1, q _ G H (.refl s) (.strL (by simp) one_le)⟩)
  · cases e
theorem pf_ix_0 (ha : QF X a ga) (hb : QF X b gb) (hs : PlainIx b := by exact fun _ _ => rfl) : QF X (.Subscript a b pos) (g2 ixD ga gb) :=
  fun pins s σ H Q I h => pe_ix ix_seq ha hb hs pins s σ H Q I (t2_of (ok_ix _) h)
end
end L2
namespace L2
open PySem PySem.Spec PyProof.Rows
noncomputable def cutL {α : Type} (xs : List α) (lo hi : Option Int) : List α := (xs.drop (HT.sIx xs.length 0 lo)).take (HT.sIx xs.length xs.length hi - HT.sIx xs.length 0 lo)
theorem cutL_le {α : Type} (xs : List α) (lo hi : Option Int) : (cutL xs lo hi).length ≤ xs.length := by
  unfold cutL
  rw [List.length_take, List.length_drop]
  omega
theorem Reps.cut {K : PySem.W.Frag} {G : Hp} {vs : List V} {ds : List D} (r : Reps K G vs ds) (lo hi : Option Int) : Reps K G (cutV vs lo hi) (cutL ds lo hi) := by
  unfold cutV cutL
  rw [r.length]
  exact (r.drop _).take _
section
variable {X : Cx} {a b c e : Expr} {es rest : List Expr} {lo hi : Option Expr} {ga gb gc : Ev → R D} {go gp : Ev → R (Option Int)} {gl : Ev → R (List D)} {pos p2 : Pos}
noncomputable def rSlT' (K : PySem.W.Frag) : V → Option Int → Option Int → Hp → VK → Prop := fun x lo hi H Q => ∃ a xs, x = .ref a ∧ SqT K H a xs ∧
  (HT.sIx xs.length 0 lo = 0 ∧ HT.sIx xs.length xs.length hi = xs.length) ∧ Q (.ref a) H
theorem sl_tup_whole : SlR X (rSlT' X.K) := by
  intro pins s σ H x v vl vu lo hi sl Q I rx hs pl pu h
  obtain ⟨a, xs, rfl, hx, ⟨hw1, hw2⟩, q⟩ := h
  cases rx
  obtain ⟨its, r, ht, hz⟩ := I.tuple hx
  have hlen : its.toArray.size = xs.length := by rw [List.size_toArray]; exact r.length.symm
  refine ⟨"tuple", _, PyProof.Rows.slot_tuple_getitem.lookup, ht.typeIs, ?_⟩
  obtain ⟨os, hos, hcs, hds⟩ := id hs
  have hTs : s.TypeIs (.ref sl) "slice" := ⟨os, hos, hcs⟩
  unfold getItem
  try with_reducible refine wpAny_holding ?_
  first | refine wpAny_bind (wpAny_pure ?_) | skip
  refine wpAny_bind (wpAny_sequenceKey ht.typeIs (by decide) ?_)
  refine wpAny_bind (wpAny_callSpecial?_slot (name := Str.ofString "__getitem__") ht.typeIs PyProof.Rows.slot_tuple_getitem
    (wpAny_call_entry PyProof.Rows.slot_tuple_getitem ht.typeIs entry_tuple_getitem ?_ (args_tuple_getitem _ _)))
  show wpAny _ _ (Builtin.Tuple.tupleItemsOf (.ref a) >>= _) _ _ s
  refine wpAny_bind (tupleItemsOf_ ht ?_)
  refine wpAny_bind (wpAny_typeOf hTs ?_)
  rw [if_pos (by decide)]
  refine wpAny_bind (HT.sliceApplied_gen hs pl pu ?_)
  rw [hlen, hw1, hw2]
  dsimp only
  rw [if_pos (by simp)]
  have fin : EP X pins σ Q (.ref a) s := ⟨.ref a, H, I, rfl, q⟩
  obtain ⟨o, ho, hc, n, hd⟩ := id ht
  unfold Builtin.Tuple.tupleIsExact
  refine wpAny_bind (wpAny_bind (wpAny_typeOf ht.typeIs (wpAny_pure ?_)))
  rw [if_pos (by decide)]
  exact wpAny_bind (wpAny_rule (wpAny_pure ⟨_, rfl, wpAny_pure fin⟩))
theorem pickL {α : Type} (xs : List α) (a : Nat) : ∀ k : Nat, ((List.range k).map (a + ·)).filterMap (fun i : Nat => xs[i]?) = (xs.drop a).take k
  | 0 => by simp
  | k + 1 => by
    rw [List.range_succ, List.map_append, List.filterMap_append, pickL xs a k, List.take_add_one, List.getElem?_drop]
    congr 1
    try (simp only [List.map_cons, List.map_nil, List.filterMap_cons, List.filterMap_nil]; cases xs[a + k]? <;> rfl)
theorem clip_sIx (n d : Nat) (v : Option Int) : (match v with | none => (d : Int) | some i => max 0 (min (if i < 0 then i + (n : Int) else i) (n : Int))) = ((HT.sIx n d v : Nat) : Int) := by
  cases v with
  | none => rfl
  | some i =>
    show max 0 (min (if i < 0 then i + (n : Int) else i) (n : Int)) = (((if i < 0 then (i + (n : Int)).toNat else min i.toNat n) : Nat) : Int)
    split <;> omega
theorem sliceIx (lo hi : Option Int) (n : Nat) : Builtin.Str.strSliceIndices lo hi 1 n = (List.range (HT.sIx n n hi - HT.sIx n 0 lo)).map (HT.sIx n 0 lo + ·) := by
  have e : Builtin.Str.strSliceIndices lo hi 1 n = sliceRange ((HT.sIx n 0 lo : Nat) : Int) ((HT.sIx n n hi : Nat) : Int) 1 := by
    rw [← clip_sIx n 0 lo, ← clip_sIx n n hi]
    rfl
  rw [e]
  generalize HT.sIx n 0 lo = a
  generalize HT.sIx n n hi = b
  unfold sliceRange
  have hc : (if (1 : Int) > 0 then (if (a : Int) < (b : Int) then ((b : Int) - (a : Int) + 1 - 1) / 1 else 0) else (if (a : Int) > (b : Int) then ((a : Int) - (b : Int) - 1 - 1) / (-1) else 0)).toNat = b - a := by
    rw [if_pos (by decide)]
    split
    · rw [Int.ediv_one]; omega
    · omega
  simp only [hc]
  apply List.map_congr_left
  intro k _
  omega
theorem txt_slice (x : Str) (lo hi : Option Int) : (Txt.slice x lo hi).cps.toList = cutL x.cps.toList lo hi := by
  have hn : x.cps.toList.length = x.length := Str.len_list x
  unfold Txt.slice cutL
  rw [hn, sliceIx]
  have hb : HT.sIx x.length x.length hi ≤ x.length := HT.sIx_le _ _ (Nat.le_refl _) hi
  by_cases hc : ((1 : Int) == 1 && ((List.range (HT.sIx x.length x.length hi - HT.sIx x.length 0 lo)).map (HT.sIx x.length 0 lo + ·)).length == x.length) = true
  · rw [if_pos hc]
    have h2 : HT.sIx x.length x.length hi - HT.sIx x.length 0 lo = x.length := by simpa using hc
    have h3 : HT.sIx x.length 0 lo = 0 ∨ x.length = 0 := by omega
    rw [h2]
    rcases h3 with h3 | h3
    · rw [h3, List.drop_zero, ← hn, List.take_length]
    · have : x.cps.toList = [] := List.eq_nil_of_length_eq_zero (by rw [hn]; exact h3)
      rw [this]; simp
  · rw [if_neg hc]
    have e : (fun i : Nat => x.cps[i]?) = (fun i : Nat => x.cps.toList[i]?) := by funext i; simp
    show (List.filterMap (fun i : Nat => x.cps[i]?) _).toArray.toList = _
    rw [List.toList_toArray, e, pickL]
noncomputable def rSlS : V → Option Int → Option Int → Hp → VK → Prop := fun x lo hi H Q => ∃ y : Str, x = .str y ∧ y.length ≤ sizeLine ∧ Q (.str (Txt.slice y lo hi)) H
theorem sl_str : SlR X rSlS := by
  intro pins s σ H x v vl vu lo hi sl Q I rx hs pl pu h
  obtain ⟨y, rfl, hz, q⟩ := h
  obtain ⟨t, rfl⟩ := rx
  refine ⟨"str", _, F.slot_str_getitem.lookup, typeIs_str _ _ _, ?_⟩
  cases pl with
  | none =>
    cases pu with
    | none => exact wpAny_getItem_str_slice (l := none) (u := none) (st := none) hs rfl (post_val_or_str ⟨Nat.le_trans (Txt.slice_le y _ _) hz, fun t' k => ⟨.str _, H, I.tok k, ⟨t', rfl⟩, q⟩⟩)
    | int j uj => exact wpAny_getItem_str_slice (l := none) (u := some (j, uj)) (st := none) hs rfl (post_val_or_str ⟨Nat.le_trans (Txt.slice_le y _ _) hz, fun t' k => ⟨.str _, H, I.tok k, ⟨t', rfl⟩, q⟩⟩)
  | int i ui =>
    cases pu with
    | none => exact wpAny_getItem_str_slice (l := some (i, ui)) (u := none) (st := none) hs rfl (post_val_or_str ⟨Nat.le_trans (Txt.slice_le y _ _) hz, fun t' k => ⟨.str _, H, I.tok k, ⟨t', rfl⟩, q⟩⟩)
    | int j uj => exact wpAny_getItem_str_slice (l := some (i, ui)) (u := some (j, uj)) (st := none) hs rfl (post_val_or_str ⟨Nat.le_trans (Txt.slice_le y _ _) hz, fun t' k => ⟨.str _, H, I.tok k, ⟨t', rfl⟩, q⟩⟩)
noncomputable def cutD (lo hi : Option Int) : D → Option D
  | .str x => some (.str (cutL x lo hi))
  | .tup xs => some (.tup (cutL xs lo hi))
  | .lst _ xs => some (.lst false (cutL xs lo hi))
  | _ => none
noncomputable def rSl (K : PySem.W.Frag) : V → Option Int → Option Int → Hp → VK → Prop := fun x lo hi H Q => rSlS x lo hi H Q ∨ rSlT' K x lo hi H Q ∨ rSlT K x lo hi H Q ∨ rSlL K x lo hi H Q
theorem sl_any : SlR X (rSl X.K) := sl_str.or (sl_tup_whole.or (sl_tup.or sl_list))
noncomputable def QFO (X : Cx) (o : Option Expr) (g : Ev → R (Option Int)) : Prop := PO X o (tG X (fun _ b c => b = c) g)
theorem pfo_none_0 : QFO X none (fun _ => .ok none) := by
  intro pins s σ H Q I h
  obtain ⟨G, ρ, st, h⟩ := h
  exact po_none pins s σ H Q I (h none G H (.refl st.sub) rfl)
noncomputable def asI : D → R Int
  | .int i => .ok i
  | _ => .no
theorem pfo_some_0 (h : QF X e ga) : QFO X (some e) (fun ρ => ga ρ >>= fun x => asI x >>= fun i => .ok (some i)) := by
  intro pins s σ H Q I hq
  refine po_some h pins s σ H Q I ?_
  obtain ⟨G, ρ, st, hq⟩ := hq
  refine tG.intro st hq fun x v G1 H1 u1 st1 r1 h1 => ?_
  cases r1 with
  | int i => exact ⟨i, rfl, h1 (some i) G1 H1 (.refl st1.sub) rfl⟩
  | _ => exact h1.elim
noncomputable def gSl (ga : Ev → R D) (go gp : Ev → R (Option Int)) : Ev → R D := fun ρ => ga ρ >>= fun x => go ρ >>= fun l => gp ρ >>= fun u => ofO (cutD l u x)
theorem pf_slice_0 (ha : QF X a ga) (hl : QFO X lo go) (hu : QFO X hi gp) : QF X (.Subscript a (.Slice lo hi none p2) pos) (gSl ga go gp) := by
  intro pins s σ H Q I h
  refine pe_slice sl_any ha hl hu pins s σ H Q I ?_
  obtain ⟨G, ρ, st, h⟩ := h
  refine tG.intro st h fun x v G1 H1 u1 st1 r1 h1 => ?_
  refine tG.intro st1 h1 fun l l' G2 H2 u2 st2 r2 h2 => ?_
  subst r2
  refine tG.intro st2 h2 fun u u' G3 H3 u3 st3 r3 h3 => ?_
  subst r3
  obtain ⟨d, e, q⟩ := ofO.ok h3
  have r := (r1.mono u2.gg).mono u3.gg
  unfold cutD at e
  split at e
  · cases e
    obtain ⟨y, rfl, ey, hy⟩ := r.str_inv
    subst ey
    exact .inl ⟨y, rfl, hy, q _ G3 H3 (.refl st3.sub) (.strL (txt_slice y _ _) (Nat.le_trans (cutL_le _ _ _) (by rw [Str.len_list]; exact hy)))⟩
  · rename_i xs0
    cases e
    obtain ⟨a, vs, rfl, h, t⟩ := r.tup_inv
    by_cases hw : HT.sIx vs.length 0 l' = 0 ∧ HT.sIx vs.length vs.length u' = vs.length
    · refine .inr (.inl ⟨a, vs, rfl, h.mono st3.sub, hw, q _ G3 H3 (.refl st3.sub) ?_⟩)
      have e1 : cutL xs0 l' u' = xs0 := by
        unfold cutL
        rw [← t.length, hw.1, hw.2, List.drop_zero, Nat.sub_zero, t.length, List.take_length]
      rw [e1]
      exact .tup h t
    · exact .inr (.inr (.inl ⟨a, vs, rfl, h.mono st3.sub, hw, fun p hp => q _ _ _ (.new st3.sub hp) (.tup (.of upd_same) ((t.cut _ _).mono (.into (st3.sub.free hp))))⟩))
  · cases e
    obtain ⟨a, vs, rfl, h, t⟩ := r.seq_inv
    exact .inr (.inr (.inr ⟨a, vs, rfl, h.mono st3.sub, fun p hp => q _ _ _ (.new st3.sub hp) (.lst upd_same ((t.cut _ _).mono (.into (st3.sub.free hp))))⟩))
  · cases e

noncomputable def CROk (K : PySem.W.Frag) (r : List V → Hp → VK → Prop) (f : List D → Option D) : Prop := ∀ (G H : Hp) (xs : List V) (ds : List D) (d : D) (Q : VK), Same G H → Reps K G xs ds → f ds = some d → Fin G H (Rep K) Q d → r xs H Q
theorem pf_callB_0 {id : String} {x : Str} {p : Pos} {r : List V → Hp → VK → Prop} {f : List D → Option D} (hc : CallR X (.builtin id) r) (hf : CROk X.K r f) (hg : Gl X x) (hm : X.mg x = none) (hv : bootBuiltins x = some (.builtin id)) (ha : QFA X (e :: es) gl)
    (hn : x ≠ "__name__" := by decide) (hdb : (x == ("__debug__" : Str)) = false := by decide)
    (he : starEach (e :: es) X.env = (false, eval e X.env) :: starEach es X.env := by rfl) (hpl : (backTo pos (starEach es X.env)).any (·.1) = false := by rfl) : QF X (.Call (.Name x p) (e :: es) [] pos) (fun ρ => gl ρ >>= fun ds => ofO (f ds)) := by
  intro pins s σ H Q I h
  refine pe_callB hc hg hm hv ha hn hdb he hpl pins s σ H Q I ?_
  obtain ⟨G, ρ, st, h⟩ := h
  refine tG.intro st h fun ds vs G1 H1 u1 st1 r1 h1 => ?_
  obtain ⟨d, e, q⟩ := ofO.ok h1
  exact hf G1 H1 vs ds d Q st1.sub r1 e q
theorem pf_callTy_0 {T : String} {x : Str} {p : Pos} {r : List V → Hp → VK → Prop} {f : List D → Option D} (hc : CallR X (.type T) r) (hf : CROk X.K r f) (hg : Gl X x) (hm : X.mg x = none) (hv : bootBuiltins x = some (.type T)) (ha : QFA X (e :: es) gl)
    (hn : x ≠ "__name__" := by decide) (hdb : (x == ("__debug__" : Str)) = false := by decide)
    (he : starEach (e :: es) X.env = (false, eval e X.env) :: starEach es X.env := by rfl) (hpl : (backTo pos (starEach es X.env)).any (·.1) = false := by rfl) : QF X (.Call (.Name x p) (e :: es) [] pos) (fun ρ => gl ρ >>= fun ds => ofO (f ds)) := by
  intro pins s σ H Q I h
  refine pe_callTy hc hg hm hv ha hn hdb he hpl pins s σ H Q I ?_
  obtain ⟨G, ρ, st, h⟩ := h
  refine tG.intro st h fun ds vs G1 H1 u1 st1 r1 h1 => ?_
  obtain ⟨d, e, q⟩ := ofO.ok h1
  exact hf G1 H1 vs ds d Q st1.sub r1 e q
theorem Reps.one {K : PySem.W.Frag} {G : Hp} {vs : List V} {d : D} (r : Reps K G vs [d]) : ∃ v, vs = [v] ∧ Rep K G v d := by
  cases r with
  | cons r t => cases t; exact ⟨_, rfl, r⟩
noncomputable def lenF : List D → Option D
  | [.str x] => some (.int x.length)
  | [.tup xs] => some (.int xs.length)
  | [.lst _ xs] => some (.int xs.length)
  | _ => none
theorem pf_len_0 {p : Pos} (hg : Gl X "len") (hm : X.mg "len" = none) (ha : QFA X [e] gl) (he : starEach [e] X.env = [(false, eval e X.env)] := by rfl) : QF X (.Call (.Name "len" p) [e] [] pos) (fun ρ => gl ρ >>= fun ds => ofO (lenF ds)) :=
  pf_callB_0 call_len (by
    intro G H xs ds d Q s r e q
    unfold lenF at e
    split at e
    · cases e
      obtain ⟨v, rfl, r1⟩ := r.one
      obtain ⟨y, rfl, ey, hy⟩ := r1.str_inv
      subst ey
      exact ⟨_, y.length, rfl, ⟨hy, rfl⟩, by rw [← Str.len_list]; exact q _ G H (.refl s) (.int _)⟩
    · cases e
      obtain ⟨v, rfl, r1⟩ := r.one
      obtain ⟨a, vs, rfl, h, t⟩ := r1.tup_inv
      exact ⟨_, vs.length, rfl, .inr ⟨vs, h.mono s, rfl⟩, by rw [t.length]; exact q _ G H (.refl s) (.int _)⟩
    · cases e
      obtain ⟨v, rfl, r1⟩ := r.one
      obtain ⟨a, vs, rfl, h, t⟩ := r1.seq_inv
      exact ⟨_, vs.length, rfl, .inl ⟨vs, h.mono s, rfl⟩, by rw [t.length]; exact q _ G H (.refl s) (.int _)⟩
    · cases e) hg hm PySem.boot_len ha (he := by rw [he]; rfl)
noncomputable def tupleF : List D → Option D
  | [.lst _ xs] => some (.tup xs)
  | [.tup xs] => some (.tup xs)
  | _ => none
theorem ok_tuple (K : PySem.W.Frag) : CROk K (fun xs H Q => ∃ p ys, xs = [.ref p] ∧ ((SqL K H p ys ∧ ∀ l, H l = none → Q (.ref l) (upd H l (.tup ys))) ∨ (SqT K H p ys ∧ Q (.ref p) H))) tupleF := by
  intro G H xs ds d Q s r e q
  unfold tupleF at e
  split at e
  · cases e
    obtain ⟨v, rfl, r1⟩ := r.one
    obtain ⟨a, vs, rfl, h, t⟩ := r1.seq_inv
    exact ⟨a, vs, rfl, .inl ⟨h.mono s, fun l hl => q _ _ _ (.new s hl) (.tup (.of upd_same) (t.mono (.into (s.free hl))))⟩⟩
  · cases e
    obtain ⟨v, rfl, r1⟩ := r.one
    obtain ⟨a, vs, rfl, h, t⟩ := r1.tup_inv
    exact ⟨a, vs, rfl, .inr ⟨h.mono s, q _ G H (.refl s) (.tup h t)⟩⟩
  · cases e
end
end L2
namespace L2
open PySem PySem.Spec PyProof.Rows
noncomputable def ItOk (K : PySem.W.Frag) (G₁ : Hp) (J : It) (items : List D) : Prop := ∀ (i : Nat) (G H : Hp), Same G₁ G → Same G H →
  (∀ d, items[i]? = some d → J.go i H ∧ ∀ x H', J.yld i H x H' → ∃ G', Up G H G' H' ∧ Rep K G' x d) ∧ (items.length ≤ i → J.stop i H)
noncomputable def QIF (X : Cx) (tg iter : Expr) (g : Ev → R (List D)) : Prop := PI X tg iter (tG X (fun G J items => ItOk X.K G J items) g)
noncomputable def Its (x : Str) : It := ⟨fun i _ => i < x.cps.size, fun i H v H' => H' = H ∧ ∃ c, x.cps[i]? = some c ∧ v = .str ⟨#[c]⟩, fun i _ => x.cps.size ≤ i⟩
section
variable {X : Cx} {tg a e : Expr} {ga : Ev → R D} {gl : Ev → R (List D)} {pos : Pos}
theorem it_list {pins : List (Addr × Obj)} {σ : St} {H : Hp} {s : Shared} {l : Addr} {xs : List V} {Rr : It → Hp → Prop} (I : Inv X pins σ H s) (h : SqL X.K H l xs) (q : Rr (Itl X.K l) H) :
    wpAny (model X.prog X.w) X.A (pyIter (.ref l)) (PIE X pins σ tg Rr) X.xe s := by
  obtain ⟨its, rv, p, hz⟩ := I.list h
  refine wpAny_pyIter_list p.isList ?_
  refine ⟨s.heap.objs.size, [s.heap.objs.size], _, _, H, rfl, I.kept (t' := s.toks) fun b o e => Heap.get?_push_of_some _ e, turn_list l _, ⟨_, Heap.get?_push_size _ rfl, rfl, rfl⟩, fun b hb => ?_, q⟩
  have e : b = s.heap.objs.size := by simpa using hb
  subst e
  exact I.fpOk (Nat.le_refl _) (I.hok.fresh (Nat.le_refl _))
theorem it_tup {pins : List (Addr × Obj)} {σ : St} {H : Hp} {s : Shared} {l : Addr} {xs : List V} {Rr : It → Hp → Prop} (I : Inv X pins σ H s) (h : SqT X.K H l xs) (q : Rr (Itt X.K l) H) :
    wpAny (model X.prog X.w) X.A (pyIter (.ref l)) (PIE X pins σ tg Rr) X.xe s := by
  obtain ⟨its, rv, p, hz⟩ := I.tuple h
  refine wpAny_pyIter_tuple (show s.heap.IsTuple l its.toArray from p) ?_
  refine ⟨s.heap.objs.size, [s.heap.objs.size], _, _, H, rfl, I.kept (t' := s.toks) fun b o e => Heap.get?_push_of_some _ e, turn_tuple l _, ⟨_, Heap.get?_push_size _ rfl, rfl, rfl⟩, fun b hb => ?_, q⟩
  have e : b = s.heap.objs.size := by simpa using hb
  subst e
  exact I.fpOk (Nat.le_refl _) (I.hok.fresh (Nat.le_refl _))
theorem turn_ascii {P : Program} {w : World} {K : PySem.W.Frag} {tg : Expr} (it : Addr) (x : Str) (t : Tok) : Turn P w K tg (Its x) [it] it (fun i h => h.IsStrIter it "str_ascii_iterator" x t i) where
  mem := by simp
  obj := fun i h st b hb => by
    have e : b = it := by simpa using hb
    subst e
    obtain ⟨o, e, c, d⟩ := st
    exact ⟨o, e, fun v z => by rw [d] at z; cases z⟩
  keep := fun i h h' st k => let ⟨o, ho, r⟩ := st; ⟨o, k it (by simp) o ho, r⟩
  item := by
    intro X hP hw hK hc i pins s σ H E I hf st hg
    subst hP hw hK
    have hg' : i < x.cps.size := hg
    obtain ⟨f0, f1, f2, f3, f4, f5⟩ := hf it (by simp)
    refine wpAny_pyNext_ascii_item st (c := x.cps[i]) (by simp [hg']) fun h' st' sb => ?_
    have I1 : Inv X pins σ H { s with heap := h', toks := s.toks + 1 } := I.turned (t' := s.toks + 1) (fun b o hb e => (sb.2 b hb).trans e) f0 f1 f3 f4 f5
    obtain ⟨o, e, c, d⟩ := id st'
    exact ⟨_, rfl, go_of (s := { s with heap := h', toks := s.toks + 1 }) e c d (by decide) ⟨.str ⟨#[x.cps[i]]⟩, H, I1, ⟨_, rfl⟩, ⟨rfl, _, by simp [hg'], rfl⟩, st', fun b hb => (hf b hb).1⟩⟩
  done := by
    intro X hP hw hK hc i pins s σ H E I hf st hg
    subst hP hw hK
    obtain ⟨f0, f1, f2, f3, f4, f5⟩ := hf it (by simp)
    have hg' : x.cps.size ≤ i := hg
    exact wpAny_pyNext_ascii_end (I.ok.hd hc) st (by simp; omega) fun h' eb => ⟨rfl, I.turned (t' := s.toks) (fun b o hb e => eb b o hb e) f0 f1 f3 f4 f5⟩
  self := fun _ _ _ _ _ st h => wpAny_pyIter_striter_ascii st h
theorem turn_wide {P : Program} {w : World} {K : PySem.W.Frag} {tg : Expr} (it : Addr) (x : Str) (t : Tok) : Turn P w K tg (Its x) [it] it (fun i h => h.IsStrIter it "str_iterator" x t i) where
  mem := by simp
  obj := fun i h st b hb => by
    have e : b = it := by simpa using hb
    subst e
    obtain ⟨o, e, c, d⟩ := st
    exact ⟨o, e, fun v z => by rw [d] at z; cases z⟩
  keep := fun i h h' st k => let ⟨o, ho, r⟩ := st; ⟨o, k it (by simp) o ho, r⟩
  item := by
    intro X hP hw hK hc i pins s σ H E I hf st hg
    subst hP hw hK
    have hg' : i < x.cps.size := hg
    obtain ⟨f0, f1, f2, f3, f4, f5⟩ := hf it (by simp)
    refine wpAny_pyNext_wide_item st (c := x.cps[i]) (by simp [hg']) fun h' st' sb => ?_
    have I1 : Inv X pins σ H { s with heap := h', toks := s.toks + 1 } := I.turned (t' := s.toks + 1) (fun b o hb e => (sb.2 b hb).trans e) f0 f1 f3 f4 f5
    obtain ⟨o, e, c, d⟩ := id st'
    exact ⟨_, rfl, go_of (s := { s with heap := h', toks := s.toks + 1 }) e c d (by decide) ⟨.str ⟨#[x.cps[i]]⟩, H, I1, ⟨_, rfl⟩, ⟨rfl, _, by simp [hg'], rfl⟩, st', fun b hb => (hf b hb).1⟩⟩
  done := by
    intro X hP hw hK hc i pins s σ H E I hf st hg
    subst hP hw hK
    obtain ⟨f0, f1, f2, f3, f4, f5⟩ := hf it (by simp)
    have hg' : x.cps.size ≤ i := hg
    exact wpAny_pyNext_wide_end (I.ok.hd hc) st (by simp; omega) fun h' eb => ⟨rfl, I.turned (t' := s.toks) (fun b o hb e => eb b o hb e) f0 f1 f3 f4 f5⟩
  self := fun _ _ _ _ _ st h => wpAny_pyIter_striter_wide st h
theorem it_str {pins : List (Addr × Obj)} {σ : St} {H : Hp} {s : Shared} {x : Str} {t : Tok} {Rr : It → Hp → Prop} (I : Inv X pins σ H s) (q : Rr (Its x) H) :
    wpAny (model X.prog X.w) X.A (pyIter (.str x t)) (PIE X pins σ tg Rr) X.xe s := by
  have fp : ∀ (o : Obj), ∀ b ∈ [s.heap.objs.size], FpOk X pins H b := fun o b hb => by
    have e : b = s.heap.objs.size := by simpa using hb
    subst e
    exact I.fpOk (Nat.le_refl _) (I.hok.fresh (Nat.le_refl _))
  cases ha : x.cps.all (· < 128)
  · refine wpAny_pyIter_wide ha ⟨s.heap.objs.size, [s.heap.objs.size], _, _, H, rfl, I.kept (t' := s.toks) fun b o e => Heap.get?_push_of_some _ e, turn_wide _ x t, ⟨_, Heap.get?_push_size _ rfl, rfl, rfl⟩, fp default, q⟩
  · refine wpAny_pyIter_ascii ha ⟨s.heap.objs.size, [s.heap.objs.size], _, _, H, rfl, I.kept (t' := s.toks) fun b o e => Heap.get?_push_of_some _ e, turn_ascii _ x t, ⟨_, Heap.get?_push_size _ rfl, rfl, rfl⟩, fp default, q⟩
noncomputable def itemsD : D → R (List D)
  | .lst _ xs => .ok xs
  | .tup xs => .ok xs
  | .str x => .ok (x.map fun c => .str [c])
  | _ => .no
theorem ItOk.list {K : PySem.W.Frag} {G : Hp} {l : Addr} {vs : List V} {ds : List D} (h : SqL K G l vs) (r : Reps K G vs ds) : ItOk K G (Itl K l) ds := by
  intro i G1 H1 s1 s2
  refine ⟨fun d e => ?_, fun hl => ⟨vs, (h.mono s1).mono s2, by rw [r.length]; exact hl⟩⟩
  obtain ⟨v, ev, rv⟩ := r.get e
  refine ⟨⟨vs, v, (h.mono s1).mono s2, ev⟩, fun x H' y => ?_⟩
  obtain ⟨rfl, y⟩ := y
  have := y vs ((h.mono s1).mono s2)
  rw [ev] at this
  cases this
  exact ⟨G1, .refl s2, rv.mono s1⟩
theorem ItOk.tup {K : PySem.W.Frag} {G : Hp} {l : Addr} {vs : List V} {ds : List D} (h : SqT K G l vs) (r : Reps K G vs ds) : ItOk K G (Itt K l) ds := by
  intro i G1 H1 s1 s2
  refine ⟨fun d e => ?_, fun hl => ⟨vs, (h.mono s1).mono s2, by rw [r.length]; exact hl⟩⟩
  obtain ⟨v, ev, rv⟩ := r.get e
  refine ⟨⟨vs, v, (h.mono s1).mono s2, ev⟩, fun x H' y => ?_⟩
  obtain ⟨rfl, y⟩ := y
  have := y vs ((h.mono s1).mono s2)
  rw [ev] at this
  cases this
  exact ⟨G1, .refl s2, rv.mono s1⟩
theorem ItOk.str {K : PySem.W.Frag} {G : Hp} (x : Str) : ItOk K G (Its x) (x.cps.toList.map fun c => .str [c]) := by
  intro i G1 H1 s1 s2
  refine ⟨fun d e => ?_, fun hl => show x.cps.size ≤ i by simpa using hl⟩
  rw [List.getElem?_map] at e
  cases ec : x.cps.toList[i]? with
  | none => rw [ec] at e; cases e
  | some c =>
    rw [ec] at e
    cases e
    have hi : i < x.cps.size := by
      have := (List.getElem?_eq_some_iff.mp ec).1
      simpa using this
    refine ⟨hi, fun v H' y => ?_⟩
    obtain ⟨rfl, c', e', rfl⟩ := y
    have : c' = c := by
      have h2 : x.cps.toList[i]? = x.cps[i]? := by simp
      rw [h2, e'] at ec
      exact Option.some.inj ec
    subst this
    exact ⟨G1, .refl s2, .strL rfl one_le⟩
theorem ItOk.range {K : PySem.W.Frag} {G : Hp} (lo : Int) (n : Nat) : ItOk K G (Itr lo n) ((List.range n).map fun i => .int (lo + (i : Nat))) := by
  intro i G1 H1 s1 s2
  refine ⟨fun d e => ?_, fun hl => show n ≤ i by simpa using hl⟩
  rw [List.getElem?_map] at e
  by_cases hi : i < n
  · rw [List.getElem?_range hi] at e
    cases e
    refine ⟨hi, fun v H' y => ?_⟩
    obtain ⟨rfl, rfl⟩ := y
    exact ⟨G1, .refl s2, .int _⟩
  · rw [List.getElem?_eq_none (by simpa using hi)] at e
    cases e
theorem pif_val_0 (ha : QF X a ga) : QIF X tg a (fun ρ => ga ρ >>= itemsD) := by
  intro pins s σ H Rr I h
  obtain ⟨G, ρ, st, h⟩ := h
  have t : tF X ga σ H (fun x H1 => ∃ G1 d, Same G1 H1 ∧ Rep X.K G1 x d ∧ (itemsD d).post (Fin G1 H1 (fun G J items => ItOk X.K G J items) Rr) (Exx X σ G1 H1)) :=
    tG.intro st h fun x v G1 H1 u1 st1 r1 h1 => ⟨G1, x, st1.sub, r1, h1⟩
  refine thn (ha pins s σ H _ I t) fun v s1 ⟨x, H1, I1, r1, G1, d, sub, rd, h1⟩ => ?_
  cases rd with
  | lst hh r => cases r1; exact it_list I1 (.of (sub _ _ hh)) (h1 _ G1 H1 (.refl sub) (.list (.of hh) r))
  | fls hh r => cases r1; exact it_list I1 (hh.mono sub) (h1 _ G1 H1 (.refl sub) (.list hh r))
  | tup hh r => cases r1; exact it_tup I1 (hh.mono sub) (h1 _ G1 H1 (.refl sub) (.tup hh r))
  | str y hy => obtain ⟨t, rfl⟩ := r1; exact it_str I1 (h1 _ G1 H1 (.refl sub) (.str y))
  | _ => exact h1.elim
noncomputable def rangeD1 : List D → R (List D)
  | [.int j] => if -(2 ^ 62) ≤ j ∧ j < 2 ^ 62 then .ok ((List.range j.toNat).map fun i => .int (0 + (i : Nat))) else .no
  | _ => .no
theorem pif_range1_0 {p : Pos} (hg : Gl X "range") (hm : X.mg "range" = none) (ha : QFA X [a] gl) (hs : starEach [a] X.env = [(false, eval a X.env)] := by rfl) : QIF X tg (.Call (.Name "range" p) [a] [] pos) (fun ρ => gl ρ >>= rangeD1) := by
  intro pins s σ H Rr I h
  refine pi_range1 hg hm ha hs pins s σ H Rr I ?_
  obtain ⟨G, ρ, st, h⟩ := h
  refine tG.intro st h fun ds vs G1 H1 u1 st1 r1 h1 => ?_
  unfold rangeD1 at h1
  split at h1
  · split at h1
    · rename_i hj
      obtain ⟨v, rfl, r⟩ := r1.one
      obtain rfl := r.int_inv
      exact ⟨_, rfl, hj.1, hj.2, h1 _ G1 H1 (.refl st1.sub) (.range 0 _)⟩
    · exact h1.elim
  · exact h1.elim
end

noncomputable def ObSt (K : PySem.W.Frag) (H₀ G H : Hp) (σ : St) (ρ : Ev) : Prop :=
  ∃ ow : Owns, (∀ (i : Nat) ds l, ρ[i]? = some (some (.own ds)) → σ[i]? = some (some (.ref l)) → ow l = some (i, 0)) ∧
    ∀ (i : Nat) m C p fs, ρ[i]? = some (some (.obj m C p fs)) → σ[i]? = some (some (.ref p)) ∧ ObjAt K H₀ G H ow i m C p fs
theorem ObSt.rd {K : PySem.W.Frag} {H₀ G H : Hp} {σ : St} {ρ : Ev} (h : ObSt K H₀ G H σ ρ) : ∀ (i : Nat) m C p fs, ρ[i]? = some (some (.obj m C p fs)) → σ[i]? = some (some (.ref p)) ∧ ∃ ow, ObjAt K (fun _ => none) G H ow i m C p fs := fun i m C p fs e => by
  obtain ⟨ow, _, o2⟩ := h
  exact ⟨(o2 i m C p fs e).1, ow, (o2 i m C p fs e).2.rd⟩
noncomputable def NoOwn (ρ : Ev) : Prop := ∀ (j : Nat) (x : Sl), ρ[j]? = some (some x) → ∃ d, x = .val d
theorem NoOwn.own {ρ : Ev} (h : NoOwn ρ) (j : Nat) (ds : List D) : ρ[j]? ≠ some (some (.own ds)) := fun e => by obtain ⟨d, z⟩ := h j _ e; cases z
theorem NoOwn.obj {ρ : Ev} (h : NoOwn ρ) (j : Nat) (m : Bool) (C p : Addr) (fs : List (Nat × Fd)) : ρ[j]? ≠ some (some (.obj m C p fs)) := fun e => by obtain ⟨d, z⟩ := h j _ e; cases z
theorem NoOwn.ob {K : PySem.W.Frag} {H₀ G H : Hp} {σ : St} {ρ : Ev} (h : NoOwn ρ) : ObSt K H₀ G H σ ρ :=
  ⟨fun _ => none, fun i ds l e => absurd e (h.own i ds), fun i m C p fs e => absurd e (h.obj i m C p fs)⟩
structure StR (K : PySem.W.Frag) (G₀ H₀ G H : Hp) (σ : St) (ρ : Ev) : Prop where
  e : StE K G H σ ρ
  sub0 : Same G₀ H₀
  up : Up G₀ H₀ G H
  own : ∀ (i : Nat) ds, ρ[i]? = some (some (.own ds)) → ∃ l vs, σ[i]? = some (some (.ref l)) ∧ H l = some (.lst vs) ∧ G l = none ∧ H₀ l = none ∧ Reps K G vs ds
  inj : ∀ (i j : Nat) ds es l, ρ[i]? = some (some (.own ds)) → ρ[j]? = some (some (.own es)) → σ[i]? = some (some (.ref l)) → σ[j]? = some (some (.ref l)) → i = j
  ob : ObSt K H₀ G H σ ρ
section
variable {K : PySem.W.Frag} {G₀ H₀ G H G' H' : Hp} {σ : St} {ρ : Ev}
theorem StR.ups (s : StR K G₀ H₀ G H σ ρ) (u : Up G H G' H') : StR K G₀ H₀ G' H' σ ρ := ⟨s.e.up u, s.sub0, s.up.trans u, (fun i ds e => by
  obtain ⟨l, vs, h1, h2, h3, h4, h5⟩ := s.own i ds e
  refine ⟨l, vs, h1, u.hh _ _ h2, ?_, h4, h5.mono u.gg⟩
  cases q : G' l with
  | none => rfl
  | some o =>
    rcases u.fr l o q with z | z
    · rw [h3] at z; cases z
    · rw [h2] at z; cases z), s.inj, by
  obtain ⟨ow, o1, o2⟩ := s.ob
  exact ⟨ow, o1, fun i m C p fs e => ⟨(o2 i m C p fs e).1, (o2 i m C p fs e).2.keep (.up u)⟩⟩⟩
theorem StR.set (s : StR K G₀ H₀ G H σ ρ) {v : V} {d : D} (r : Rep K G v d) (i : Nat) : StR K G₀ H₀ G H (σ.set i (some v)) (ρ.set i (some (.val d))) := by
  have get : ∀ (j : Nat) x, (ρ.set i (some (.val d)))[j]? = some (some x) → (j = i ∧ x = .val d ∧ i < σ.length) ∨ (j ≠ i ∧ ρ[j]? = some (some x) ∧ (σ.set i (some v))[j]? = σ[j]?) := fun j x h => by
    by_cases e : i = j
    · subst e
      have hl : i < ρ.length := by
        have := (List.getElem?_eq_some_iff.mp h).1
        simpa using this
      rw [List.getElem?_set_self hl] at h
      exact .inl ⟨rfl, by injection (Option.some.inj h) with q; exact q.symm, by rw [s.e.len]; exact hl⟩
    · rw [List.getElem?_set_ne e] at h
      exact .inr ⟨fun z => e z.symm, h, List.getElem?_set_ne e⟩
  have ob : ObSt K H₀ G H (σ.set i (some v)) (ρ.set i (some (.val d))) := by
    obtain ⟨ow, o1, o2⟩ := s.ob
    refine ⟨ow, fun j ds l h1 h2 => ?_, fun j m C p fs h1 => ?_⟩
    · rcases get j _ h1 with ⟨_, e, _⟩ | ⟨_, e, e'⟩
      · cases e
      · exact o1 j ds l e (e' ▸ h2)
    · rcases get j _ h1 with ⟨_, e, _⟩ | ⟨_, e, e'⟩
      · cases e
      · rw [e']; exact o2 j m C p fs e
  refine ⟨⟨s.e.sub, by simp [s.e.len], fun j d' h => ?_, ob.rd⟩, s.sub0, s.up, fun j ds h => ?_, fun j k ds es l h1 h2 h3 h4 => ?_, ob⟩
  · rcases get j _ h with ⟨rfl, e, hl⟩ | ⟨_, e, e'⟩
    · cases e
      exact ⟨v, List.getElem?_set_self hl, r⟩
    · rw [e']; exact s.e.val j d' e
  · rcases get j _ h with ⟨_, e, _⟩ | ⟨_, e, e'⟩
    · cases e
    · rw [e']; exact s.own j ds e
  · rcases get j _ h1 with ⟨_, e, _⟩ | ⟨_, e, e'⟩
    · cases e
    · rcases get k _ h2 with ⟨_, f, _⟩ | ⟨_, f, f'⟩
      · cases f
      · exact s.inj j k ds es l e f (e' ▸ h3) (f' ▸ h4)
end
noncomputable def PGF (X : Cx) (tg : Expr) (asg : D → Ev → R Ev) : Prop := PG X tg (fun v σ H Q => ∃ G₀ H₀ G ρ d ρ', StR X.K G₀ H₀ G H σ ρ ∧ Rep X.K G v d ∧ asg d ρ = .ok ρ' ∧ ∀ σ', StR X.K G₀ H₀ G H σ' ρ' → Q σ' H)
section
variable {X : Cx} {pos : Pos}
noncomputable def setV (i : Nat) : D → Ev → R Ev := fun d ρ => .ok (ρ.set i (some (.val d)))
theorem pgf_name (i : Nat) {x : Str} (hN : X.N.Nodup) (hi : X.N[i]? = some x := by rfl) (hx : Loc X.env.scope x := by first | exact Or.inl rfl | exact Or.inr rfl)
    (hf : X.fn x = true ∨ X.env.scope.names.lookup x = some .local := by first | exact .inl rfl | exact .inr rfl) : PGF X (.Name x pos) (setV i) := by
  intro pins s σ H v u Q I r h
  obtain ⟨G₀, H₀, G, ρ, d, ρ', st, rd, e, q⟩ := h
  cases e
  exact pg_name hN hi hx hf pins s σ H v u Q I r (q _ (st.set rd i))
end
end L2
namespace L2
open PySem PySem.Spec PyProof.Rows

noncomputable def FinL (K : PySem.W.Frag) (G H : Hp) (Q : VK) : List D → Prop := fun ds => ∀ l vs G' H', Up G H G' H' → H' l = none → Reps K G' vs ds → Q (.ref l) (upd H' l (.lst vs))
noncomputable def tL (X : Cx) (g : Ev → R (List D)) : TE := fun σ H Q => ∃ G ρ, StE X.K G H σ ρ ∧ (g ρ).post (FinL X.K G H Q) (Exx X σ G H)
noncomputable def QFL (X : Cx) (e : Expr) (g : Ev → R (List D)) : Prop := PE X e (tL X g)
theorem pf_fresh_0 {X : Cx} {e : Expr} {g : Ev → R (List D)} (h : QFL X e g) : QF X e (fun ρ => g ρ >>= fun ds => .ok (.lst false ds)) := by
  intro pins s σ H Q I hq
  refine h pins s σ H Q I ?_
  obtain ⟨G, ρ, st, hq⟩ := hq
  try dsimp only at hq
  refine ⟨G, ρ, st, ?_⟩
  cases e : g ρ with
  | ok ds =>
    rw [e] at hq
    intro l vs G' H' u hl r
    exact hq _ _ _ (u.trans (.new u.sub hl)) (.lst upd_same (r.mono (.into (u.sub.free hl))))
  | ex C => rw [e] at hq; exact hq
  | no => rw [e] at hq; exact hq
theorem pfl_lst_0 {X : Cx} {es : List Expr} {gl : Ev → R (List D)} {pos : Pos} (h : QFA X es gl) : QFL X (.List es pos) (fun ρ => gl ρ >>= fun ds => if ds.length ≤ sizeLine then .ok ds else .no) := by
  intro pins s σ H Q I hq
  refine pe_lst h pins s σ H Q I ?_
  obtain ⟨G, ρ, st, hq⟩ := hq
  try dsimp only at hq
  refine ⟨G, ρ, st, ?_⟩
  cases e : gl ρ with
  | ok ds =>
    rw [e] at hq
    intro vs G' H' u r
    simp only [R.ok_bind] at hq
    split at hq
    · rename_i hz
      exact ⟨by rw [r.length]; exact hz, fun p hp => hq p vs G' H' u hp r⟩
    · exact hq.elim
  | ex C => rw [e] at hq; exact hq
  | no => rw [e] at hq; exact hq

noncomputable def clOf (env : Env) : List (Str × NameKind) → List (Str × Addr) → List (Str × Addr)
  | [], cs => cs
  | (n, k) :: r, cs => clOf env r (if (k == .free) = true then (match env.cells.lookup n with | some c => (n, c) :: cs | none => cs) else cs)
theorem forIn_cl {env : Env} {F : Str × NameKind → List (Str × Addr) → Sem (ForInStep (List (Str × Addr)))}
    (hF : ∀ n k r, (k = NameKind.free → ∃ c, env.cells.lookup n = some c) → F (n, k) r = pure (ForInStep.yield (if (k == .free) = true then (match env.cells.lookup n with | some c => (n, c) :: r | none => r) else r))) :
    ∀ (l : List (Str × NameKind)) (cs : List (Str × Addr)), (∀ x ∈ l, x.2 = .free → ∃ c, env.cells.lookup x.1 = some c) → forIn l cs F = pure (clOf env l cs)
  | [], cs, _ => rfl
  | (n, k) :: l, cs, h => by
    rw [List.forIn_cons, hF n k cs (h (n, k) List.mem_cons_self), pure_bind]
    exact forIn_cl hF l _ fun y hy => h y (List.mem_cons_of_mem _ hy)
theorem closureFor_eq {scope : Scope} {env : Env} (h : ∀ x ∈ scope.names, x.2 = .free → ∃ c, env.cells.lookup x.1 = some c) : closureFor scope env = pure (clOf env scope.names []) := by
  simp only [closureFor]
  rw [forIn_cl (env := env) (fun n k r hk => ?_) scope.names [] h]
  · rfl
  · by_cases hf : (k == NameKind.free) = true
    · obtain ⟨c, hc⟩ := hk (by simpa using hf)
      simp only [hf, if_true, cellOf, hc, pure_bind]
    · simp only [hf, if_false]
      rfl
theorem clOf_sub {env : Env} : ∀ (l : List (Str × NameKind)) (cs : List (Str × Addr)), (∀ x c, cs.lookup x = some c → env.cells.lookup x = some c) → ∀ x c, (clOf env l cs).lookup x = some c → env.cells.lookup x = some c
  | [], cs, h, x, c, e => h x c e
  | (n, k) :: l, cs, h, x, c, e => by
    unfold clOf at e
    refine clOf_sub l _ (fun y d ed => ?_) x c e
    split at ed
    · split at ed
      · rename_i c' hc'
        rw [List.lookup_cons] at ed
        split at ed
        · rename_i q; rw [eq_of_beq q]; rw [← Option.some.inj ed]; exact hc'
        · exact h y d ed
      · exact h y d ed
    · exact h y d ed
theorem clOf_has {env : Env} : ∀ (l : List (Str × NameKind)) (cs : List (Str × Addr)) (x : Str), ((∃ c, cs.lookup x = some c) ∨ ((x, NameKind.free) ∈ l ∧ ∃ c, env.cells.lookup x = some c)) → ∃ c, (clOf env l cs).lookup x = some c
  | [], cs, x, h => by
    rcases h with h | ⟨h, _⟩
    · exact h
    · cases h
  | (n, k) :: l, cs, x, h => by
    unfold clOf
    refine clOf_has l _ x ?_
    rcases h with ⟨c, h⟩ | ⟨h, c, hc⟩
    · left
      split
      · split
        · rename_i c' _
          rw [List.lookup_cons]
          split
          · exact ⟨_, rfl⟩
          · exact ⟨c, h⟩
        · exact ⟨c, h⟩
      · exact ⟨c, h⟩
    · rcases List.mem_cons.mp h with e | h
      · cases e
        left
        rw [if_pos (by rfl), hc]
        exact ⟨c, by simp [List.lookup_cons]⟩
      · exact .inr ⟨h, c, hc⟩

noncomputable def compCx (X : Cx) (N' : List Str) (scope : Scope) (C : Addr) (s₂ : Shared) (H₂ : Hp) (fp : List Addr) : Cx :=
  { X with N := N', s₀ := s₂, H₀ := H₂, env := compEnvC scope (clOf X.env scope.names []) C X.env, outer := X.stack, stack := X.stack, ex := fp, fn := fun _ => false, pn := [], xe := fun _ _ => False }
noncomputable def noEx {α : Type} : R α → R α
  | .ok a => .ok a
  | _ => .no
noncomputable def inner (ix : List Nat) (ρ : Ev) : Ev := none :: ix.map fun (i : Nat) => match ρ[i]? with
  | some (some (.val d)) => some (.val d)
  | _ => none
noncomputable def innerN (n : Nat) (ix : List Nat) (ρ : Ev) : Ev := List.replicate n none ++ ix.map fun (i : Nat) => match ρ[i]? with
  | some (some (.val d)) => some (.val d)
  | _ => none
noncomputable def compG (asg : D → Ev → R Ev) (gt : Ev → R Bool) (ge : Ev → R D) : List D → Ev → R (List D)
  | [], _ => .ok []
  | d :: ds, ρ => noEx (asg d ρ) >>= fun ρ1 => noEx (gt ρ1) >>= fun k => if k = true then noEx (ge ρ1) >>= fun x => compG asg gt ge ds ρ1 >>= fun xs => .ok (x :: xs) else compG asg gt ge ds ρ1
noncomputable def compD (gt : Ev → R Bool) (ge : Ev → R D) : List D → Ev → R (List D) := compG (setV 0) gt ge
theorem compG_noEx {asg : D → Ev → R Ev} {gt : Ev → R Bool} {ge : Ev → R D} : ∀ (ds : List D) (ρ : Ev), (∃ xs, compG asg gt ge ds ρ = .ok xs) ∨ compG asg gt ge ds ρ = .no
  | [], ρ => .inl ⟨[], rfl⟩
  | d :: ds, ρ => by
    unfold compG
    cases asg d ρ with
    | ok ρ1 =>
      simp only [noEx, R.ok_bind]
      cases gt ρ1 with
      | ok k =>
        simp only [noEx, R.ok_bind]
        cases k with
        | true =>
          simp only [if_true]
          cases ge ρ1 with
          | ok x =>
            simp only [noEx, R.ok_bind]
            rcases compG_noEx (asg := asg) ds ρ1 with ⟨xs, e⟩ | e
            · rw [e]; exact .inl ⟨_, rfl⟩
            · rw [e]; exact .inr rfl
          | ex C => exact .inr rfl
          | no => exact .inr rfl
        | false => simp only [Bool.false_eq_true, if_false]; exact compG_noEx ds _
      | ex C => exact .inr rfl
      | no => exact .inr rfl
    | ex C => exact .inr rfl
    | no => exact .inr rfl
noncomputable def gComp (gi : Ev → R (List D)) (ix : List Nat) (gt : Ev → R Bool) (ge : Ev → R D) : Ev → R (List D) := fun ρ => gi ρ >>= fun items => compD gt ge items (inner ix ρ) >>= fun ds => if ds.length ≤ sizeLine then .ok ds else .no
noncomputable def gCompT (n : Nat) (asg : D → Ev → R Ev) (gi : Ev → R (List D)) (ix : List Nat) (gt : Ev → R Bool) (ge : Ev → R D) : Ev → R (List D) := fun ρ => gi ρ >>= fun items => compG asg gt ge items (innerN n ix ρ) >>= fun ds => if ds.length ≤ sizeLine then .ok ds else .no
noncomputable def PTs (X : Cx) (ifs : List Expr) (gt : Ev → R Bool) : Prop := ∀ (pins : List (Addr × Obj)) (s : Shared) (σ : St) (H : Hp) (Q : Bool → Hp → Prop), Inv X pins σ H s → tTF X gt σ H Q →
  wpAny (model X.prog X.w) X.A (forIn ifs true fun c r => if r = true then do let ok ← isTrue c X.env (eval c X.env); pure (ForInStep.yield ok) else pure (ForInStep.yield r)) (TP X pins σ Q) X.xe s
theorem pts_nil {X : Cx} : PTs X [] (fun _ => .ok true) := by
  intro pins s σ H Q I h
  obtain ⟨G, ρ, st, h⟩ := h
  exact wpAny_pure ⟨H, I, h true G H (.refl st.sub) rfl⟩
theorem Un.sameBut {fs ex : List Addr} {H H' : Hp} {h h1 h2 : Heap} {C : Addr} (u : Un fs ex H H' h h1) (k : ∀ b o, b ≠ C → h1.get? b = some o → h2.get? b = some o) (hC : h.objs.size ≤ C) : Un fs ex H H' h h2 := by
  have ne : ∀ b o, h.get? b = some o → b ≠ C := fun b o e => Nat.ne_of_lt (Nat.lt_of_lt_of_le (Heap.lt_size e) hC)
  exact ⟨fun b o e n hb hx => k b o (ne b o e) (u.keep b o e n hb hx), fun b o e n hb hx => let ⟨sl, q⟩ := u.slot b o e n hb hx; ⟨sl, k b _ (ne b o e) q⟩, u.free, fun b o e hx => let ⟨o', q⟩ := u.there b o e hx; ⟨o', k b o' (ne b o e) q⟩, u.tups, u.frzs, u.tbls⟩
theorem HOk.sameBut {P : Program} {w : World} {H : Hp} {h h' : Heap} {C : Addr} (x : HOk P w H h) (k : ∀ b o, b ≠ C → h.get? b = some o → h'.get? b = some o) (hC : H C = none) : HOk P w H h' := fun a o e => by
  refine (x a o e).stay (fun b u hb q => k b u ?_ q) (fun _ z => z) (fun _ _ z => z)
  rcases hb with rfl | hb
  · exact ne_of_none e hC
  · exact ne_of_none hb hC
end L2
namespace L2
open PySem PySem.Spec PyProof.Rows
section
variable {X : Cx} {elt iter : Expr} {ifs : List Expr} {x : Str} {px pos : Pos} {scope : Scope} {N' : List Str} {ix : List Nat} {gi : Ev → R (List D)} {gt : Ev → R Bool} {ge : Ev → R D}
structure CompOk (X : Cx) (scope : Scope) (x : Str) (N' : List Str) (ix : List Nat) : Prop where
  kind : scope.kind = .function
  cell : ∀ y ∈ scope.names, y.2 ≠ .cell
  names : ∀ y ∈ scope.names, y.2 = .local → scope.names.lookup y.1 = some .local
  loc : scope.names.lookup x = some .local
  fr : ∀ y ∈ scope.names, y.2 = .free → X.env.kindOf y.1 = some .cell
  nd : N'.Nodup
  hd : N'[0]? = some x
  tl : N'.tail = ix.map fun (i : Nat) => X.N.getD i Str.empty
  lt : ∀ i ∈ ix, i < X.N.length
  fre : ∀ y ∈ N'.tail, scope.names.lookup y = some .free ∧ (y, NameKind.free) ∈ scope.names
structure CompOkT (X : Cx) (scope : Scope) (n : Nat) (N' : List Str) (ix : List Nat) : Prop where
  kind : scope.kind = .function
  cell : ∀ y ∈ scope.names, y.2 ≠ .cell
  names : ∀ y ∈ scope.names, y.2 = .local → scope.names.lookup y.1 = some .local
  fr : ∀ y ∈ scope.names, y.2 = .free → X.env.kindOf y.1 = some .cell
  le : n ≤ N'.length
  tl : N'.drop n = ix.map fun (i : Nat) => X.N.getD i Str.empty
  lt : ∀ i ∈ ix, i < X.N.length
  fre : ∀ y ∈ N'.drop n, scope.names.lookup y = some .free ∧ (y, NameKind.free) ∈ scope.names
theorem CompOk.t (ok : CompOk X scope x N' ix) : CompOkT X scope 1 N' ix :=
  ⟨ok.kind, ok.cell, ok.names, ok.fr, (List.getElem?_eq_some_iff.mp ok.hd).1, List.drop_one ▸ ok.tl, ok.lt, List.drop_one ▸ ok.fre⟩
theorem relabel_free {env : Env} (hk : env.scope.kind = .function) : ∀ {names : List (Str × NameKind)} {x : Str}, names.lookup x = some .free → env.kindOf x = some .cell →
    (names.map fun (n, k) => if (k == NameKind.free && env.scope.kind == .function && env.kindOf n == some .cell) then (n, NameKind.cell) else (n, k)).lookup x = some .cell
  | [], _, h, _ => by simp at h
  | (n, k) :: r, x, h, hc => by
    have ih := @relabel_free env hk r x
    show List.lookup x ((if (k == NameKind.free && env.scope.kind == .function && env.kindOf n == some .cell) = true then (n, NameKind.cell) else (n, k)) :: _) = _
    cases hx : x == n with
    | true =>
      simp only [List.lookup_cons, hx] at h
      cases h
      have e := eq_of_beq hx
      subst e
      rw [if_pos (by rw [hk, hc]; rfl)]
      simp [List.lookup_cons]
    | false =>
      simp only [List.lookup_cons, hx] at h
      by_cases hc' : (k == NameKind.free && env.scope.kind == .function && env.kindOf n == some .cell) = true
      · rw [if_pos hc']; simp only [List.lookup_cons, hx]; exact ih h hc
      · rw [if_neg hc']; simp only [List.lookup_cons, hx]; exact ih h hc
theorem inner_get {n : Nat} {ix : List Nat} {ρ : Ev} {j : Nat} {d : D} (h : (innerN n ix ρ)[j]? = some (some (.val d))) : ∃ k i, j = k + n ∧ ix[k]? = some i ∧ ρ[i]? = some (some (.val d)) := by
  unfold innerN at h
  by_cases hj : j < n
  · rw [List.getElem?_append_left (by simpa using hj), List.getElem?_replicate, if_pos hj] at h; cases h
  · rw [List.getElem?_append_right (by simpa using Nat.not_lt.1 hj), List.length_replicate, List.getElem?_map] at h
    cases e : ix[j - n]? with
    | none => rw [e] at h; cases h
    | some i =>
      rw [e] at h
      refine ⟨j - n, i, by omega, e, ?_⟩
      simp only [Option.map_some, Option.some.injEq] at h
      split at h
      · rename_i d' e'; cases h; exact e'
      · cases h
noncomputable def innerS (n : Nat) (ix : List Nat) (σ : St) : St := List.replicate n none ++ ix.map fun (i : Nat) => (σ[i]?).join
theorem inner_own {n : Nat} {ix : List Nat} {ρ : Ev} : NoOwn (innerN n ix ρ) := fun j x h => by
  unfold innerN at h
  by_cases hj : j < n
  · rw [List.getElem?_append_left (by simpa using hj), List.getElem?_replicate, if_pos hj] at h; cases h
  · rw [List.getElem?_append_right (by simpa using Nat.not_lt.1 hj), List.length_replicate, List.getElem?_map] at h
    cases e : ix[j - n]? with
    | none => rw [e] at h; cases h
    | some i =>
      rw [e] at h
      simp only [Option.map_some, Option.some.injEq] at h
      split at h
      · cases h; exact ⟨_, rfl⟩
      · cases h
theorem inner_st {K : PySem.W.Frag} {G H : Hp} {σ : St} {ρ : Ev} (st : StE K G H σ ρ) (n : Nat) (ix : List Nat) : StE K G H (innerS n ix σ) (innerN n ix ρ) := by
  refine ⟨st.sub, by simp [innerN, innerS], fun j d h => ?_, fun j m C p fs h => absurd h (NoOwn.obj inner_own j m C p fs)⟩
  obtain ⟨k, i, rfl, e1, e2⟩ := inner_get h
  obtain ⟨v, h1, h2⟩ := st.val i d e2
  refine ⟨v, ?_, h2⟩
  unfold innerS
  rw [List.getElem?_append_right (by simp), List.length_replicate, Nat.add_sub_cancel, List.getElem?_map, e1]
  simp [h1]
theorem comp_inv {pins : List (Addr × Obj)} {σ : St} {H : Hp} {s : Shared} {fp : List Addr} {h₁ : Heap} {tk : Nat} {m : Str → Option Value} {C : Addr} {H' : Hp} {n : Nat} (ok : CompOkT X scope n N' ix) (hcalm : X.calm = true) (I : Inv X pins σ H s) (hf : ∀ b ∈ fp, FpOk X pins H b) (hfl : ∀ b ∈ fp, b < s.heap.objs.size)
    (hC : s.heap.objs.size ≤ C) (hn : h₁.Ns C m) (old : ∀ b o, s.heap.get? b = some o → h₁.get? b = some o) (un : Un (frs X.stack) fp H H' s.heap h₁) (hok : HOk X.prog X.w H' h₁) (hfC : H' C = none) (hfc : ∀ c : Addr, c < s.heap.objs.size → H c = none → H' c = none) :
    Inv (compCx X N' scope C s H fp) [] (innerS n ix σ) H' { s with heap := h₁, toks := tk } := by
  have cl : ∀ y c, (clOf X.env scope.names []).lookup y = some c → X.env.cells.lookup y = some c := clOf_sub scope.names [] (fun y c h => by simp at h)
  have nlt : N'.length = n + ix.length := by
    have h1 := congrArg List.length ok.tl
    rw [List.length_drop, List.length_map] at h1
    have := ok.le
    omega
  refine ⟨⟨I.ok.mod, by show (relabel scope X.env).kind = _; exact ok.kind, I.ok.glob, I.ok.blt, hC, ?_, ?_, ?_, I.ok.hd, I.ok.frames, .inl rfl, ?_, I.bs, Nat.le_trans I.ok.bsz I.sz, ?_, ?_, I.stack, I.stkFree, I.ok.tabs.un I.base⟩, rfl, I.bare, un, ?_, ?_, hfC, ?_, ?_, hok, ?_⟩
  · intro y z c h1 h2
    exact I.ok.inj y z c (cl y c h1) (cl z c h2)
  · intro y hy
    have h1 : (y, NameKind.free) ∈ scope.names := by
      have hy' : (relabel scope X.env).names.lookup y = some .cell ∨ (relabel scope X.env).names.lookup y = some .free := hy
      have mem : ∀ k, (relabel scope X.env).names.lookup y = some k → (k = .cell ∨ k = .free) → (y, NameKind.free) ∈ scope.names := fun k e hk => by
        have hm := PySem.mem_of_lookup e
        obtain ⟨⟨n, k'⟩, hm1, hm2⟩ := List.mem_map.mp hm
        dsimp only at hm2
        split at hm2
        · rename_i hc
          cases hm2
          have : k' = .free := by
            have := (Bool.and_eq_true _ _ ▸ (Bool.and_eq_true _ _ ▸ hc).1).1
            simpa using this
          rw [← this]; exact hm1
        · cases hm2
          rcases hk with rfl | rfl
          · exact absurd rfl (ok.cell _ hm1)
          · exact hm1
      rcases hy' with h | h
      · exact mem _ h (.inl rfl)
      · exact mem _ h (.inr rfl)
    have hc := I.ok.has y (.inl (ok.fr _ h1 rfl))
    exact clOf_has scope.names [] y (.inr ⟨h1, hc⟩)
  · intro y c hfn; cases hfn
  · intro b hb
    obtain ⟨f0, f1, f2, f3, f4, f5⟩ := hf b hb
    exact ⟨fun z => absurd (hfl b hb) (by rw [z]; exact Nat.not_lt.mpr hC), fun y c h => f4 y c (cl y c h)⟩
  · intro b o e hb
    obtain ⟨f0, f1, f2, f3, f4, f5⟩ := hf b hb
    rcases f3 with f3 | f3
    · exact I.ok.noex b o e f3
    · exact absurd (Heap.lt_size (I.ok.bs b o e).1) (Nat.not_lt.mpr f3)
  · intro b hb hb'
    obtain ⟨f0, f1, f2, f3, f4, f5⟩ := hf b hb
    rcases List.mem_cons.mp (I.stkSub b hb') with e | e
    · exact f1 e
    · exact f2 e
  · refine ⟨m, hn, fun i y v h1 h2 h3 => ?_⟩
    have h1 : N'[i]? = some y := h1
    have h2 : (innerS n ix σ)[i]? = some (some v) := h2
    by_cases hi : i < n
    · unfold innerS at h2
      rw [List.getElem?_append_left (by simpa using hi), List.getElem?_replicate, if_pos hi] at h2; cases h2
    · unfold innerS at h2
      rw [List.getElem?_append_right (by simpa using Nat.not_lt.1 hi), List.length_replicate, List.getElem?_map] at h2
      cases e : ix[i - n]? with
      | none => rw [e] at h2; cases h2
      | some i0 =>
        rw [e] at h2
        have h2' : σ[i0]? = some (some v) := by
          cases q : σ[i0]? with
          | none => rw [Option.map_some, q] at h2; cases h2
          | some z => rw [Option.map_some, q] at h2; have := Option.some.inj h2; rw [← this]; rfl
        have ht : (N'.drop n)[i - n]? = some y := by rw [List.getElem?_drop, Nat.add_sub_cancel' (Nat.not_lt.1 hi)]; exact h1
        have hy : X.N[i0]? = some y := by
          have ht2 := ht
          rw [ok.tl, List.getElem?_map, e] at ht2
          have hl := ok.lt i0 (List.mem_of_getElem? e)
          have q := Option.some.inj ht2
          rw [List.getElem?_eq_getElem hl]
          rw [← q]
          show some X.N[i0] = some (X.N.getD i0 Str.empty)
          rw [List.getD_eq_getElem?_getD, List.getElem?_eq_getElem hl]
          rfl
        obtain ⟨fr1, fr2⟩ := ok.fre y (List.mem_of_getElem? ht)
        have kc := ok.fr _ fr2 rfl
        obtain ⟨m0, hn0, hl⟩ := I.loc
        obtain ⟨u, ru, lk⟩ := hl i0 y v hy h2' (.inr (.inl kc))
        refine ⟨u, ru, .inr ⟨.inl (relabel_free I.ok.kind fr1 kc), ?_⟩⟩
        rcases lk with ⟨z, _⟩ | ⟨_, c, hc, hcell⟩
        · rw [kc] at z; cases z
        · obtain ⟨c', hc'⟩ := clOf_has scope.names [] y (.inr ⟨fr2, c, hc⟩)
          have := cl y c' hc'
          rw [hc] at this
          cases this
          exact ⟨c, hc', hcell.keeps old⟩
  · intro y c h
    obtain ⟨v, q⟩ := I.cell y c (cl y c h)
    exact ⟨v, q.keeps old⟩
  · intro y c h
    obtain ⟨v, q⟩ := I.cell y c (cl y c h)
    exact hfc c q.lt (I.freeC y c (cl y c h))
  · intro p hp
    exact absurd (show p ∈ ([] : List (Addr × Obj)) from hp) (by simp)
  · show (innerS n ix σ).length = N'.length
    rw [nlt]; simp [innerS]

theorem compLoop_L {prog : Program} {w : World} {A : Around} {R' : Result → Shared → Prop} {s : Shared} {elt target iter : Expr} {ifs : List Expr} {scope : Scope} {pos : Pos} {it acc : Value} {env : Env} (I : Nat → Shared → Prop)
    (turn : ∀ n s, I n s → wpAny (model prog w) A (pyNext it) (fun r s₁ => match r with
      | none => R' (.ok .next) s₁
      | some v => wpAny (model prog w) A (letOwnedTupleGo target it v) (fun _ s₁' => wpAny (model prog w) A (assign target env v) (fun _ s₂ =>
          wpAny (model prog w) A (forIn ifs true fun c r => if r = true then do let ok ← isTrue c env (eval c env); pure (ForInStep.yield ok) else pure (ForInStep.yield r)) (fun ok s₃ =>
            if ok = true then wpAny (model prog w) A (eval elt env) (fun x s₄ =>
              wpAny (model prog w) A (call (.builtin "list.append") [acc, x]) (fun _ s₅ => ∃ m, m < n ∧ I m s₅) (fun _ _ => False) s₄) (fun _ _ => False) s₃
            else ∃ m, m < n ∧ I m s₃) (fun _ _ => False) s₂) (fun _ _ => False) s₁') (fun _ _ => False) s₁) (fun _ _ => False) s)
    (n : Nat) (h : I n s) :
    codeAny (model prog w) A (.compLoop (.ListComp elt [⟨target, iter, ifs, 0⟩] scope pos) 0 it acc env) R' s := by
  refine codeAny_loop rfl I (fun n s hI => ?_) n h
  show wpAny _ A ((compTurn (.ListComp elt [⟨target, iter, ifs, 0⟩] scope pos) 0 it acc env).onRaise (fun x => do noteFrame x env; theTreesLotGoes x)) _ _ s
  refine wpAny_noted ?_
  rw [compTurn_list]
  refine wpAny_bind (wpAny_standAt (wpAny_bind (wpAny_mono (turn n s hI) (fun r s₁ h₁ => ?_) fun _ _ z => z.elim)))
  cases r with
  | none => exact wpAny_pure h₁
  | some v =>
    refine wpAny_bind (wpAny_mono h₁ (fun _ s₁' h₁' => ?_) fun _ _ z => z.elim)
    refine wpAny_bind (wpAny_mono h₁' (fun _ s₂ h₂ => wpAny_bind (wpAny_mono h₂ (fun ok s₃ h₃ => ?_) fun _ _ z => z.elim)) fun _ _ z => z.elim)
    cases ok with
    | false => exact wpAny_pure ⟨rfl, h₃⟩
    | true =>
      exact wpAny_bind (wpAny_bind (wpAny_mono h₃ (fun x s₄ h₄ => wpAny_bind (wpAny_mono h₄ (fun _ s₅ h₅ => wpAny_pure (wpAny_pure ⟨rfl, h₅⟩)) fun _ _ z => z.elim)) fun _ _ z => z.elim))

theorem setV_own {i : Nat} : ∀ d ρ ρ', setV i d ρ = .ok ρ' → NoOwn ρ → NoOwn ρ' := by
  intro d ρ ρ' e h j x q
  have e' : ρ.set i (some (.val d)) = ρ' := R.ok.inj e
  rw [← e', List.getElem?_set] at q
  split at q
  · split at q
    · cases q; exact ⟨d, rfl⟩
    · cases q
  · exact h j x q
theorem comp_blockT_0 {tgt : Expr} {asg : D → Ev → R Ev} {n : Nat} {pins : List (Addr × Obj)} {σ : St} {H : Hp} {s : Shared} {it : Addr} {fp : List Addr} {tn : Nat → Heap → Prop} {J : It} {G : Hp} {ρ : Ev} {items : List D} {Q : VK} {RR : Value → Addr → Result → Shared → Prop} {E : Value → Shared → Prop} (ok : CompOkT X scope n N' ix) (hcalm : X.calm = true) (hg : ∀ C s₂ H₂ fp, PGF (compCx X N' scope C s₂ H₂ fp) tgt asg) (hown : ∀ d ρ ρ', asg d ρ = .ok ρ' → (NoOwn ρ) → NoOwn ρ')
    (he : ∀ C s₂ H₂ fp, QF (compCx X N' scope C s₂ H₂ fp) elt ge) (ht : ∀ C s₂ H₂ fp, PTs (compCx X N' scope C s₂ H₂ fp) ifs gt)
    (I : Inv X pins σ H s) (T : Turn X.prog X.w X.K tgt J fp it tn) (st0 : tn 0 s.heap) (hf : ∀ b ∈ fp, FpOk X pins H b) (st : StE X.K G H σ ρ) (hi : ItOk X.K G J items)
    (h : (compG asg gt ge items (innerN n ix ρ) >>= fun ds => if ds.length ≤ sizeLine then R.ok ds else .no).post (FinL X.K G H Q) (Exx X σ G H))
    (hR : ∀ (Dd C : Addr) (s' : Shared) (m : Str → Option Value) (vs : List V) (G' H' : Hp), Up G H G' H' → H' Dd = none → C ≠ Dd → (∀ ds, Reps X.K G' vs ds → True) → Q (.ref Dd) (upd H' Dd (.lst vs)) → s'.heap.Ns C m → s'.os = s.os → AllBare s'.gens → H' C = none → s.heap.objs.size ≤ C →
      Un (frs X.stack) fp H (upd H' Dd (.lst vs)) s.heap s'.heap → HOk X.prog X.w (upd H' Dd (.lst vs)) s'.heap → RR (.ref Dd) C (.ok .next) s') :
    wpAny (model X.prog X.w) X.A (newList []) (fun acc s₃ => wpAny (model X.prog X.w) X.A (newFunctionEnv scope X.env.globals (clOf X.env scope.names []) [] X.env.qual none .none (some X.env)) (fun cenv s₄ =>
      codeAny (model X.prog X.w) X.A (.compStart (.ListComp elt [⟨tgt, iter, ifs, 0⟩] scope pos) 0 (.ref it) acc { cenv with scope := relabel scope X.env }) (RR acc cenv.locals) s₄) E s₃) E s := by
  have hfl : ∀ b ∈ fp, b < s.heap.objs.size := fun b hb => let ⟨o, e, _⟩ := T.obj 0 s.heap st0 b hb; Heap.lt_size e
  refine wpAny_newObj_type (wpAny_newFunctionEnv ok.cell (by intro y hy; simp at hy) (fun h₁ hns₁ hsb₁ => ?_) ok.kind)
  dsimp only at hns₁ hsb₁ ⊢
  generalize hH2 : s.heap.push { cls := .type "list", dict := none, data := .seq ([] : List Value).toArray } = Hq at hns₁ hsb₁ ⊢
  have hC : Hq.objs.size = s.heap.objs.size + 1 := by rw [← hH2, Heap.size_push]
  have hDC : s.heap.objs.size ≠ Hq.objs.size := by rw [hC]; exact Nat.ne_of_lt (Nat.lt_succ_self _)
  have hCle : s.heap.objs.size ≤ Hq.objs.size := by rw [hC]; exact Nat.le_succ _
  have old : ∀ b o, s.heap.get? b = some o → h₁.get? b = some o := fun b o e =>
    hsb₁.extBut b o (by rw [hC]; exact Nat.ne_of_lt (Nat.lt_succ_of_lt (Heap.lt_size e))) (Heap.get?_push_of_some _ (hH2 ▸ Heap.get?_push_of_some _ e))
  have hacc : h₁.get? s.heap.objs.size = some { cls := .type "list", data := .seq ([] : List Value).toArray } := hsb₁.extBut _ _ hDC (Heap.get?_push_of_some _ (hH2 ▸ Heap.get?_push_size _ rfl))
  have hD0 : H s.heap.objs.size = none := I.fresh
  have hC0 : H Hq.objs.size = none := I.hok.fresh hCle
  have st0' : tn 0 h₁ := T.keep 0 _ _ st0 fun b hb o e => old b o e
  -- the block's state at its beginning
  have I0 : ∀ tk, Inv (compCx X N' scope Hq.objs.size s H fp) [] (innerS n ix σ) (upd H s.heap.objs.size (.lst [])) { s with heap := h₁, toks := tk } := fun tk => by
    refine comp_inv ok hcalm I hf hfl hCle hns₁ old (Un.laid old (Nat.le_refl _) hD0) (I.hok.laid old (Nat.le_refl _) ⟨Nat.zero_le _, [], 0, .nil, hacc⟩) (by rw [upd_ne hDC.symm]; exact hC0) fun c hc e => ?_
    rw [upd_ne (Nat.ne_of_lt hc)]; exact e
  have loop : ∀ tk, codeAny (model X.prog X.w) X.A (.compLoop (.ListComp elt [⟨tgt, iter, ifs, 0⟩] scope pos) 0 (.ref it) (.ref s.heap.objs.size) (compEnvC scope (clOf X.env scope.names []) Hq.objs.size X.env))
      (RR (.ref s.heap.objs.size) Hq.objs.size) { s with heap := h₁, toks := tk } := fun tk => by
    have fpk : ∀ {pins' : List (Addr × Obj)} {σ' : St} {H' : Hp} {s' : Shared}, Inv (compCx X N' scope Hq.objs.size s H fp) pins' σ' H' s' → pins' = [] → (∀ b ∈ fp, H' b = none) → ∀ b ∈ fp, FpOk (compCx X N' scope Hq.objs.size s H fp) pins' H' b := fun I' e hn b hb =>
      ⟨hn b hb, (I'.ok.exf b hb).1, I'.ok.exfs b hb, .inl hb, (I'.ok.exf b hb).2, by subst e; intro p hp; exact absurd (show p ∈ ([] : List (Addr × Obj)) from hp) (by simp)⟩
    refine compLoop_L (fun nn s' => ∃ (i : Nat) (σ' : St) (G' H' : Hp) (ρ' : Ev) (vs : List V) (ys : List D), nn = items.length - i ∧ i ≤ items.length ∧ Inv (compCx X N' scope Hq.objs.size s H fp) [] σ' H' s' ∧ tn i s'.heap ∧ (∀ b ∈ fp, H' b = none) ∧
      H' s.heap.objs.size = some (.lst vs) ∧ G' s.heap.objs.size = none ∧ Up G H G' H' ∧ StE X.K G' H' σ' ρ' ∧ (NoOwn ρ') ∧ Reps X.K G' vs ys ∧
      (compG asg gt ge (items.drop i) ρ' >>= fun zs => if (ys ++ zs).length ≤ sizeLine then R.ok (ys ++ zs) else .no).post (FinL X.K G H Q) (Exx X σ G H)) ?_ items.length
      ⟨0, innerS n ix σ, G, upd H s.heap.objs.size (.lst []), innerN n ix ρ, [], [], by simp, Nat.zero_le _, I0 tk, st0', fun b hb => by rw [upd_ne (Nat.ne_of_lt (hfl b hb))]; exact (hf b hb).1, upd_same, st.sub.free hD0,
        ⟨fun a o e => by rw [upd_ne (ne_of_none e (st.sub.free hD0))]; exact st.sub a o e, .refl _, .into hD0, fun _ _ e => .inl e⟩,
        ⟨fun a o e => by rw [upd_ne (ne_of_none e (st.sub.free hD0))]; exact st.sub a o e, (inner_st st n ix).len, (inner_st st n ix).val, fun j m C p fs h => absurd h (NoOwn.obj inner_own j m C p fs)⟩, inner_own, .nil, by simpa using h⟩
    rintro nn s' ⟨i, σ', G', H', ρ', vs, ys, rfl, hil, I', tn', fr', hD', gD', up', st', no', rp', h'⟩
    have hIt := hi i G' H' up'.gg st'.sub
    by_cases hlt : i < items.length
    · -- a turn
      have hd : items.drop i = items[i] :: items.drop (i + 1) := List.drop_eq_getElem_cons hlt
      rw [hd] at h'
      obtain ⟨go, yl⟩ := hIt.1 items[i] (by simp [hlt])
      refine wpAny_mono (T.item (compCx X N' scope Hq.objs.size s H fp) rfl rfl rfl hcalm i [] s' σ' H' (fun _ _ => False) I' (fpk I' rfl fr') tn' go) (fun r s1 ⟨u, hr, h1⟩ => ?_) fun _ _ z => z
      subst hr
      refine wpAny_mono h1 (fun _ s2 ⟨x2, H2, I2, r2, y2, tn2, fr2⟩ => ?_) fun _ _ z => z
      obtain ⟨G2, up2, rep2⟩ := yl x2 H2 y2
      have I2p := I2.pinned (fpk I2 rfl fr2) (T.obj _ _ tn2)
      have st2 : StE X.K G2 H2 σ' ρ' := st'.up up2
      have sr2 : StR X.K G2 H2 G2 H2 σ' ρ' := ⟨st2, up2.sub, .refl up2.sub, fun j ds e => absurd e (no'.own j ds), fun j k ds es l e => absurd e (no'.own j ds), no'.ob⟩
      have ea : ∃ ρ1, asg items[i] ρ' = .ok ρ1 := by
        unfold compG at h'
        cases q : asg items[i] ρ' with
        | ok k => exact ⟨k, rfl⟩
        | ex C => rw [q] at h'; exact h'.elim
        | no => rw [q] at h'; exact h'.elim
      obtain ⟨ρ1, ea⟩ := ea
      unfold compG at h'
      rw [ea] at h'
      simp only [noEx, R.ok_bind] at h'
      refine wpAny_mono (hg Hq.objs.size s H fp _ s2 σ' H2 x2 u (fun σ3 H3 => H3 = H2 ∧ StR X.K G2 H2 G2 H2 σ3 ρ1) I2p r2
        ⟨G2, H2, G2, ρ', items[i], _, sr2, rep2, ea, fun σ3 q => ⟨rfl, q⟩⟩) (fun _ s3 ⟨σ3, H3, I3, e3, sr3⟩ => ?_) fun _ _ z => z
      subst e3
      have no3 := hown _ _ _ ea no'
      have hD2 : H3 s.heap.objs.size = some (.lst vs) := up2.hh _ _ hD'
      have gD2 : G2 s.heap.objs.size = none := by
        cases q : G2 s.heap.objs.size with
        | none => rfl
        | some o =>
          rcases up2.fr _ _ q with z | z
          · rw [gD'] at z; cases z
          · rw [hD'] at z; cases z
      -- the tests
      have ek : ∃ k, gt ρ1 = .ok k := by
        cases q : gt ρ1 with
        | ok k => exact ⟨k, rfl⟩
        | ex C => rw [q] at h'; exact h'.elim
        | no => rw [q] at h'; exact h'.elim
      obtain ⟨k, ek⟩ := ek
      rw [ek] at h'
      simp only [noEx, R.ok_bind] at h'
      refine wpAny_mono (ht Hq.objs.size s H fp _ s3 σ3 H3 (fun b H4 => b = k ∧ ∃ G4, Up G2 H3 G4 H4) I3 ⟨G2, _, sr3.e, by rw [ek]; exact fun b G4 H4 u4 e4 => ⟨e4, G4, u4⟩⟩) (fun b s4 ⟨H4, I4, eb, G4, up4⟩ => ?_) fun _ _ z => z
      subst eb
      have next : ∀ {H7 : Hp} {s7 : Shared} {G7 : Hp} {vs7 : List V} {ys7 : List D}, Inv (compCx X N' scope Hq.objs.size s H fp) ([] ++ pinsAt fp s2.heap) σ3 H7 s7 → H7 s.heap.objs.size = some (.lst vs7) → G7 s.heap.objs.size = none → Up G H G7 H7 → StE X.K G7 H7 σ3 ρ1 → Reps X.K G7 vs7 ys7 →
          (compG asg gt ge (items.drop (i + 1)) ρ1 >>= fun zs => if (ys7 ++ zs).length ≤ sizeLine then R.ok (ys7 ++ zs) else .no).post (FinL X.K G H Q) (Exx X σ G H) →
          ∃ m, m < items.length - i ∧ ∃ (i : Nat) (σ' : St) (G' H' : Hp) (ρ' : Ev) (vs : List V) (ys : List D), m = items.length - i ∧ i ≤ items.length ∧ Inv (compCx X N' scope Hq.objs.size s H fp) [] σ' H' s7 ∧ tn i s7.heap ∧ (∀ b ∈ fp, H' b = none) ∧
            H' s.heap.objs.size = some (.lst vs) ∧ G' s.heap.objs.size = none ∧ Up G H G' H' ∧ StE X.K G' H' σ' ρ' ∧ (NoOwn ρ') ∧ Reps X.K G' vs ys ∧
            (compG asg gt ge (items.drop i) ρ' >>= fun zs => if (ys ++ zs).length ≤ sizeLine then R.ok (ys ++ zs) else .no).post (FinL X.K G H Q) (Exx X σ G H) := fun {H7 s7 G7 vs7 ys7} I7 hD7 gD7 up7 st7 rp7 h7 => by
        have pin : ∀ b ∈ fp, ∀ o, s2.heap.get? b = some o → s7.heap.get? b = some o ∧ H7 b = none := fun b hb o e => by
          have := I7.pin (b, o) (List.mem_append_right _ (List.mem_append_right _ (mem_pinsAt hb e)))
          exact ⟨this.1, this.2.1⟩
        refine ⟨items.length - (i + 1), by omega, i + 1, σ3, G7, H7, _, vs7, ys7, rfl, hlt, I7.unpinned, T.keep _ _ _ tn2 fun b hb o e => (pin b hb o e).1, fun b hb => ?_, hD7, gD7, up7, st7, no3, rp7, h7⟩
        obtain ⟨o, e, _⟩ := T.obj _ _ tn2 b hb
        exact (pin b hb o e).2
      have hD4 : H4 s.heap.objs.size = some (.lst vs) := up4.hh _ _ hD2
      have gD4 : G4 s.heap.objs.size = none := by
        cases q : G4 s.heap.objs.size with
        | none => rfl
        | some o =>
          rcases up4.fr _ _ q with z | z
          · rw [gD2] at z; cases z
          · rw [hD2] at z; cases z
      cases b with
      | false =>
        simp only [Bool.false_eq_true, if_false] at h' ⊢
        exact next I4 hD4 gD4 ((up'.trans up2).trans up4) (sr3.e.up up4) ((rp'.mono up2.gg).mono up4.gg) h'
      | true =>
        simp only [if_true] at h' ⊢
        have ex : ∃ y, ge ρ1 = .ok y := by
          cases q : ge ρ1 with
          | ok y => exact ⟨y, rfl⟩
          | ex C => rw [q] at h'; exact h'.elim
          | no => rw [q] at h'; exact h'.elim
        obtain ⟨y, ey⟩ := ex
        rw [ey] at h'
        simp only [noEx, R.ok_bind] at h'
        refine wpAny_mono (he Hq.objs.size s H fp _ s4 σ3 H4 (fun v H5 => ∃ G5, Up G4 H4 G5 H5 ∧ Rep X.K G5 v y) I4 ⟨G4, _, sr3.e.up up4, by rw [ey]; exact fun v G5 H5 u5 r5 => ⟨G5, u5, r5⟩⟩) (fun u5 s5 ⟨v5, H5, I5, r5, G5, up5, rep5⟩ => ?_) fun _ _ z => z
        have hD5 : H5 s.heap.objs.size = some (.lst vs) := up5.hh _ _ hD4
        have gD5 : G5 s.heap.objs.size = none := by
          cases q : G5 s.heap.objs.size with
          | none => rfl
          | some o =>
            rcases up5.fr _ _ q with z | z
            · rw [gD4] at z; cases z
            · rw [hD4] at z; cases z
        have ups := ((up'.trans up2).trans up4).trans up5
        rcases compG_noEx (asg := asg) (gt := gt) (ge := ge) (items.drop (i + 1)) ρ1 with ⟨zs, ez⟩ | ez
        · rw [ez] at h'
          simp only [R.ok_bind] at h'
          have hz : (ys ++ y :: zs).length ≤ sizeLine := by
            by_cases hz : (ys ++ y :: zs).length ≤ sizeLine
            · exact hz
            · rw [if_neg hz] at h'; exact h'.elim
          have hvl : vs.length < sizeLine := by
            rw [rp'.length]
            rw [List.length_append, List.length_cons] at hz
            omega
          refine wpAny_mono (mt_append (X := compCx X N' scope Hq.objs.size s H fp) _ s5 σ3 H5 (.ref s.heap.objs.size) [v5] (.ref s.heap.objs.size) [u5] (fun _ H6 => H6 = upd H5 s.heap.objs.size (.lst (vs ++ [v5]))) I5 rfl (.cons r5 .nil)
            ⟨_, vs, v5, rfl, rfl, hD5, hvl, rfl⟩) (fun _ s6 ⟨_, H6, I6, _, e6⟩ => ?_) fun _ _ z => z
          subst e6
          have sub6 : Same G5 (upd H5 s.heap.objs.size (.lst (vs ++ [v5]))) := fun a o e => by rw [upd_ne (ne_of_none e gD5)]; exact up5.sub a o e
          refine next I6 upd_same gD5 ⟨sub6, ups.gg, fun a o e => ?_, ups.fr⟩ ?_ (ys7 := ys ++ [y]) ((((rp'.mono up2.gg).mono up4.gg).mono up5.gg).append (.cons rep5 .nil)) ?_
          · rw [upd_ne (ne_of_none e hD0)]; exact ups.hh a o e
          · exact ⟨sub6, ((sr3.e.up up4).up up5).len, ((sr3.e.up up4).up up5).val, fun j m C p fs h => absurd h (no3.obj j m C p fs)⟩
          · rw [ez]
            simp only [R.ok_bind, List.append_assoc, List.singleton_append]
            exact h'
        · rw [ez] at h'; exact h'.elim
    · -- the end
      have hie : i = items.length := by omega
      subst hie
      rw [List.drop_length] at h'
      unfold compG at h'
      simp only [R.ok_bind, List.append_nil] at h'
      refine wpAny_mono (T.done (compCx X N' scope Hq.objs.size s H fp) rfl rfl rfl hcalm items.length [] s' σ' H' (fun _ _ => False) I' (fpk I' rfl fr') tn' (hIt.2 (Nat.le_refl _))) (fun r s1 ⟨hr, I1⟩ => ?_) fun _ _ z => z
      subst hr
      have hz : ys.length ≤ sizeLine := by
        by_cases hz : ys.length ≤ sizeLine
        · exact hz
        · rw [if_neg hz] at h'; exact h'.elim
      rw [if_pos hz] at h'
      have eH : upd (fun a => if a = s.heap.objs.size then none else H' a) s.heap.objs.size (.lst vs) = H' := by
        funext a
        unfold upd
        by_cases e : a = s.heap.objs.size
        · subst e; rw [if_pos rfl]; exact hD'.symm
        · rw [if_neg e]
          show (if a = s.heap.objs.size then none else H' a) = _
          rw [if_neg e]
      have hn : (fun a => if a = s.heap.objs.size then none else H' a) s.heap.objs.size = none := by simp
      have upn : Up G H G' (fun a => if a = s.heap.objs.size then none else H' a) := by
        refine ⟨fun a o e => ?_, up'.gg, fun a o e => ?_, up'.fr⟩
        · have : a ≠ s.heap.objs.size := ne_of_none e gD'
          simp only [this, if_false]; exact up'.sub a o e
        · have : a ≠ s.heap.objs.size := ne_of_none e hD0
          simp only [this, if_false]; exact up'.hh a o e
      obtain ⟨m1, hm1, _⟩ := I1.loc
      refine hR s.heap.objs.size Hq.objs.size s1 m1 vs G' _ upn hn hDC.symm (fun _ _ => trivial) (h' _ vs G' _ upn hn rp') hm1 I1.os I1.bare ?_ hCle (by rw [eH]; exact I1.base) (by rw [eH]; exact I1.hok)
      have := I1.free
      show (if Hq.objs.size = s.heap.objs.size then none else H' Hq.objs.size) = none
      rw [if_neg hDC.symm]; exact this
  exact codeAny_compStart_list (loop _) (T.self X.A 0 _ _ _ st0' (loop _))

theorem comp_block_0 {pins : List (Addr × Obj)} {σ : St} {H : Hp} {s : Shared} {it : Addr} {fp : List Addr} {tn : Nat → Heap → Prop} {J : It} {G : Hp} {ρ : Ev} {items : List D} {Q : VK} {RR : Value → Addr → Result → Shared → Prop} {E : Value → Shared → Prop} (ok : CompOk X scope x N' ix) (hcalm : X.calm = true)
    (he : ∀ C s₂ H₂ fp, QF (compCx X N' scope C s₂ H₂ fp) elt ge) (ht : ∀ C s₂ H₂ fp, PTs (compCx X N' scope C s₂ H₂ fp) ifs gt)
    (I : Inv X pins σ H s) (T : Turn X.prog X.w X.K (.Name x px) J fp it tn) (st0 : tn 0 s.heap) (hf : ∀ b ∈ fp, FpOk X pins H b) (st : StE X.K G H σ ρ) (hi : ItOk X.K G J items)
    (h : (compD gt ge items (inner ix ρ) >>= fun ds => if ds.length ≤ sizeLine then R.ok ds else .no).post (FinL X.K G H Q) (Exx X σ G H))
    (hR : ∀ (Dd C : Addr) (s' : Shared) (m : Str → Option Value) (vs : List V) (G' H' : Hp), Up G H G' H' → H' Dd = none → C ≠ Dd → (∀ ds, Reps X.K G' vs ds → True) → Q (.ref Dd) (upd H' Dd (.lst vs)) → s'.heap.Ns C m → s'.os = s.os → AllBare s'.gens → H' C = none → s.heap.objs.size ≤ C →
      Un (frs X.stack) fp H (upd H' Dd (.lst vs)) s.heap s'.heap → HOk X.prog X.w (upd H' Dd (.lst vs)) s'.heap → RR (.ref Dd) C (.ok .next) s') :
    wpAny (model X.prog X.w) X.A (newList []) (fun acc s₃ => wpAny (model X.prog X.w) X.A (newFunctionEnv scope X.env.globals (clOf X.env scope.names []) [] X.env.qual none .none (some X.env)) (fun cenv s₄ =>
      codeAny (model X.prog X.w) X.A (.compStart (.ListComp elt [⟨.Name x px, iter, ifs, 0⟩] scope pos) 0 (.ref it) acc { cenv with scope := relabel scope X.env }) (RR acc cenv.locals) s₄) E s₃) E s :=
  comp_blockT_0 (n := 1) (asg := setV 0) ok.t hcalm (fun C s₂ H₂ fp => pgf_name (X := compCx X N' scope C s₂ H₂ fp) (pos := px) 0 ok.nd ok.hd (.inl (lookup_relabel_local ok.loc)) (.inr (lookup_relabel_local ok.loc))) setV_own he ht I T st0 hf st hi h hR

theorem pfl_comp_0 (ok : CompOk X scope x N' ix) (hcalm : X.calm = true) (hi : QIF X (.Name x px) iter gi) (he : ∀ C s₂ H₂ fp, QF (compCx X N' scope C s₂ H₂ fp) elt ge) (ht : ∀ C s₂ H₂ fp, PTs (compCx X N' scope C s₂ H₂ fp) ifs gt)
    (hs : ∀ x, foldedSetIterable iter X.env x = pure x := by intro _; rfl) : QFL X (.ListComp elt [⟨.Name x px, iter, ifs, 0⟩] scope pos) (gComp gi ix gt ge) := by
  intro pins s σ H Q I h
  obtain ⟨G, ρ, st, h⟩ := h
  rw [eval_ListComp]
  refine wpAny_comprehension_free (use := none) rfl hs (closureFor_eq fun y hy hy2 => I.ok.has y.1 (.inl (ok.fr y hy hy2))) ok.kind ok.names ?_
  have t : tG X (fun G J items => ItOk X.K G J items) gi σ H (fun J H1 => ∃ G1 items, Up G H G1 H1 ∧ StE X.K G1 H1 σ ρ ∧ ItOk X.K G1 J items ∧ (compD gt ge items (inner ix ρ) >>= fun ds => if ds.length ≤ sizeLine then R.ok ds else .no).post (FinL X.K G H Q) (Exx X σ G H)) := by
    refine ⟨G, ρ, st, ?_⟩
    unfold gComp at h
    cases e : gi ρ with
    | ok items => rw [e] at h; exact fun J G1 H1 u r => ⟨G1, items, u, st.up u, r, h⟩
    | ex C => rw [e] at h; exact h
    | no => rw [e] at h; exact h
  refine thn (hi pins s σ H _ I t) fun v s1 h1 => thn h1 fun itv s2 h2 => ?_
  obtain ⟨it, fp, tn, J, H2, e, I2, T, st2, f2, G2, items, u2, sE2, iok, h2⟩ := h2
  subst e
  have h2' : (compD gt ge items (inner ix ρ) >>= fun ds => if ds.length ≤ sizeLine then R.ok ds else .no).post (FinL X.K G2 H2 Q) (Exx X σ G2 H2) :=
    h2.mono (fun ds q l vs G' H' u hl r => q l vs G' H' (u2.trans u) hl r) fun C q => q.up u2
  refine comp_block_0 (iter := iter) (pos := pos) (RR := fun acc C => compPost (model X.prog X.w) X.A X.xe none (EP X pins σ Q) acc C) ok hcalm he ht I2 T st2 f2 sE2 iok h2' ?_
  intro Dd C s' m vs G' H' up hd hCD _ q hm hos hb hC hCl un hok
  refine ⟨m, hm, fun h' hs' => ?_⟩
  have I3 := I2.call' (H' := upd H' Dd (.lst vs)) (s' := { s' with heap := h' }) (ch := fp) hos (un.sameBut (fun b o hbc e => hs'.extBut b o hbc e) hCl) (hok.sameBut (fun b o hbc e => hs'.extBut b o hbc e) (by rw [upd_ne hCD]; exact hC)) hb fun b hb' => by
    obtain ⟨f0, f1, f2', f3, f4, f5⟩ := f2 b hb'
    exact ⟨f3, f1, f4, f5⟩
  exact ⟨.ref Dd, _, I3, rfl, q⟩
end
end L2
namespace L2
open PySem PySem.Spec PyProof.Rows
inductive O where
  | nx (ρ : Ev) | rt (d : D) | re (d : D) (ρ : Ev) | bk (ρ : Ev) | ct (ρ : Ev) | ex (C : Addr) (ρ : Ev) | no
noncomputable def FlyS (X : Cx) (G₀ H₀ : Hp) (ρ : Ev) (C : Addr) (e : Value) (s' : Shared) : Prop := ∃ σ H₁ pins s₁ a, e = .ref a ∧ Inv X pins σ H₁ s₁ ∧
  ((∃ G₁ h' vs, StR X.K G₀ H₀ G₁ H₁ σ ρ ∧ Heap.MadeExcOf s₁.heap h' a (.ref C) vs ∧ s' = { s₁ with heap := h' }) ∨ (∃ G' H', Flown X.prog X.w X.stack H₁ s₁ a C H' s' ∧ StR X.K G₀ H₀ G' H' σ ρ) ∨
    ∃ G' H' L, X.env.frame = some L ∧ FlownH X pins L H₁ s₁ a C H' s' ∧ StR X.K G₀ H₀ G' H' σ ρ)
theorem FlyS.of {X : Cx} {G₀ H₀ G₁ H₁ : Hp} {σ : St} {ρ : Ev} {C : Addr} {e : Value} {s' : Shared} (sr : StR X.K G₀ H₀ G₁ H₁ σ ρ) (f : FlyR X σ G₁ H₁ C e s') : FlyS X G₀ H₀ ρ C e s' := by
  obtain ⟨pins, s₁, a, e, I, way⟩ := f
  refine ⟨σ, H₁, pins, s₁, a, e, I, ?_⟩
  rcases way with ⟨h', vs, m, z⟩ | ⟨G', H', fl, u⟩ | ⟨G', H', L, hL, fl, u⟩
  · exact .inl ⟨G₁, h', vs, sr, m, z⟩
  · exact .inr (.inl ⟨G', H', fl, sr.ups u⟩)
  · exact .inr (.inr ⟨G', H', L, hL, fl, sr.ups u⟩)
theorem FlyS.map {X : Cx} {A B A' B' : Hp} {ρ ρ' : Ev} {C : Addr} {e : Value} {s' : Shared} (f : FlyS X A B ρ C e s') (h : ∀ σ G H, StR X.K A B G H σ ρ → StR X.K A' B' G H σ ρ') : FlyS X A' B' ρ' C e s' := by
  obtain ⟨σ, H₁, pins, s₁, a, e, I, way⟩ := f
  refine ⟨σ, H₁, pins, s₁, a, e, I, ?_⟩
  rcases way with ⟨G₁, h', vs, sr, m, z⟩ | ⟨G', H', fl, sr⟩ | ⟨G', H', L, hL, fl, sr⟩
  · exact .inl ⟨G₁, h', vs, h _ _ _ sr, m, z⟩
  · exact .inr (.inl ⟨G', H', fl, h _ _ _ sr⟩)
  · exact .inr (.inr ⟨G', H', L, hL, fl, h _ _ _ sr⟩)
noncomputable def OutR (X : Cx) (G₀ H₀ : Hp) (D : Ends) (o : O) : Prop := match o with
  | .nx ρ => ∀ σ G H, StR X.K G₀ H₀ G H σ ρ → D.nx σ H
  | .rt d => ∀ v G H, Up G₀ H₀ G H → Rep X.K G v d → D.rt v H
  | .re d ρ => ∀ v σ G H, StR X.K G₀ H₀ G H σ ρ → Rep X.K G v d → D.rt v H
  | .bk ρ => ∀ σ G H, StR X.K G₀ H₀ G H σ ρ → D.bk σ H
  | .ct ρ => ∀ σ G H, StR X.K G₀ H₀ G H σ ρ → D.ct σ H
  | .ex C ρ => ∀ e s', FlyS X G₀ H₀ ρ C e s' → X.xe e s'
  | .no => False
noncomputable def tS (X : Cx) (G₀ H₀ : Hp) (g : Ev → O) : TS := fun D σ H => ∃ G ρ, StR X.K G₀ H₀ G H σ ρ ∧ OutR X G₀ H₀ D (g ρ)
noncomputable def QSF (X : Cx) (st : Stmt) (g : Ev → O) : Prop := ∀ G₀ H₀, PS X st (tS X G₀ H₀ g)
noncomputable def QSsF (X : Cx) (st : List Stmt) (g : Ev → O) : Prop := ∀ G₀ H₀, PSs X st (tS X G₀ H₀ g)
noncomputable def R.out {α : Type} (m : R α) (ρ : Ev) (k : α → O) : O := match m with
  | .ok a => k a
  | .ex C => .ex C ρ
  | .no => .no
noncomputable def O.seq (o : O) (k : Ev → O) : O := match o with
  | .nx ρ => k ρ
  | o => o
section
variable {X : Cx} {st : Stmt} {rest body a b : List Stmt} {e c tg : Expr} {g g1 g2 : Ev → O} {ga : Ev → R D} {gt : Ev → R Bool} {gl : Ev → R (List D)} {pos : Pos}
theorem Exx.of {G₀ H₀ G H : Hp} {D : Ends} {σ : St} {ρ : Ev} {C : Addr} (sr : StR X.K G₀ H₀ G H σ ρ) (h : OutR X G₀ H₀ D (.ex C ρ)) : Exx X σ G H C := fun e s' ⟨G1, H1, u, f⟩ => h e s' (.of (sr.ups u) f)
theorem pss_f_nil_0 : QSsF X [] (fun ρ => .nx ρ) := fun G₀ H₀ pins s σ H D I h => by
  obtain ⟨G, ρ, sr, h⟩ := h
  try dsimp only at h
  exact pss_nil pins s σ H D I (h σ G H sr)
theorem pss_f_cons_0 (h1 : QSF X st g1) (h2 : QSsF X rest g2) : QSsF X (st :: rest) (fun ρ => (g1 ρ).seq g2) := fun G₀ H₀ pins s σ H D I h => by
  refine pss_cons (h1 G₀ H₀) (h2 G₀ H₀) pins s σ H D I ?_
  obtain ⟨G, ρ, sr, h⟩ := h
  try dsimp only at h
  refine ⟨G, ρ, sr, ?_⟩
  cases q : g1 ρ with
  | nx ρ' => rw [q] at h; exact fun σ' G' H' sr' => ⟨G', ρ', sr', h⟩
  | rt d => rw [q] at h; exact h
  | re d ρ' => rw [q] at h; exact h
  | bk ρ' => rw [q] at h; exact h
  | ct ρ' => rw [q] at h; exact h
  | ex C ρ' => rw [q] at h; exact h
  | no => rw [q] at h; exact h
theorem ps_f_ret_0 (he : QF X e ga) : QSF X (.Return (some e) pos) (fun ρ => (ga ρ).out ρ .rt) := fun G₀ H₀ pins s σ H D I h => by
  refine ps_ret he pins s σ H D I ?_
  obtain ⟨G, ρ, sr, h⟩ := h
  try dsimp only at h
  refine ⟨G, ρ, sr.e, ?_⟩
  cases q : ga ρ with
  | ok d => rw [q] at h; exact fun v G' H' u r => h v G' H' (sr.up.trans u) r
  | ex C => rw [q] at h; exact Exx.of sr h
  | no => rw [q] at h; exact h
theorem ps_f_expr_0 (he : QF X e ga) (hs : swapsWith e none pos.line X.env = pure false := by rfl) : QSF X (.Expr e pos) (fun ρ => (ga ρ).out ρ fun _ => .nx ρ) := fun G₀ H₀ pins s σ H D I h => by
  refine ps_expr he hs pins s σ H D I ?_
  obtain ⟨G, ρ, sr, h⟩ := h
  try dsimp only at h
  refine ⟨G, ρ, sr.e, ?_⟩
  cases q : ga ρ with
  | ok d => rw [q] at h; exact fun v G' H' u r => h σ G' H' (sr.ups u)
  | ex C => rw [q] at h; exact Exx.of sr h
  | no => rw [q] at h; exact h
theorem ps_f_if_0 (hc : QB X c gt) (ha : QSsF X a g1) (hb : QSsF X b g2) : QSF X (.If c a b pos) (fun ρ => (gt ρ).out ρ fun k => if k = true then g1 ρ else g2 ρ) := fun G₀ H₀ pins s σ H D I h => by
  refine ps_if hc (ha G₀ H₀) (hb G₀ H₀) pins s σ H D I ?_
  obtain ⟨G, ρ, sr, h⟩ := h
  try dsimp only at h
  refine ⟨G, ρ, sr.e, ?_⟩
  cases q : gt ρ with
  | ok k =>
    rw [q] at h
    intro b' G' H' u r
    subst r
    cases b' with
    | true => rw [if_pos rfl]; exact ⟨G', ρ, sr.ups u, by simpa [R.out] using h⟩
    | false => rw [if_neg Bool.false_ne_true]; exact ⟨G', ρ, sr.ups u, by simpa [R.out] using h⟩
  | ex C => rw [q] at h; exact Exx.of sr h
  | no => rw [q] at h; exact h
theorem ps_f_asg_0 {asg : D → Ev → R Ev} (he : QF X e ga) (hg : PGF X tg asg) (hs : swapsWithSole [tg] e pos.line X.env = pure false := by rfl) (hw : swappedStores [tg] e X.env = pure none := by rfl)
    (hn : ∀ d ρ C, asg d ρ ≠ .ex C := by intro _ _ _ z; cases z) (h1 : (assignEach [tg] X.env).map (·.2) = [assign tg X.env] := by rfl) : QSF X (.Assign [tg] e pos) (fun ρ => (ga ρ).out ρ fun d => (asg d ρ).out ρ .nx) := fun G₀ H₀ pins s σ H D I h => by
  refine ps_asg he hg hs hw h1 pins s σ H D I ?_
  obtain ⟨G, ρ, sr, h⟩ := h
  try dsimp only at h
  refine ⟨G, ρ, sr.e, ?_⟩
  cases q : ga ρ with
  | ok d =>
    rw [q] at h
    simp only [R.out] at h
    intro v G' H' u r
    cases q2 : asg d ρ with
    | ok ρ' => rw [q2] at h; exact ⟨G₀, H₀, G', ρ, d, ρ', sr.ups u, r, q2, fun σ' sr' => h σ' G' H' sr'⟩
    | ex C => exact absurd q2 (hn d ρ C)
    | no => rw [q2] at h; exact h.elim
  | ex C => rw [q] at h; exact Exx.of sr h
  | no => rw [q] at h; exact h
theorem ps_f_set_0 (i : Nat) {x : Str} {p : Pos} (hN : X.N.Nodup) (he : QF X e ga) (hi : X.N[i]? = some x := by rfl) (hx : Loc X.env.scope x := by first | exact Or.inl rfl | exact Or.inr rfl)
    (hs : swapsWithSole [.Name x p] e pos.line X.env = pure false := by rfl) (hw : swappedStores [.Name x p] e X.env = pure none := by rfl) (hf : X.fn x = true ∨ X.env.scope.names.lookup x = some .local := by first | exact .inl rfl | exact .inr rfl) :
    QSF X (.Assign [.Name x p] e pos) (fun ρ => (ga ρ).out ρ fun d => .nx (ρ.set i (some (.val d)))) := ps_f_asg_0 he (pgf_name i hN hi hx hf) hs hw
theorem StR.setOwn {K : PySem.W.Frag} {G₀ H₀ G H : Hp} {σ : St} {ρ : Ev} (s : StR K G₀ H₀ G H σ ρ) {l : Addr} {vs : List V} {ds : List D} (hl : H l = none) (r : Reps K G vs ds) (i : Nat) :
    StR K G₀ H₀ G (upd H l (.lst vs)) (σ.set i (some (.ref l))) (ρ.set i (some (.own ds))) := by
  have gl : G l = none := s.e.sub.free hl
  have sub : Same G (upd H l (.lst vs)) := fun a o e => by rw [upd_ne (ne_of_none e gl)]; exact s.e.sub a o e
  have get : ∀ (j : Nat) x, (ρ.set i (some (.own ds)))[j]? = some (some x) → (j = i ∧ x = .own ds ∧ i < σ.length) ∨ (j ≠ i ∧ ρ[j]? = some (some x) ∧ (σ.set i (some (.ref l)))[j]? = σ[j]?) := fun j x h => by
    by_cases e : i = j
    · subst e
      have hl : i < ρ.length := by
        have := (List.getElem?_eq_some_iff.mp h).1
        simpa using this
      rw [List.getElem?_set_self hl] at h
      exact .inl ⟨rfl, by injection (Option.some.inj h) with q; exact q.symm, by rw [s.e.len]; exact hl⟩
    · rw [List.getElem?_set_ne e] at h
      exact .inr ⟨fun z => e z.symm, h, List.getElem?_set_ne e⟩
  have ob : ObSt K H₀ G (upd H l (.lst vs)) (σ.set i (some (.ref l))) (ρ.set i (some (.own ds))) := by
    obtain ⟨ow, o1, o2⟩ := s.ob
    have nl : ∀ {a : Addr} {o : HO}, H a = some o → a ≠ l := fun e z => by rw [z, hl] at e; cases e
    refine ⟨fun a => if a = l then some (i, 0) else ow a, fun j es l' h1 h2 => ?_, fun j m C p fs h1 => ?_⟩
    · rcases get j _ h1 with ⟨rfl, e, hj⟩ | ⟨_, e, e'⟩
      · rw [List.getElem?_set_self hj] at h2; cases h2; exact if_pos rfl
      · rw [e'] at h2
        obtain ⟨l2, vs2, q1, q2, _⟩ := s.own j es e
        rw [h2] at q1; cases q1
        exact (if_neg (nl q2)).trans (o1 j es l' e h2)
    · rcases get j _ h1 with ⟨_, e, _⟩ | ⟨_, e, e'⟩
      · cases e
      · rw [e']
        refine ⟨(o2 j m C p fs e).1, (o2 j m C p fs e).2.keep ⟨fun a t o _ q => ?_, .refl _, fun a t o _ _ n => n, fun a t o q1 q2 => ?_, fun a o _ _ n => n⟩⟩
        · rw [upd_ne (nl q)]; exact q
        · exact (if_neg (nl q2)).trans q1
  refine ⟨⟨sub, by simp [s.e.len], fun j d' h => ?_, ob.rd⟩, s.sub0, ⟨sub, s.up.gg, fun a o e => ?_, s.up.fr⟩, fun j es h => ?_, fun j k es fs l' h1 h2 h3 h4 => ?_, ob⟩
  · rcases get j _ h with ⟨_, e, _⟩ | ⟨_, e, e'⟩
    · cases e
    · rw [e']; exact s.e.val j d' e
  · rw [upd_ne (ne_of_none (s.up.hh a o e) hl)]; exact s.up.hh a o e
  · rcases get j _ h with ⟨rfl, e, hj⟩ | ⟨_, e, e'⟩
    · cases e
      exact ⟨l, vs, List.getElem?_set_self hj, upd_same, gl, s.up.hh.free hl, r⟩
    · obtain ⟨l', vs', h1, h2, h3, h4, h5⟩ := s.own j es e
      exact ⟨l', vs', by rw [e']; exact h1, by rw [upd_ne (ne_of_none h2 hl)]; exact h2, h3, h4, h5⟩
  · rcases get j _ h1 with ⟨rfl, e, hj⟩ | ⟨nj, e, e'⟩
    · rcases get k _ h2 with ⟨rfl, f, _⟩ | ⟨nk, f, f'⟩
      · rfl
      · obtain ⟨l2, vs2, q1, q2, _⟩ := s.own k fs f
        rw [List.getElem?_set_self hj] at h3
        rw [f', q1] at h4
        cases h3
        cases h4
        rw [hl] at q2; cases q2
    · rcases get k _ h2 with ⟨rfl, f, hk⟩ | ⟨nk, f, f'⟩
      · obtain ⟨l2, vs2, q1, q2, _⟩ := s.own j es e
        rw [List.getElem?_set_self hk] at h4
        rw [e', q1] at h3
        cases h3
        cases h4
        rw [hl] at q2; cases q2
      · exact s.inj j k es fs l' e f (e' ▸ h3) (f' ▸ h4)
theorem ps_f_own_0 (i : Nat) {x : Str} {p : Pos} (hN : X.N.Nodup) (he : QFL X e gl) (hi : X.N[i]? = some x := by rfl) (hx : Loc X.env.scope x := by first | exact Or.inl rfl | exact Or.inr rfl)
    (hs : swapsWithSole [.Name x p] e pos.line X.env = pure false := by rfl) (hw : swappedStores [.Name x p] e X.env = pure none := by rfl) (hf : X.fn x = true ∨ X.env.scope.names.lookup x = some .local := by first | exact .inl rfl | exact .inr rfl) :
    QSF X (.Assign [.Name x p] e pos) (fun ρ => (gl ρ).out ρ fun ds => .nx (ρ.set i (some (.own ds)))) := fun G₀ H₀ pins s σ H D I h => by
  refine ps_asg he (pg_name (i := i) hN hi hx hf) hs hw rfl pins s σ H D I ?_
  obtain ⟨G, ρ, sr, h⟩ := h
  try dsimp only at h
  refine ⟨G, ρ, sr.e, ?_⟩
  cases q : gl ρ with
  | ok ds => rw [q] at h; exact fun l vs G' H' u hl r => h _ G' _ ((sr.ups u).setOwn hl r i)
  | ex C => rw [q] at h; exact Exx.of sr h
  | no => rw [q] at h; exact h
theorem StR.mut {K : PySem.W.Frag} {G₀ H₀ G H : Hp} {σ : St} {ρ : Ev} (s : StR K G₀ H₀ G H σ ρ) {i : Nat} {l : Addr} {ds es : List D} {vs : List V} (e : ρ[i]? = some (some (.own ds))) (hs : σ[i]? = some (some (.ref l))) (r : Reps K G vs es) :
    StR K G₀ H₀ G (upd H l (.lst vs)) σ (ρ.set i (some (.own es))) := by
  obtain ⟨l0, vs0, h1, h2, h3, h4, h5⟩ := s.own i ds e
  rw [hs] at h1
  cases h1
  have sub : Same G (upd H l (.lst vs)) := fun a o e => by rw [upd_ne (ne_of_none e h3)]; exact s.e.sub a o e
  have hl : i < ρ.length := (List.getElem?_eq_some_iff.mp e).1
  have get : ∀ (j : Nat) x, (ρ.set i (some (.own es)))[j]? = some (some x) → (j = i ∧ x = .own es) ∨ (j ≠ i ∧ ρ[j]? = some (some x)) := fun j x h => by
    by_cases e : i = j
    · subst e
      rw [List.getElem?_set_self hl] at h
      exact .inl ⟨rfl, by injection (Option.some.inj h) with q; exact q.symm⟩
    · rw [List.getElem?_set_ne e] at h
      exact .inr ⟨fun z => e z.symm, h⟩
  have ob : ObSt K H₀ G (upd H l (.lst vs)) σ (ρ.set i (some (.own es))) := by
    obtain ⟨ow, o1, o2⟩ := s.ob
    have ol := o1 i ds l e hs
    refine ⟨ow, fun j fs l' q1 q2 => ?_, fun j m C p fs q1 => ?_⟩
    · rcases get j _ q1 with ⟨rfl, _⟩ | ⟨nj, f1⟩
      · exact o1 j ds l' e q2
      · exact o1 j fs l' f1 q2
    · rcases get j _ q1 with ⟨_, e'⟩ | ⟨nj, f1⟩
      · cases e'
      · have ne : ∀ a t, ow a = some (j, t) → a ≠ l := fun a t q z => by rw [z, ol] at q; cases q; exact nj rfl
        refine ⟨(o2 j m C p fs f1).1, (o2 j m C p fs f1).2.keep ⟨fun a t o q1 q => ?_, .refl _, fun a t o _ _ n => n, fun a t o q1 _ => q1, fun a o _ _ n => n⟩⟩
        · rw [upd_ne (ne a t q1)]; exact q
  refine ⟨⟨sub, by simp [s.e.len], fun j d' h => ?_, ob.rd⟩, s.sub0, ⟨sub, s.up.gg, fun a o e => ?_, s.up.fr⟩, fun j fs h => ?_, fun j k fs gs l' q1 q2 q3 q4 => ?_, ob⟩
  · rcases get j _ h with ⟨_, e⟩ | ⟨_, e⟩
    · cases e
    · exact s.e.val j d' e
  · rw [upd_ne (ne_of_none e h4)]; exact s.up.hh a o e
  · rcases get j _ h with ⟨rfl, e'⟩ | ⟨nj, e'⟩
    · cases e'
      exact ⟨l, vs, hs, upd_same, h3, h4, r⟩
    · obtain ⟨l', vs', p1, p2, p3, p4, p5⟩ := s.own j fs e'
      have : l' ≠ l := fun z => by subst z; exact nj (s.inj j i fs ds l' e' e p1 hs)
      exact ⟨l', vs', p1, by rw [upd_ne this]; exact p2, p3, p4, p5⟩
  · rcases get j _ q1 with ⟨rfl, _⟩ | ⟨nj, f1⟩
    · rcases get k _ q2 with ⟨rfl, _⟩ | ⟨nk, f2⟩
      · rfl
      · exact s.inj j k ds gs l' e f2 q3 q4
    · rcases get k _ q2 with ⟨rfl, _⟩ | ⟨nk, f2⟩
      · exact s.inj j k fs ds l' f1 e q3 q4
      · exact s.inj j k fs gs l' f1 f2 q3 q4
noncomputable def frz (i : Nat) (ρ : Ev) : Ev := match ρ[i]? with
  | some (some (.own ds)) => ρ.set i (some (.val (.lst false ds)))
  | _ => ρ
theorem StR.frzTo {K : PySem.W.Frag} {G₀ H₀ G H : Hp} {σ : St} {ρ : Ev} (s : StR K G₀ H₀ G H σ ρ) (i : Nat) : ∃ G', StR K G₀ H₀ G' H σ (L2.frz i ρ) ∧ (G' = G ∨ ∃ l vs, G l = none ∧ G' = upd G l (.lst vs)) := by
  unfold L2.frz
  split
  · rename_i ds e
    obtain ⟨l, vs, h1, h2, h3, h4, h5⟩ := s.own i ds e
    have hl : i < ρ.length := (List.getElem?_eq_some_iff.mp e).1
    have g0 : G₀ l = none := s.sub0.free h4
    have into : Same G (upd G l (.lst vs)) := .into h3
    have sub : Same (upd G l (.lst vs)) H := fun a o q => by
      by_cases ea : a = l
      · subst ea; rw [upd_same] at q; rw [← q]; exact h2
      · rw [upd_ne ea] at q; exact s.e.sub a o q
    have get : ∀ (j : Nat) x, (ρ.set i (some (.val (.lst false ds))))[j]? = some (some x) → (j = i ∧ x = .val (.lst false ds)) ∨ (j ≠ i ∧ ρ[j]? = some (some x)) := fun j x h => by
      by_cases e : i = j
      · subst e
        rw [List.getElem?_set_self hl] at h
        exact .inl ⟨rfl, by injection (Option.some.inj h) with q; exact q.symm⟩
      · rw [List.getElem?_set_ne e] at h
        exact .inr ⟨fun z => e z.symm, h⟩
    have ob : ObSt K H₀ (upd G l (.lst vs)) H σ (ρ.set i (some (.val (.lst false ds)))) := by
      obtain ⟨ow, o1, o2⟩ := s.ob
      have ol := o1 i ds l e h1
      refine ⟨ow, fun j fs l' q1 q2 => ?_, fun j m C p fs q1 => ?_⟩
      · rcases get j _ q1 with ⟨_, e'⟩ | ⟨nj, f1⟩
        · cases e'
        · exact o1 j fs l' f1 q2
      · rcases get j _ q1 with ⟨_, e'⟩ | ⟨nj, f1⟩
        · cases e'
        · have ne : ∀ a t, ow a = some (j, t) → a ≠ l := fun a t q z => by rw [z, ol] at q; cases q; exact nj rfl
          refine ⟨(o2 j m C p fs f1).1, (o2 j m C p fs f1).2.keep ⟨fun a t o _ q => q, into, fun a t o q1 _ n => ?_, fun a t o q1 _ => q1, fun a o _ _ n => n⟩⟩
          · rw [upd_ne (ne a t q1)]; exact n
    refine ⟨upd G l (.lst vs), ⟨⟨sub, by simp [s.e.len], fun j d' h => ?_, ob.rd⟩, s.sub0, ⟨sub, s.up.gg.trans into, s.up.hh, fun a o q => ?_⟩, fun j fs h => ?_, fun j k fs gs l' q1 q2 q3 q4 => ?_, ob⟩, .inr ⟨l, vs, h3, rfl⟩⟩
    · rcases get j _ h with ⟨rfl, e'⟩ | ⟨_, e'⟩
      · cases e'
        exact ⟨.ref l, h1, .lst upd_same (h5.mono into)⟩
      · obtain ⟨v, p1, p2⟩ := s.e.val j d' e'
        exact ⟨v, p1, p2.mono into⟩
    · by_cases ea : a = l
      · subst ea; exact .inr h4
      · rw [upd_ne ea] at q; exact s.up.fr a o q
    · rcases get j _ h with ⟨_, e'⟩ | ⟨nj, e'⟩
      · cases e'
      · obtain ⟨l', vs', p1, p2, p3, p4, p5⟩ := s.own j fs e'
        have : l' ≠ l := fun z => by subst z; exact nj (s.inj j i fs ds l' e' e p1 h1)
        exact ⟨l', vs', p1, p2, by rw [upd_ne this]; exact p3, p4, p5.mono into⟩
    · rcases get j _ q1 with ⟨_, e'⟩ | ⟨nj, f1⟩
      · cases e'
      · rcases get k _ q2 with ⟨_, e'⟩ | ⟨nk, f2⟩
        · cases e'
        · exact s.inj j k fs gs l' f1 f2 q3 q4
  · exact ⟨G, s, .inl rfl⟩
theorem StR.frz {K : PySem.W.Frag} {G₀ H₀ G H : Hp} {σ : St} {ρ : Ev} (s : StR K G₀ H₀ G H σ ρ) (i : Nat) : ∃ G', StR K G₀ H₀ G' H σ (L2.frz i ρ) :=
  let ⟨G', h, _⟩ := s.frzTo i; ⟨G', h⟩
theorem pss_f_frz_0 {sts : List Stmt} (i : Nat) (h : QSsF X sts g) : QSsF X sts (fun ρ => g (frz i ρ)) := fun G₀ H₀ pins s σ H D I q => by
  obtain ⟨G, ρ, sr, q⟩ := q
  obtain ⟨G', sr'⟩ := sr.frz i
  exact h G₀ H₀ pins s σ H D I ⟨G', _, sr', q⟩
noncomputable def ownAt (ρ : Ev) (i : Nat) : R (List D) := match ρ[i]? with
  | some (some (.own ds)) => .ok ds
  | _ => .no
theorem ownAt.ok {ρ : Ev} {i : Nat} {k : List D → O} {D : Ends} {G₀ H₀ : Hp} (h : OutR X G₀ H₀ D ((ownAt ρ i).out ρ k)) : ∃ ds, ρ[i]? = some (some (.own ds)) ∧ OutR X G₀ H₀ D (k ds) := by
  unfold ownAt at h
  split at h
  · rename_i ds e; exact ⟨ds, e, h⟩
  · exact h.elim
theorem ps_f_append_0 (i : Nat) {x : Str} {p ap cp : Pos} (he : QF X e ga) (hi : X.N[i]? = some x := by rfl) (hv : Vis X.env.scope x := by first | exact Or.inl rfl | exact Or.inr (Or.inl rfl))
    (hd : (x == ("__debug__" : Str)) = false := by decide) (hcd : (x == ("__classdict__" : Str)) = false := by decide) (hs1 : starEach [e] X.env = (false, eval e X.env) :: starEach [] X.env := by rfl)
    (hbase : attributeBase (.Name x p) "append" X.env (eval (.Name x p) X.env) = eval (.Name x p) X.env := by rfl)
    (hfew : ((backTo cp (starEach [e] X.env)).all (fun x => !x.1) && (backToKw cp (keywordEach [] X.env)).all (fun x => x.1.isSome)
      && decide ([e].length + ([] : List Keyword).length + (if ([] : List Keyword).isEmpty then 0 else 1) < 30)) = true := by rfl)
    (hline : (ap.endLine == cp.line) = true := by rfl)
    (hs : swapsWith (.Call (.Attribute (.Name x p) "append" ap) [e] [] cp) none pos.line X.env = pure false := by rfl) :
    QSF X (.Expr (.Call (.Attribute (.Name x p) "append" ap) [e] [] cp) pos) (fun ρ => (ownAt ρ i).out ρ fun ds => (ga ρ).out ρ fun d => if ds.length < sizeLine then .nx (ρ.set i (some (.own (ds ++ [d])))) else .no) := fun G₀ H₀ pins s σ H D I h => by
  refine ps_expr (pe_bm PySem.F.plainAttrs_list PySem.F.slot_list_append PySem.F.type_list_append mt_append (pe_var hi hv hd hcd) (pa_cons he pa_nil hs1) hbase hfew hline hs1 rfl) hs pins s σ H D I ?_
  obtain ⟨G, ρ, sr, h⟩ := h
  try dsimp only at h
  obtain ⟨ds, e1, h⟩ := ownAt.ok h
  obtain ⟨l, vs, h1, h2, h3, h4, h5⟩ := sr.own i ds e1
  refine ⟨.ref l, h1, .inl ⟨rfl, vs, .of h2⟩, G, ρ, sr.e, ?_⟩
  cases q : ga ρ with
  | ok d =>
    rw [q] at h
    simp only [R.out] at h
    intro v G' H' u r
    by_cases hz : ds.length < sizeLine
    · rw [if_pos hz] at h
      refine ⟨l, vs, v, rfl, rfl, u.hh _ _ h2, by rw [h5.length]; exact hz, h _ G' _ ?_⟩
      exact (sr.ups u).mut e1 h1 ((h5.mono u.gg).append (.cons r .nil))
    · rw [if_neg hz] at h; exact h.elim
  | ex C => rw [q] at h; exact Exx.of sr h
  | no => rw [q] at h; exact h
noncomputable def asL : D → R (List D)
  | .lst false xs => .ok xs
  | _ => .no
theorem ps_f_extend_0 (i : Nat) {x : Str} {p ap cp : Pos} (he : QF X e ga) (hi : X.N[i]? = some x := by rfl) (hv : Vis X.env.scope x := by first | exact Or.inl rfl | exact Or.inr (Or.inl rfl))
    (hd : (x == ("__debug__" : Str)) = false := by decide) (hcd : (x == ("__classdict__" : Str)) = false := by decide) (hs1 : starEach [e] X.env = (false, eval e X.env) :: starEach [] X.env := by rfl)
    (hbase : attributeBase (.Name x p) "extend" X.env (eval (.Name x p) X.env) = eval (.Name x p) X.env := by rfl)
    (hfew : ((backTo cp (starEach [e] X.env)).all (fun x => !x.1) && (backToKw cp (keywordEach [] X.env)).all (fun x => x.1.isSome)
      && decide ([e].length + ([] : List Keyword).length + (if ([] : List Keyword).isEmpty then 0 else 1) < 30)) = true := by rfl)
    (hline : (ap.endLine == cp.line) = true := by rfl)
    (hs : swapsWith (.Call (.Attribute (.Name x p) "extend" ap) [e] [] cp) none pos.line X.env = pure false := by rfl) :
    QSF X (.Expr (.Call (.Attribute (.Name x p) "extend" ap) [e] [] cp) pos) (fun ρ => (ownAt ρ i).out ρ fun ds => (ga ρ).out ρ fun d => (asL d).out ρ fun es => if ds.length + es.length ≤ sizeLine then .nx (ρ.set i (some (.own (ds ++ es)))) else .no) := fun G₀ H₀ pins s σ H D I h => by
  refine ps_expr (pe_bm PySem.F.plainAttrs_list PySem.F.slot_list_extend PySem.F.type_list_extend mt_extend (pe_var hi hv hd hcd) (pa_cons he pa_nil hs1) hbase hfew hline hs1 rfl) hs pins s σ H D I ?_
  obtain ⟨G, ρ, sr, h⟩ := h
  try dsimp only at h
  obtain ⟨ds, e1, h⟩ := ownAt.ok h
  obtain ⟨l, vs, h1, h2, h3, h4, h5⟩ := sr.own i ds e1
  refine ⟨.ref l, h1, .inl ⟨rfl, vs, .of h2⟩, G, ρ, sr.e, ?_⟩
  cases q : ga ρ with
  | ok d =>
    rw [q] at h
    simp only [R.out] at h
    intro v G' H' u r
    cases r with
    | lst hb t =>
      rename_i b ws es
      have h : OutR X G₀ H₀ D (if ds.length + es.length ≤ sizeLine then .nx (ρ.set i (some (.own (ds ++ es)))) else .no) := h
      by_cases hz : ds.length + es.length ≤ sizeLine
      · rw [if_pos hz] at h
        refine ⟨l, b, vs, ws, rfl, rfl, u.hh _ _ h2, u.sub _ _ hb, by rw [h5.length, t.length]; exact hz, h _ G' _ ?_⟩
        exact (sr.ups u).mut e1 h1 ((h5.mono u.gg).append t)
      · rw [if_neg hz] at h; exact h.elim
    | _ => exact h.elim
  | ex C => rw [q] at h; exact Exx.of sr h
  | no => rw [q] at h; exact h
noncomputable def loopD (asg : D → Ev → R Ev) (g : Ev → O) : List D → Ev → O
  | [], ρ => .nx ρ
  | d :: ds, ρ => (asg d ρ).out ρ fun ρ1 => match g ρ1 with
    | .nx ρ2 => loopD asg g ds ρ2
    | .ct ρ2 => loopD asg g ds ρ2
    | .bk ρ2 => .nx ρ2
    | .rt d => .rt d
    | .re d ρ2 => .re d ρ2
    | .ex C ρ2 => .ex C ρ2
    | .no => .no
noncomputable def mix (H₀ G₁ : Hp) : Hp := fun a => match G₁ a with
  | some o => some o
  | none => H₀ a
theorem mix_none {H₀ G₁ : Hp} {a : Addr} (h : mix H₀ G₁ a = none) : G₁ a = none ∧ H₀ a = none := by
  unfold mix at h
  cases q : G₁ a with
  | none => rw [q] at h; exact ⟨rfl, h⟩
  | some o => rw [q] at h; cases h
section
variable {K : PySem.W.Frag} {G₀ H₀ G₁ H₁ G H : Hp} {σ : St} {ρ : Ev}
theorem StR.to (s : StR K G₀ H₀ G₁ H₁ σ ρ) : StR K G₁ (mix H₀ G₁) G₁ H₁ σ ρ := by
  refine ⟨s.e, fun a o e => ?_, ⟨s.e.sub, .refl _, fun a o e => ?_, fun _ _ e => .inl e⟩, fun i ds e => ?_, s.inj, ?_⟩
  · unfold mix; rw [e]
  · unfold mix at e
    cases q : G₁ a with
    | none => rw [q] at e; exact s.up.hh a o e
    | some o' => rw [q] at e; cases e; exact s.e.sub a o q
  · obtain ⟨l, vs, h1, h2, h3, h4, h5⟩ := s.own i ds e
    exact ⟨l, vs, h1, h2, h3, by unfold mix; rw [h3]; exact h4, h5⟩
  · obtain ⟨ow, o1, o2⟩ := s.ob
    exact ⟨ow, o1, fun i m C p fs e => ⟨(o2 i m C p fs e).1, (o2 i m C p fs e).2.keep ⟨fun a t o _ q => q, .refl _, fun a t o _ _ n => n, fun a t o q1 _ => q1, fun a o _ g n => by unfold mix; rw [g]; exact n⟩⟩⟩
theorem Up.back (u : Up G₀ H₀ G₁ H₁) (v : Up G₁ (mix H₀ G₁) G H) : Up G₀ H₀ G H := by
  refine ⟨v.sub, u.gg.trans v.gg, fun a o e => ?_, fun a o e => ?_⟩
  · cases q : G₁ a with
    | none => exact v.hh a o (by unfold mix; rw [q]; exact e)
    | some o' =>
      have h1 := u.sub a o' q
      have h2 := u.hh a o e
      rw [h1] at h2
      cases h2
      exact v.hh a o (by unfold mix; rw [q])
  · rcases v.fr a o e with h | h
    · exact u.fr a o h
    · exact .inr (mix_none h).2
theorem StR.back (s0 : Same G₀ H₀) (u : Up G₀ H₀ G₁ H₁) (s : StR K G₁ (mix H₀ G₁) G H σ ρ) : StR K G₀ H₀ G H σ ρ :=
  ⟨s.e, s0, u.back s.up, fun i ds e => let ⟨l, vs, h1, h2, h3, h4, h5⟩ := s.own i ds e; ⟨l, vs, h1, h2, h3, (mix_none h4).2, h5⟩, s.inj, by
  obtain ⟨ow, o1, o2⟩ := s.ob
  exact ⟨ow, o1, fun i m C p fs e => ⟨(o2 i m C p fs e).1, (o2 i m C p fs e).2.keep ⟨fun a t o _ q => q, .refl _, fun a t o _ _ n => n, fun a t o q1 _ => q1, fun a o _ _ n => (mix_none n).2⟩⟩⟩⟩
end
theorem ps_f_for_0 {iter : Expr} {gi : Ev → R (List D)} {asg : D → Ev → R Ev} (hp : PassesOwn (model X.prog X.w) X.A X.env X.xe) (hcalm : X.calm = true) (hi : QIF X tg iter gi) (hg : PGF X tg asg) (hb : QSsF X body g)
    (hs : ∀ x, foldedSetIterable iter X.env x = pure x := by intro _; rfl) (hn : ∀ d ρ C, asg d ρ ≠ .ex C := by intro _ _ _ z; cases z) : QSF X (.For tg iter body [] pos) (fun ρ => (gi ρ).out ρ fun items => loopD asg g items ρ) := fun G₀ H₀ pins s σ H D I h => by
  obtain ⟨G, ρ, sr, h⟩ := h
  try dsimp only at h
  cases q : gi ρ with
  | ok items =>
    rw [q] at h
    simp only [R.out] at h
    -- the loop by its invariant, whatever the iterator's heap is
    have key : ∀ (J : It) (G1 H1 : Hp), Up G H G1 H1 → ItOk X.K G1 J items → ∃ W : Nat → Nat → St → Hp → Prop, (∃ m, W 0 m σ H1) ∧ ∀ i m σ H, W i m σ H →
        (J.stop i H ∧ D.nx σ H) ∨ (J.go i H ∧ ∃ N : St → Hp → Prop, (∀ σ' H', N σ' H' → ∃ m', m' < m ∧ W (i + 1) m' σ' H') ∧ ∀ x H', J.yld i H x H' → (fun v σ H Q => ∃ G₀ H₀ G ρ d ρ', StR X.K G₀ H₀ G H σ ρ ∧ Rep X.K G v d ∧ asg d ρ = .ok ρ' ∧ ∀ σ', StR X.K G₀ H₀ G H σ' ρ' → Q σ' H) x σ H' fun σ2 H2 => (fun D σ H => ∃ G₀ H₀, tS X G₀ H₀ g D σ H) { D with nx := N, ct := N, bk := D.nx } σ2 H2) := by
      intro J G1 H1 u1 iok
      have sr1 := sr.ups u1
      refine ⟨fun i m σ' H' => m = items.length - i ∧ i ≤ items.length ∧ ∃ G' ρ', StR X.K G1 (mix H₀ G1) G' H' σ' ρ' ∧ OutR X G₀ H₀ D (loopD asg g (items.drop i) ρ'), ⟨items.length, by simp, Nat.zero_le _, G1, ρ, sr1.to, by simpa using h⟩, ?_⟩
      rintro i m σ' H' ⟨rfl, hil, G', ρ', sr', h'⟩
      have hIt := iok i G' H' sr'.up.gg sr'.e.sub
      by_cases hlt : i < items.length
      · have hd : items.drop i = items[i] :: items.drop (i + 1) := List.drop_eq_getElem_cons hlt
        rw [hd] at h'
        obtain ⟨go, yl⟩ := hIt.1 items[i] (by simp [hlt])
        refine .inr ⟨go, fun σ2 H2 => i + 1 ≤ items.length ∧ ∃ G2 ρ2, StR X.K G1 (mix H₀ G1) G2 H2 σ2 ρ2 ∧ OutR X G₀ H₀ D (loopD asg g (items.drop (i + 1)) ρ2), fun σ2 H2 q2 => ⟨items.length - (i + 1), by omega, rfl, q2⟩, fun x H2 y => ?_⟩
        obtain ⟨G2, up2, rep2⟩ := yl x H2 y
        unfold loopD at h'
        cases q2 : asg items[i] ρ' with
        | ok ρ1 =>
          rw [q2] at h'
          simp only [R.out] at h'
          refine ⟨G1, mix H₀ G1, G2, ρ', items[i], ρ1, sr'.ups up2, rep2, q2, fun σ3 sr3 => ⟨G1, mix H₀ G1, G2, ρ1, sr3, ?_⟩⟩
          cases q3 : g ρ1 with
          | nx ρ2 => rw [q3] at h'; exact fun σ4 G4 H4 sr4 => ⟨hlt, G4, ρ2, sr4, h'⟩
          | ct ρ2 => rw [q3] at h'; exact fun σ4 G4 H4 sr4 => ⟨hlt, G4, ρ2, sr4, h'⟩
          | bk ρ2 => rw [q3] at h'; exact fun σ4 G4 H4 sr4 => h' σ4 G4 H4 (sr4.back sr.sub0 sr1.up)
          | rt d => rw [q3] at h'; exact fun v G4 H4 u4 r4 => h' v G4 H4 (sr1.up.back u4) r4
          | re d ρ2 => rw [q3] at h'; exact fun v σ4 G4 H4 sr4 r4 => h' v σ4 G4 H4 (sr4.back sr.sub0 sr1.up) r4
          | ex C ρ2 => rw [q3] at h'; exact fun e s' f4 => h' e s' (f4.map fun σ4 G4 H4 sr4 => sr4.back sr.sub0 sr1.up)
          | no => rw [q3] at h'; exact h'
        | ex C => exact absurd q2 (hn _ _ C)
        | no => rw [q2] at h'; exact h'.elim
      · have hie : i = items.length := by omega
        subst hie
        rw [List.drop_length] at h'
        exact .inl ⟨hIt.2 (Nat.le_refl _), h' σ' G' H' (sr'.back sr.sub0 sr1.up)⟩
    have hb' : PSs X body (fun D σ H => ∃ G₀ H₀, tS X G₀ H₀ g D σ H) := fun pins s σ H D I ⟨G₀, H₀, q⟩ => hb G₀ H₀ pins s σ H D I q
    refine ps_for hp hcalm hi hg hb' hs pins s σ H D I ⟨G, ρ, sr.e, ?_⟩
    rw [q]
    exact fun J G1 H1 u1 iok => key J G1 H1 u1 iok
  | ex C =>
    rw [q] at h
    have hb' : PSs X body (fun D σ H => ∃ G₀ H₀, tS X G₀ H₀ g D σ H) := fun pins s σ H D I ⟨G₀, H₀, q⟩ => hb G₀ H₀ pins s σ H D I q
    refine ps_for hp hcalm hi hg hb' hs pins s σ H D I ⟨G, ρ, sr.e, ?_⟩
    rw [q]
    exact Exx.of sr h
  | no => rw [q] at h; exact h.elim
end
end L2
namespace L2
open PySem PySem.Spec PyProof.Rows
noncomputable def spF (K : PySem.W.Frag) (f : List D → R D) : Sp := fun vs H Q E => ∃ G ds, Same G H ∧ Reps K G vs ds ∧ (f ds).post (Fin G H (Rep K) Q) (fun C => ∀ G' H', Up G H G' H' → E (.ref C) none H')
noncomputable abbrev FnF (P : Program) (w : World) (K : PySem.W.Frag) (mg : Str → Option Value) (base : Heap) (k : Nat) (f : Addr) (fd : FuncData) (ps : List Str) (g : List D → R D) : Prop := FnOk P w K mg base (CXo P w) k f fd ps (fun vs H Q E => vs.length = ps.length ∧ spF K g vs H Q E)
section
variable {X : Cx} {k : Nat} {f : Addr} {fd : FuncData} {ps : List Str} {x : Str} {p pos : Pos} {e : Expr} {es : List Expr} {gl : Ev → R (List D)} {g : List D → R D}
theorem pf_call_0 (F : FnF X.prog X.w X.K X.mg X.base k f fd ps g) (hr : Room k X.A) (hg : Gl X x) (hm : X.mg x = some (.ref f)) (hk : PySem.W.keepIn X.K (.ref f) = true) (hb : Binds X.K fd ps []) (ha : QFA X (e :: es) gl)
    (hdb : (x == ("__debug__" : Str)) = false := by decide) (he : starEach (e :: es) X.env = (false, eval e X.env) :: starEach es X.env := by rfl) (hpl : (backTo pos (starEach es X.env)).any (·.1) = false := by rfl) :
    QF X (.Call (.Name x p) (e :: es) [] pos) (fun ρ => gl ρ >>= fun ds => if ds.length = ps.length then g ds else .no) := by
  intro pins s σ H Q I h
  obtain ⟨G, ρ, st, h⟩ := h
  have t : tAF X gl σ H (fun vs H1 => ∃ G1 ds, Up G H G1 H1 ∧ Same G1 H1 ∧ Reps X.K G1 vs ds ∧ ds.length = ps.length ∧ (g ds).post (Fin G1 H1 (Rep X.K) Q) (Exx X σ G1 H1)) := by
    refine tG.intro st h fun ds vs G1 H1 u1 st1 r1 h1 => ?_
    by_cases hl : ds.length = ps.length
    · rw [if_pos hl] at h1; exact ⟨G1, ds, u1, st1.sub, r1, hl, h1⟩
    · rw [if_neg hl] at h1; exact h1.elim
  refine wpAny_Call_Name_kw (ld_glob I hg hm ?_ hdb)
  refine PySem.W.callWith_K (h₀ := X.base) I.ok.mod.kin hk (thn (ha pos pins s σ H _ I t) fun us s1 q => ⟨?_, ?_⟩) he hpl
  · obtain ⟨vs, H1, I1, r, _⟩ := q; exact I1.kIn
  obtain ⟨vs, H1, I1, r, G1, ds, u1, sub1, rp, hl, h1⟩ := q
  have hvl : vs.length = ps.length := by rw [rp.length]; exact hl
  have hul : (us ++ []).length = ps.length := by rw [List.append_nil, ← r.length]; exact hvl
  have hbb := hb s1 us I1.kIn hul
  rw [List.append_nil] at hbb
  refine wpAny_call (codeAny_mono (F.run X.A X.stack s1 H1 ⟨us, []⟩ us vs Q (fun c _ H' => ∃ C G', c = .ref C ∧ Up G1 H1 G' H' ∧ Exx X σ G1 H1 C) hr I1.env0 hbb r ⟨hvl, G1, ds, sub1, rp, h1.mono (fun _ q => q) fun C q G' H' u => ⟨C, G', rfl, u, q⟩⟩) fun r' s' hq => ?_)
  cases r' with
  | error e' =>
    obtain ⟨a, C, H', rfl, fl, C', G', ec, u, q⟩ := hq
    cases ec
    exact q _ _ ⟨G1, H1, .refl sub1, pins, s1, a, rfl, I1, .inr (.inl ⟨G', H', fl, u⟩)⟩
  | ok fl =>
    cases fl with
    | ret u => exact I1.after hq
    | next => exact False.elim hq
    | brk => exact False.elim hq
    | cont => exact False.elim hq
end

theorem ObjOk.there {P : Program} {w : World} {H : Hp} {h : Heap} {a : Addr} {o : HO} (x : ObjOk P w H h a o) : ∃ ob, h.get? a = some ob := by
  cases o with
  | lst xs => obtain ⟨_, _, _, _, e⟩ := x; exact ⟨_, e⟩
  | tup xs => obtain ⟨_, _, _, o, e, _⟩ := x; exact ⟨_, e⟩
  | dK kvs => obtain ⟨_, _, _, _, o, _, _, e, _⟩ := x; exact ⟨_, e⟩
  | dT kvs => obtain ⟨_, _, _, _, o, _, _, e, _⟩ := x; exact ⟨_, e⟩
  | set S n => obtain ⟨o, _, _, _, e, _⟩ := x; exact ⟨_, e⟩
  | ins C dx fs => obtain ⟨_, _, _, e, _⟩ := x; exact ⟨_, e⟩
  | own y => obtain ⟨_, e⟩ := x; exact ⟨_, e⟩
  | xd fs => obtain ⟨_, ⟨_, _, _, e, _⟩, _⟩ := x; exact ⟨_, e⟩
  | rng lo hi => obtain ⟨_, _, _, e⟩ := x; exact ⟨_, e⟩
  | frz ob u => obtain ⟨e, _⟩ := x; exact ⟨_, e⟩
  | tbl ps => obtain ⟨_, e, _⟩ := x; exact ⟨_, e⟩
  | met f y => exact ⟨_, show h.get? a = some _ from x⟩
  | ext φ => obtain ⟨_, ⟨_, e⟩, _⟩ := x; exact ⟨_, e⟩
theorem frs_cons {env : Env} {outer : List Env} {L : Addr} (h : env.frame = some L) : frs (env :: outer) = L :: frs outer := by
  unfold frs
  rw [List.filterMap_cons, h]
section
variable {P : Program} {w : World} {H H' : Hp} {h h1 h2 hm : Heap} {l l' : List Addr} {B : Heap}
theorem HOk.flight (x : HOk P w H' h1) (hb : B.StaysIn h2) (hk : ∀ b o, b ∉ l → ((∃ o0, hm.get? b = some o0) ∨ ∃ u, H' b = some u) → h1.get? b = some o → B.get? b = some o) (hl : ∀ b ∈ l, H' b = none) : HOk P w H' h2 := fun a o e => by
  refine (x a o e).stay (fun b u hbb q => hb b u (hk b u (fun z => ?_) (.inr ?_) q)) (fun _ z => z) (fun _ _ z => z)
  · rcases hbb with rfl | hbb
    · rw [hl _ z] at e; cases e
    · rw [hl _ z] at hbb; cases hbb
  · rcases hbb with rfl | hbb
    · exact ⟨_, e⟩
    · exact ⟨_, hbb⟩
theorem Un.flight {ex : List Addr} (u : Un l' ex H H' h h1) (hb : B.StaysIn h2) (sm : h1.UpToSlots h2) (hk : ∀ b o, b ∉ l → ((∃ o0, hm.get? b = some o0) ∨ ∃ u, H' b = some u) → h1.get? b = some o → B.get? b = some o) (lt : ∀ b o, h.get? b = some o → ∃ o0, hm.get? b = some o0)
    (hl : ∀ b ∈ l, b ∈ l' ∨ h.objs.size ≤ b) (hd : ∀ b ∈ l, ∀ o, h1.get? b = some o → ∀ vs, o.data ≠ .fields vs) : Un l' ex H H' h h2 := by
  refine ⟨fun b o e nn hb' hx => ?_, fun b o e nn hb' hx => ?_, u.free, fun b o e hx => ?_, u.tups, u.frzs, u.tbls⟩
  · have q := u.keep b o e nn hb' hx
    refine hb b o (hk b o (fun z => ?_) (.inl (lt b o e)) q)
    rcases hl b z with z | z
    · exact hb' z
    · exact absurd (Heap.lt_size e) (Nat.not_lt.mpr z)
  · obtain ⟨sl, q⟩ := u.slot b o e nn hb' hx
    by_cases z : b ∈ l
    · obtain ⟨sl', q'⟩ := sm b _ q (hd b z _ q)
      exact ⟨sl', q'⟩
    · exact ⟨sl, hb b _ (hk b _ z (.inl (lt b o e)) q)⟩
  · obtain ⟨o', q⟩ := u.there b o e hx
    by_cases z : b ∈ l
    · obtain ⟨sl', q'⟩ := sm b _ q (hd b z _ q)
      exact ⟨_, q'⟩
    · exact ⟨o', hb b _ (hk b _ z (.inl (lt b o e)) q)⟩
end
theorem FunFrames.data {h base : Heap} : ∀ {l : List Env}, h.FunFrames base l → ∀ b ∈ frs l, ∃ o, h.get? b = some o ∧ (∀ vs, o.data ≠ .fields vs) ∧ base.get? b = none := fun {l} hf b hb => by
  obtain ⟨h1, o, h2, h3⟩ := hf.mem hb
  exact ⟨o, h2, h3, h1⟩

noncomputable def gCx (P : Program) (w : World) (K : PySem.W.Frag) (mg : Str → Option Value) (base : Heap) (N : List Str) (env : Env) (fn : Str → Bool) (A : Around) (outer : List Env) (s : Shared) (H : Hp) (E : XK) : Cx where
  prog := P
  w := w
  K := K
  mg := mg
  base := base
  A := A.deeper env
  N := N
  s₀ := s
  H₀ := H
  env := env
  outer := outer
  stack := env :: outer
  ex := []
  calm := true
  fn := fn
  pn := []
  xe := fun e s' => wpAny (model P w) (A.deeper env) (leaving env e) (fun _ s'' => CXo P w outer H s E e s'') (fun e' s'' => CXo P w outer H s E e' s'') s'
theorem leave_g {P : Program} {w : World} {K : PySem.W.Frag} {mg : Str → Option Value} {base : Heap} {N : List Str} {env : Env} {fn : Str → Bool} {A : Around} {outer : List Env} {s : Shared} {H : Hp} {E : XK} {G : Hp} {ρ : Ev} {C : Addr} {e : Value} {s' : Shared}
    (hloc : env.locals = s.heap.objs.size) (hf : env.frame = some s.heap.objs.size) (fl : FlyS (gCx P w K mg base N env fn A outer s H E) G H ρ C e s') (hE : ∀ G' H', Up G H G' H' → E (.ref C) none H') : (gCx P w K mg base N env fn A outer s H E).xe e s' := by
  obtain ⟨σ, H₁, pins, s₁, a, rfl, I, way⟩ := fl
  have hfr : (A.deeper (env)).frames = some (env :: outer) := I.ok.frames
  have hst : frs (env :: outer) = s.heap.objs.size :: frs outer := frs_cons hf
  have old : ∀ b o, s.heap.get? b = some o → ∃ o0, s₁.heap.get? b = some o0 := fun b o e => I.base.there b o e (by show b ∉ ([] : List Addr); simp)
  show wpAny (model P w) (A.deeper (env)) (leaving (env) (.ref a)) (fun _ s'' => CXo P w outer H s E (.ref a) s'') (fun e' s'' => CXo P w outer H s E e' s'') s'
  -- the end, from the heap behind
  have fin : ∀ {H' : Hp} {G' : Hp} {s' : Shared} {h'' B : Heap} {a0 : Value}, Inv (gCx P w K mg base N env fn A outer s H E) pins σ H' s' → StR K G H G' H' σ ρ → H' a = none → Heap.FlyingW B outer a (.ref C) a0 h'' → s'.heap.UpToSlots h'' →
      (∀ b o, b ∉ s.heap.objs.size :: frs outer → ((∃ o0, s₁.heap.get? b = some o0) ∨ ∃ u, H' b = some u) → s'.heap.get? b = some o → B.get? b = some o) → CXo P w outer H s E (.ref a) { s' with heap := h'' } := by
    intro H' G' s' h'' B a0 J up ha fl sm hk
    have J0 : H' s.heap.objs.size = none := by have q : H' env.locals = none := J.free; rw [hloc] at q; exact q
    have fr0 : ∀ b ∈ frs outer, H' b = none := fun b hb => J.stkFree b (by show b ∈ frs (env :: outer); rw [hst]; exact List.mem_cons_of_mem _ hb)
    have frA : ∀ b ∈ s.heap.objs.size :: frs outer, H' b = none := fun b hb => by
      rcases List.mem_cons.mp hb with rfl | hb
      · exact J0
      · exact fr0 b hb
    have dat : ∀ b ∈ s.heap.objs.size :: frs outer, ∀ o, s'.heap.get? b = some o → ∀ vs, o.data ≠ .fields vs := fun b hb o e => by
      obtain ⟨o', e', d', _⟩ := FunFrames.data J.stack b (by show b ∈ frs (env :: outer); rw [hst]; exact hb)
      rw [e] at e'; cases e'; exact d'
    have hok : HOk P w H' h'' := J.hok.flight fl.1 hk frA
    have un : Un (frs outer) [] H H' s.heap h'' := Un.flight J.base fl.1 sm hk old (fun b hb => (List.mem_cons.mp hb).elim (fun z => .inr (by rw [z]; exact Nat.le_refl _)) .inl) dat
    refine ⟨a, C, H', rfl, ⟨J.os, J.bare, un, hok, ha, B, a0, fl, fun b o hb ho e => ?_⟩, hE G' H' up.up⟩
    have nb : b ∉ s.heap.objs.size :: frs outer := fun z => by
      rcases List.mem_cons.mp z with z | z
      · rcases ho with ⟨o0, ho⟩ | ⟨u, ho⟩
        · rw [z] at ho; exact Nat.lt_irrefl _ (Heap.lt_size ho)
        · rw [z, J0] at ho; cases ho
      · exact hb z
    have ho' : (∃ o0, s₁.heap.get? b = some o0) ∨ ∃ u, H' b = some u := ho.imp (fun ⟨o0, z⟩ => old b o0 z) id
    have ex : ∃ o', s'.heap.get? b = some o' := by
      rcases ho with ⟨o0, ho⟩ | ⟨u, ho⟩
      · exact J.base.there b o0 ho (by show b ∉ ([] : List Addr); simp)
      · exact (J.hok b u ho).there
    obtain ⟨o', e'⟩ := ex
    have q := hk b o' nb ho' e'
    have q2 := fl.1 b o' q
    have e2 : h''.get? b = some o := e
    rw [q2] at e2
    cases e2
    exact q
  rcases way with ⟨G₁, h', vs, sr, made, rfl⟩ | ⟨G', H', ⟨os, bare, un, hok, ha, B, a0, fl, hk⟩, up⟩ | ⟨G', H', L', hL, ⟨os, bare, ⟨ch, hch, un⟩, hok, ha, _, B, a0, fl, hk⟩, up⟩
  · -- made here
    have J : Inv (gCx P w K mg base N env fn A outer s H E) pins σ H₁ { s₁ with heap := h' } := I.kept (t' := s₁.toks) made.keeps
    have hin : ∀ en ∈ (env :: outer), ∀ b, en.frame = some b → b ∈ s.heap.objs.size :: frs outer := fun en he b hb => by
      rw [← hst]; exact List.mem_filterMap.mpr ⟨en, he, hb⟩
    refine wpAny_leaves_madeW (base := PySem.W.hideAll s₁.heap (s.heap.objs.size :: frs outer)) hfr hf (fun b o q => PySem.W.of_hideAll _ q) (PySem.W.funFrames_hide I.stack hin) made fun h'' t fl' _ _ sm => ?_
    have ha : H₁ a = none := by
      cases q : H₁ a with
      | none => rfl
      | some u =>
        obtain ⟨ob, e⟩ := (I.hok a u q).there
        rw [made.new] at e; cases e
    refine fin J sr ha fl' sm fun b o hb ho e => ?_
    have e1 : s₁.heap.get? b = some o := by
      rcases ho with ⟨o0, ho⟩ | ⟨u, ho⟩
      · have q := made.keeps b o0 ho
        have e' : h'.get? b = some o := e
        rw [q] at e'; cases e'; exact ho
      · obtain ⟨ob, ho⟩ := (I.hok b u ho).there
        have q := made.keeps b ob ho
        have e' : h'.get? b = some o := e
        rw [q] at e'; cases e'; exact ho
    exact PySem.W.hideAll_get _ e1 hb
  · have J := I.call' (s' := s') (ch := []) os un hok bare (fun b z => absurd z (by simp))
    exact wpAny_leaves_onW hfr hf fl fun h'' fl' sm => fin J up ha fl' sm fun b o hb ho e => hk b o (by show b ∉ frs (env :: outer); rw [hst]; exact hb) ho e
  · have J := I.call' (s' := s') (ch := ch) os un hok bare hch
    have eL : s.heap.objs.size = L' := Option.some.inj (hf.symm.trans hL)
    rw [← eL] at fl
    refine wpAny_bind (wpAny_noteFrame_againW hf fl.2.2.2 (wpAny_landsW fl fun h'' fl' sm => ?_))
    obtain ⟨k1, k2, ⟨_, _, k3⟩, k4⟩ := fl'
    exact fin J up ha ⟨k1, k2, k3, k4⟩ sm fun b o hb ho e => hk b o (by show b ∉ frs (env :: outer); rw [hst]; exact hb) ho e

theorem leave_ok {P : Program} {w : World} {K : PySem.W.Frag} {mg : Str → Option Value} {base : Heap} {N : List Str} {qual : Str} {scope : Scope} {f : Addr} {cd : Value} {A : Around} {outer : List Env} {s : Shared} {H : Hp} {E : XK} {G : Hp} {ρ : Ev} {C : Addr} {e : Value} {s' : Shared}
    (fl : FlyS (cxOf (CXo P w) P w K mg base N qual scope f cd A outer s H E) G H ρ C e s') (hE : ∀ G' H', Up G H G' H' → E (.ref C) none H') : (cxOf (CXo P w) P w K mg base N qual scope f cd A outer s H E).xe e s' :=
  leave_g (env := envOfC qual scope s.heap.objs.size f cd) (fn := fun _ => true) rfl rfl fl hE

noncomputable def startE (n : Nat) (ds : List D) : Ev := ds.map (fun d => some (.val d)) ++ List.replicate (n - ds.length) none
noncomputable def bodyR (o : O) : R D := match o with
  | .rt d => .ok d
  | .re d _ => .ok d
  | .nx _ => .ok .non
  | .ex C _ => .ex C
  | _ => .no
theorem start_st {K : PySem.W.Frag} {G H : Hp} {N : List Str} {vs : List V} {ds : List D} (sub : Same G H) (r : Reps K G vs ds) : StR K G H G H (start N vs) (startE N.length ds) := by
  have hl := r.length
  have get : ∀ (i : Nat) x, (startE N.length ds)[i]? = some (some x) → ∃ d, ds[i]? = some d ∧ x = .val d := fun i x e => by
    unfold startE at e
    by_cases hi : i < ds.length
    · rw [List.getElem?_append_left (by simpa using hi), List.getElem?_map] at e
      cases q : ds[i]? with
      | none => rw [q] at e; cases e
      | some d => rw [q] at e; cases e; exact ⟨d, rfl, rfl⟩
    · rw [List.getElem?_append_right (by simpa using hi), List.getElem?_replicate] at e
      split at e <;> cases e
  have no : NoOwn (startE N.length ds) := fun i x e => by obtain ⟨d', _, q⟩ := get i _ e; exact ⟨d', q⟩
  refine ⟨⟨sub, by simp [start, startE, hl], fun i d e => ?_, fun i m C p fs e => absurd e (no.obj i m C p fs)⟩, sub, .refl sub, fun i es e => ?_, fun i j es fs l e => ?_, no.ob⟩
  · obtain ⟨d', e', q⟩ := get i _ e
    cases q
    obtain ⟨v, ev, rv⟩ := r.get e'
    refine ⟨v, ?_, rv⟩
    unfold start
    rw [List.getElem?_append_left (by have := (List.getElem?_eq_some_iff.mp ev).1; simpa using this), List.getElem?_map, ev]
    rfl
  · obtain ⟨d', _, q⟩ := get i _ e; cases q
  · obtain ⟨d', _, q⟩ := get i _ e; cases q
theorem Fun.okF_0 {P : Program} {w : World} {K : PySem.W.Frag} {mg : Str → Option Value} {base : Heap} {x qual : Str} {st : Stmt} {f : Addr} {fd : FuncData} {N ps : List Str} {k : Nat} (F : Fun K x qual st f fd) (S : FnScope N ps (defScope st)) {g : Ev → O}
    (hbody : ∀ (cdv : Value) (A : Around) (outer : List Env) (s : Shared) (H : Hp) (E : XK), Room k (A.deeper (envOfC qual (defScope st) s.heap.objs.size f cdv)) → QSsF (cxOf (CXo P w) P w K mg base N qual (defScope st) f cdv A outer s H E) (defBody st) g) :
    FnF P w K mg base (k + 1) f fd ps (fun ds => bodyR (g (startE N.length ds))) := by
  obtain ⟨oc, od, kV, doc, pm, an, cdv, ct, osl, rfl, lk, hcd⟩ := F.ex
  refine fn_of lk hcd S (fun vs H Q E h => h.1) fun A outer s H vs Q E hr hsp => ?_
  obtain ⟨hl, G, ds, sub, r, h⟩ := hsp
  refine ⟨_, hbody cdv A outer s H E hr G H, G, startE N.length ds, start_st sub r, ?_⟩
  dsimp only at h
  cases q : g (startE N.length ds) with
  | nx ρ => rw [q] at h; exact fun σ G' H' sr => h .non G' H' sr.up .non
  | rt d => rw [q] at h; exact fun v G' H' u rv => h v G' H' u rv
  | re d ρ => rw [q] at h; exact fun v σ G' H' sr rv => h v G' H' sr.up rv
  | bk ρ => rw [q] at h; exact h.elim
  | ct ρ => rw [q] at h; exact h.elim
  | ex C ρ => rw [q] at h; exact fun e s' fl => leave_ok fl h
  | no => rw [q] at h; exact h.elim
end L2
namespace L2
open PySem PySem.Spec PyProof.Rows
theorem noFill_tup_mul : fillsNumberSlot (.type "tuple") "mul" = pure false :=
  PySem.fillsNumberSlot_seq (id := "tuple.__mul__") (r := some (.builtin "tuple.__rmul__")) F.slot_tuple_mul.lookup (by decide +kernel) F.slot_tuple_rmul.lookup (by decide +kernel)
theorem rep_tup : seqRepeat? (.type "tuple") = pure (some (.builtin "tuple.__mul__")) := by
  unfold seqRepeat?
  rw [PySem.seqSlot_of (T := "tuple") (name := "__mul__") (id := "tuple.__mul__") F.slot_tuple_mul.lookup (by decide +kernel), PySem.seqSlot_of (T := "tuple") (name := "__rmul__") (id := "tuple.__rmul__") F.slot_tuple_rmul.lookup (by decide +kernel)]
  rfl
open Builtin in
theorem int_rmul_tup (a : Int) (t : Tok) (l : Addr) (items : Array Value) (n : Nat) (dd : Option Addr) (sl : Array (Option Value)) :
    Meets (Builtin.«int.__rmul__» ⟨[.int a t, .ref l], []⟩) (fun _ Rr s => s.heap.get? l = some { cls := .type "tuple", dict := dd, data := .seq items n, slots := sl } ∧ Rr (.ok (.ret Value.notImplemented)) s) :=
  .of_wp fun prog w A Rr s h => by obtain ⟨hp, g, d, tk, os⟩ := s; obtain ⟨hl, h⟩ := h; wp_walk; exact ⟨_, rfl, h⟩
section
open Builtin AutoSeq1
variable (l : Addr) (items : Array Value) (n : Nat) (dd : Option Addr) (sl : Array (Option Value)) (x : Int) (u : Tok) (h1 : (decide (x < -(2 ^ 63)) || decide (x ≥ 2 ^ 63)) = false)
include h1
theorem tup_mul0 (hc : (items.isEmpty || x == 1) = true) :
    Meets (Builtin.«tuple.__mul__» ⟨[.ref l, .int x u], []⟩) (fun _ Rr s => s.heap.get? l = some { cls := .type "tuple", dict := dd, data := .seq items n, slots := sl } ∧ Rr (.ok (.ret (.ref l))) s) :=
  .of_wp fun prog w A Rr s h => by
    obtain ⟨hp, g, d, tk, os⟩ := s; obtain ⟨hl, h⟩ := h
    have f1 := idx_int
    wp_walk
    refine wpAny_ite_false (by rw [h1]; rfl) ?_
    refine wpAny_bind (tupleItemsOf_ (show IsTup hp l items from ⟨_, hl, rfl, n, rfl⟩) ?_)
    dsimp only
    rw [if_pos hc]
    unfold Tuple.tupleIsExact
    refine wpAny_bind (wpAny_bind (wpAny_typeOf ⟨_, hl, rfl⟩ (wpAny_pure ?_)))
    rw [if_pos (by decide)]
    exact wpAny_bind (wpAny_rule (wpAny_pure ⟨_, rfl, h⟩))
theorem tup_mul1 (hc : ¬ (items.isEmpty || x == 1) = true) (h2 : (decide (x ≤ 0) || items.isEmpty) = true) :
    Meets (Builtin.«tuple.__mul__» ⟨[.ref l, .int x u], []⟩) (fun _ Rr s => s.heap.get? l = some { cls := .type "tuple", dict := dd, data := .seq items n, slots := sl } ∧ Rr (.ok (.ret (.ref s.heap.objs.size))) { s with heap := s.heap.push { cls := .type "tuple", data := .seq #[] } }) :=
  .of_wp fun prog w A Rr s h => by
    obtain ⟨hp, g, d, tk, os⟩ := s; obtain ⟨hl, h⟩ := h
    have f1 := idx_int
    wp_walk
    refine wpAny_ite_false (by rw [h1]; rfl) ?_
    refine wpAny_bind (tupleItemsOf_ (show IsTup hp l items from ⟨_, hl, rfl, n, rfl⟩) ?_)
    dsimp only
    rw [if_neg hc, if_pos h2]
    exact wpAny_bind (m := Builtin.Tuple.tupleExact _) (wpAny_newObj_type (wpAny_pure ⟨_, rfl, h⟩) (Nat.zero_le _))
theorem tup_mul2 (hc : ¬ (items.isEmpty || x == 1) = true) (h2 : ¬ (decide (x ≤ 0) || items.isEmpty) = true) (hz : items.size * x.toNat ≤ sizeLine) :
    Meets (Builtin.«tuple.__mul__» ⟨[.ref l, .int x u], []⟩) (fun _ Rr s => s.heap.get? l = some { cls := .type "tuple", dict := dd, data := .seq items n, slots := sl } ∧
      Rr (.ok (.ret (.ref s.heap.objs.size))) { s with heap := s.heap.push { cls := .type "tuple", data := .seq (List.foldl (fun x1 x2 => x1 ++ x2) #[] (List.replicate x.toNat items)) } }) :=
  .of_wp fun prog w A Rr s h => by
    obtain ⟨hp, g, d, tk, os⟩ := s; obtain ⟨hl, h⟩ := h
    have f1 := idx_int
    have hx : 0 < x := by
      cases q : decide (x ≤ 0) with
      | true => rw [q] at h2; exact absurd rfl h2
      | false => exact Int.not_le.mp (of_decide_eq_false q)
    have ez : (items.size : Int) * x = ((items.size * x.toNat : Nat) : Int) := by
      rw [Int.natCast_mul, Int.toNat_of_nonneg (Int.le_of_lt hx)]
    have hlim : (sizeLine : Nat) ≤ (2 ^ 63 - 1) / 8 := by decide
    have h3 : ¬ ((items.size : Int) * x > (2 ^ 63 - 1) / 8) := by
      rw [ez]
      have : ((sizeLine : Nat) : Int) ≤ (2 ^ 63 - 1) / 8 := by decide
      omega
    have h4 : ¬ (Tuple.tupleTooMany ((items.size : Int) * x) = true) := by
      unfold Tuple.tupleTooMany
      rw [ez]
      intro q
      have := of_decide_eq_true q
      omega
    have hfz : (List.foldl (fun x1 x2 => x1 ++ x2) #[] (List.replicate x.toNat items)).size ≤ sizeLine := by
      have e := foldl_rep items.toList x.toNat []
      simp only [List.nil_append, Array.toArray_toList] at e
      rw [e, List.size_toArray, len_rep, Array.length_toList, Nat.mul_comm]
      exact hz
    wp_walk
    refine wpAny_ite_false (by rw [h1]; rfl) ?_
    refine wpAny_bind (tupleItemsOf_ (show IsTup hp l items from ⟨_, hl, rfl, n, rfl⟩) ?_)
    dsimp only
    rw [if_neg hc, if_neg h2, if_neg h3, if_neg h4]
    exact wpAny_bind (m := Builtin.Tuple.tupleExact _) (wpAny_newObj_type (wpAny_pure ⟨_, rfl, h⟩) hfz)
end
section
variable {X : Cx}
noncomputable def rRepT (K : PySem.W.Frag) : R2 := fun x y H Q => ∃ l k xs, x = .ref l ∧ y = .int k ∧ SqT K H l xs ∧ -(2 ^ 63) ≤ k ∧ k < 2 ^ 63 ∧ xs.length * k.toNat ≤ sizeLine ∧
  (xs = [] ∨ k = 1 → Q (.ref l) H) ∧ (xs ≠ [] → k ≠ 1 → ∀ p, H p = none → Q (.ref p) (upd H p (.tup (List.replicate k.toNat xs).flatten)))
theorem op_repT : OpR X (binaryOp .Mult) (rRepT X.K) := by
  intro pins s σ H x y v u Q I rx ry h
  obtain ⟨l, k, xs, rfl, rfl, hH, h1, h2, hz, q0, q1⟩ := h
  cases rx
  obtain ⟨t, rfl⟩ := ry
  obtain ⟨its, r, p, hzz⟩ := I.tuple hH
  obtain ⟨⟨cls, dd, data, sl⟩, ho, hc, n, hd⟩ := id p
  simp only at hc hd
  subst hc hd
  have hlen : its.length = xs.length := r.length.symm
  have hin : (decide (k < -(2 ^ 63)) || decide (k ≥ 2 ^ 63)) = false := by
    rw [decide_eq_false (by omega), decide_eq_false (by omega)]; rfl
  have emp : its.toArray.isEmpty = decide (xs = []) := by
    cases its with
    | nil => cases r; rfl
    | cons a b => cases r; rfl
  refine wpAny_binaryOp_repeat_ref (T := "tuple") (U := "int") (by decide) ⟨_, ho, rfl⟩ (fun s' => typeIs_int s' k t) noFill_tup_mul F.fills_int_mul F.slot_int_rmul rep_tup F.slot_int_index.lookup
    (call_meets F.slot_int_rmul (typeIs_int s k t) F.entry_int_rmul (F.args_int_rmul_2 _ _) (int_rmul_tup k t l its.toArray n dd sl) ⟨ho, rfl, ⟨_, ho, rfl⟩, ?_⟩)
  by_cases hc : (its.toArray.isEmpty || k == 1) = true
  · refine call_meets F.slot_tuple_mul ⟨_, ho, rfl⟩ F.entry_tuple_mul (F.args_tuple_mul_2 _ _) (tup_mul0 l its.toArray n dd sl k t hin hc) ⟨ho, .ref l, H, I, rfl, q0 ?_⟩
    rw [emp] at hc
    simpa using hc
  · have hne : xs ≠ [] ∧ k ≠ 1 := by
      rw [emp] at hc
      simpa using hc
    have fin : ∀ its', its' = (List.replicate k.toNat its).flatten → EP X pins σ Q (.ref s.heap.objs.size) { s with heap := s.heap.push { cls := .type "tuple", data := .seq its'.toArray } } := fun its' e => by
      subst e
      refine ⟨.ref s.heap.objs.size, _, I.laid (t' := s.toks) (o := .tup (List.replicate k.toNat xs).flatten) (fun b ob q => Heap.get?_push_of_some _ q) (Nat.le_refl _) ?_, rfl, q1 hne.1 hne.2 _ I.fresh⟩
      exact ⟨by rw [len_rep, Nat.mul_comm]; exact hz, _, r.rep k.toNat, IsTup.new _ _⟩
    by_cases h0 : (decide (k ≤ 0) || its.toArray.isEmpty) = true
    · refine call_meets F.slot_tuple_mul ⟨_, ho, rfl⟩ F.entry_tuple_mul (F.args_tuple_mul_2 _ _) (tup_mul1 l its.toArray n dd sl k t hin hc h0) ⟨ho, ?_⟩
      refine fin [] ?_
      have : k ≤ 0 := by
        rw [emp, decide_eq_false hne.1, Bool.or_false] at h0
        exact of_decide_eq_true h0
      rw [Int.toNat_of_nonpos this]
      rfl
    · refine call_meets F.slot_tuple_mul ⟨_, ho, rfl⟩ F.entry_tuple_mul (F.args_tuple_mul_2 _ _) (tup_mul2 l its.toArray n dd sl k t hin hc h0 (by rw [List.size_toArray, hlen]; exact hz)) ⟨ho, ?_⟩
      have e := foldl_rep its k.toNat []
      simp only [List.nil_append] at e
      rw [e]
      exact fin _ rfl
theorem txt_mul (x : Str) (n : Int) : (Txt.mul x n).cps.toList = (List.replicate n.toNat x.cps.toList).flatten := by
  unfold Txt.mul
  by_cases h1 : n < 1
  · rw [if_pos h1, Int.toNat_of_nonpos (by omega)]; rfl
  · rw [if_neg h1]
    by_cases h2 : (n == 1 || x.length == 0) = true
    · rw [if_pos h2]
      rcases Bool.or_eq_true_iff.mp h2 with h | h
      · have : n = 1 := by simpa using h
        subst this
        show _ = (List.replicate 1 x.cps.toList).flatten
        simp
      · have : x.cps.toList = [] := List.eq_nil_of_length_eq_zero (by rw [Str.len_list]; simpa using h)
        rw [this]; simp
    · rw [if_neg h2]
      have : ∀ (m : Nat) (acc : Array Nat), ((List.replicate m x.cps).foldl (· ++ ·) acc).toList = acc.toList ++ (List.replicate m x.cps.toList).flatten := by
        intro m
        induction m with
        | zero => intro acc; simp
        | succ m ih => intro acc; rw [List.replicate_succ, List.foldl_cons, ih, List.replicate_succ, List.flatten_cons]; simp
      simpa using this n.toNat #[]
theorem op_mul_str : OpR X (binaryOp .Mult) (fun x y H Q => ∃ (i : Str) (k : Int), x = .str i ∧ y = .int k ∧ -(2 ^ 63) ≤ k ∧ k < 2 ^ 63 ∧ i.length * k.toNat ≤ sizeLine ∧ Q (.str (Txt.mul i k)) H) := by
  intro pins s σ H x y v u Q I rx ry h
  obtain ⟨i, k, rfl, rfl, h1, h2, hz, q⟩ := h
  obtain ⟨t, rfl⟩ := rx
  obtain ⟨t', rfl⟩ := ry
  refine SB.mul ⟨by rw [decide_eq_false (by omega), decide_eq_false (by omega)]; rfl, fun h3 h4 => ?_, fun h3 h4 => ?_⟩ fun t'' n => ⟨.str _, H, I.tok _, ⟨_, rfl⟩, q⟩
  · have hk : 0 < k := by omega
    intro h5
    have h6 : (2 ^ 63 - 1) / k * k ≤ 2 ^ 63 - 1 := Int.ediv_mul_le _ (by omega)
    have h7 : (((i.length * k.toNat : Nat)) : Int) = (i.length : Int) * k := by rw [Int.natCast_mul, Int.toNat_of_nonneg (by omega)]
    have h8 : ((2 ^ 63 - 1) / k + 1) * k ≤ (i.length : Int) * k := Int.mul_le_mul_of_nonneg_right (by omega) (by omega)
    have h9 : 2 ^ 63 - 1 < ((2 ^ 63 - 1) / k + 1) * k := Int.lt_ediv_add_one_mul_self _ hk
    have h10 : ((sizeLine : Nat) : Int) < 2 ^ 63 - 1 := by decide
    omega
  · unfold Builtin.Str.tooLong
    exact decide_eq_false (by omega)
noncomputable def mulD : D → D → Option D
  | .int i, .int j => if (-(2 ^ 64) < i ∧ i < 2 ^ 64) ∨ (-(2 ^ 64) < j ∧ j < 2 ^ 64) then some (.int (i * j)) else none
  | .str x, .int k => if -(2 ^ 63) ≤ k ∧ k < 2 ^ 63 ∧ x.length * k.toNat ≤ sizeLine then some (.str (List.replicate k.toNat x).flatten) else none
  | .tup xs, .int k => if -(2 ^ 63) ≤ k ∧ k < 2 ^ 63 ∧ xs.length * k.toNat ≤ sizeLine then some (.tup (List.replicate k.toNat xs).flatten) else none
  | .lst false xs, .int k => if -(2 ^ 63) ≤ k ∧ k < 2 ^ 63 ∧ xs.length * k.toNat ≤ sizeLine then some (.lst false (List.replicate k.toNat xs).flatten) else none
  | _, _ => none
noncomputable def rMul' (K : PySem.W.Frag) : R2 := fun x y H Q => rI CMul (fun i j => .int (i * j)) x y H Q ∨ (∃ (i : Str) (k : Int), x = .str i ∧ y = .int k ∧ -(2 ^ 63) ≤ k ∧ k < 2 ^ 63 ∧ i.length * k.toNat ≤ sizeLine ∧ Q (.str (Txt.mul i k)) H) ∨ rRepT K x y H Q ∨ rRep x y H Q
theorem op_mul' : OpR X (binaryOp .Mult) (rMul' X.K) := op_mul.or (op_mul_str.or (op_repT.or op_rep))
theorem ok_mul (K : PySem.W.Frag) : ROk K (rMul' K) mulD := by
  intro G H x y dx dy d Q s rx ry e q
  unfold mulD at e
  split at e
  · split at e
    · rename_i hc
      cases e
      exact .inl ⟨_, _, rx.int_inv, ry.int_inv, hc, q _ G H (.refl s) (.int _)⟩
    · cases e
  · split at e
    · rename_i hc
      cases e
      obtain ⟨i, rfl, ei, hi⟩ := rx.str_inv
      subst ei
      rw [Str.len_list] at hc
      exact .inr (.inl ⟨i, _, rfl, ry.int_inv, hc.1, hc.2.1, hc.2.2, q _ G H (.refl s) (.strL (txt_mul i _) (by rw [len_rep, Str.len_list, Nat.mul_comm]; exact hc.2.2))⟩)
    · cases e
  · split at e
    · rename_i k hc
      cases e
      obtain ⟨a, vs, rfl, ha, ra⟩ := rx.tup_inv
      refine .inr (.inr (.inl ⟨a, _, vs, rfl, ry.int_inv, ha.mono s, hc.1, hc.2.1, by rw [ra.length]; exact hc.2.2, fun z => ?_, fun _ _ p hp => q _ _ _ (.new s hp) (.tup (.of upd_same) ((ra.rep _).mono (.into (s.free hp))))⟩))
      rcases z with z | z
      · subst z
        cases ra
        have e : (List.replicate k.toNat ([] : List D)).flatten = [] := by simp
        rw [e] at q
        exact q _ G H (.refl s) (.tup ha .nil)
      · subst z
        have e : ∀ l : List D, (List.replicate (1 : Int).toNat l).flatten = l := fun l => by show (List.replicate 1 l).flatten = l; simp
        rw [e] at q
        exact q _ G H (.refl s) (.tup ha ra)
    · cases e
  · split at e
    · rename_i hc
      cases e
      obtain ⟨a, vs, rfl, ha, ra⟩ := rx.lst_inv
      exact .inr (.inr (.inr ⟨a, _, vs, rfl, ry.int_inv, s _ _ ha, hc.1, hc.2.1, by rw [ra.length]; exact hc.2.2, fun p hp => q _ _ _ (.new s hp) (.lst upd_same ((ra.rep _).mono (.into (s.free hp))))⟩))
    · cases e
  · cases e
theorem pf_mul_0 {a b : Expr} {ga gb : Ev → R D} {pos : Pos} (ha : QF X a ga) (hb : QF X b gb) : QF X (.BinOp a .Mult b pos) (g2 mulD ga gb) := pf_bin_0 op_mul' (ok_mul _) ha hb
end
end L2
namespace L2
open PySem PySem.W PySem.Spec PySem.Calls PyProof.Rows
structure ExcCls (K : Frag) (C : Addr) : Prop where
  ga : findIn K (.ref C) "__getattribute__" = some (some (.builtin "BaseException.__getattribute__"))
  gt : findIn K (.ref C) "__getattr__" = some none
  cl : findIn K (.ref C) "__class__" = some (some (.builtin "object.__class__"))
  sp : specialIn K (.builtin "object.__class__") "__get__" = some (some (.builtin "getset_descriptor.__get__"))
  tk : takesIn K (.builtin "object.__class__") = some true
  mo : mroIn K C (.type "object") = some true
  be : subIn K (.ref C) (.type "BaseException") = some true
  some : (clsIn K C).isSome = true
section
variable {prog : Program} {w : World} {A : Around} {E : Value → Shared → Prop} {s : Shared} {K : Frag} {a C : Addr}
section
open Builtin Builtin.ObjectAttr Builtin.Getset_descriptor
theorem cls_got {tp : Value} {Rr : Result → Shared → Prop} (X : K.In s.heap) (L0 : Looks (model prog w) s.heap (typeOf (.ref a)) (.ref C)) (hm : mroIn K C (.type "object") = some true) (h : Rr (.ok (.ret (.ref C))) s) :
    codeAny (model prog w) A (.call (.builtin "getset_descriptor.__get__") ⟨[.builtin "object.__class__", .ref a, tp], []⟩) Rr s := by
  obtain ⟨hh, gg, dd, tt, oo⟩ := s
  have L1 := looks_mroIn (M := model prog w) X hm
  refine codeAny_call_builtin KF.slot_gs.plain KF.entry_gs
    (KF.slot_gs.check _ _ _ _ _ _ _ _ KF.type_class (KF.args_gs _ _ _) ?_)
  unfold Builtin.«getset_descriptor.__get__» descrGet
  rw [dga_obj]
  refine wpAny_bind (wpAny_pure ?_)
  unfold descrGetter descrCheckInstance descrNameAndClass isInstance
  simp only [KF.owner_class]
  repeat lk
  refine ⟨Code.quiet_builtin _ (by decide +kernel),
    codeAny_builtin KF.entry_class ?_⟩
  unfold Builtin.«object.__class__» shownTypeOf
  repeat lk
  exact h
end
theorem exc_class {Q : Option Value → Shared → Prop} (X : K.In s.heap) (T : ExcCls K C) (L0 : Looks (model prog w) s.heap (typeOf (.ref a)) (.ref C))
    (h : Q (some (.ref C)) { s with toks := s.toks + 1 }) : wpAny (model prog w) A (getAttr? (.ref a) "__class__") Q E s := by
  obtain ⟨hh, g, d, t, os⟩ := s
  have L1 := looks_findIn (M := model prog w) X T.ga
  have L2 := looks_findIn (M := model prog w) X T.gt
  have L3 : Looks (model prog w) hh (Builtin.ObjectAttr.find (.ref a) (.ref C) "__class__") (.bind (.builtin "getset_descriptor.__get__") (.builtin "object.__class__")) := by
    have M1 := looks_findIn (M := model prog w) X T.cl
    have M2 : Looks (model prog w) hh (Builtin.ObjectAttr.getOf (some (.builtin "object.__class__"))) (some (.builtin "getset_descriptor.__get__")) := looks_specialIn X T.sp
    have M3 := looks_takesIn (M := model prog w) X T.tk
    refine M1.andThen (M2.andThen ?_)
    exact (show Looks (model prog w) hh (Builtin.ObjectAttr.dataDescriptor? (some (.builtin "object.__class__")) (some (.builtin "getset_descriptor.__get__"))) (some (.builtin "getset_descriptor.__get__", .builtin "object.__class__")) from M3.andThen .now).andThen (Looks.tag .now)
  unfold getAttr? getAttrBy? getAttrBy
  refine wpAny_bind (wpAny_mkText (wpAny_bind (wpAny_attempt (wpAny_holding (wpAny_bind (L0.at (wpAny_bind (L1.at ?_))))))))
  have hx2 : (Value.builtin "BaseException.__getattribute__" == Value.builtin "object.__getattribute__") = false := by decide +kernel
  dsimp only
  rw [if_neg (by rw [hx2, Bool.and_false]; exact Bool.false_ne_true)]
  unfold getAttrByItsOwn hookBefore
  rw [if_pos (show onTheHeap (Value.ref C) = true from rfl)]
  refine wpAny_bind (L2.at ?_)
  refine wpAny_bind (wpAny_attempt (wpAny_holding ?_))
  unfold callGetattribute
  rw [if_neg (by rw [Bool.false_and]; exact Bool.false_ne_true)]
  unfold boundAndCalled
  rw [F.attr_ValueError.ga.bind (.ref a)]
  refine wpAny_bind (wpAny_pure ?_)
  show wpAny _ _ (call (.builtin "BaseException.__getattribute__") [.ref a, .str "__class__" t]) _ _ _
  have LB : Looks (model prog w) hh (isInstance (.ref a) (.type "BaseException")) true := L0.andThen (looks_subIn X T.be)
  have hk : builtinKind "BaseException.__getattribute__" = some .slot := by decide +kernel
  have hsp : splitId "BaseException.__getattribute__" = some ("BaseException", "__getattribute__") := by decide +kernel
  have ha := F.args_bexc_ga (.ref a) (.str "__class__" t)
  refine wpAny_call (codeAny_call_builtin F.attr_ValueError.ga.plain F.entry_bexc_ga ?_)
  simp only [checkBuiltinCall, hk, hsp]
  refine wpAny_bind (LB.at ?_)
  rw [if_neg (by decide)]
  refine wpAny_of_eq (a := ()) ha ?_
  unfold Builtin.«object.__getattribute__»
  refine wpAny_bind (wpAny_pure ?_)
  refine wpAny_bind (wpAny_pure ?_)
  refine wpAny_bind (L0.at ?_)
  refine wpAny_bind (L3.at ?_)
  show wpAny _ _ (Builtin.ObjectAttr.bindTo (.builtin "getset_descriptor.__get__") (.builtin "object.__class__") (.ref a) (.ref C)) _ _ _
  unfold Builtin.ObjectAttr.bindTo
  dsimp only
  exact wpAny_bind (wpAny_holding (wpAny_call (cls_got (s := ⟨hh, g, d, t + 1, os⟩) X L0 T.mo (wpAny_pure (handed_on rfl (wpAny_pure h))))))
theorem kitx_exc (T : ExcCls K C) : KitX K (.ref a) (.ref C) (fun h => ∃ ob, h.get? a = some ob ∧ ob.cls = .ref C) where
  ty := fun M h _ p => by
    obtain ⟨o, h1, h2⟩ := p
    exact h2 ▸ (Looks.ld h1).andThen .now
  it := fun M h X _ => by
    have z := T.some
    unfold clsIn at z
    split at z
    · rename_i c' d' cd' sl' ho
      intro A' Q' E' s' k q
      unfold isType loadHead
      exact wpAny_bind (wpAny_loadPart (k _ _ (X _ _ ho)) (wpAny_pure q))
    · cases z
  ne := fun h tp dd its n sl X htp => by
    refine Bool.eq_false_iff.mpr fun q => ?_
    have e : C = tp := Value.ref.inj (beq_iff_eq.mp q)
    subst e
    have z := T.some
    unfold clsIn at z
    split at z
    · rename_i c' d' cd' sl' ho
      cases (X _ _ ho).symm.trans htp
    · cases z
  ca := fun {prog w A E Q s} X p k => by
    obtain ⟨o, h1, h2⟩ := p
    exact exc_class X T (h2 ▸ (Looks.ld h1).andThen .now) k
end
section
variable {X : Cx} {pins : List (Addr × Obj)} {σ : St} {G H : Hp} {s : Shared} {A : Around} {E : Value → Shared → Prop} {Q : Value → Shared → Prop}
noncomputable def tyN : D → Option String
  | .non => some "NoneType"
  | .bl _ => some "bool"
  | .int _ => some "int"
  | .str _ => some "str"
  | .tup _ => some "tuple"
  | .lst _ _ => some "list"
  | .exc _ => none
theorem inst_D {d : D} {x : V} {u c : Value} {T : String} {b : Bool} (I : Inv X pins σ H s) (sub : Same G H) (r : Rep X.K G x d) (ru : RelV x u) (ht : tyN d = some T) (e : kitOne X.K (.type T) c = some b) (h : ∀ tk, Q (.bool b) { s with toks := tk }) :
    wpAny (model X.prog X.w) A (call (.builtin "isinstance") [u, c]) Q E s := by
  cases r with
  | non => cases ht; cases ru; exact kia_one kitx_none I.kIn True.intro e (fun z => nomatch z) h
  | bl y => cases ht; cases ru; exact kia_one kitx_bool I.kIn True.intro e (fun z => nomatch z) h
  | int i => cases ht; obtain ⟨t, rfl⟩ := ru; exact kia_one kitx_int I.kIn True.intro e (fun z => nomatch z) h
  | str y hy => cases ht; obtain ⟨t, rfl⟩ := ru; exact kia_one kitx_str I.kIn True.intro e (fun z => nomatch z) h
  | tup hh t =>
    cases ht; cases ru
    obtain ⟨its, rv, ⟨o, h1, h2, _⟩, _⟩ := I.tuple (hh.mono sub)
    exact kia_one kitx_tuple I.kIn ⟨o, h1, h2⟩ e (fun z => nomatch z) h
  | lst hh t =>
    cases ht; cases ru
    obtain ⟨its, rv, ⟨o, n, h1, h2, _⟩, _⟩ := I.list ((SqL.of hh : SqL X.K G _ _).mono sub)
    exact kia_one kitx_list I.kIn ⟨o, h1, h2⟩ e (fun z => nomatch z) h
  | fls hh t =>
    cases ht; cases ru
    obtain ⟨its, rv, ⟨o, n, h1, h2, _⟩, _⟩ := I.list (hh.mono sub)
    exact kia_one kitx_list I.kIn ⟨o, h1, h2⟩ e (fun z => nomatch z) h
  | exc hh => cases ht
theorem inst_exc {C : Addr} {x : V} {u c : Value} {b : Bool} (I : Inv X pins σ H s) (sub : Same G H) (r : Rep X.K G x (.exc C)) (ru : RelV x u) (T : ExcCls X.K C) (e : kitOne X.K (.ref C) c = some b) (h : ∀ tk, Q (.bool b) { s with toks := tk }) :
    wpAny (model X.prog X.w) A (call (.builtin "isinstance") [u, c]) Q E s := by
  obtain ⟨a, rfl, hh⟩ := r.exc_inv
  cases ru
  obtain ⟨h1, _, _⟩ := (show ObjOk X.prog X.w H s.heap a (.ext (ExcObj a C)) from I.hok a _ (sub _ _ hh))
  exact kia_one (kitx_exc T) I.kIn h1 e (fun z => nomatch z) h
end
section
variable {X : Cx} {e : Expr} {ga : Ev → R D} {y : Str} {p p2 pos : Pos}
noncomputable def isTy (f : String → Bool) (d : D) : R D := match tyN d with
  | some t => .ok (.bl (f t))
  | none => .no
theorem pf_isTy_0 {T : String} (f : String → Bool) (hf : ∀ K : Frag, ∀ t ∈ ["NoneType", "bool", "int", "str", "tuple", "list"], kitOne K (.type t) (.type T) = some (f t)) (hg : Gl X "isinstance") (hm : X.mg "isinstance" = none) (hg2 : Gl X y) (hm2 : X.mg y = none)
    (hv : bootBuiltins y = some (.type T)) (ha : QF X e ga) (hs1 : starEach [e, .Name y p2] X.env = (false, eval e X.env) :: starEach [.Name y p2] X.env := by rfl)
    (hn : y ≠ "__name__" := by decide) (hdb : (y == ("__debug__" : Str)) = false := by decide) :
    QF X (.Call (.Name "isinstance" p) [e, .Name y p2] [] pos) (fun ρ => ga ρ >>= isTy f) := by
  intro pins s σ H Q I h
  have hc : CallR X (.builtin "isinstance") (fun xs H Q => ∃ x G d, xs = [x, .ty T] ∧ Same G H ∧ Rep X.K G x d ∧ ∃ t, tyN d = some t ∧ Q (.bl (f t)) H) := by
    intro pins s σ H xs us Q I r ⟨x, G, d, ex, sub, rd, t, et, q⟩
    subst ex
    obtain ⟨u, u2, rfl, r1, r2⟩ := r.two
    cases r2
    refine inst_D I sub rd r1 et (hf X.K t ?_) fun tk => ⟨.bl (f t), H, I.tok tk, rfl, q⟩
    cases d <;> cases et <;> simp
  refine pe_callB hc hg hm PyProof.Rows.Boot.«isinstance» (pa_cons ha (pa_cons (pe_bltn (v := .ty T) hg2 hm2 hv rfl hn hdb) pa_nil) hs1) (by decide) (by decide) hs1 rfl pins s σ H Q I ?_
  obtain ⟨G, ρ, st, h⟩ := h
  refine tG.intro st h fun x v G1 H1 u1 st1 r1 h1 => ?_
  refine ⟨v, G1, x, rfl, st1.sub, r1, ?_⟩
  unfold isTy at h1
  cases et : tyN x with
  | none => rw [et] at h1; exact h1.elim
  | some t => rw [et] at h1; exact ⟨t, rfl, h1 _ G1 H1 (.refl st1.sub) (.bl _)⟩
noncomputable def isEx (f : Addr → Option Bool) (d : D) : R D := match d with
  | .exc C => ofO ((f C).map .bl)
  | _ => .no
theorem pf_isEx_0 {v2 : V} {u2 : Value} (f : Addr → Option Bool) (hf : ∀ C b, f C = some b → ExcCls X.K C ∧ kitOne X.K (.ref C) u2 = some b) (hg : Gl X "isinstance") (hm : X.mg "isinstance" = none) (hy : PE X (.Name y p2) (tC v2)) (hr : RelV v2 u2) (hr2 : ∀ u, RelV v2 u → u = u2)
    (ha : QF X e ga) (hs1 : starEach [e, .Name y p2] X.env = (false, eval e X.env) :: starEach [.Name y p2] X.env := by rfl) :
    QF X (.Call (.Name "isinstance" p) [e, .Name y p2] [] pos) (fun ρ => ga ρ >>= isEx f) := by
  intro pins s σ H Q I h
  have hc : CallR X (.builtin "isinstance") (fun xs H Q => ∃ x G C b, xs = [x, v2] ∧ Same G H ∧ Rep X.K G x (.exc C) ∧ f C = some b ∧ Q (.bl b) H) := by
    intro pins s σ H xs us Q I r ⟨x, G, C, b, ex, sub, rd, ef, q⟩
    subst ex
    obtain ⟨u, w, rfl, r1, r2⟩ := r.two
    obtain rfl := hr2 w r2
    exact inst_exc I sub rd r1 (hf C b ef).1 (hf C b ef).2 fun tk => ⟨.bl b, H, I.tok tk, rfl, q⟩
  refine pe_callB hc hg hm PyProof.Rows.Boot.«isinstance» (pa_cons ha (pa_cons hy pa_nil) hs1) (by decide) (by decide) hs1 rfl pins s σ H Q I ?_
  obtain ⟨G, ρ, st, h⟩ := h
  refine tG.intro st h fun x v G1 H1 u1 st1 r1 h1 => ?_
  cases x with
  | exc C =>
    cases ef : f C with
    | none => simp only [isEx, ef] at h1; exact h1.elim
    | some b =>
      simp only [isEx, ef] at h1
      exact ⟨v, G1, C, b, rfl, st1.sub, r1, ef, h1 _ G1 H1 (.refl st1.sub) (.bl b)⟩
  | _ => exact h1.elim
end
end L2
namespace L2
open PySem PySem.Spec PyProof.Rows
noncomputable def blsD : List D → Option (List Bool)
  | [] => some []
  | .bl b :: ds => (blsD ds).map (b :: ·)
  | _ => none
theorem Reps.bls {K : PySem.W.Frag} {G : Hp} : ∀ {vs : List V} {ds : List D} {bs : List Bool}, Reps K G vs ds → blsD ds = some bs → vs = bs.map .bl
  | _, _, bs, .nil, e => by cases e; rfl
  | _, _, bs, .cons r t, e => by
    cases r with
    | bl b =>
      rename_i ds
      unfold blsD at e
      cases q : blsD ds with
      | none => rw [q] at e; cases e
      | some cs => rw [q] at e; cases e; rw [Reps.bls t q]; rfl
    | _ => simp [blsD] at e
theorem Vals.bls : ∀ {bs : List Bool} {us : List Value}, Vals (bs.map V.bl) us → us = bs.map Value.bool
  | [], _, .nil => rfl
  | b :: bs, _, .cons r t => by rw [Vals.bls t, show _ = Value.bool b from r]; rfl
section
variable {X : Cx} {e o : Expr} {es : List Expr} {ga gb : Ev → R D} {gl : Ev → R (List D)} {pos : Pos}
noncomputable def rAll (K : PySem.W.Frag) (f : List Bool → Bool) : List V → Hp → VK → Prop := fun xs H Q => ∃ p bs, xs = [.ref p] ∧ SqL K H p (bs.map V.bl) ∧ Q (.bl (f bs)) H
theorem truth_bls (A : Around) (prog : Program) (w : World) (bs : List Bool) : TruthOf prog w A (fun i v => (bs.map Value.bool).toArray[i]? = some v) (fun i => bs.getD i true) := by
  intro i v s Q E hP hQ
  rw [List.getElem?_toArray, List.getElem?_map] at hP
  cases q : bs[i]? with
  | none => rw [q] at hP; cases hP
  | some b =>
    rw [q] at hP
    cases hP
    have e : bs.getD i true = b := by rw [List.getD_eq_getElem?_getD, q]; rfl
    have hQ : Q (bs.getD i true) s := hQ
    rw [e] at hQ
    exact wpAny_truthy_bool hQ
theorem call_all' (hc : X.calm = true) : CallR X (.builtin "all") (rAll X.K fun bs => bs.all id) := by
  intro pins s σ H xs us Q I r ⟨p, bs, ex, hs, q⟩
  subst ex
  obtain ⟨u, rfl, r1⟩ := r.one
  cases r1
  obtain ⟨its, rv, pl, hz⟩ := I.list hs
  obtain rfl := rv.bls
  have hh : X.A.in1.handled = none := I.ok.hd hc
  have hlt : p < s.heap.objs.size := by obtain ⟨o, n, e, _⟩ := id pl; exact Heap.lt_size e
  refine call_all_walk (wpAny_pyIter_list pl.isList ?_)
  refine ⟨s.heap.objs.size, [s.heap.objs.size, p], [s.heap.objs.size], _, _, _, fun i => bs.getD i true, rfl, Walks.list hh s.heap.objs.size p (Nat.ne_of_lt hlt) (bs.map Value.bool).toArray, ⟨⟨_, Heap.get?_push_size _ rfl, rfl, rfl⟩, ?_⟩, truth_bls _ _ _ bs, fun h' tk hk => ?_⟩
  · obtain ⟨o, n, e, c, _, d⟩ := id pl
    exact ⟨o, Heap.get?_push_of_some _ e, c, n, d⟩
  · have e : (List.range (bs.map Value.bool).toArray.size).all (fun i => bs.getD i true) = bs.all id := by
      rw [List.size_toArray, List.length_map]; exact range_all rfl
    rw [e]
    refine ⟨.bl _, H, I.kept (t' := tk) fun b o eb => hk b o (fun z => ?_) (Heap.get?_push_of_some _ eb), rfl, q⟩
    have : b = s.heap.objs.size := by simpa using z
    exact Nat.lt_irrefl _ (this ▸ Heap.lt_size eb)
noncomputable def allF : List D → Option D
  | [.lst _ ds] => (blsD ds).map fun bs => .bl (bs.all id)
  | _ => none
theorem pf_all_0 {p : Pos} (hc : X.calm = true) (hg : Gl X "all") (hm : X.mg "all" = none) (ha : QFA X [e] gl) (he : starEach [e] X.env = [(false, eval e X.env)] := by rfl) : QF X (.Call (.Name "all" p) [e] [] pos) (fun ρ => gl ρ >>= fun ds => ofO (allF ds)) :=
  pf_callB_0 (call_all' hc) (by
    intro G H xs ds d Q s r e q
    unfold allF at e
    split at e
    · rename_i f ds
      obtain ⟨v, rfl, r1⟩ := r.one
      obtain ⟨a, vs, rfl, h, t⟩ := r1.seq_inv
      cases eb : blsD ds with
      | none => rw [eb] at e; cases e
      | some bs =>
        rw [eb] at e
        cases e
        obtain rfl := t.bls eb
        exact ⟨a, bs, rfl, h.mono s, q _ G H (.refl s) (.bl _)⟩
    · cases e) hg hm PyProof.Rows.Boot.«all» ha (he := by rw [he]; rfl)
noncomputable def MROk (K : PySem.W.Frag) (T : String) (r : V → List V → Hp → VK → Prop) (f : D → List D → Option D) : Prop := ∀ (G H : Hp) (x : V) (xs : List V) (dx : D) (ds : List D) (d : D) (Q : VK), Same G H → Rep K G x dx → Reps K G xs ds → f dx ds = some d → Fin G H (Rep K) Q d → r x xs H Q
noncomputable def kindD (T : String) : D → Bool
  | .str _ => T == "str"
  | .lst _ _ => T == "list"
  | _ => false
theorem pf_meth_0 {T id : String} {name : Str} {ap cp : Pos} {r : V → List V → Hp → VK → Prop} {f : D → List D → Option D} (pa : PlainAttrs T) (slot : PySem.Slot T name id) (hty : typeOf (.builtin id) = pure (.type "method_descriptor")) (hm : MtR X id r) (hf : MROk X.K T r f) (ho : QF X o ga) (ha : QFA X (e :: es) gl)
    (hbase : attributeBase o name X.env (eval o X.env) = eval o X.env := by rfl)
    (hfew : ((backTo cp (starEach (e :: es) X.env)).all (fun x => !x.1) && (backToKw cp (keywordEach [] X.env)).all (fun x => x.1.isSome)
      && decide ((e :: es).length + ([] : List Keyword).length + (if ([] : List Keyword).isEmpty then 0 else 1) < 30)) = true := by rfl)
    (hline : (ap.endLine == cp.line) = true := by rfl) (hs : starEach (e :: es) X.env = (false, eval e X.env) :: starEach es X.env := by rfl) (hplain : (backTo cp (starEach es X.env)).any (·.1) = false := by rfl) :
    QF X (.Call (.Attribute o name ap) (e :: es) [] cp) (fun ρ => ga ρ >>= fun x => if kindD T x = true then gl ρ >>= fun ds => ofO (f x ds) else .no) := by
  intro pins s σ H Q I h
  refine pe_bm pa slot hty hm ho ha hbase hfew hline hs hplain pins s σ H Q I ?_
  obtain ⟨G, ρ, st, h⟩ := h
  refine tG.intro st h fun x v G1 H1 u1 st1 r1 h1 => ?_
  by_cases hk : kindD T x = true
  · rw [if_pos hk] at h1
    have ty : tyV X.K T v H1 := by
      cases r1 with
      | str y hy => exact show T = "str" by simpa [kindD] using hk
      | lst hh t => exact .inl ⟨by simpa [kindD] using hk, _, .of (st1.sub _ _ hh)⟩
      | fls hh t => exact .inl ⟨by simpa [kindD] using hk, _, hh.mono st1.sub⟩
      | _ => cases hk
    refine ⟨ty, tG.intro st1 h1 fun ds vs G2 H2 u2 st2 r2 h2 => ?_⟩
    obtain ⟨d, e', q⟩ := ofO.ok h2
    exact hf G2 H2 v vs x ds d Q st2.sub (r1.mono u2.gg) r2 e' q
  · rw [if_neg hk] at h1; exact h1.elim
theorem Str.of_list {y : Str} {x : List Nat} (e : y.cps.toList = x) : (⟨x.toArray⟩ : Str) = y := by
  subst e; simp
theorem eq_bls {A : Around} {s : Shared} {bs : List Bool} (k : Bool) : ∀ y, y ∈ (bs.map Value.bool).toArray → SeqAt.EqAt A s y (.bool k) (y == .bool k) := fun y hy => by
  obtain ⟨b, _, rfl⟩ := List.mem_map.mp (List.mem_toArray.mp hy)
  have := SeqAt.EqAt.bool_bool (A := A) (s := s) b k
  have e : (Value.bool b == Value.bool k) = (b == k) := by cases b <;> cases k <;> rfl
  rw [e]; exact this
noncomputable def rCount (K : PySem.W.Frag) : V → List V → Hp → VK → Prop := fun x vs H Q => ∃ (l : Addr) (bs : List Bool) (k : Bool), x = .ref l ∧ vs = [.bl k] ∧ SqL K H l (bs.map V.bl) ∧ Q (.int (bs.count k : Nat)) H
theorem count_bls (bs : List Bool) (k : Bool) : (bs.map Value.bool).countP (· == .bool k) = bs.count k := by
  rw [List.countP_map]
  unfold List.count
  congr 1
  funext b
  cases b <;> cases k <;> rfl
theorem mt_count : MtR X "list.count" (rCount X.K) := by
  intro pins s σ H x xs v us Q I rx rv ⟨l, bs, k, ex, exs, hs, q⟩
  subst ex exs
  cases rx
  obtain ⟨u, rfl, r1⟩ := rv.one
  cases r1
  obtain ⟨its, rv', ⟨⟨cls, dd, data, sl⟩, n, eo, c, _, d⟩, hz⟩ := I.list hs
  obtain rfl := rv'.bls
  simp only at c d
  subst c d
  refine call_meets F.slot_list_count ⟨_, eo, rfl⟩ F.entry_list_count (F.args_list_count_2 _ _) (SeqAt.list_countAt l (bs.map Value.bool).toArray n dd sl (.bool k) (· == .bool k)) ⟨eo, eq_bls k, ?_⟩
  rw [List.toList_toArray, count_bls]
  exact ⟨.int _, H, I.tok _, ⟨_, rfl⟩, q⟩
noncomputable def countF : D → List D → Option D
  | .lst _ ds, [.bl k] => (blsD ds).map fun bs => .int (bs.count k : Nat)
  | _, _ => none
theorem ok_count (K : PySem.W.Frag) : MROk K "list" (rCount K) countF := by
  intro G H x xs dx ds d Q s rx rs e q
  unfold countF at e
  split at e
  · rename_i f ds k
    obtain ⟨v, rfl, r1⟩ := rs.one
    obtain rfl := r1.bl_inv
    obtain ⟨a, vs, rfl, h, t⟩ := rx.seq_inv
    cases eb : blsD ds with
    | none => rw [eb] at e; cases e
    | some bs =>
      rw [eb] at e
      cases e
      obtain rfl := t.bls eb
      exact ⟨a, bs, k, rfl, rfl, h.mono s, q _ G H (.refl s) (.int _)⟩
  · cases e
noncomputable def rIndex (K : PySem.W.Frag) : V → List V → Hp → VK → Prop := fun x vs H Q => ∃ (l : Addr) (bs : List Bool) (k : Bool), x = .ref l ∧ vs = [.bl k] ∧ SqL K H l (bs.map V.bl) ∧ k ∈ bs ∧ Q (.int (bs.idxOf k : Nat)) H
theorem idx_before (k : Bool) : ∀ (bs : List Bool) (m : Nat), m < bs.idxOf k → bs[m]? ≠ some k
  | [], m, h => by simp
  | b :: bs, m, h => by
    rw [List.idxOf_cons] at h
    cases hb : (b == k) with
    | true => rw [hb] at h; exact absurd h (Nat.not_lt_zero _)
    | false =>
      rw [hb] at h
      cases m with
      | zero => intro e; have e1 := Option.some.inj e; rw [e1, beq_self_eq_true] at hb; cases hb
      | succ m => rw [List.getElem?_cons_succ]; exact idx_before k bs m (Nat.lt_of_succ_lt_succ h)
theorem mt_index : MtR X "list.index" (rIndex X.K) := by
  intro pins s σ H x xs v us Q I rx rv ⟨l, bs, k, ex, exs, hs, hk, q⟩
  subst ex exs
  cases rx
  obtain ⟨u, rfl, r1⟩ := rv.one
  cases r1
  obtain ⟨its, rv', ⟨⟨cls, dd, data, sl⟩, n, eo, c, _, d⟩, hz⟩ := I.list hs
  obtain rfl := rv'.bls
  simp only at c d
  subst c d
  have hlt : bs.idxOf k < bs.length := List.idxOf_lt_length_iff.mpr hk
  have hsz : bs.length ≤ sizeLine := by simpa using hz
  have h63 := line63
  have tob : ∀ a b : Bool, (Value.bool a == Value.bool b) = (a == b) := fun a b => by cases a <;> cases b <;> rfl
  refine call_meets F.slot_list_index ⟨_, eo, rfl⟩ F.entry_list_index (F.args_list_index_2 _ _) (SeqAt.list_indexAt l (bs.map Value.bool).toArray n dd sl (.bool k) (· == .bool k) (bs.idxOf k) (by simpa using hlt) (by omega) ?_ ?_) ⟨eo, eq_bls k, ?_⟩
  · simp only [List.getElem_toArray, List.getElem_map, tob]
    exact beq_iff_eq.mpr (List.getElem_idxOf hlt)
  · intro m hm hlt'
    simp only [List.getElem_toArray, List.getElem_map, tob]
    have hm' : m < bs.length := by simpa using hm
    cases hq : (bs[m] == k) with
    | false => rfl
    | true => exact absurd (by rw [List.getElem?_eq_getElem hm', beq_iff_eq.mp hq]) (idx_before k bs m hlt')
  · exact ⟨.int _, H, I.tok _, ⟨_, rfl⟩, q⟩
noncomputable def indexF : D → List D → Option D
  | .lst _ ds, [.bl k] => (blsD ds).bind fun bs => if k ∈ bs then some (.int (bs.idxOf k : Nat)) else none
  | _, _ => none
theorem ok_index (K : PySem.W.Frag) : MROk K "list" (rIndex K) indexF := by
  intro G H x xs dx ds d Q s rx rs e q
  unfold indexF at e
  split at e
  · rename_i f ds k
    obtain ⟨v, rfl, r1⟩ := rs.one
    obtain rfl := r1.bl_inv
    obtain ⟨a, vs, rfl, h, t⟩ := rx.seq_inv
    cases eb : blsD ds with
    | none => rw [eb] at e; cases e
    | some bs =>
      rw [eb, Option.bind_some] at e
      split at e
      · rename_i hk
        cases e
        obtain rfl := t.bls eb
        exact ⟨a, bs, k, rfl, rfl, h.mono s, hk, q _ G H (.refl s) (.int _)⟩
      · cases e
  · cases e
theorem pf_count_0 {ap cp : Pos} (ho : QF X o ga) (ha : QFA X [e] gl) (hbase : attributeBase o "count" X.env (eval o X.env) = eval o X.env := by rfl)
    (hfew : ((backTo cp (starEach [e] X.env)).all (fun x => !x.1) && (backToKw cp (keywordEach [] X.env)).all (fun x => x.1.isSome)
      && decide ([e].length + ([] : List Keyword).length + (if ([] : List Keyword).isEmpty then 0 else 1) < 30)) = true := by rfl)
    (hline : (ap.endLine == cp.line) = true := by rfl) (hs : starEach [e] X.env = (false, eval e X.env) :: starEach [] X.env := by rfl) :
    QF X (.Call (.Attribute o "count" ap) [e] [] cp) (fun ρ => ga ρ >>= fun x => if kindD "list" x = true then gl ρ >>= fun ds => ofO (countF x ds) else .no) :=
  pf_meth_0 PySem.F.plainAttrs_list PySem.F.slot_list_count PySem.F.type_list_count mt_count (ok_count _) ho ha hbase hfew hline hs rfl
theorem pf_index_0 {ap cp : Pos} (ho : QF X o ga) (ha : QFA X [e] gl) (hbase : attributeBase o "index" X.env (eval o X.env) = eval o X.env := by rfl)
    (hfew : ((backTo cp (starEach [e] X.env)).all (fun x => !x.1) && (backToKw cp (keywordEach [] X.env)).all (fun x => x.1.isSome)
      && decide ([e].length + ([] : List Keyword).length + (if ([] : List Keyword).isEmpty then 0 else 1) < 30)) = true := by rfl)
    (hline : (ap.endLine == cp.line) = true := by rfl) (hs : starEach [e] X.env = (false, eval e X.env) :: starEach [] X.env := by rfl) :
    QF X (.Call (.Attribute o "index" ap) [e] [] cp) (fun ρ => ga ρ >>= fun x => if kindD "list" x = true then gl ρ >>= fun ds => ofO (indexF x ds) else .no) :=
  pf_meth_0 PySem.F.plainAttrs_list PySem.F.slot_list_index PySem.F.type_list_index mt_index (ok_index _) ho ha hbase hfew hline hs rfl
end
end L2
namespace L2
open PySem PySem.Spec PyProof.Rows
noncomputable def setVs : List Nat → List D → Ev → R Ev
  | [], [], ρ => .ok ρ
  | i :: is, d :: ds, ρ => setVs is ds (ρ.set i (some (.val d)))
  | _, _, _ => .no
section
variable {X : Cx} {e : Expr} {es : List Expr} {ga : Ev → R D} {gl : Ev → R (List D)} {pos : Pos}
theorem ps_f_raise_0 {x : Str} {np cp : Pos} {C : Addr} {bm : List Value} {B newId initId : String} (Oc : OwnCls x C bm newId X.mg X.base) (FB : ExcBaseFacts B newId initId bm) (hh : X.A.handled = none) (hg : Gl X x) (ha : QFA X [e] gl)
    (hdb : (x == ("__debug__" : Str)) = false := by decide) (hs : starEach [e] X.env = (false, eval e X.env) :: starEach [] X.env := by rfl) (hz : ∀ ρ ds, gl ρ = .ok ds → ds.length ≤ 1 := by intro _ _ z; first | (cases z; decide) | skip) :
    QSF X (.Raise (some (.Call (.Name x np) [e] [] cp)) none pos) (fun ρ => (gl ρ).out ρ fun _ => .ex C ρ) := fun G₀ H₀ pins s σ H D I h => by
  obtain ⟨G, ρ, sr, h⟩ := h
  dsimp only at h
  obtain ⟨tl, N, nm, qn, bs, hdct, sn, sub, ab, col, dd, k0, k1, k2, k3, k5, mN, hC, hN, hni, T⟩ := Oc.obj
  refine wpAny_Raise_call_subT (C := C) (nm := nm) (q := qn) (N := N) (bs := bs) (bm := tl) (hdct := hdct) (sn := sn) (sub := sub) (ab := ab) (col := col) (dd := dd) (k0 := k0) (k1 := k1) (k2 := k2) (k3 := k3) (k5 := k5)
    FB (mN := mN) (T.hasType FB.hasBase) hh (by rw [hs]; rfl) hni (ld_glob I hg Oc.bound ⟨rfl, ?_⟩ hdb)
  have t : tAF X gl σ H (fun vs H1 => vs.length ≤ sizeLine ∧ ∃ G1, Up G H G1 H1 ∧ OutR X G₀ H₀ D (.ex C ρ)) := by
    refine ⟨G, ρ, sr.e, ?_⟩
    cases q : gl ρ with
    | ok ds =>
      rw [q] at h
      intro vs G1 H1 u r
      exact ⟨by rw [r.length]; exact Nat.le_trans (hz ρ ds q) (by decide), G1, u, h⟩
    | ex C' => rw [q] at h; exact Exx.of sr h
    | no => rw [q] at h; exact h
  have hA := ha cp pins s σ H _ I t
  rw [hs] at hA ⊢
  refine Calls.evalArgs_plain (wpAny_mono hA (fun vs s₂ q => ?_) fun _ _ y => y)
  obtain ⟨vs', H1, I1, r, hz, G1, u, h⟩ := q
  exact ⟨rfl, by show vs.length ≤ sizeLine; rw [← r.length]; exact hz, I1.bk _ _ hC, hN.keeps I1.bk, T.keeps I1.bk, fun h' a made => h _ _ (.of (sr.ups u) ⟨pins, s₂, a, rfl, I1, .inl ⟨h', vs, made, rfl⟩⟩)⟩
end
section
variable {X : Cx} {pins : List (Addr × Obj)} {σ : St} {H : Hp} {s : Shared}
theorem Inv.unset {i : Nat} {x : Str} {h' : Heap} {m : Str → Option Value} {u : Option Value} (I : Inv X pins σ H s) (hN : X.N.Nodup) (hi : X.N[i]? = some x)
    (hm : ∀ (j : Nat) (y : Str) (v : V), X.N[j]? = some y → σ[j]? = some (some v) → Vis X.env.scope y → ∃ u, RelV v u ∧ Look X.env s.heap m y u) (hn : h'.Ns X.env.locals (fun y => if y = x then u else m y)) (sb : Heap.SameBut X.env.locals s.heap h') :
    Inv X pins (σ.set i none) H { s with heap := h' } := by
  have kp : ∀ b o, b ≠ X.env.locals → s.heap.get? b = some o → h'.get? b = some o := fun b o hb e => (sb.2 b hb).trans e
  refine ⟨I.ok, I.os, I.bare, I.base.sameBut kp I.ok.above, ⟨_, hn, fun j y v h1 h2 h3 => ?_⟩, fun y c e => ?_, I.free, I.freeC, fun p hp => ?_, I.hok.sameBut kp I.free, by simp [I.len]⟩
  · have hj : i ≠ j := fun z => by
      subst z
      rw [List.getElem?_set] at h2
      simp only [if_true] at h2
      split at h2 <;> cases h2
    rw [List.getElem?_set_ne hj] at h2
    have hy : y ≠ x := fun z => hj (nodup_ix hN hi (z ▸ h1))
    obtain ⟨w, rw', lk⟩ := hm j y v h1 h2 h3
    refine ⟨w, rw', ?_⟩
    rcases lk with ⟨k, e⟩ | ⟨k, c, hc, cell⟩
    · exact .inl ⟨k, by show (if y = x then u else m y) = some w; rw [if_neg hy]; exact e⟩
    · exact .inr ⟨k, c, hc, cell.sameBut sb (I.cne y c hc)⟩
  · obtain ⟨v, q⟩ := I.cell y c e
    exact ⟨v, q.sameBut sb (I.cne y c e)⟩
  · obtain ⟨p1, p2, p3, p4, p5⟩ := I.pin p hp
    exact ⟨kp _ _ p3 p1, p2, p3, p4, p5⟩
theorem Inv.cx {A' : Around} {calm' : Bool} {pn' pins' : List (Addr × Obj)} {xe' : Value → Shared → Prop} (I : Inv X pins σ H s) (hp : ∀ p ∈ pn' ++ pins', p ∈ X.pn ++ pins) (hA : A'.frames = X.A.frames) (hd : calm' = true → A'.handled = none) :
    Inv { X with A := A', calm := calm', pn := pn', xe := xe' } pins' σ H s :=
  ⟨⟨I.ok.mod, I.ok.kind, I.ok.glob, I.ok.blt, I.ok.above, I.ok.inj, I.ok.has, I.ok.cab, hd, hA.trans I.ok.frames, I.ok.stk, I.ok.exf, I.ok.bs, I.ok.bsz, I.ok.noex, I.ok.exfs, I.ok.funs, I.ok.frf, I.ok.tabs⟩,
    I.os, I.bare, I.base, I.loc, I.cell, I.free, I.freeC, fun p q => I.pin p (hp p q), I.hok, I.len⟩
end
end L2
namespace L2
open PySem PySem.Spec PyProof.Rows
noncomputable def tryO (gb gs : Ev → O) (f : Addr → Option Bool) (i : Nat) : Ev → O := fun ρ => match gb ρ with
  | .ex C ρ' => (match f C with
    | some true => (match gs (ρ'.set i (some (.val (.exc C)))) with
      | .nx ρ'' => .nx (ρ''.set i none)
      | .rt d => .rt d
      | _ => .no)
    | _ => .no)
  | o => o
section
variable {X : Cx} {body suite : List Stmt} {b₀ : Stmt} {gb gs : Ev → O} {pos hp tp : Pos} {tn nm : Str} {Ct : Addr}
noncomputable abbrev tryCx (X : Cx) (pn : List (Addr × Obj)) (xe : Value → Shared → Prop) : Cx := { X with A := X.A, calm := X.calm, pn := pn, xe := xe }
noncomputable abbrev sutCx (X : Cx) (a : Addr) (xe : Value → Shared → Prop) : Cx := { X with A := X.A.mark (some (.ref a)), calm := false, pn := X.pn, xe := xe }
theorem ps_try_p_0 (pr : St → Prop) (i : Nat) (f : Addr → Option Bool) (hN : X.N.Nodup) (hcalm : X.calm = true) (hst : X.stack = X.env :: X.outer) (hfr : X.env.frame = some X.env.locals) (hkd : X.env.scope.kind = .function)
    (G₀ H₀ : Hp) (hb : ∀ pn xe, PSs (tryCx X pn xe) body fun D σ H => pr σ ∧ tS (tryCx X pn xe) G₀ H₀ gb D σ H) (hh : ∀ a xe, QSsF (sutCx X a xe) (b₀ :: suite) gs) (hf : ∀ C, f C = some true → PySem.W.exmOne X.K (.ref C) (.ref Ct) = some true) (hg : Gl X tn) (hm : X.mg tn = some (.ref Ct))
    (hi : X.N[i]? = some nm) (hx : X.env.scope.names.lookup nm = some .local) (hdb : (tn == ("__debug__" : Str)) = false := by decide) :
    PS X (.Try body [.ExceptHandler (some (.Name tn tp)) (some nm) (b₀ :: suite) hp] [] [] pos) fun D σ H => pr σ ∧ tS X G₀ H₀ (tryO gb gs f i) D σ H := fun pins s σ H D I h => by
  obtain ⟨hpr, G, ρ, sr, h⟩ := h
  refine wpAny_Try_except ?_
  have fs : frs X.stack = X.env.locals :: frs X.outer := by rw [hst]; exact frs_cons hfr
  -- the body
  have I1 : ∀ xe, Inv (tryCx X (X.pn ++ pins) xe) [] σ H s := fun xe => I.cx (fun p q => by simpa using q) rfl I.ok.hd
  have back : ∀ {xe : Value → Shared → Prop} {pins' : List (Addr × Obj)} {σ' : St} {H' : Hp} {s' : Shared}, Inv (tryCx X (X.pn ++ pins) xe) pins' σ' H' s' → Inv X pins σ' H' s' := fun J =>
    (J.cx (pn' := X.pn) (pins' := pins) (xe' := X.xe) (fun p q => List.mem_append_left _ q) rfl J.ok.hd : Inv { (tryCx X (X.pn ++ pins) _) with A := X.A, calm := X.calm, pn := X.pn, xe := X.xe } pins _ _ _)
  refine wpAny_mono (hb (X.pn ++ pins) (fun e s₁ => wpAny (model X.prog X.w) X.A (noteFrame e X.env) (fun _ s₂ => wpAny (model X.prog X.w) X.A (setFlight e none) (fun _ s₃ =>
      wpAny (model X.prog X.w) X.A (handleBy e X.env [.ExceptHandler (some (.Name tn tp)) (some nm) (b₀ :: suite) hp]) (SP X pins D) X.xe s₃) X.xe s₂) X.xe s₁) [] s σ H D (I1 _) ⟨hpr, G, ρ, sr, ?_⟩) (fun fl s₁ q => ?_) fun e s₁ q => q
  case refine_2 =>
    cases fl with
    | next => obtain ⟨σ', H', J, q⟩ := q; exact wpAny_execs_nil ⟨σ', H', back J, q⟩
    | brk => obtain ⟨σ', H', J, q⟩ := q; exact ⟨σ', H', back J, q⟩
    | cont => obtain ⟨σ', H', J, q⟩ := q; exact ⟨σ', H', back J, q⟩
    | ret u => obtain ⟨v, σ', H', J, r, q⟩ := q; exact ⟨v, σ', H', back J, r, q⟩
  unfold tryO at h
  cases q : gb ρ with
  | nx ρ' => rw [q] at h; exact h
  | rt d => rw [q] at h; exact h
  | re d ρ' => rw [q] at h; exact h
  | bk ρ' => rw [q] at h; exact h
  | ct ρ' => rw [q] at h; exact h
  | no => rw [q] at h; exact h.elim
  | ex C ρ' =>
    rw [q] at h
    dsimp only at h
    cases qf : f C with
    | none => rw [qf] at h; exact h.elim
    | some b =>
      cases b with
      | false => rw [qf] at h; exact h.elim
      | true =>
        rw [qf] at h
        dsimp only at h
        have way8 : (∃ ρ'', gs (ρ'.set i (some (.val (.exc C)))) = .nx ρ'') ∨ ∃ d, gs (ρ'.set i (some (.val (.exc C)))) = .rt d := by
          cases qs : gs (ρ'.set i (some (.val (.exc C)))) <;> rw [qs] at h <;> first | exact .inl ⟨_, rfl⟩ | exact .inr ⟨_, rfl⟩ | exact h.elim
        · intro e s' fl
          obtain ⟨σ', H₁, pins₁, s₁, a, rfl, J0, way⟩ := fl
          have J₁ : Inv X pins σ' H₁ s₁ := back J0
          -- from a heap in which it is held
          have cont : ∀ {ch : List Addr} {H' G' : Hp} {s' : Shared} {B : Heap} {a0 : Value} {h₄ : Heap}, (∀ b ∈ ch, ChOk X pins b) → s'.os = s₁.os → AllBare s'.gens → Un (frs X.stack) ch H₁ H' s₁.heap s'.heap → HOk X.prog X.w H' s'.heap → H' a = none → s₁.heap.get? a = none → StR X.K G₀ H₀ G' H' σ' ρ' →
              (∀ b o, b ∉ frs X.stack → ((∃ o0, s₁.heap.get? b = some o0) ∨ ∃ u, H' b = some u) → s'.heap.get? b = some o → B.get? b = some o) → Heap.HeldW B (X.env :: X.outer) a (.ref C) a0 X.env.locals h₄ → s'.heap.UpToSlots h₄ →
              wpAny (model X.prog X.w) X.A (setFlight (.ref a) none) (fun _ s₃ => wpAny (model X.prog X.w) X.A (handleBy (.ref a) X.env [.ExceptHandler (some (.Name tn tp)) (some nm) (b₀ :: suite) hp]) (SP X pins D) X.xe s₃) X.xe { s' with heap := h₄ } := by
            intro ch H' G' s' B a0 h₄ hch os bare un hok ha hnew up hk held sm
            have J' : Inv X pins σ' H' s' := J₁.call' (ch := ch) os un hok bare hch
            have dat : ∀ b ∈ frs X.stack, ∀ o, s'.heap.get? b = some o → ∀ vs, o.data ≠ .fields vs := fun b hb o e => by
              obtain ⟨o', e', d', _⟩ := FunFrames.data J'.stack b hb
              rw [e] at e'; cases e'; exact d'
            -- the state at a later heap
            have at_ : ∀ {h5 : Heap}, B.StaysIn h5 → s'.heap.UpToSlots h5 → Un (frs X.stack) ch H₁ H' s₁.heap h5 ∧ HOk X.prog X.w H' h5 := fun {h5} hb5 sm5 =>
              ⟨un.flight hb5 sm5 hk (fun b o e => ⟨o, e⟩) (fun b hb => .inl hb) dat, hok.flight hb5 hk J'.stkFree⟩
            refine wpAny_landsW held fun h₅ fl₅ sm₅ => ?_
            obtain ⟨un₅, hok₅⟩ := at_ fl₅.1 (sm.trans sm₅)
            have J₅ : Inv X pins σ' H' { s' with heap := h₅ } := J₁.call' (s' := { s' with heap := h₅ }) (ch := ch) os un₅ hok₅ bare hch
            have S₅ : Inv (sutCx X a fun _ _ => False) pins σ' H' { s' with heap := h₅ } := J₅.cx (fun p q => q) rfl (fun z => by cases z)
            obtain ⟨ob, hob, hobc⟩ := fl₅.there
            refine wpAny_handleBy_cons (codeAny_handlers_test (ld_glob S₅ hg hm ?_ hdb)) (by intro z; cases z)
            refine (PySem.W.exm_one (M := model X.prog X.w) S₅.kIn (hobc ▸ (PySem.W.Looks.ld hob).andThen .now) (hf C qf)).here ?_
            show codeAny _ _ _ _ _
            refine codeAny_handlers_suite_as ?_
            refine lands_againW fl₅ fun h₆ fl₆ sm₆ => ?_
            obtain ⟨un₆, hok₆⟩ := at_ fl₆.1 ((sm.trans sm₅).trans sm₆)
            obtain ⟨ob6, hob6, hobc6⟩ := fl₆.there
            -- it is spoken of from now on
            have hokA : HOk X.prog X.w (upd H' a (.ext (ExcObj a C))) h₆ := fun b o e => by
              by_cases eb : b = a
              · subst eb
                rw [upd_same] at e
                cases e
                exact ⟨⟨ob6, hob6, hobc6⟩, ⟨ob6, hob6⟩, fun h1 h2 ⟨ob, e1, e2⟩ k => ⟨ob, k _ e1, e2⟩⟩
              · rw [upd_ne eb] at e
                refine (hok₆ b o e).stay (fun _ _ _ z => z) (fun c z => ?_) (fun c xs z => ?_) (fun c ob u z => ?_)
                case refine_3 => rw [upd_ne (ne_of_none z ha)]; exact z
                · rw [upd_ne (ne_of_none z ha)]; exact z
                · rw [upd_ne (ne_of_none z ha)]; exact z
            have unA : Un (frs X.stack) ch H₁ (upd H' a (.ext (ExcObj a C))) s₁.heap h₆ := by
              refine ⟨un₆.keep, un₆.slot, fun b o e n x => ?_, un₆.there, fun b xs z => ?_, fun b o u z => ?_, fun b ps z => ?_⟩
              · rw [upd_ne (fun z => by rw [z, hnew] at e; cases e)]; exact un₆.free b o e n x
              · have := un₆.tups b xs z; rw [upd_ne (ne_of_none this ha)]; exact this
              · have := un₆.frzs b o u z; rw [upd_ne (ne_of_none this ha)]; exact this
              · obtain ⟨more, this⟩ := un₆.tbls b ps z; exact ⟨more, by rw [upd_ne (ne_of_none this ha)]; exact this⟩
            have J₆ : Inv X pins σ' (upd H' a (.ext (ExcObj a C))) { s' with heap := h₆ } := J₁.call' (s' := { s' with heap := h₆ }) (ch := ch) os unA hokA bare hch
            have upA : Up G' H' (upd G' a (.ext (ExcObj a C))) (upd H' a (.ext (ExcObj a C))) := .new up.e.sub ha
            have S₆ : Inv (sutCx X a fun _ _ => False) pins σ' (upd H' a (.ext (ExcObj a C))) { s' with heap := h₆ } := J₆.cx (fun p q => q) rfl (fun z => by cases z)
            refine store_ok (X := sutCx X a fun _ _ => False) S₆ hN hi (.inl hx) (v := .ref a) rfl (fun s₇ S₇ => ?_) (.inr hx)
            have sr7 := (up.ups upA).set (.exc upd_same : Rep X.K (upd G' a (.ext (ExcObj a C))) (.ref a) (.exc C)) i
            refine wpAny_mono (hh a (fun _ _ => False) G₀ H₀ pins s₇ _ _ { nx := fun σ₈ H₈ => ∃ ρ'' G₈, gs (ρ'.set i (some (.val (.exc C)))) = .nx ρ'' ∧ StR X.K G₀ H₀ G₈ H₈ σ₈ ρ'', rt := fun v H₈ => ∃ d G₈, gs (ρ'.set i (some (.val (.exc C)))) = .rt d ∧ Up G₀ H₀ G₈ H₈ ∧ Rep X.K G₈ v d } S₇ ⟨_, _, sr7, by
              rcases way8 with ⟨ρ'', qs⟩ | ⟨d, qs⟩
              · rw [qs]; exact fun σ₈ G₈ H₈ sr8 => ⟨ρ'', G₈, rfl, sr8⟩
              · rw [qs]; exact fun v G₈ H₈ u8 rp8 => ⟨d, G₈, rfl, u8, rp8⟩⟩) (fun fl s₈ q8 => ?_) fun _ _ z => z.elim
            cases fl with
            | next =>
              obtain ⟨σ₈, H₈, S₈, ρ'', G₈, qs, sr8⟩ := q8
              rw [qs] at h
              have J₈ : Inv X pins σ₈ H₈ s₈ := (S₈.cx (pn' := X.pn) (pins' := pins) (A' := X.A) (calm' := X.calm) (xe' := X.xe) (fun p q => q) rfl I.ok.hd : Inv { (sutCx X a fun _ _ => False) with A := X.A, calm := X.calm, pn := X.pn, xe := X.xe } pins _ _ _)
              refine wpAny_bind (wpAny_bindName (store_ok2 J₈ hN hi (.inl hx) (v := .non) rfl (fun s₉ J₉ _ => ?_) (.inr hx)))
              obtain ⟨m9, hn9, hl9⟩ := id J₉.loc
              have hlt : i < σ₈.length := by rw [J₈.len]; exact (List.getElem?_eq_some_iff.mp hi).1
              obtain ⟨u9, r9, lk9⟩ := hl9 i nm .non hi (by rw [List.getElem?_set_self hlt]) (.inl hx)
              have hv9 : m9 nm = some u9 := by
                rcases lk9 with ⟨_, e⟩ | ⟨k, _⟩
                · exact e
                · have k' : X.env.scope.names.lookup nm = some .cell ∨ X.env.scope.names.lookup nm = some .free := k
                  rw [hx] at k'; rcases k' with k' | k' <;> cases k'
              refine wpAny_onRaise (wpAny_unbindName_local hx hn9 hv9 (by rw [hkd]; rfl) fun h10 u10 hn10 sb10 => ?_)
              have J10 := J₉.unset hN hi hl9 hn10 sb10
              refine ⟨_, _, J10, ?_⟩
              have e10 : (σ₈.set i (some V.non)).set i none = σ₈.set i none := by rw [List.set_set]
              rw [e10]
              refine h _ G₈ _ ?_
              -- the slot is forgotten
              have get : ∀ (j : Nat) x, (ρ''.set i none)[j]? = some (some x) → j ≠ i ∧ ρ''[j]? = some (some x) ∧ (σ₈.set i none)[j]? = σ₈[j]? := fun j x e => by
                by_cases ej : i = j
                · subst ej
                  rw [List.getElem?_set] at e
                  simp only [if_true] at e
                  split at e <;> cases e
                · rw [List.getElem?_set_ne ej] at e
                  exact ⟨fun z => ej z.symm, e, List.getElem?_set_ne ej⟩
              have ob : ObSt X.K H₀ G₈ H₈ (σ₈.set i none) (ρ''.set i none) := by
                obtain ⟨ow, o1, o2⟩ := sr8.ob
                refine ⟨ow, fun j ds l e1 e2 => ?_, fun j m C p fs e1 => ?_⟩
                · obtain ⟨_, f1, f2⟩ := get j _ e1; exact o1 j ds l f1 (f2 ▸ e2)
                · obtain ⟨_, f1, f2⟩ := get j _ e1; rw [f2]; exact o2 j m C p fs f1
              refine ⟨⟨sr8.e.sub, by simp [sr8.e.len], fun j d e => ?_, ob.rd⟩, sr8.sub0, sr8.up, fun j ds e => ?_, fun j k ds es l e1 e2 e3 e4 => ?_, ob⟩
              · obtain ⟨_, e1, e2⟩ := get j _ e; rw [e2]; exact sr8.e.val j d e1
              · obtain ⟨_, e1, e2⟩ := get j _ e; rw [e2]; exact sr8.own j ds e1
              · obtain ⟨_, f1, f2⟩ := get j _ e1
                obtain ⟨_, f3, f4⟩ := get k _ e2
                exact sr8.inj j k ds es l f1 f3 (f2 ▸ e3) (f4 ▸ e4)
            | brk => obtain ⟨_, _, _, z⟩ := q8; exact z.elim
            | cont => obtain ⟨_, _, _, z⟩ := q8; exact z.elim
            | ret u =>
              obtain ⟨v, σ₈, H₈, S₈, r8, d, G₈, qs, u8, rp8⟩ := q8
              rw [qs] at h
              have J₈ : Inv X pins σ₈ H₈ s₈ := (S₈.cx (pn' := X.pn) (pins' := pins) (A' := X.A) (calm' := X.calm) (xe' := X.xe) (fun p q => q) rfl I.ok.hd : Inv { (sutCx X a fun _ _ => False) with A := X.A, calm := X.calm, pn := X.pn, xe := X.xe } pins _ _ _)
              refine wpAny_bind (wpAny_bindName (store_ok2 J₈ hN hi (.inl hx) (v := .non) rfl (fun s₉ J₉ _ => ?_) (.inr hx)))
              obtain ⟨m9, hn9, hl9⟩ := id J₉.loc
              have hlt : i < σ₈.length := by rw [J₈.len]; exact (List.getElem?_eq_some_iff.mp hi).1
              obtain ⟨u9, r9, lk9⟩ := hl9 i nm .non hi (by rw [List.getElem?_set_self hlt]) (.inl hx)
              have hv9 : m9 nm = some u9 := by
                rcases lk9 with ⟨_, e⟩ | ⟨k, _⟩
                · exact e
                · have k' : X.env.scope.names.lookup nm = some .cell ∨ X.env.scope.names.lookup nm = some .free := k
                  rw [hx] at k'; rcases k' with k' | k' <;> cases k'
              refine wpAny_onRaise (wpAny_unbindName_local hx hn9 hv9 (by rw [hkd]; rfl) fun h10 u10 hn10 sb10 => ?_)
              have J10 := J₉.unset hN hi hl9 hn10 sb10
              exact ⟨v, _, _, J10, r8, h v G₈ _ u8 rp8⟩
          have hfrm : X.A.frames = some (X.env :: X.outer) := by rw [← hst]; exact I.ok.frames
          rcases way with ⟨G₁, h', vs, sr', made, rfl⟩ | ⟨G', H', ⟨os, bare, un, hok, ha, B, a0, fl, hk⟩, up⟩ | ⟨G', H', L', hL, ⟨os, bare, ⟨ch, hch, un⟩, hok, ha, hna, B, a0, fl, hk⟩, up⟩
          · have hin : ∀ env ∈ X.stack, ∀ b, env.frame = some b → b ∈ frs X.stack := fun env he b hb => List.mem_filterMap.mpr ⟨env, he, hb⟩
            have ha : H₁ a = none := by
              cases q : H₁ a with
              | none => rfl
              | some u =>
                obtain ⟨ob, e⟩ := (J₁.hok a u q).there
                rw [made.new] at e; cases e
            obtain ⟨t, he, htn, ht⟩ := made.there
            have hkb : (PySem.W.hideAll s₁.heap (frs X.stack)).StaysIn h' := fun b o q => made.keeps b o (PySem.W.of_hideAll _ q)
            have hen : (PySem.W.hideAll s₁.heap (frs X.stack)).get? a = none := by
              cases q : (PySem.W.hideAll s₁.heap (frs X.stack)).get? a with
              | none => rfl
              | some o => have := PySem.W.of_hideAll _ q; rw [made.new] at this; cases this
            have hff : h'.FunFrames (PySem.W.hideAll s₁.heap (frs X.stack)) (X.env :: X.outer) := by
              rw [← hst]
              exact (PySem.W.funFrames_hide J₁.stack hin).of_keeps fun b o hb _ => ⟨o, made.keeps b o hb, rfl⟩
            show wpAny _ _ (noteFrame (.ref a) X.env) _ _ _
            unfold noteFrame
            simp only [hfr]
            refine wpAny_bind (wpAny_field (show ({ s₁ with heap := h' } : Shared).heap.get? a = some _ from he) rfl (x := .none) rfl ?_)
            rw [if_neg (by decide)]
            refine wpAny_entryW (base := PySem.W.hideAll s₁.heap (frs X.stack)) (a0 := .ref t) hfrm hff hfr he hkb hen rfl (by show 1 < 6; decide) rfl fun h₄ noted => ?_
            obtain ⟨n1, n2, n3, n4⟩ := noted
            refine cont (ch := []) (s' := { s₁ with heap := h' }) (fun b z => absurd z (by simp)) rfl J₁.bare (Un.kept made.keeps) (J₁.hok.kept made.keeps) ha made.new sr' (fun b o hb ho e => ?_) ⟨n1, hen, n2, n3⟩ n4
            have e1 : s₁.heap.get? b = some o := by
              rcases ho with ⟨o0, ho⟩ | ⟨u, ho⟩
              · have q := made.keeps b o0 ho
                have e' : h'.get? b = some o := e
                rw [q] at e'; cases e'; exact ho
              · obtain ⟨ob, ho⟩ := (J₁.hok b u ho).there
                have q := made.keeps b ob ho
                have e' : h'.get? b = some o := e
                rw [q] at e'; cases e'; exact ho
            exact PySem.W.hideAll_get _ e1 hb
          · have hna : s₁.heap.get? a = none := by
              cases q : s₁.heap.get? a with
              | none => rfl
              | some o0 =>
                obtain ⟨o', e'⟩ := un.there a o0 q (by simp)
                have hna : a ∉ frs X.stack := fun z => by
                  obtain ⟨o1, e1, d1, _⟩ := FunFrames.data fl.2.2.1 a z
                  obtain ⟨oe, vs, _, _, _, e2, _, d2, _⟩ := fl.2.2.2
                  rw [e1] at e2; cases e2; exact d1 vs d2
                have := hk a o' hna (.inl ⟨o0, q⟩) e'
                rw [fl.2.1] at this; cases this
            rw [hst] at fl
            exact wpAny_looks_onW hfrm hfr fl fun h₄ held sm => cont (ch := []) (fun b z => absurd z (by simp)) os bare un hok ha hna up hk held sm
          · have hch' : ∀ b ∈ ch, ChOk X pins b := fun b hb => let ⟨c1, c2, c3, c4⟩ := hch b hb; ⟨c1, c2, c3, fun p hp => c4 p (List.mem_append_left _ hp)⟩
            have eL : X.env.locals = L' := Option.some.inj (hfr.symm.trans hL)
            rw [hst, ← eL] at fl
            exact wpAny_noteFrame_againW hfr fl.2.2.2 (cont (h₄ := s'.heap) hch' os bare un hok ha hna up hk fl fun b o hb _ => ⟨o.slots, hb⟩)
end
end L2
namespace L2
open PySem PySem.Spec PyProof.Rows
structure Callee (P : Program) (w : World) (K : PySem.W.Frag) (mg : Str → Option Value) (base : Heap) (x : Str) (k n : Nat) (g : List D → R D) : Prop where
  ex : ∃ f fd ps, FnF P w K mg base k f fd ps g ∧ mg x = some (.ref f) ∧ PySem.W.keepIn K (.ref f) = true ∧ Binds K fd ps [] ∧ ps.length = n
theorem pf_callC_0 {X : Cx} {x : Str} {k n : Nat} {g : List D → R D} {e : Expr} {es : List Expr} {gl : Ev → R (List D)} {p pos : Pos} (c : Callee X.prog X.w X.K X.mg X.base x k n g) (hr : Room k X.A) (ha : QFA X (e :: es) gl) (hg : Gl X x := by rfl)
    (hdb : (x == ("__debug__" : Str)) = false := by decide) (he : starEach (e :: es) X.env = (false, eval e X.env) :: starEach es X.env := by rfl) (hpl : (backTo pos (starEach es X.env)).any (·.1) = false := by rfl) :
    QF X (.Call (.Name x p) (e :: es) [] pos) (fun ρ => gl ρ >>= fun ds => if ds.length = n then g ds else .no) := by
  obtain ⟨f, fd, ps, F, hm, hk, hb, rfl⟩ := c.ex
  exact pf_call_0 F hr hg hm hk hb ha hdb he hpl
theorem FnF.to {P : Program} {w : World} {K : PySem.W.Frag} {mg : Str → Option Value} {base : Heap} {k : Nat} {f : Addr} {fd : FuncData} {ps : List Str} {g g' : List D → R D} (F : FnF P w K mg base k f fd ps g) (h : ∀ ds, ds.length = ps.length → g' ds = .no ∨ g ds = g' ds) : FnF P w K mg base k f fd ps g' := by
  refine F.imp fun vs H Q E ⟨hl, G, ds, sub, r, q⟩ => ⟨hl, G, ds, sub, r, ?_⟩
  rcases h ds (by rw [← r.length]; exact hl) with z | z
  · rw [z] at q; exact q.elim
  · rw [z]; exact q
theorem Fun.callee {P : Program} {w : World} {K : PySem.W.Frag} {mg : Str → Option Value} {base : Heap} {x : Str} {st : Stmt} {f : Addr} {fd : FuncData} {ps : List Str} {k : Nat} {g : List D → R D} (F : Fun K x x st f fd) (hm : mg x = some (.ref f)) (ok : FnF P w K mg base k f fd ps g)
    (h : ∀ (kV doc pm : Value) (an : Option Addr) (cdv ct : Value) (us : List Value), us.length = ps.length → bindArgs (PySem.W.fnOf x x (defArgs st) (defBody st) (defScope st) .none kV doc pm an cdv ct) ⟨us, []⟩ = pure (ps.zip us)) : Callee P w K mg base x k ps.length g :=
  ⟨f, fd, ps, ok, hm, F.kp, F.binds h, rfl⟩
theorem isTy_fact {T : String} {f : String → Bool} (h : ∀ K : PySem.W.Frag, PySem.W.kitOne K (.type "NoneType") (.type T) = some (f "NoneType") ∧ PySem.W.kitOne K (.type "bool") (.type T) = some (f "bool") ∧ PySem.W.kitOne K (.type "int") (.type T) = some (f "int") ∧
    PySem.W.kitOne K (.type "str") (.type T) = some (f "str") ∧ PySem.W.kitOne K (.type "tuple") (.type T) = some (f "tuple") ∧ PySem.W.kitOne K (.type "list") (.type T) = some (f "list")) :
    ∀ K : PySem.W.Frag, ∀ t ∈ ["NoneType", "bool", "int", "str", "tuple", "list"], PySem.W.kitOne K (.type t) (.type T) = some (f t) := fun K t ht => by
  obtain ⟨h1, h2, h3, h4, h5, h6⟩ := h K
  simp only [List.mem_cons, List.mem_nil_iff, or_false] at ht
  rcases ht with rfl | rfl | rfl | rfl | rfl | rfl <;> assumption
noncomputable def isInt (t : String) : Bool := t == "int" || t == "bool"
section
variable {X : Cx} {e : Expr} {ga : Ev → R D} {p p2 pos : Pos}
theorem pf_isInt_0 (hm : X.mg "isinstance" = none) (ha : QF X e ga) (hm2 : X.mg "int" = none) (hg2 : Gl X "int" := by rfl) (hg : Gl X "isinstance" := by rfl) (hs1 : starEach [e, .Name "int" p2] X.env = (false, eval e X.env) :: starEach [.Name "int" p2] X.env := by rfl) : QF X (.Call (.Name "isinstance" p) [e, .Name "int" p2] [] pos) (fun ρ => ga ρ >>= isTy isInt) :=
  pf_isTy_0 (T := "int") isInt (isTy_fact fun K => ⟨rfl, rfl, rfl, rfl, rfl, rfl⟩) hg hm hg2 hm2 PyProof.Rows.Boot.«int» ha hs1
theorem pf_isBool_0 (hm : X.mg "isinstance" = none) (ha : QF X e ga) (hm2 : X.mg "bool" = none) (hg2 : Gl X "bool" := by rfl) (hg : Gl X "isinstance" := by rfl) (hs1 : starEach [e, .Name "bool" p2] X.env = (false, eval e X.env) :: starEach [.Name "bool" p2] X.env := by rfl) : QF X (.Call (.Name "isinstance" p) [e, .Name "bool" p2] [] pos) (fun ρ => ga ρ >>= isTy (· == "bool")) :=
  pf_isTy_0 (T := "bool") (· == "bool") (isTy_fact fun K => ⟨rfl, rfl, rfl, rfl, rfl, rfl⟩) hg hm hg2 hm2 PyProof.Rows.Boot.«bool» ha hs1
theorem pf_isStr_0 (hm : X.mg "isinstance" = none) (ha : QF X e ga) (hm2 : X.mg "str" = none) (hg2 : Gl X "str" := by rfl) (hg : Gl X "isinstance" := by rfl) (hs1 : starEach [e, .Name "str" p2] X.env = (false, eval e X.env) :: starEach [.Name "str" p2] X.env := by rfl) : QF X (.Call (.Name "isinstance" p) [e, .Name "str" p2] [] pos) (fun ρ => ga ρ >>= isTy (· == "str")) :=
  pf_isTy_0 (T := "str") (· == "str") (isTy_fact fun K => ⟨rfl, rfl, rfl, rfl, rfl, rfl⟩) hg hm hg2 hm2 PyProof.Rows.Boot.«str» ha hs1
theorem pf_isTuple_0 (hm : X.mg "isinstance" = none) (ha : QF X e ga) (hm2 : X.mg "tuple" = none) (hg2 : Gl X "tuple" := by rfl) (hg : Gl X "isinstance" := by rfl) (hs1 : starEach [e, .Name "tuple" p2] X.env = (false, eval e X.env) :: starEach [.Name "tuple" p2] X.env := by rfl) : QF X (.Call (.Name "isinstance" p) [e, .Name "tuple" p2] [] pos) (fun ρ => ga ρ >>= isTy (· == "tuple")) :=
  pf_isTy_0 (T := "tuple") (· == "tuple") (isTy_fact fun K => ⟨rfl, rfl, rfl, rfl, rfl, rfl⟩) hg hm hg2 hm2 PyProof.Rows.Boot.«tuple» ha hs1
end
end L2
namespace L2
open PySem PySem.Spec PyProof.Rows
noncomputable def oRet (ga : Ev → R D) : Ev → O := fun ρ => (ga ρ).out ρ .rt
noncomputable def oSeq (g1 g2 : Ev → O) : Ev → O := fun ρ => (g1 ρ).seq g2
noncomputable def oIf (gt : Ev → R Bool) (g1 g2 : Ev → O) : Ev → O := fun ρ => (gt ρ).out ρ fun k => if k = true then g1 ρ else g2 ρ
noncomputable def oNx : Ev → O := fun ρ => .nx ρ
noncomputable def oSet (i : Nat) (ga : Ev → R D) : Ev → O := fun ρ => (ga ρ).out ρ fun d => .nx (ρ.set i (some (.val d)))
noncomputable def oOwn (i : Nat) (gl : Ev → R (List D)) : Ev → O := fun ρ => (gl ρ).out ρ fun ds => .nx (ρ.set i (some (.own ds)))
noncomputable def oExpr (ga : Ev → R D) : Ev → O := fun ρ => (ga ρ).out ρ fun _ => .nx ρ
noncomputable def oFor (asg : D → Ev → R Ev) (gi : Ev → R (List D)) (g : Ev → O) : Ev → O := fun ρ => (gi ρ).out ρ fun items => loopD asg g items ρ
noncomputable def oRaise (C : Addr) (gl : Ev → R (List D)) : Ev → O := fun ρ => (gl ρ).out ρ fun _ => .ex C ρ
noncomputable def oAsg (asg : D → Ev → R Ev) (ga : Ev → R D) : Ev → O := fun ρ => (ga ρ).out ρ fun d => (asg d ρ).out ρ .nx
noncomputable def oFrz (i : Nat) (g : Ev → O) : Ev → O := fun ρ => g (frz i ρ)
noncomputable def gThen {α β : Type} (f : α → R β) (ga : Ev → R α) : Ev → R β := fun ρ => ga ρ >>= f
noncomputable def gOf (f : List D → Option D) (gl : Ev → R (List D)) : Ev → R D := fun ρ => gl ρ >>= fun ds => ofO (f ds)
noncomputable def gACons (ga : Ev → R D) (gl : Ev → R (List D)) : Ev → R (List D) := fun ρ => ga ρ >>= fun x => gl ρ >>= fun xs => .ok (x :: xs)
noncomputable def gCall (n : Nat) (g : List D → R D) (gl : Ev → R (List D)) : Ev → R D := fun ρ => gl ρ >>= fun ds => if ds.length = n then g ds else .no
noncomputable def gFresh (gl : Ev → R (List D)) : Ev → R D := fun ρ => gl ρ >>= fun ds => .ok (.lst false ds)
noncomputable def gLst (gl : Ev → R (List D)) : Ev → R (List D) := fun ρ => gl ρ >>= fun ds => if ds.length ≤ sizeLine then .ok ds else .no
noncomputable def gB2 (f : D → D → Option D) (ga gb : Ev → R D) : Ev → R Bool := fun ρ => g2 f ga gb ρ >>= asB
noncomputable def gB3 (f f' : D → D → Option D) (ga gb gc : Ev → R D) : Ev → R Bool := fun ρ => g3 f f' ga gb gc ρ >>= asB
noncomputable def gBn (gt : Ev → R Bool) : Ev → R Bool := fun ρ => gt ρ >>= fun k => .ok (!k)
noncomputable def gSome (ga : Ev → R D) : Ev → R (Option Int) := fun ρ => ga ρ >>= fun x => asI x >>= fun i => .ok (some i)
noncomputable def gMeth (T : String) (f : D → List D → Option D) (ga : Ev → R D) (gl : Ev → R (List D)) : Ev → R D := fun ρ => ga ρ >>= fun x => if kindD T x = true then gl ρ >>= fun ds => ofO (f x ds) else .no
theorem Callee.mono {P : Program} {w : World} {K : PySem.W.Frag} {mg : Str → Option Value} {base : Heap} {x : Str} {k n : Nat} {g : List D → R D} (c : Callee P w K mg base x k n g) (k' : Nat) (h : k ≤ k' := by decide) : Callee P w K mg base x k' n g := by
  obtain ⟨f, fd, ps, F, hm, hk, hb, e⟩ := c.ex
  exact ⟨f, fd, ps, { F with run := fun A outer s H args us vs Q E hr => F.run A outer s H args us vs Q E (hr.mono h) }, hm, hk, hb, e⟩
section
variable {X : Cx} {st : Stmt} {rest body sa sb : List Stmt} {e a b c o tg : Expr} {es : List Expr} {g gs1 gs2 : Ev → O} {ga gb gc : Ev → R D} {gt : Ev → R Bool} {gl : Ev → R (List D)} {pos p p2 : Pos} {x : Str}
theorem k_cons_0 (h1 : QSF X st gs1) (h2 : QSsF X rest gs2) : QSsF X (st :: rest) (oSeq gs1 gs2) := pss_f_cons_0 h1 h2
theorem k_nil_0 : QSsF X [] oNx := pss_f_nil_0
theorem k_ret_0 (he : QF X e ga) : QSF X (.Return (some e) pos) (oRet ga) := ps_f_ret_0 he
theorem k_if_0 (hc : QB X c gt) (ha : QSsF X sa gs1) (hb : QSsF X sb gs2) : QSF X (.If c sa sb pos) (oIf gt gs1 gs2) := ps_f_if_0 hc ha hb
theorem k_set_0 (i : Nat) (hN : X.N.Nodup) (he : QF X e ga) (hi : X.N[i]? = some x := by rfl) (hx : Loc X.env.scope x := by first | exact Or.inl rfl | exact Or.inr rfl)
    (hs : swapsWithSole [.Name x p] e pos.line X.env = pure false := by rfl) (hw : swappedStores [.Name x p] e X.env = pure none := by rfl) (hf : X.fn x = true ∨ X.env.scope.names.lookup x = some .local := by first | exact .inl rfl | exact .inr rfl) :
    QSF X (.Assign [.Name x p] e pos) (oSet i ga) := ps_f_set_0 i hN he hi hx hs hw hf
theorem k_own_0 (i : Nat) (hN : X.N.Nodup) (he : QFL X e gl) (hi : X.N[i]? = some x := by rfl) (hx : Loc X.env.scope x := by first | exact Or.inl rfl | exact Or.inr rfl)
    (hs : swapsWithSole [.Name x p] e pos.line X.env = pure false := by rfl) (hw : swappedStores [.Name x p] e X.env = pure none := by rfl) (hf : X.fn x = true ∨ X.env.scope.names.lookup x = some .local := by first | exact .inl rfl | exact .inr rfl) :
    QSF X (.Assign [.Name x p] e pos) (oOwn i gl) := ps_f_own_0 i hN he hi hx hs hw hf
theorem k_expr_0 (he : QF X e ga) (hs : swapsWith e none pos.line X.env = pure false := by rfl) : QSF X (.Expr e pos) (oExpr ga) := ps_f_expr_0 he hs
theorem k_for_0 {iter : Expr} {gi : Ev → R (List D)} {asg : D → Ev → R Ev} (hp : PassesOwn (model X.prog X.w) X.A X.env X.xe) (hcalm : X.calm = true) (hi : QIF X tg iter gi) (hg : PGF X tg asg) (hb : QSsF X body g)
    (hs : ∀ x, foldedSetIterable iter X.env x = pure x := by intro _; rfl) (hn : ∀ d ρ C, asg d ρ ≠ .ex C := by intro _ _ _ z; cases z) : QSF X (.For tg iter body [] pos) (oFor asg gi g) := ps_f_for_0 hp hcalm hi hg hb hs hn
theorem k_len_0 (hg : Gl X "len") (hm : X.mg "len" = none) (ha : QFA X [e] gl) (he : starEach [e] X.env = [(false, eval e X.env)] := by rfl) : QF X (.Call (.Name "len" p) [e] [] pos) (gOf lenF gl) := pf_len_0 hg hm ha he
theorem k_all_0 (hc : X.calm = true) (hg : Gl X "all") (hm : X.mg "all" = none) (ha : QFA X [e] gl) (he : starEach [e] X.env = [(false, eval e X.env)] := by rfl) : QF X (.Call (.Name "all" p) [e] [] pos) (gOf allF gl) := pf_all_0 hc hg hm ha he
theorem k_acons_0 (ha : QF X e ga) (hr : QFA X es gl) (hs : starEach (e :: es) X.env = (false, eval e X.env) :: starEach es X.env := by rfl) : QFA X (e :: es) (gACons ga gl) := pfa_cons_0 ha hr hs
theorem k_call_0 {k n : Nat} {f : List D → R D} (c : Callee X.prog X.w X.K X.mg X.base x k n f) (hr : Room k X.A) (ha : QFA X (e :: es) gl) (hg : Gl X x := by rfl)
    (hdb : (x == ("__debug__" : Str)) = false := by decide) (he : starEach (e :: es) X.env = (false, eval e X.env) :: starEach es X.env := by rfl) (hpl : (backTo pos (starEach es X.env)).any (·.1) = false := by rfl) :
    QF X (.Call (.Name x p) (e :: es) [] pos) (gCall n f gl) := pf_callC_0 c hr ha hg hdb he hpl
theorem k_comp_0 {gens : List Comprehension} {sc : Scope} (h : QFL X (.ListComp e gens sc pos) gl) : QF X (.ListComp e gens sc pos) (gFresh gl) := pf_fresh_0 h
theorem k_list_0 (h : QFL X (.List es pos) gl) : QF X (.List es pos) (gFresh gl) := pf_fresh_0 h
theorem k_lst_0 (h : QFA X es gl) : QFL X (.List es pos) (gLst gl) := pfl_lst_0 h
theorem k_tup_0 {k : Nat} (h : QFA X es gl) : QF X (.Tuple es k pos) (gThen mkT gl) := pf_tup_0 h
theorem k_neg_0 (ha : QF X a ga) : QF X (.UnaryOp .USub a pos) (gThen negD ga) := pf_neg_0 ha
theorem k_isInt_0 (hm : X.mg "isinstance" = none) (ha : QF X e ga) (hm2 : X.mg "int" = none) (hg2 : Gl X "int" := by rfl) (hg : Gl X "isinstance" := by rfl) (hs1 : starEach [e, .Name "int" p2] X.env = (false, eval e X.env) :: starEach [.Name "int" p2] X.env := by rfl) : QF X (.Call (.Name "isinstance" p) [e, .Name "int" p2] [] pos) (gThen (isTy isInt) ga) := pf_isInt_0 hm ha hm2 hg2 hg hs1
theorem k_isBool_0 (hm : X.mg "isinstance" = none) (ha : QF X e ga) (hm2 : X.mg "bool" = none) (hg2 : Gl X "bool" := by rfl) (hg : Gl X "isinstance" := by rfl) (hs1 : starEach [e, .Name "bool" p2] X.env = (false, eval e X.env) :: starEach [.Name "bool" p2] X.env := by rfl) : QF X (.Call (.Name "isinstance" p) [e, .Name "bool" p2] [] pos) (gThen (isTy (· == "bool")) ga) := pf_isBool_0 hm ha hm2 hg2 hg hs1
theorem k_isStr_0 (hm : X.mg "isinstance" = none) (ha : QF X e ga) (hm2 : X.mg "str" = none) (hg2 : Gl X "str" := by rfl) (hg : Gl X "isinstance" := by rfl) (hs1 : starEach [e, .Name "str" p2] X.env = (false, eval e X.env) :: starEach [.Name "str" p2] X.env := by rfl) : QF X (.Call (.Name "isinstance" p) [e, .Name "str" p2] [] pos) (gThen (isTy (· == "str")) ga) := pf_isStr_0 hm ha hm2 hg2 hg hs1
theorem k_isTuple_0 (hm : X.mg "isinstance" = none) (ha : QF X e ga) (hm2 : X.mg "tuple" = none) (hg2 : Gl X "tuple" := by rfl) (hg : Gl X "isinstance" := by rfl) (hs1 : starEach [e, .Name "tuple" p2] X.env = (false, eval e X.env) :: starEach [.Name "tuple" p2] X.env := by rfl) : QF X (.Call (.Name "isinstance" p) [e, .Name "tuple" p2] [] pos) (gThen (isTy (· == "tuple")) ga) := pf_isTuple_0 hm ha hm2 hg2 hg hs1
theorem k_some_0 (h : QF X e ga) : QFO X (some e) (gSome ga) := pfo_some_0 h
theorem k_blt_0 (ha : QF X a ga) (hb : QF X b gb) : QB X (.Compare a [.Lt] [b] pos) (gB2 ltD ga gb) := pb_lt_0 ha hb
theorem k_beq_0 (hu : X.A.units + 64 < cLine) (ha : QF X a ga) (hb : QF X b gb) : QB X (.Compare a [.Eq] [b] pos) (gB2 eqF ga gb) := pb_eq_0 hu ha hb
theorem k_bne_0 (hu : X.A.units + 64 < cLine) (ha : QF X a ga) (hb : QF X b gb) : QB X (.Compare a [.NotEq] [b] pos) (gB2 neF ga gb) := pb_ne_0 hu ha hb
theorem k_blele_0 (ha : QF X a ga) (hb : QF X b gb) (hc : QF X c gc) (hm : lastMarks [.LtE, .LtE] [b, c] = false := by with_unfolding_all rfl) : QB X (.Compare a [.LtE, .LtE] [b, c] pos) (gB3 leD leD ga gb gc) := pb_lele_0 ha hb hc hm
theorem k_bnot_0 (ha : QB X a gt) : QB X (.UnaryOp .Not a pos) (gBn gt) := pb_not_0 ha
theorem k_bval_0 (h : QF X (.Call a es [] pos) ga) : QB X (.Call a es [] pos) (gThen truD ga) := pb_val_0 h
theorem k_bop_0 {op : BoolOp} (h : QBW X (.BoolOp op es pos) gt) : QB X (.BoolOp op es pos) gt := fun pins s σ H Q I q => h _ pins s σ H Q I q
theorem k_ival_0 (ha : QF X a ga) : QIF X tg a (gThen itemsD ga) := pif_val_0 ha
theorem k_irange_0 (hg : Gl X "range") (hm : X.mg "range" = none) (ha : QFA X [a] gl) (hs : starEach [a] X.env = [(false, eval a X.env)] := by rfl) : QIF X tg (.Call (.Name "range" p) [a] [] pos) (gThen rangeD1 gl) := pif_range1_0 hg hm ha hs
end
end L2
namespace L2
open PySem PySem.Spec PyProof.Rows
@[simp] theorem R.ok_out {α : Type} (a : α) (ρ : Ev) (k : α → O) : (R.ok a).out ρ k = k a := rfl
@[simp] theorem R.ex_out {α : Type} (C : Addr) (ρ : Ev) (k : α → O) : (R.ex C : R α).out ρ k = .ex C ρ := rfl
@[simp] theorem noEx_ok {α : Type} (a : α) : noEx (R.ok a) = R.ok a := rfl
theorem compD_map {gt : Ev → R Bool} {ge : Ev → R D} (p : D → Bool) (h : D → D) (tl : Ev) : ∀ (ds : List D) (a : Option Sl), (∀ d ∈ ds, gt (some (.val d) :: tl) = .ok (p d) ∧ (p d = true → ge (some (.val d) :: tl) = .ok (h d))) → compD gt ge ds (a :: tl) = .ok ((ds.filter p).map h)
  | [], a, _ => rfl
  | d :: ds, a, H => by
    have ih := compD_map p h tl ds (some (.val d)) fun x m => H x (List.mem_cons_of_mem _ m)
    obtain ⟨e1, e2⟩ := H d (List.mem_cons_self ..)
    show (noEx (gt (some (.val d) :: tl)) >>= fun k => if k = true then noEx (ge (some (.val d) :: tl)) >>= fun x => compD gt ge ds (some (.val d) :: tl) >>= fun xs => .ok (x :: xs) else compD gt ge ds (some (.val d) :: tl)) = _
    rw [e1, noEx_ok, R.ok_bind, ih]
    cases q : p d with
    | true => rw [if_pos rfl, e2 q, noEx_ok, R.ok_bind, R.ok_bind, List.filter_cons_of_pos q]; rfl
    | false => rw [if_neg Bool.false_ne_true, List.filter_cons_of_neg (by rw [q]; exact Bool.false_ne_true)]
theorem compD_all {gt : Ev → R Bool} {ge : Ev → R D} (h : D → D) (tl : Ev) (ds : List D) (a : Option Sl) (H : ∀ d ∈ ds, gt (some (.val d) :: tl) = .ok true ∧ ge (some (.val d) :: tl) = .ok (h d)) : compD gt ge ds (a :: tl) = .ok (ds.map h) := by
  rw [compD_map (fun _ => true) h tl ds a fun d m => ⟨(H d m).1, fun _ => (H d m).2⟩, List.filter_eq_self.2 fun _ _ => rfl]
theorem blsD_map (f : D → Bool) : ∀ ds : List D, blsD (ds.map fun d => .bl (f d)) = some (ds.map f)
  | [] => rfl
  | d :: ds => by
    have ih := blsD_map f ds
    rw [List.map_cons, List.map_cons]
    unfold blsD
    first | (rw [ih]; rfl) | (simp only [ih]; rfl) | simp [ih]
theorem allF_map (f : D → Bool) (k : Bool) (ds : List D) : allF [.lst k (ds.map fun d => .bl (f d))] = some (.bl (ds.all f)) := by
  show (blsD (ds.map fun d => .bl (f d))).map _ = _
  rw [blsD_map]
  show some (D.bl ((ds.map f).all id)) = _
  rw [List.all_map]; rfl
theorem sign_le (a b : Nat) : (!decide (([b] : List Nat) < [a])) = decide (a ≤ b) := by
  have : (([b] : List Nat) < [a]) ↔ b < a := by
    constructor
    · intro h
      cases h with
      | rel h => exact h
      | cons h => cases h
    · intro h; exact .rel h
  by_cases h : a ≤ b
  · have h2 : ¬ ([b] : List Nat) < [a] := fun q => by have := this.1 q; omega
    simp [h, h2]
  · have h2 : ([b] : List Nat) < [a] := this.2 (by omega)
    simp [h, h2]
theorem comp_ok {X : Cx} {scope : Scope} {x : Str} {N' : List Str} {ix : List Nat} (hk : scope.kind = .function := by rfl)
    (h1 : (∀ y ∈ scope.names, y.2 ≠ .cell) ∧ (∀ y ∈ scope.names, y.2 = .local → scope.names.lookup y.1 = some .local) ∧ scope.names.lookup x = some .local ∧ (∀ y ∈ scope.names, y.2 = .free → y.1 ∈ N'.tail) ∧ N'.Nodup ∧ N'[0]? = some x ∧
      ∀ y ∈ N'.tail, scope.names.lookup y = some .free ∧ (y, NameKind.free) ∈ scope.names := by decide +kernel)
    (h2 : N'.tail.map X.env.kindOf = N'.tail.map fun _ => some NameKind.cell := by rfl) (h3 : N'.tail = ix.map (fun (i : Nat) => X.N.getD i Str.empty) := by rfl) (h4 : ix.all (fun i => decide (i < X.N.length)) = true := by rfl) : CompOk X scope x N' ix := by
  obtain ⟨a, b, c, d, e, f, g⟩ := h1
  refine ⟨hk, a, b, c, fun y hy h => ?_, e, f, h3, fun i hi => ?_, g⟩
  · exact List.map_inj_left.1 h2 _ (d y hy h)
  · exact of_decide_eq_true (List.all_eq_true.1 h4 i hi)
theorem rd0 (d : D) (ρ : Ev) : rdV (some (.val d) :: ρ) 0 = .ok d := rfl
theorem rd1 (a0 : Option Sl) (d : D) (ρ : Ev) : rdV (a0 :: some (.val d) :: ρ) 1 = .ok d := rfl
theorem rd2 (a0 a1 : Option Sl) (d : D) (ρ : Ev) : rdV (a0 :: a1 :: some (.val d) :: ρ) 2 = .ok d := rfl
theorem rd3 (a0 a1 a2 : Option Sl) (d : D) (ρ : Ev) : rdV (a0 :: a1 :: a2 :: some (.val d) :: ρ) 3 = .ok d := rfl
theorem rd4 (a0 a1 a2 a3 : Option Sl) (d : D) (ρ : Ev) : rdV (a0 :: a1 :: a2 :: a3 :: some (.val d) :: ρ) 4 = .ok d := rfl
theorem rd5 (a0 a1 a2 a3 a4 : Option Sl) (d : D) (ρ : Ev) : rdV (a0 :: a1 :: a2 :: a3 :: a4 :: some (.val d) :: ρ) 5 = .ok d := rfl
theorem rd6 (a0 a1 a2 a3 a4 a5 : Option Sl) (d : D) (ρ : Ev) : rdV (a0 :: a1 :: a2 :: a3 :: a4 :: a5 :: some (.val d) :: ρ) 6 = .ok d := rfl
section
variable {f : List D → R D} {ga gb gc gd : Ev → R D} {ρ : Ev}
theorem gCall1 : gCall 1 f (gACons ga fun _ => .ok []) ρ = ga ρ >>= fun x => f [x] := by
  unfold gCall gACons
  cases ga ρ <;> rfl
theorem gCall2 : gCall 2 f (gACons ga (gACons gb fun _ => .ok [])) ρ = ga ρ >>= fun x => gb ρ >>= fun y => f [x, y] := by
  unfold gCall gACons
  cases ga ρ <;> try rfl
  simp only [gACons, R.ok_bind]
  cases gb ρ <;> rfl
theorem gCall3 : gCall 3 f (gACons ga (gACons gb (gACons gc fun _ => .ok []))) ρ = ga ρ >>= fun x => gb ρ >>= fun y => gc ρ >>= fun z => f [x, y, z] := by
  unfold gCall gACons
  cases ga ρ <;> try rfl
  simp only [gACons, R.ok_bind]
  cases gb ρ <;> try rfl
  simp only [R.ok_bind]
  cases gc ρ <;> rfl
end
noncomputable def At (N : List Str) (i : Nat) (x : Str) : Prop := N[i]? = some x
theorem at0 {x : Str} {l : List Str} : At (x :: l) 0 x := rfl
theorem at1 {x : Str} {l : List Str} {y0 : Str} : At (y0 :: x :: l) 1 x := rfl
theorem at2 {x : Str} {l : List Str} {y0 y1 : Str} : At (y0 :: y1 :: x :: l) 2 x := rfl
theorem at3 {x : Str} {l : List Str} {y0 y1 y2 : Str} : At (y0 :: y1 :: y2 :: x :: l) 3 x := rfl
theorem at4 {x : Str} {l : List Str} {y0 y1 y2 y3 : Str} : At (y0 :: y1 :: y2 :: y3 :: x :: l) 4 x := rfl
theorem at5 {x : Str} {l : List Str} {y0 y1 y2 y3 y4 : Str} : At (y0 :: y1 :: y2 :: y3 :: y4 :: x :: l) 5 x := rfl
theorem at6 {x : Str} {l : List Str} {y0 y1 y2 y3 y4 y5 : Str} : At (y0 :: y1 :: y2 :: y3 :: y4 :: y5 :: x :: l) 6 x := rfl
theorem at7 {x : Str} {l : List Str} {y0 y1 y2 y3 y4 y5 y6 : Str} : At (y0 :: y1 :: y2 :: y3 :: y4 :: y5 :: y6 :: x :: l) 7 x := rfl
theorem at8 {x : Str} {l : List Str} {y0 y1 y2 y3 y4 y5 y6 y7 : Str} : At (y0 :: y1 :: y2 :: y3 :: y4 :: y5 :: y6 :: y7 :: x :: l) 8 x := rfl
theorem at9 {x : Str} {l : List Str} {y0 y1 y2 y3 y4 y5 y6 y7 y8 : Str} : At (y0 :: y1 :: y2 :: y3 :: y4 :: y5 :: y6 :: y7 :: y8 :: x :: l) 9 x := rfl
theorem at10 {x : Str} {l : List Str} {y0 y1 y2 y3 y4 y5 y6 y7 y8 y9 : Str} : At (y0 :: y1 :: y2 :: y3 :: y4 :: y5 :: y6 :: y7 :: y8 :: y9 :: x :: l) 10 x := rfl
theorem at11 {x : Str} {l : List Str} {y0 y1 y2 y3 y4 y5 y6 y7 y8 y9 y10 : Str} : At (y0 :: y1 :: y2 :: y3 :: y4 :: y5 :: y6 :: y7 :: y8 :: y9 :: y10 :: x :: l) 11 x := rfl
section
variable {X : Cx} {N : List Str} {i : Nat} {x : Str} {pos : Pos}
theorem k_var_0 {CX : CXT} {P : Program} {w : World} {K : PySem.W.Frag} {mg : Str → Option Value} {base : Heap} {qual : Str} {scope : Scope} {f : Addr} {cdv : Value} {A : Around} {outer : List Env} {s : Shared} {H : Hp} {E : XK} (h : At N i x)
    (hv : Vis (cxOf CX P w K mg base N qual scope f cdv A outer s H E).env.scope x := by first | exact Or.inl rfl | exact Or.inr (Or.inl rfl) | exact Or.inr (Or.inr rfl)) (hd : (x == ("__debug__" : Str)) = false := by decide)
    (hcd : (x == ("__classdict__" : Str)) = false := by decide) : QF (cxOf CX P w K mg base N qual scope f cdv A outer s H E) (.Name x pos) (fun ρ => rdV ρ i) := pf_var_0 i h hv hd hcd
theorem k_varC_0 {scope : Scope} {C : Addr} {s₂ : Shared} {H₂ : Hp} {fp : List Addr} (h : At N i x)
    (hv : Vis (compCx X N scope C s₂ H₂ fp).env.scope x := by first | exact Or.inl rfl | exact Or.inr (Or.inl rfl) | exact Or.inr (Or.inr rfl)) (hd : (x == ("__debug__" : Str)) = false := by decide)
    (hcd : (x == ("__classdict__" : Str)) = false := by decide) : QF (compCx X N scope C s₂ H₂ fp) (.Name x pos) (fun ρ => rdV ρ i) := pf_var_0 i h hv hd hcd
theorem k_put_0 {CX : CXT} {P : Program} {w : World} {K : PySem.W.Frag} {mg : Str → Option Value} {base : Heap} {qual : Str} {scope : Scope} {f : Addr} {cdv : Value} {A : Around} {outer : List Env} {s : Shared} {H : Hp} {E : XK} {e : Expr} {p : Pos} {ga : Ev → R D} (h : At N i x) (hN : N.Nodup)
    (he : QF (cxOf CX P w K mg base N qual scope f cdv A outer s H E) e ga) (hx : Loc (cxOf CX P w K mg base N qual scope f cdv A outer s H E).env.scope x := by first | exact Or.inl rfl | exact Or.inr rfl)
    (hs : swapsWithSole [.Name x p] e pos.line (cxOf CX P w K mg base N qual scope f cdv A outer s H E).env = pure false := by rfl) (hw : swappedStores [.Name x p] e (cxOf CX P w K mg base N qual scope f cdv A outer s H E).env = pure none := by rfl)
    (hf : (cxOf CX P w K mg base N qual scope f cdv A outer s H E).fn x = true ∨ (cxOf CX P w K mg base N qual scope f cdv A outer s H E).env.scope.names.lookup x = some .local := by first | exact .inl rfl | exact .inr rfl) :
    QSF (cxOf CX P w K mg base N qual scope f cdv A outer s H E) (.Assign [.Name x p] e pos) (oSet i ga) := k_set_0 i hN he h hx hs hw hf
end
end L2
namespace L2
open PySem PySem.Spec PyProof.Rows
theorem gA1_len {ga : Ev → R D} {ρ : Ev} {ds : List D} (h : gACons ga (fun _ => .ok []) ρ = .ok ds) : ds.length ≤ 1 := by
  unfold gACons at h
  cases e : ga ρ with
  | ok x => rw [e] at h; cases h; exact Nat.le_refl _
  | ex C => rw [e] at h; cases h
  | no => rw [e] at h; cases h
structure Ref (x : Str) (C : Addr) (mg : Str → Option Value) (base : Heap) : Prop where
  ex : ∃ bm B newId initId, OwnCls x C bm newId mg base ∧ ExcBaseFacts B newId initId bm
theorem k_raise_0 {X : Cx} {x : Str} {C : Addr} {e : Expr} {ga : Ev → R D} {np cp pos : Pos} (r : Ref x C X.mg X.base) (hh : X.A.handled = none) (ha : QF X e ga) (hg : Gl X x := by rfl)
    (hdb : (x == ("__debug__" : Str)) = false := by decide) (hs : starEach [e] X.env = (false, eval e X.env) :: starEach [] X.env := by rfl) :
    QSF X (.Raise (some (.Call (.Name x np) [e] [] cp)) none pos) (oRaise C (gACons ga fun _ => .ok [])) := by
  obtain ⟨bm, B, newId, initId, Oc, FB⟩ := r.ex
  exact ps_f_raise_0 Oc FB hh hg (k_acons_0 ha pfa_nil_0 hs) hdb hs (fun ρ ds h => gA1_len h)
theorem Un.but {fs : List Addr} {H : Hp} {h h' : Heap} {C : Addr} (hs : Heap.SameBut C h h') : Un fs [C] H H h h' := by
  have ne : ∀ b, b ∉ [C] → b ≠ C := fun b hb z => hb (by rw [z]; exact List.mem_singleton.2 rfl)
  exact ⟨fun b o e _ _ hx => (hs.2 b (ne b hx)).trans e, fun b o e _ _ hx => ⟨o.slots, (hs.2 b (ne b hx)).trans e⟩, fun _ _ _ n _ => n, fun b o e hx => ⟨o, (hs.2 b (ne b hx)).trans e⟩, fun _ _ e => e, fun _ _ _ e => e, fun _ ps e => ⟨#[], by rw [Array.append_empty]; exact e⟩⟩
section
variable {X : Cx} {elt iter : Expr} {ifs : List Expr} {x : Str} {px pos : Pos} {scope : Scope} {N' : List Str} {ix : List Nat} {gi : Ev → R (List D)} {gt : Ev → R Bool} {ge : Ev → R D}
theorem comp_core_0 {tgt : Expr} {asg : D → Ev → R Ev} {n : Nat} (i : Nat) {y : Str} {py spos : Pos} (hN : X.N.Nodup) (ok : CompOkT X scope n N' ix) (hcalm : X.calm = true) (hg : ∀ C s₂ H₂ fp, PGF (compCx X N' scope C s₂ H₂ fp) tgt asg) (hown : ∀ d ρ ρ', asg d ρ = .ok ρ' → (NoOwn ρ) → NoOwn ρ') (hi : QIF X tgt iter gi) (he : ∀ C s₂ H₂ fp, QF (compCx X N' scope C s₂ H₂ fp) elt ge) (ht : ∀ C s₂ H₂ fp, PTs (compCx X N' scope C s₂ H₂ fp) ifs gt)
    (hni : X.N[i]? = some y := by rfl) (hy : X.env.scope.names.lookup y = some .local := by rfl) (hs : ∀ x, foldedSetIterable iter X.env x = pure x := by intro _; rfl)
    (hsw : swapsWith (.ListComp elt [⟨tgt, iter, ifs, 0⟩] scope pos) (some (.Name y py)) spos.line X.env = pure true := by rfl)
    {pins : List (Addr × Obj)} {s : Shared} {σ : St} {H G : Hp} {ρ : Ev} {D : Ends} (I : Inv X pins σ H s) (sE : StE X.K G H σ ρ) (hq : (gCompT n asg gi ix gt ge ρ).post (FinL X.K G H fun v H1 => D.nx (σ.set i (some v)) H1) (Exx X σ G H)) :
    wpAny (model X.prog X.w) X.A (exec (.Assign [.Name y py] (.ListComp elt [⟨tgt, iter, ifs, 0⟩] scope pos) spos) X.env) (SP X pins D) X.xe s := by
  rw [exec_Assign_Name_used _ _ _ _ hsw]
  refine wpAny_bind (wpAny_standAt (wpAny_bind ?_))
  show wpAny _ X.A (do let _ ← comprehension (.ListComp elt [⟨tgt, iter, ifs, 0⟩] scope pos) scope X.env _ (newList []) false (eval iter X.env) (some (assign (.Name y py) X.env))) _ _ s
  refine wpAny_bind (wpAny_mono (wpAny_comprehension_free (use := some (assign (.Name y py) X.env)) (Q := fun _ s' => SP X pins D .next s') rfl hs (closureFor_eq fun z hz hz2 => I.ok.has z.1 (.inl (ok.fr z hz hz2))) ok.kind ok.names ?_) (fun _ s' hq => wpAny_pure (wpAny_pure hq)) fun _ _ e => e)
  have t : tG X (fun G J items => ItOk X.K G J items) gi σ H (fun J H1 => ∃ G1 items, Up G H G1 H1 ∧ StE X.K G1 H1 σ ρ ∧ ItOk X.K G1 J items ∧ (compG asg gt ge items (innerN n ix ρ) >>= fun ds => if ds.length ≤ sizeLine then R.ok ds else .no).post (FinL X.K G H fun v H1 => D.nx (σ.set i (some v)) H1) (Exx X σ G H)) := by
    refine ⟨G, ρ, sE, ?_⟩
    unfold gCompT at hq
    cases e : gi ρ with
    | ok items => rw [e] at hq; exact fun J G1 H1 u r => ⟨G1, items, u, sE.up u, r, hq⟩
    | ex C => rw [e] at hq; exact hq
    | no => rw [e] at hq; exact hq
  refine thn (hi pins s σ H _ I t) fun v s1 h1 => thn h1 fun itv s2 h2 => ?_
  obtain ⟨it, fp, tn, J, H2, e, I2, T, st2, f2, G2, items, u2, sE2, iok, h2⟩ := h2
  subst e
  have h2' : (compG asg gt ge items (innerN n ix ρ) >>= fun ds => if ds.length ≤ sizeLine then R.ok ds else .no).post (FinL X.K G2 H2 fun v H1 => D.nx (σ.set i (some v)) H1) (Exx X σ G2 H2) :=
    h2.mono (fun ds q l vs G' H' u hl r => q l vs G' H' (u2.trans u) hl r) fun C q => q.up u2
  refine comp_blockT_0 (iter := iter) (pos := pos) (RR := fun acc C => compPost (model X.prog X.w) X.A X.xe (some (assign (.Name y py) X.env)) (fun _ s' => SP X pins D .next s') acc C) ok hcalm hg hown he ht I2 T st2 f2 sE2 iok h2' ?_
  intro Dd C s' m vs G' H' up hd hCD _ q hm hos hb hC hCl un hok
  have I3 : Inv X pins σ (upd H' Dd (.lst vs)) s' := I2.call' (ch := fp) hos un hok hb fun b hb' => by
    obtain ⟨f0, f1, f2', f3, f4, f5⟩ := f2 b hb'
    exact ⟨f3, f1, f4, f5⟩
  have lc : X.env.locals ≠ C := Nat.ne_of_lt (Nat.lt_of_lt_of_le I2.lt hCl)
  have cc : ∀ z c, X.env.cells.lookup z = some c → c ≠ C := fun z c e => by
    obtain ⟨v, q⟩ := I2.cell z c e
    exact Nat.ne_of_lt (Nat.lt_of_lt_of_le q.lt hCl)
  show wpAny (model X.prog X.w) X.A (assign (.Name y py) X.env (.ref Dd)) _ X.xe s'
  refine wpAny_assign_Name (store_ok2 I3 hN hni (.inl hy) (v := .ref Dd) rfl (fun s'' I4 ⟨a, hsb, ha⟩ => ?_) (.inr hy))
  have na : C ≠ a := by
    rcases ha with rfl | ha
    · exact lc.symm
    · exact (cc _ _ ha).symm
  refine ⟨m, hm.sameBut hsb na, fun h' hs' => ?_⟩
  have I5 := I4.call' (s' := { s'' with heap := h' }) (H' := upd H' Dd (.lst vs)) (ch := [C]) rfl (Un.but hs') (I4.hok.sameBut (fun b o hbc e => (hs'.2 b hbc).trans e) (by rw [upd_ne hCD]; exact hC)) I4.bare fun b hb' => by
    rw [List.mem_singleton.1 hb']
    exact ⟨.inr (Nat.le_trans I2.sz hCl), lc.symm, cc, fun p hp z => Nat.lt_irrefl _ (Nat.lt_of_lt_of_le (z ▸ Heap.lt_size (I2.pin p hp).1) hCl)⟩
  exact ⟨_, _, I5, q⟩
theorem k_compAG_0 {tgt : Expr} {asg : D → Ev → R Ev} {n : Nat} (i : Nat) {y : Str} {py spos : Pos} (hN : X.N.Nodup) (ok : CompOkT X scope n N' ix) (hcalm : X.calm = true) (hg : ∀ C s₂ H₂ fp, PGF (compCx X N' scope C s₂ H₂ fp) tgt asg) (hown : ∀ d ρ ρ', asg d ρ = .ok ρ' → (NoOwn ρ) → NoOwn ρ') (hi : QIF X tgt iter gi) (he : ∀ C s₂ H₂ fp, QF (compCx X N' scope C s₂ H₂ fp) elt ge) (ht : ∀ C s₂ H₂ fp, PTs (compCx X N' scope C s₂ H₂ fp) ifs gt)
    (hni : X.N[i]? = some y := by rfl) (hy : X.env.scope.names.lookup y = some .local := by rfl) (hs : ∀ x, foldedSetIterable iter X.env x = pure x := by intro _; rfl)
    (hsw : swapsWith (.ListComp elt [⟨tgt, iter, ifs, 0⟩] scope pos) (some (.Name y py)) spos.line X.env = pure true := by rfl) :
    QSF X (.Assign [.Name y py] (.ListComp elt [⟨tgt, iter, ifs, 0⟩] scope pos) spos) (oOwn i (gCompT n asg gi ix gt ge)) := fun G₀ H₀ pins s σ H D I h => by
  obtain ⟨G, ρ, sr, h⟩ := h
  have h : OutR X G₀ H₀ D ((gCompT n asg gi ix gt ge ρ).out ρ fun ds => .nx (ρ.set i (some (.own ds)))) := h
  refine comp_core_0 i hN ok hcalm hg hown hi he ht hni hy hs hsw I sr.e ?_
  cases q : gCompT n asg gi ix gt ge ρ with
  | ok ds => rw [q] at h; exact fun l vs G' H' u hl r => h _ G' _ ((sr.ups u).setOwn hl r i)
  | ex C => rw [q] at h; exact Exx.of sr h
  | no => rw [q] at h; exact h
theorem k_compA_0 (i : Nat) {y : Str} {py spos : Pos} (hN : X.N.Nodup) (ok : CompOk X scope x N' ix) (hcalm : X.calm = true) (hi : QIF X (.Name x px) iter gi) (he : ∀ C s₂ H₂ fp, QF (compCx X N' scope C s₂ H₂ fp) elt ge) (ht : ∀ C s₂ H₂ fp, PTs (compCx X N' scope C s₂ H₂ fp) ifs gt)
    (hni : X.N[i]? = some y := by rfl) (hy : X.env.scope.names.lookup y = some .local := by rfl) (hs : ∀ x, foldedSetIterable iter X.env x = pure x := by intro _; rfl)
    (hsw : swapsWith (.ListComp elt [⟨.Name x px, iter, ifs, 0⟩] scope pos) (some (.Name y py)) spos.line X.env = pure true := by rfl) :
    QSF X (.Assign [.Name y py] (.ListComp elt [⟨.Name x px, iter, ifs, 0⟩] scope pos) spos) (oOwn i (gComp gi ix gt ge)) :=
  k_compAG_0 (n := 1) (asg := setV 0) i hN ok.t hcalm (fun C s₂ H₂ fp => pgf_name (X := compCx X N' scope C s₂ H₂ fp) (pos := px) 0 ok.nd ok.hd (.inl (lookup_relabel_local ok.loc)) (.inr (lookup_relabel_local ok.loc))) setV_own hi he ht hni hy hs hsw
end
noncomputable def oExt (i : Nat) (ga : Ev → R D) : Ev → O := fun ρ => (ownAt ρ i).out ρ fun ds => (ga ρ).out ρ fun d => (asL d).out ρ fun es => if ds.length + es.length ≤ sizeLine then .nx (ρ.set i (some (.own (ds ++ es)))) else .no
noncomputable def oApp (i : Nat) (ga : Ev → R D) : Ev → O := fun ρ => (ownAt ρ i).out ρ fun ds => (ga ρ).out ρ fun d => if ds.length < sizeLine then .nx (ρ.set i (some (.own (ds ++ [d])))) else .no
noncomputable def oPar (i j : Nat) (gl : Ev → R (List D)) : Ev → O := fun ρ => (gl ρ).out ρ fun ds => (setVs [i, j] ds ρ).out ρ .nx
section
variable {X : Cx} {st : Stmt} {rest body : List Stmt} {e c o : Expr} {es : List Expr} {g : Ev → O} {ga : Ev → R D} {gl : Ev → R (List D)} {pos p p2 : Pos}
theorem k_extend_0 (i : Nat) {x : Str} {p ap cp : Pos} (he : QF X e ga) (hi : X.N[i]? = some x := by rfl) (hv : Vis X.env.scope x := by first | exact Or.inl rfl | exact Or.inr (Or.inl rfl))
    (hd : (x == ("__debug__" : Str)) = false := by decide) (hcd : (x == ("__classdict__" : Str)) = false := by decide) (hs1 : starEach [e] X.env = (false, eval e X.env) :: starEach [] X.env := by rfl)
    (hbase : attributeBase (.Name x p) "extend" X.env (eval (.Name x p) X.env) = eval (.Name x p) X.env := by rfl)
    (hfew : ((backTo cp (starEach [e] X.env)).all (fun x => !x.1) && (backToKw cp (keywordEach [] X.env)).all (fun x => x.1.isSome)
      && decide ([e].length + ([] : List Keyword).length + (if ([] : List Keyword).isEmpty then 0 else 1) < 30)) = true := by rfl)
    (hline : (ap.endLine == cp.line) = true := by rfl)
    (hs : swapsWith (.Call (.Attribute (.Name x p) "extend" ap) [e] [] cp) none pos.line X.env = pure false := by rfl) :
    QSF X (.Expr (.Call (.Attribute (.Name x p) "extend" ap) [e] [] cp) pos) (oExt i ga) := ps_f_extend_0 i he hi hv hd hcd hs1 hbase hfew hline hs
theorem k_append_0 (i : Nat) {x : Str} {p ap cp : Pos} (he : QF X e ga) (hi : X.N[i]? = some x := by rfl) (hv : Vis X.env.scope x := by first | exact Or.inl rfl | exact Or.inr (Or.inl rfl))
    (hd : (x == ("__debug__" : Str)) = false := by decide) (hcd : (x == ("__classdict__" : Str)) = false := by decide) (hs1 : starEach [e] X.env = (false, eval e X.env) :: starEach [] X.env := by rfl)
    (hbase : attributeBase (.Name x p) "append" X.env (eval (.Name x p) X.env) = eval (.Name x p) X.env := by rfl)
    (hfew : ((backTo cp (starEach [e] X.env)).all (fun x => !x.1) && (backToKw cp (keywordEach [] X.env)).all (fun x => x.1.isSome)
      && decide ([e].length + ([] : List Keyword).length + (if ([] : List Keyword).isEmpty then 0 else 1) < 30)) = true := by rfl)
    (hline : (ap.endLine == cp.line) = true := by rfl)
    (hs : swapsWith (.Call (.Attribute (.Name x p) "append" ap) [e] [] cp) none pos.line X.env = pure false := by rfl) :
    QSF X (.Expr (.Call (.Attribute (.Name x p) "append" ap) [e] [] cp) pos) (oApp i ga) := ps_f_append_0 i he hi hv hd hcd hs1 hbase hfew hline hs
theorem k_frz_0 {sts : List Stmt} (i : Nat) (h : QSsF X sts g) : QSsF X sts (oFrz i g) := pss_f_frz_0 i h
theorem k_count_0 {ap cp : Pos} (ho : QF X o ga) (ha : QFA X [e] gl) (hbase : attributeBase o "count" X.env (eval o X.env) = eval o X.env := by rfl)
    (hfew : ((backTo cp (starEach [e] X.env)).all (fun x => !x.1) && (backToKw cp (keywordEach [] X.env)).all (fun x => x.1.isSome)
      && decide ([e].length + ([] : List Keyword).length + (if ([] : List Keyword).isEmpty then 0 else 1) < 30)) = true := by rfl)
    (hline : (ap.endLine == cp.line) = true := by rfl) (hs : starEach [e] X.env = (false, eval e X.env) :: starEach [] X.env := by rfl) :
    QF X (.Call (.Attribute o "count" ap) [e] [] cp) (gMeth "list" countF ga gl) := pf_count_0 ho ha hbase hfew hline hs
theorem k_index_0 {ap cp : Pos} (ho : QF X o ga) (ha : QFA X [e] gl) (hbase : attributeBase o "index" X.env (eval o X.env) = eval o X.env := by rfl)
    (hfew : ((backTo cp (starEach [e] X.env)).all (fun x => !x.1) && (backToKw cp (keywordEach [] X.env)).all (fun x => x.1.isSome)
      && decide ([e].length + ([] : List Keyword).length + (if ([] : List Keyword).isEmpty then 0 else 1) < 30)) = true := by rfl)
    (hline : (ap.endLine == cp.line) = true := by rfl) (hs : starEach [e] X.env = (false, eval e X.env) :: starEach [] X.env := by rfl) :
    QF X (.Call (.Attribute o "index" ap) [e] [] cp) (gMeth "list" indexF ga gl) := pf_index_0 ho ha hbase hfew hline hs
end
structure Errs (K : PySem.W.Frag) (mg : Str → Option Value) (rs : List Addr) (ts : List (Str × Addr)) : Prop where
  na : ∀ t ∈ ts, mg t.1 = some (.ref t.2)
  ec : ∀ r ∈ rs, ExcCls K r
  kit : ∀ r ∈ rs, ∀ t ∈ ts, PySem.W.kitOne K (.ref r) (.ref t.2) = some (r == t.2)
  ve : ∀ r ∈ rs, PySem.W.kitOne K (.ref r) (.type "ValueError") = some true
  le : ∃ L, mg "LineError" = some (.ref L) ∧ ∀ r ∈ rs, PySem.W.exmOne K (.ref r) (.ref L) = some true
noncomputable def isOf (rs : List Addr) (T : Addr) (C : Addr) : Option Bool := if C ∈ rs then some (C == T) else none
noncomputable def isVE (rs : List Addr) (C : Addr) : Option Bool := if C ∈ rs then some true else none
section
variable {X : Cx} {e : Expr} {ga : Ev → R D} {p p2 pos : Pos} {rs : List Addr} {ts : List (Str × Addr)}
theorem k_isErr_0 {y : Str} {T : Addr} (Er : Errs X.K X.mg rs ts) (hy : (y, T) ∈ ts) (hm : X.mg "isinstance" = none) (ha : QF X e ga) (hg : Gl X "isinstance" := by rfl) (hg2 : Gl X y := by rfl) (hd : (y == ("__debug__" : Str)) = false := by decide)
    (hs1 : starEach [e, .Name y p2] X.env = (false, eval e X.env) :: starEach [.Name y p2] X.env := by rfl) : QF X (.Call (.Name "isinstance" p) [e, .Name y p2] [] pos) (gThen (isEx (isOf rs T)) ga) := by
  refine pf_isEx_0 (v2 := .ref T) (u2 := .ref T) (isOf rs T) (fun C b h => ?_) hg hm (pe_glob hg2 (Er.na _ hy) rfl hd) rfl (fun u h => h) ha hs1
  unfold isOf at h
  split at h
  · rename_i hC
    cases h
    exact ⟨Er.ec _ hC, Er.kit _ hC _ hy⟩
  · cases h
end
section
variable {X : Cx} {e : Expr} {ga : Ev → R D} {p p2 pos : Pos} {rs : List Addr} {ts : List (Str × Addr)}
theorem k_isVE_0 (Er : Errs X.K X.mg rs ts) (hm : X.mg "isinstance" = none) (hm2 : X.mg "ValueError" = none) (ha : QF X e ga) (hg : Gl X "isinstance" := by rfl) (hg2 : Gl X "ValueError" := by rfl)
    (hs1 : starEach [e, .Name "ValueError" p2] X.env = (false, eval e X.env) :: starEach [.Name "ValueError" p2] X.env := by rfl) : QF X (.Call (.Name "isinstance" p) [e, .Name "ValueError" p2] [] pos) (gThen (isEx (isVE rs)) ga) := by
  refine pf_isEx_0 (v2 := .ty "ValueError") (u2 := .type "ValueError") (isVE rs) (fun C b h => ?_) hg hm (pe_bltn hg2 hm2 rfl rfl) rfl (fun u h => h) ha hs1
  unfold isVE at h
  split at h
  · rename_i hC
    cases h
    exact ⟨Er.ec _ hC, Er.ve _ hC⟩
  · cases h
end
section
variable {CX : CXT} {P : Program} {w : World} {K : PySem.W.Frag} {mg : Str → Option Value} {base : Heap} {N : List Str} {i : Nat} {x : Str} {qual : Str} {scope : Scope} {f a : Addr} {cdv : Value} {A : Around} {outer : List Env} {s : Shared} {H : Hp} {E : XK} {pn : List (Addr × Obj)} {xe : Value → Shared → Prop} {pos p : Pos} {e : Expr} {ga : Ev → R D}
theorem k_varS_0 (h : At N i x) (hv : Vis (cxOf CX P w K mg base N qual scope f cdv A outer s H E).env.scope x := by first | exact Or.inl rfl | exact Or.inr (Or.inl rfl) | exact Or.inr (Or.inr rfl)) (hd : (x == ("__debug__" : Str)) = false := by decide)
    (hcd : (x == ("__classdict__" : Str)) = false := by decide) : QF (sutCx (cxOf CX P w K mg base N qual scope f cdv A outer s H E) a xe) (.Name x pos) (fun ρ => rdV ρ i) := pf_var_0 i h hv hd hcd
theorem k_putS_0 (h : At N i x) (hN : N.Nodup) (he : QF (sutCx (cxOf CX P w K mg base N qual scope f cdv A outer s H E) a xe) e ga) (hx : Loc (cxOf CX P w K mg base N qual scope f cdv A outer s H E).env.scope x := by first | exact Or.inl rfl | exact Or.inr rfl)
    (hs : swapsWithSole [.Name x p] e pos.line (cxOf CX P w K mg base N qual scope f cdv A outer s H E).env = pure false := by rfl) (hw : swappedStores [.Name x p] e (cxOf CX P w K mg base N qual scope f cdv A outer s H E).env = pure none := by rfl)
    (hf : (cxOf CX P w K mg base N qual scope f cdv A outer s H E).fn x = true ∨ (cxOf CX P w K mg base N qual scope f cdv A outer s H E).env.scope.names.lookup x = some .local := by first | exact .inl rfl | exact .inr rfl) :
    QSF (sutCx (cxOf CX P w K mg base N qual scope f cdv A outer s H E) a xe) (.Assign [.Name x p] e pos) (oSet i ga) := k_set_0 i hN he h hx hs hw hf
end
section
variable {X : Cx} {body suite : List Stmt} {b₀ : Stmt} {gb gs : Ev → O} {pos hp tp : Pos} {nm : Str} {rs : List Addr} {ts : List (Str × Addr)}
end
end L2
namespace L2
open PySem PySem.Spec PyProof.Rows
noncomputable def fl : Nat → D → Bool
  | 0, _ => false
  | n + 1, .tup xs => xs.all (fl n)
  | _ + 1, .lst _ _ => false
  | _ + 1, .exc _ => false
  | _ + 1, _ => true
section
variable {X : Cx} {st : Stmt} {rest body a b : List Stmt} {e c tg : Expr} {g g1 g2 : Ev → O} {ga gb : Ev → R D} {gt : Ev → R Bool} {gl : Ev → R (List D)} {pos : Pos}
noncomputable def oIfP (i : Nat) (gt : Ev → R Bool) (g1 g2 : Ev → O) : Ev → O := fun ρ => (noEx (gt (frz i ρ))).out ρ fun k => if k = true then g1 ρ else g2 ρ
noncomputable def oSetP (j i : Nat) (ga : Ev → R D) : Ev → O := fun ρ => (noEx (ga (frz j ρ))).out ρ fun d => if fl 10 d = true then .nx (ρ.set i (some (.val d))) else .no
noncomputable def oAppP (j i : Nat) (ga : Ev → R D) : Ev → O := fun ρ => (ownAt ρ i).out ρ fun ds => (noEx (ga (frz j ρ))).out ρ fun d => if ds.length < sizeLine ∧ fl 10 d = true then .nx (ρ.set i (some (.own (ds ++ [d])))) else .no
noncomputable def oItem (i : Nat) (gk ga : Ev → R D) : Ev → O := fun ρ => (ownAt ρ i).out ρ fun ds => (noEx (ga (frz i ρ))).out ρ fun d => (noEx (gk (frz i ρ) >>= asI)).out ρ fun k => match ixN ds.length k with
  | some n => if fl 10 d = true then .nx (ρ.set i (some (.own (ds.set n d)))) else .no
  | none => .no
noncomputable def seqD : D → R (List D)
  | .lst _ xs => .ok xs
  | .tup xs => .ok xs
  | _ => .no
noncomputable def oneK : List D → R (List D)
  | [d] => seqD d
  | _ => .no
noncomputable def gSeq1 (gl : Ev → R (List D)) : Ev → R (List D) := fun ρ => gl ρ >>= oneK
end
end L2
namespace L2
open PySem PySem.Spec PyProof.Rows PySem.W
section
variable {X : Cx} {pins : List (Addr × Obj)} {σ : St} {G H : Hp} {s : Shared} {A : Around} {E : Value → Shared → Prop} {Q : Value → Shared → Prop}
end
section
variable {X : Cx} {e : Expr} {ga : Ev → R D} {p p2 p3 p4 pos : Pos} {k : Nat}
end
noncomputable def strsD : List D → Option (List (List Nat))
  | [] => some []
  | .str x :: ds => (strsD ds).map (x :: ·)
  | _ => none
noncomputable def joinL (sep : List Nat) : List (List Nat) → List Nat
  | [] => []
  | [x] => x
  | x :: y :: r => x ++ sep ++ joinL sep (y :: r)
noncomputable def joinD : D → List D → Option D
  | .str s, [.lst _ ds] => match strsD ds with
    | some xs => if (xs.map List.length).sum + xs.length * s.length ≤ sizeLine then some (.str (joinL s xs)) else none
    | none => none
  | _, _ => none
theorem Reps.strs {K : PySem.W.Frag} {G : Hp} : ∀ {vs : List V} {ds : List D} {xs : List (List Nat)}, Reps K G vs ds → strsD ds = some xs → ∃ ys : List Str, vs = ys.map V.str ∧ ys.map (fun y => y.cps.toList) = xs
  | _, _, _, .nil, h => by cases h; exact ⟨[], rfl, rfl⟩
  | _, _, xs, .cons (d := d) r t, h => by
    cases d <;> first | (cases h; done) | skip
    rename_i x
    rename_i ds'
    cases q : strsD ds' with
    | none => simp [strsD, q] at h
    | some zs =>
      simp [strsD, q] at h
      obtain ⟨ys, e1, e2⟩ := Reps.strs t q
      obtain ⟨y, rfl, ey, _⟩ := r.str_inv
      exact ⟨y :: ys, by rw [e1]; rfl, by rw [List.map_cons, e2, ey]; exact h⟩
theorem Vals.strs : ∀ {ys : List Str} {us : List Value}, Vals (ys.map V.str) us → StrsAre us ys
  | [], _, h => by cases h; exact .nil
  | y :: ys, _, h => by
    cases h with
    | cons a b =>
      obtain ⟨t, rfl⟩ := a
      exact .cons y t (Vals.strs b)
theorem join_list_eq (s : Str) : ∀ ys : List Str, (Txt.join s ys).cps.toList = joinL s.cps.toList (ys.map fun y => y.cps.toList) := by
  intro ys
  show (Builtin.Str.glued s ys).cps.toList = _
  rw [StrLaws.glued_eq_join]
  induction ys with
  | nil => rfl
  | cons y r ih =>
    cases r with
    | nil => rfl
    | cons z r =>
      show (y ++ s ++ Str.join s (z :: r)).cps.toList = _
      rw [Str.app_list, Str.app_list, ih]; rfl
theorem joinL_length (s : List Nat) : ∀ xs : List (List Nat), (joinL s xs).length ≤ (xs.map List.length).sum + xs.length * s.length
  | [] => by simp [joinL]
  | [x] => by simp [joinL]
  | x :: y :: r => by
    have := joinL_length s (y :: r)
    simp only [joinL, List.length_append, List.map_cons, List.sum_cons, List.length_cons, Nat.succ_mul] at this ⊢
    omega
noncomputable def rJoin (K : PySem.W.Frag) : V → List V → Hp → VK → Prop := fun x vs H Q => ∃ (y : Str) (p : Addr) (ys : List Str), x = .str y ∧ vs = [.ref p] ∧ SqL K H p (ys.map V.str) ∧ (ys.map (·.length)).sum + ys.length * y.length ≤ 16777216 ∧ Q (.str (Txt.join y ys)) H
theorem mt_join {X : Cx} : MtR X "str.join" (rJoin X.K) := by
  intro pins s σ H x xs v us Q I rx rv ⟨y, p, ys, ex, exs, hl, hz, q⟩
  subst ex exs
  obtain ⟨t, rfl⟩ := rx
  obtain ⟨u, rfl, r1⟩ := rv.one
  cases r1
  obtain ⟨its, rvs, pl, _⟩ := I.list hl
  exact join_list pl.isList (Vals.strs (by simpa using rvs)) hz fun t' k => ⟨.str _, H, I.tok _, ⟨_, rfl⟩, q⟩
theorem ok_join (K : PySem.W.Frag) : MROk K "str" (rJoin K) joinD := by
  intro G H x xs dx ds d Q s rx rs e q
  unfold joinD at e
  split at e
  · split at e
    · rename_i zs hz
      split at e
      · rename_i hle
        cases e
        obtain ⟨v, rfl, r1⟩ := rs.one
        obtain ⟨y, rfl, ey, hy⟩ := rx.str_inv
        obtain ⟨a, vs, rfl, hs, rr⟩ := r1.seq_inv
        obtain ⟨ys, e1, e2⟩ := rr.strs hz
        subst e1
        subst e2
        subst ey
        have hle' : (ys.map (·.length)).sum + ys.length * y.length ≤ 16777216 := by
          have e3 : (ys.map fun y => y.cps.toList).map List.length = ys.map (·.length) := by
            rw [List.map_map]; exact List.map_congr_left fun z _ => Str.len_list z
          rw [e3, List.length_map, Str.len_list] at hle
          exact hle
        refine ⟨y, a, ys, rfl, rfl, hs.mono s, hle', q _ G H (.refl s) (.strL (join_list_eq y ys) ?_)⟩
        exact Nat.le_trans (joinL_length _ _) hle
      · cases e
    · cases e
  · cases e
theorem k_join_0 {X : Cx} {o e : Expr} {ga : Ev → R D} {gl : Ev → R (List D)} {ap cp : Pos} (ho : QF X o ga) (ha : QFA X [e] gl) (hbase : attributeBase o "join" X.env (eval o X.env) = eval o X.env := by rfl)
    (hfew : ((backTo cp (starEach [e] X.env)).all (fun x => !x.1) && (backToKw cp (keywordEach [] X.env)).all (fun x => x.1.isSome)
      && decide ([e].length + ([] : List Keyword).length + (if ([] : List Keyword).isEmpty then 0 else 1) < 30)) = true := by rfl)
    (hline : (ap.endLine == cp.line) = true := by rfl) (hs : starEach [e] X.env = (false, eval e X.env) :: starEach [] X.env := by rfl) :
    QF X (.Call (.Attribute o "join" ap) [e] [] cp) (gMeth "str" joinD ga gl) := pf_meth_0 PySem.F.plainAttrs_str PySem.F.slot_str_join PySem.F.type_str_join mt_join (ok_join _) ho ha hbase hfew hline hs rfl
section
variable {X : Cx}
end
end L2
namespace L2
open PySem PySem.Spec PyProof.Rows
open Sem (wp)
open AutoSeq1 (wpAny_loadPart')
section
variable {prog : Program} {w : World} {A : Around} {E : Value → Shared → Prop} {s : Shared}
end
section
variable {prog : Program} {w : World} {A : Around} {E : Value → Shared → Prop} {s : Shared}
end
section
variable {P : Program} {w : World} {K : PySem.W.Frag} {elts : List Expr} {kt : Nat} {tp : Pos}
structure Inner (P : Program) (w : World) (K : PySem.W.Frag) (sq : Hp → List V → Prop) (a it : Addr) (iter : Nat → Heap → Prop) : Prop where
  obj : ∀ i h, iter i h → ∃ o, h.get? it = some o ∧ ∀ v, o.data ≠ .cell v
  at_ : ∀ i h h', iter i h → (∀ o, h.get? it = some o → h'.get? it = some o) → iter i h'
  inj : ∀ (X : Cx), X.K = K → ∀ (pins : List (Addr × Obj)) (σ : St) (H : Hp) (s : Shared) xs ys, Inv X pins σ H s → sq H xs → sq H ys → xs = ys
  dr : ∀ (X : Cx), X.prog = P → X.w = w → X.K = K → X.calm = true → ∀ (pins : List (Addr × Obj)) (σ : St) (H : Hp) (s : Shared) (xs : List V) (c : Nat), Inv X pins σ H s → sq H xs → (∀ i, iter i s.heap → a ≠ it) →
    ∃ its : List Value, Vals xs its ∧ xs.length ≤ sizeLine ∧ ∃ (Pd : Nat → Value → Prop) (St : Nat → Heap → Prop), Draws P w X.A.in1 it [it, a] (c + its.length) Pd St ∧ (∀ k v, Pd (c + k) v → its[k]? = some v) ∧
      (∀ k h, iter k h → (∀ o, s.heap.get? a = some o → h.get? a = some o) → a ≠ it → St (c + k) h) ∧ ∀ k h, St (c + k) h → iter k h
  fin : ∀ (X : Cx), X.prog = P → X.w = w → X.K = K → X.calm = true → ∀ (pins : List (Addr × Obj)) (σ : St) (H : Hp) (s : Shared) (xs : List V) (i : Nat) (Q : Value → Shared → Prop) (E : Value → Shared → Prop), Inv X pins σ H s → sq H xs → xs.length ≤ i → iter i s.heap →
    (∀ h' x, Heap.ExtBut it s.heap h' → (∃ o, h'.get? x = some o ∧ o.cls = .type "StopIteration") → E (.ref x) { s with heap := h' }) → wpAny (model P w) X.A.in1 (Builtin.SmallTypes.nextOf (.ref it)) Q E s
end
end L2
namespace L2
open PySem PySem.Spec PyProof.Rows
noncomputable def numbered (c : Nat) (xs : List D) : List D := (List.range xs.length).map fun i => .tup [.int ((c + i : Nat) : Int), xs.getD i .non]
section
variable {X : Cx} {pins : List (Addr × Obj)} {σ : St} {H : Hp} {s : Shared} {elts : List Expr} {kt : Nat} {tp : Pos} {Rr : It → Hp → Prop}
end
noncomputable def enumAt : D → D → R (List D)
  | .tup xs, .int c => if 0 ≤ c ∧ c < 1073741824 then .ok (numbered c.toNat xs) else .no
  | _, _ => .no
section
variable {X : Cx} {a b : Expr} {ga gb : Ev → R D} {elts : List Expr} {kt : Nat} {p pos tp kp : Pos}
noncomputable def gEnumS (ga gb : Ev → R D) : Ev → R (List D) := fun ρ => ga ρ >>= fun x => gb ρ >>= fun c => enumAt x c
end
end L2
namespace L2
open PySem PySem.Spec PyProof.Rows
section
variable {X : Cx} {elt iter tgt : Expr} {ifs : List Expr} {pos : Pos} {scope : Scope} {n : Nat} {N' : List Str} {ix : List Nat} {asg : D → Ev → R Ev} {gi : Ev → R (List D)} {gt : Ev → R Bool} {ge : Ev → R D}
end
section
variable {X : Cx}
end
noncomputable def oParO (i j : Nat) (ga : Ev → R D) (gl : Ev → R (List D)) : Ev → O := fun ρ => (ga ρ).out ρ fun d => (gl ρ).out ρ fun ds => .nx ((ρ.set i (some (.val d))).set j (some (.own ds)))
section
variable {X : Cx} {ga : Ev → R D} {gl : Ev → R (List D)} {pos : Pos}
theorem k_parO_0 (i j : Nat) {x y : Str} {a b : Expr} {px py pt pt2 : Pos} {kt k2 : Nat} (hc : X.calm = true) (hN : X.N.Nodup) (ha : QF X a ga) (hb : QFL X b gl) (hij : i ≠ j := by decide) (hi : X.N[i]? = some x := by rfl) (hj : X.N[j]? = some y := by rfl)
    (hx : X.env.scope.names.lookup x = some .local := by rfl) (hy : X.env.scope.names.lookup y = some .local := by rfl)
    (hw : swappedStores [.Tuple [.Name x px, .Name y py] kt pt] (.Tuple [a, b] k2 pt2) X.env = pure (some [x, y]) := by rfl)
    (hs : swapsWithSole [.Tuple [.Name x px, .Name y py] kt pt] (.Tuple [a, b] k2 pt2) pos.line X.env = pure false := by rfl)
    (h1 : starEach [a, b] X.env = (false, eval a X.env) :: starEach [b] X.env := by rfl) (h2 : starEach [b] X.env = (false, eval b X.env) :: starEach [] X.env := by rfl) :
    QSF X (.Assign [.Tuple [.Name x px, .Name y py] kt pt] (.Tuple [a, b] k2 pt2) pos) (oParO i j ga gl) := fun G₀ H₀ pins s σ H D I h => by
  refine ps_par hc hN hi hj hij hx hy (pa_cons ha (pa_cons hb pa_nil h2) h1) hw hs pins s σ H D I ?_
  obtain ⟨G, ρ, sr, h⟩ := h
  have h : OutR X G₀ H₀ D ((ga ρ).out ρ fun d => (gl ρ).out ρ fun ds => .nx ((ρ.set i (some (.val d))).set j (some (.own ds)))) := h
  refine ⟨G, ρ, sr.e, ?_⟩
  cases q : ga ρ with
  | ok d =>
    rw [q] at h
    intro v G1 H1 u1 r1
    refine ⟨G1, ρ, (sr.ups u1).e, ?_⟩
    cases q2 : gl ρ with
    | ok ds =>
      simp only [R.out, q2] at h
      exact fun l vs G2 H2 u2 hl r2 => ⟨_, _, rfl, h _ G2 _ ((((sr.ups u1).ups u2).set (r1.mono u2.gg) i).setOwn hl r2 j)⟩
    | ex C => simp only [R.out, q2] at h; exact Exx.of (sr.ups u1) h
    | no => simp only [R.out, q2] at h; exact h
  | ex C => rw [q] at h; exact Exx.of sr h
  | no => rw [q] at h; exact h
end
end L2
namespace L2
open PySem PySem.Spec PyProof.Rows
section
variable {P : Program} {w : World} {K : PySem.W.Frag} {elts : List Expr} {kt : Nat} {tp : Pos}
end
section
variable {X : Cx} {a b : Expr} {gl : Ev → R (List D)} {elts : List Expr} {kt : Nat} {p pos tp : Pos}
end
end L2
namespace L2
open PySem PySem.Spec PyProof.Rows
theorem sliceRange_down (n : Nat) : sliceRange ((n : Int) - 1) (-1) (-1) = (List.range n).map fun k => n - 1 - k := by
  unfold sliceRange
  rw [if_neg (by omega)]
  dsimp only
  have e : (if (n : Int) - 1 > -1 then ((n : Int) - 1 - (-1) - (-1) - 1) / (- -1) else 0).toNat = n := by
    split
    · have : ((n : Int) - 1 - (-1) - (-1) - 1) / (- -1) = (n : Int) := by
        rw [show (- -1 : Int) = 1 by omega, Int.ediv_one]; omega
      rw [this, Int.toNat_natCast]
    · omega
  rw [e]
  refine List.map_congr_left fun k hk => ?_
  rw [List.mem_range] at hk
  omega
theorem pick_down {α : Type} (xs : List α) : ((List.range xs.length).map fun k => xs.length - 1 - k).filterMap (fun i : Nat => xs[i]?) = xs.reverse := by
  have h : ((List.range xs.length).map fun k => xs.length - 1 - k).filterMap (fun i : Nat => xs[i]?) = (List.range xs.length).filterMap fun k => xs[xs.length - 1 - k]? := by
    rw [List.filterMap_map]; rfl
  rw [h]
  have e : xs.reverse = (List.range xs.reverse.length).filterMap fun k => xs.reverse[k]? := by
    have := pickL xs.reverse 0 xs.reverse.length
    simp only [List.drop_zero, List.take_length, Nat.zero_add, List.map_id'] at this
    exact this.symm
  rw [e, List.length_reverse]
  have g : ∀ l : List Nat, (∀ k ∈ l, k < xs.length) → (l.filterMap fun k => xs[xs.length - 1 - k]?) = l.filterMap fun k => xs.reverse[k]? := by
    intro l
    induction l with
    | nil => intro _; rfl
    | cons k l ih =>
      intro hk
      rw [List.filterMap_cons, List.filterMap_cons, List.getElem?_reverse (hk k (List.mem_cons_self ..)), ih fun j m => hk j (List.mem_cons_of_mem _ m)]
  exact g _ fun k hk => List.mem_range.1 hk
theorem slicePick_rev (its : List Value) : slicePick its.toArray none none (some (-1)) = its.reverse.toArray := by
  unfold slicePick
  have e1 : (sliceBounds none none (some (-1)) its.toArray.size).1 = (its.length : Int) - 1 := by simp [sliceBounds]
  have e2 : (sliceBounds none none (some (-1)) its.toArray.size).2.1 = -1 := by simp [sliceBounds]
  have e3 : (sliceBounds none none (some (-1)) its.toArray.size).2.2 = -1 := by simp [sliceBounds]
  rw [e1, e2, e3, sliceRange_down]
  congr 1
  have e : (fun i : Nat => its.toArray[i]?) = (fun i : Nat => its[i]?) := by funext i; simp
  rw [e, pick_down]
theorem strIx_rev (n : Nat) : PySem.Builtin.Str.strSliceIndices none none (-1) n = (List.range n).map fun k => n - 1 - k := by
  rw [← sliceRange_down]
  unfold PySem.Builtin.Str.strSliceIndices
  first | rfl | simp
noncomputable def revD : D → D → R D
  | .str x, .int k => if k = -1 then .ok (.str x.reverse) else .no
  | .lst _ xs, .int k => if k = -1 then .ok (.lst false xs.reverse) else .no
  | _, _ => .no
noncomputable def gRev (ga gs : Ev → R D) : Ev → R D := fun ρ => ga ρ >>= fun x => gs ρ >>= fun k => revD x k
section
variable {X : Cx} {a st : Expr} {ga gs : Ev → R D} {pos p2 : Pos}
theorem Vals.rev : ∀ {xs : List V} {its : List Value}, Vals xs its → Vals xs.reverse its.reverse
  | _, _, .nil => .nil
  | _, _, .cons r t => by
    rw [List.reverse_cons, List.reverse_cons]
    exact (Vals.rev t).append (.cons r .nil)
theorem Reps.rev {K : PySem.W.Frag} {G : Hp} : ∀ {xs : List V} {ds : List D}, Reps K G xs ds → Reps K G xs.reverse ds.reverse
  | _, _, .nil => .nil
  | _, _, .cons r t => by
    rw [List.reverse_cons, List.reverse_cons]
    exact (Reps.rev t).append (.cons r .nil)
theorem k_rev_0 (ha : QF X a ga) (hs : QF X st gs) : QF X (.Subscript a (.Slice none none (some st) p2) pos) (gRev ga gs) := by
  intro pins s σ H Q I h
  obtain ⟨G, ρ, sE, h⟩ := h
  have ta : tF X ga σ H (fun v H1 => ∃ G1 d, Up G H G1 H1 ∧ StE X.K G1 H1 σ ρ ∧ Rep X.K G1 v d ∧ (gs ρ >>= fun k => revD d k).post (Fin G1 H1 (Rep X.K) Q) (Exx X σ G1 H1)) :=
    tG.intro sE h fun d v G1 H1 u1 st1 r1 h1 => ⟨G1, d, u1, st1, r1, h1⟩
  refine Subscript_ (thn (ha pins s σ H _ I ta) fun v s1 ⟨x, H1, I1, r1, G1, d, u1, st1, rd, h1⟩ => ?_)
  have tb : tF X gs σ H1 (fun w H2 => ∃ G2 k, Up G1 H1 G2 H2 ∧ Same G2 H2 ∧ Rep X.K G2 w k ∧ (revD d k).post (Fin G2 H2 (Rep X.K) Q) (Exx X σ G2 H2)) :=
    tG.intro st1 h1 fun k w G2 H2 u2 st2 r2 h2 => ⟨G2, k, u2, st2.sub, r2, h2⟩
  refine wpAny_Slice ?_
  rw [evalPart_none]
  refine wpAny_pure (wpAny_pure ?_)
  rw [evalPart_some]
  refine thn (hs pins s1 σ H1 _ I1 tb) fun w s3 ⟨y, H3, I3, r3, G3, k, u3, sub3, rk, h3⟩ => ?_
  have I4 : Inv X pins σ H3 { s3 with heap := s3.heap.push { cls := .type "slice", data := .fields #[.none, .none, w] } } := I3.kept (t' := s3.toks) fun b ob q => Heap.get?_push_of_some _ q
  have rd' := rd.mono u3.gg
  suffices hg : ∃ T id, typeLookup (.type T) "__getitem__" = pure (some (.builtin id)) ∧ Shared.TypeIs { s3 with heap := s3.heap.push { cls := .type "slice", data := .fields #[.none, .none, w] } } v T ∧ wpAny (model X.prog X.w) X.A (getItem v (.ref s3.heap.objs.size)) (EP X pins σ Q) X.xe { s3 with heap := s3.heap.push { cls := .type "slice", data := .fields #[.none, .none, w] } } by
    obtain ⟨T, id, hT, ht, hg⟩ := hg
    show wpAny (model X.prog X.w) X.A (subscriptTail a (.Slice none none (some st) p2) v (.ref s3.heap.objs.size)) (EP X pins σ Q) X.xe { s3 with heap := s3.heap.push { cls := .type "slice", data := .fields #[.none, .none, w] } }
    exact tail_any (ops := [v, .ref s3.heap.objs.size]) ht hT hg (by with_unfolding_all rfl)
  cases rk with
  | int c =>
    obtain ⟨tk, rfl⟩ := r3
    by_cases hc : c = -1
    · subst hc
      cases rd' with
      | str z hz =>
        obtain ⟨tz, rfl⟩ := r1
        have h3 : (R.ok (D.str z.cps.toList.reverse)).post (Fin G3 H3 (Rep X.K) Q) (Exx X σ G3 H3) := h3
        have hn : z.cps.toList.length = z.length := by simp [Str.length]
        have ew : (if ((-1 : Int) == 1 && (slicePicked z none none (some (-1, tk))).length == z.length) = true then z else ⟨((slicePicked z none none (some (-1, tk))).filterMap (fun i : Nat => z.cps[i]?)).toArray⟩ : Str).cps.toList = z.cps.toList.reverse := by
          rw [if_neg (by simp)]
          have e1 : slicePicked z none none (some (-1, tk)) = (List.range z.cps.toList.length).map fun k => z.cps.toList.length - 1 - k := by rw [hn]; exact strIx_rev z.length
          rw [e1]
          have e : (fun i : Nat => z.cps[i]?) = (fun i : Nat => z.cps.toList[i]?) := by funext i; simp
          show (List.filterMap (fun i : Nat => z.cps[i]?) _).toArray.toList = _
          rw [List.toList_toArray, e, pick_down]
        have el : (z.cps.toList.reverse).length ≤ sizeLine := by rw [List.length_reverse, hn]; exact hz
        refine ⟨"str", _, F.slot_str_getitem.lookup, typeIs_str _ _ _, wpAny_getItem_str_slice (l := none) (u := none) (st := some (-1, tk)) ⟨_, Heap.get?_push_size _ rfl, rfl, rfl⟩ rfl ?_⟩
        refine post_val_or_str ⟨?_, fun t' k => ⟨.str _, H3, I4.tok k, ⟨t', rfl⟩, h3 _ G3 H3 (.refl sub3) (.strL ew el)⟩⟩
        have := congrArg List.length ew
        rw [List.length_reverse, hn] at this
        exact Nat.le_trans (Nat.le_of_eq ((Str.len_list _).symm.trans this)) hz
      | lst hq t =>
        cases r1
        have sq := (show SqL X.K G3 _ _ from .of hq)
        obtain ⟨its, rv, pl, hzz⟩ := I4.list (sq.mono sub3)
        have h3 : (R.ok (D.lst false _)).post (Fin G3 H3 (Rep X.K) Q) (Exx X σ G3 H3) := h3
        refine ⟨"list", _, slot_list_getitem.lookup, pl.isList.typeIs, ?_⟩
        refine wpAny_getItem_list_slice pl.isList (Heap.IsSliceOf.new ..) .none .none (.int (-1) tk) (by decide) ?_ (by rw [List.size_toArray, ← rv.length]; exact hzz)
        rw [slicePick_rev]
        refine ⟨.ref _, _, I4.laid (t' := s3.toks) (o := .lst _) (fun b ob q => Heap.get?_push_of_some _ q) (Nat.le_refl _) ⟨by rw [List.length_reverse]; exact hzz, _, 0, rv.rev, Heap.get?_push_size _ rfl⟩, rfl, ?_⟩
        exact h3 _ _ _ (.new sub3 (I4.hok.fresh (Nat.le_refl _))) (.lst upd_same (t.rev.mono (.into (sub3.free (I4.hok.fresh (Nat.le_refl _))))))
      | fls hq t =>
        cases r1
        have sq := hq
        obtain ⟨its, rv, pl, hzz⟩ := I4.list (sq.mono sub3)
        have h3 : (R.ok (D.lst false _)).post (Fin G3 H3 (Rep X.K) Q) (Exx X σ G3 H3) := h3
        refine ⟨"list", _, slot_list_getitem.lookup, pl.isList.typeIs, ?_⟩
        refine wpAny_getItem_list_slice pl.isList (Heap.IsSliceOf.new ..) .none .none (.int (-1) tk) (by decide) ?_ (by rw [List.size_toArray, ← rv.length]; exact hzz)
        rw [slicePick_rev]
        refine ⟨.ref _, _, I4.laid (t' := s3.toks) (o := .lst _) (fun b ob q => Heap.get?_push_of_some _ q) (Nat.le_refl _) ⟨by rw [List.length_reverse]; exact hzz, _, 0, rv.rev, Heap.get?_push_size _ rfl⟩, rfl, ?_⟩
        exact h3 _ _ _ (.new sub3 (I4.hok.fresh (Nat.le_refl _))) (.lst upd_same (t.rev.mono (.into (sub3.free (I4.hok.fresh (Nat.le_refl _))))))
      | _ => exact h3.elim
    · cases d <;> first | exact h3.elim | (simp only [revD, if_neg hc] at h3; exact h3.elim)
  | _ => cases d <;> exact h3.elim
end
end L2
namespace L2
open PySem PySem.Spec PyProof.Rows
noncomputable def whileD (gt : Ev → R Bool) (g : Ev → O) : Nat → Ev → O
  | 0, _ => .no
  | n + 1, ρ => (gt ρ).out ρ fun k => if k = true then (match g ρ with
    | .nx ρ2 => whileD gt g n ρ2
    | .ct ρ2 => whileD gt g n ρ2
    | .bk ρ2 => .nx ρ2
    | .rt d => .rt d
    | .re d ρ2 => .re d ρ2
    | .ex C ρ2 => .ex C ρ2
    | .no => .no) else .nx ρ
noncomputable def oWhile (n : Nat) (gt : Ev → R Bool) (g : Ev → O) : Ev → O := fun ρ => whileD gt g n ρ
section
variable {X : Cx} {c e : Expr} {body : List Stmt} {gt : Ev → R Bool} {g : Ev → O} {ga : Ev → R D} {pos : Pos}
end
end L2
namespace L2
open PySem PySem.Spec PyProof.Rows
noncomputable def pickK (gs : List (Ev → R D)) (ρ : Ev) : D → R D
  | .int i => if 0 ≤ i then (match gs[i.toNat]? with
    | some g => g ρ
    | none => .no) else .no
  | _ => .no
noncomputable def gPick (gs : List (Ev → R D)) (gi : Ev → R D) : Ev → R D := fun ρ => gi ρ >>= pickK gs ρ
theorem a_pick {gs : List (Ev → R D)} {gi : Ev → R D} {ρ : Ev} : gPick gs gi ρ = gi ρ >>= pickK gs ρ := rfl
theorem pick_0 {g : Ev → R D} {gs : List (Ev → R D)} {ρ : Ev} : pickK (g :: gs) ρ (.int 0) = g ρ := rfl
theorem pick_1 {f g : Ev → R D} {gs : List (Ev → R D)} {ρ : Ev} : pickK (f :: g :: gs) ρ (.int 1) = g ρ := rfl
noncomputable def inD (x : D) : List D → Option Bool
  | [] => some false
  | y :: ys => (eqD 40 y x).bind fun k => if k = true then some true else inD x ys
noncomputable def inF : D → D → Option D
  | x, .lst _ ys => if inD x ys = some false then some (.bl false) else none
  | _, _ => none
section
variable {X : Cx} {a b ix e : Expr} {es : List Expr} {ga gb gi : Ev → R D} {gl : Ev → R (List D)} {pos p1 p2 pl sp : Pos}
end
end L2
namespace L2
open PySem PySem.Spec PyProof.Rows
section
variable {X : Cx} {a b : Expr} {ga gb : Ev → R D} {pos : Pos}
theorem pf_globS_0 {x z : Str} {l : List Nat} {t : Tok} (hg : Gl X x) (hm : X.mg x = some (.str z t)) (hl : z.cps.toList = l := by rfl) (hz : l.length ≤ 1000 := by decide) (hd : (x == ("__debug__" : Str)) = false := by decide) : QF X (.Name x pos) (fun _ => .ok (.str l)) :=
  pf_const_0 (pe_glob (v := .str z) hg hm ⟨t, rfl⟩ hd) fun _ _ => .strL hl (Nat.le_trans hz (by decide))
structure KTup (K : PySem.W.Frag) (c : Addr) (ls : List (List Nat)) : Prop where
  ex : ∃ (o : Obj) (its : Array Value) (n : Nat) (vs : List V), K.lookup c = some o ∧ o.cls = .type "tuple" ∧ o.data = .seq its n ∧ its.size ≤ sizeLine ∧ Vals vs its.toList ∧ ∀ G, Reps K G vs (ls.map .str)
end
end L2
namespace L2
open PySem PySem.Spec PyProof.Rows
noncomputable def decL (n : Nat) : List Nat := (Nat.toDigits 10 n).map Char.toNat
theorem log_small {i : Int} (h0 : 0 ≤ i) (h1 : i < 10000000000) : i.natAbs.log2 < 1920 := by
  by_cases h : i.natAbs = 0
  · rw [h]; decide
  · refine (Nat.log2_lt h).2 (Nat.lt_of_lt_of_le (show i.natAbs < 2 ^ 34 by omega) (Nat.pow_le_pow_right (by decide) (by decide)))
theorem dec_list {i : Int} (h0 : 0 ≤ i) : (Str.ofString (toString i)).cps.toList = decL i.toNat := by
  obtain ⟨m, rfl⟩ := Int.eq_ofNat_of_zero_le h0
  exact PySem.W.KIN.signs_num m
theorem dec_len {i : Int} (h0 : 0 ≤ i) (h1 : i < 10000000000) : (decL i.toNat).length ≤ sizeLine := by
  rw [← dec_list h0, Str.len_list]; exact int_text_fits (log_small h0 h1)
section
variable {X : Cx} {a b c e e1 e2 e3 e4 e5 : Expr} {ga gb gc g1 g2' g3' g4 g5 : Ev → R D} {gl : Ev → R (List D)} {pos p : Pos}
noncomputable def fmtD : D → R D
  | .int i => if 0 ≤ i ∧ i < 10000000000 then .ok (.str (decL i.toNat)) else .no
  | .str x => .ok (.str x)
  | _ => .no
theorem k_fmt_0 (h : QF X e ga) : QF X (.FormattedValue e (-1) none pos) (gThen fmtD ga) := by
  intro pins s σ H Q I q
  obtain ⟨G, ρ, st, q⟩ := q
  refine FormattedValue_plain (thn (h pins s σ H (fun v H1 => ∃ G1 d, Up G H G1 H1 ∧ Rep X.K G1 v d ∧ StE X.K G1 H1 σ ρ ∧ (fmtD d).post (Fin G1 H1 (Rep X.K) Q) (Exx X σ G1 H1)) I ?_) fun u s1 ⟨v, H1, I1, r1, q1⟩ => ?_)
  · exact tG.intro st q fun d v G1 H1 u1 st1 r1 h1 => ⟨G1, d, u1, r1, st1, h1⟩
  · obtain ⟨G1, d, u1, rr, st1, h1⟩ := q1
    unfold fmtD at h1
    split at h1
    · split at h1
      · rename_i hc
        obtain rfl := rr.int_inv
        obtain ⟨t, rfl⟩ := r1
        exact wpAny_formatField_int (log_small hc.1 hc.2) ⟨.str _, H1, I1.tok _, ⟨_, rfl⟩, h1 _ G1 H1 (.refl st1.sub) (.strL (dec_list hc.1) (dec_len hc.1 hc.2))⟩
      · exact h1.elim
    · obtain ⟨y, rfl, ey, hy⟩ := rr.str_inv
      obtain ⟨t, rfl⟩ := r1
      exact formatField_str (fun t' tk => ⟨.str _, H1, I1.tok _, ⟨_, rfl⟩, h1 _ G1 H1 (.refl st1.sub) rr⟩) hy
    · exact h1.elim
noncomputable def joinG : List (Ev → R D) → List Nat → Ev → R D
  | [], out => fun _ => .ok (.str out)
  | g :: gs, out => fun ρ => g ρ >>= fun d => match d with
    | .str x => if (out ++ x).length ≤ sizeLine then joinG gs (out ++ x) ρ else .no
    | _ => .no
noncomputable def gFstr (gs : List (Ev → R D)) : Ev → R D := joinG gs []
theorem joins_nil {out : Str} {pins : List (Addr × Obj)} {s : Shared} {σ : St} {H G : Hp} {ρ : Ev} {Q : VK} (I : Inv X pins σ H s) (st : StE X.K G H σ ρ) (hz : out.length ≤ sizeLine)
    (h : (joinG [] out.cps.toList ρ).post (Fin G H (Rep X.K) Q) (Exx X σ G H)) : wpAny (model X.prog X.w) X.A (joinParts out []) (EP X pins σ Q) X.xe s :=
  joinParts_nil ⟨.str _, H, I.tok _, ⟨_, rfl⟩, h _ G H (.refl st.sub) (.str out hz)⟩ hz
theorem joins_cons_0 {out : Str} {pins : List (Addr × Obj)} {s : Shared} {σ : St} {H G : Hp} {ρ : Ev} {Q : VK} {gs : List (Ev → R D)} {rest : List (Sem Value)} (he : QF X e ga) (I : Inv X pins σ H s) (st : StE X.K G H σ ρ)
    (h : (joinG (ga :: gs) out.cps.toList ρ).post (Fin G H (Rep X.K) Q) (Exx X σ G H))
    (k : ∀ (out' : Str) (s1 : Shared) (H1 G1 : Hp), Inv X pins σ H1 s1 → StE X.K G1 H1 σ ρ → out'.length ≤ sizeLine → (joinG gs out'.cps.toList ρ).post (Fin G1 H1 (Rep X.K) Q) (Exx X σ G1 H1) → wpAny (model X.prog X.w) X.A (joinParts out' rest) (EP X pins σ Q) X.xe s1) :
    wpAny (model X.prog X.w) X.A (joinParts out (eval e X.env :: rest)) (EP X pins σ Q) X.xe s := by
  refine joinParts_cons (thn (he pins s σ H (fun v H1 => ∃ G1 d, StE X.K G1 H1 σ ρ ∧ Rep X.K G1 v d ∧ (match d with
    | .str x => if (out.cps.toList ++ x).length ≤ sizeLine then joinG gs (out.cps.toList ++ x) ρ else .no
    | _ => .no : R D).post (Fin G1 H1 (Rep X.K) Q) (Exx X σ G1 H1)) I ?_) fun u s1 ⟨v, H1, I1, r1, q1⟩ => ?_)
  · exact tG.intro st h fun d v G1 H1 u1 st1 r1 h1 => ⟨G1, d, st1, r1, h1⟩
  · obtain ⟨G1, d, st1, rr, h1⟩ := q1
    split at h1
    · split at h1
      · rename_i hc
        obtain ⟨y, rfl, ey, hy⟩ := rr.str_inv
        obtain ⟨t, rfl⟩ := r1
        subst ey
        have e1 : (out ++ y).cps.toList = out.cps.toList ++ y.cps.toList := Str.app_list ..
        have e2 : (out ++ y).length ≤ sizeLine := by rw [← Str.len_list, e1]; exact hc
        exact ⟨e2, k _ s1 H1 G1 I1 st1 e2 (by rw [e1]; exact h1)⟩
      · exact h1.elim
    · exact h1.elim
theorem k_fstr3_0 (h1 : QF X e1 g1) (h2 : QF X e2 g2') (h3 : QF X e3 g3') : QF X (.JoinedStr [e1, e2, e3] pos) (gFstr [g1, g2', g3']) := by
  intro pins s σ H Q I q
  obtain ⟨G, ρ, st, q⟩ := q
  refine JoinedStr_many ?_
  show wpAny _ _ (joinParts Str.empty [eval e1 X.env, eval e2 X.env, eval e3 X.env]) _ _ _
  refine joins_cons_0 h1 I st (out := Str.empty) q fun o1 s1 H1 G1 I1 st1 z1 q1 => joins_cons_0 h2 I1 st1 q1 fun o2 s2 H2 G2 I2 st2 z2 q2 => joins_cons_0 h3 I2 st2 q2 fun o3 s3 H3 G3 I3 st3 z3 q3 => joins_nil I3 st3 z3 q3
noncomputable def valL (x : List Nat) : Nat := x.foldl (fun a c => a * 10 + (c - 48)) 0
noncomputable def digL (x : List Nat) : Bool := x.all fun c => decide (48 ≤ c) && decide (c ≤ 57)
noncomputable def intSF : List D → Option D
  | [.str x] => if digL (x.dropWhile (· == 32)) = true ∧ x.dropWhile (· == 32) ≠ [] ∧ x.length ≤ 640 then some (.int ((valL (x.dropWhile (· == 32)) : Nat) : Int)) else none
  | _ => none
theorem int_blank {x : Str} (hd : digL (x.cps.toList.dropWhile (· == 32)) = true) (hn : x.cps.toList.dropWhile (· == 32) ≠ []) (hl : x.length ≤ 640) : PySem.intText? x = some ((valL (x.cps.toList.dropWhile (· == 32)) : Nat) : Int) := by
  have hA : NumText.AllDigits (x.cps.toList.dropWhile (· == 32)) := fun c hc => by
    have := List.all_eq_true.1 hd c hc
    simp only [Bool.and_eq_true, decide_eq_true_eq] at this
    exact this
  have key : ∀ l : List Nat, NumText.AllDigits (l.dropWhile (· == 32)) → l.dropWhile (· == 32) ≠ [] → (l.dropWhile NumText.blank = l.dropWhile (· == 32)) ∧ ∀ c ∈ l, c = 32 ∨ 48 ≤ c ∧ c ≤ 57 := by
    intro l
    induction l with
    | nil => intro _ h; exact absurd rfl h
    | cons c l ih =>
      intro h1 h2
      by_cases e : c = 32
      · subst e
        have e1 : (32 :: l).dropWhile (· == 32) = l.dropWhile (· == 32) := List.dropWhile_cons_of_pos (by decide)
        rw [e1] at h1 h2 ⊢
        obtain ⟨a, b⟩ := ih h1 h2
        refine ⟨?_, fun d hd => ?_⟩
        · rw [List.dropWhile_cons_of_pos (by decide)]; exact a
        · rcases List.mem_cons.1 hd with rfl | hd
          · exact .inl rfl
          · exact b d hd
      · have e1 : (c :: l).dropWhile (· == 32) = c :: l := List.dropWhile_cons_of_neg (by simpa using e)
        rw [e1] at h1 h2 ⊢
        exact ⟨NumText.dropWhile_digits h1, fun d hd => .inr (h1 d hd)⟩
  obtain ⟨k1, k2⟩ := key _ hA hn
  have t1 : numTextOf x = x.cps.toList := if_pos (by
    rw [← Array.all_toList]; exact List.all_eq_true.2 fun c hc => by have := k2 c hc; exact decide_eq_true (by omega))
  have t2 : numSeenOf x = x.cps.toList := by
    show List.takeWhile _ (numTextOf x) = _
    rw [t1]; exact NumText.takeWhile_all fun c hc => by have := k2 c hc; exact bne_iff_ne.2 (by omega)
  let y : Str := ⟨(x.cps.toList.dropWhile (· == 32)).toArray⟩
  have ey : y.cps.toList = x.cps.toList.dropWhile (· == 32) := List.toList_toArray ..
  have hy : y.length ≤ 4300 := by
    rw [← Str.len_list, ey]
    have : (x.cps.toList.dropWhile (· == 32)).length ≤ x.cps.toList.length := (List.dropWhile_suffix _).length_le
    rw [Str.len_list] at this
    omega
  have r := intText_digits (x := y) (by rw [ey]; exact hA) (by rw [ey]; exact hn) hy
  obtain ⟨u1, u2⟩ := numText_signs (x := y) fun c hc => .inr (hA c (by rw [← ey]; exact hc))
  have b1 : x.cps.toList.dropWhile NumText.blank = (x.cps.toList.dropWhile (· == 32)).dropWhile NumText.blank := by rw [k1, NumText.dropWhile_digits hA]
  unfold intText? at r ⊢
  rw [u1, u2, ey, if_pos (beq_self_eq_true _)] at r
  rw [t1, t2, if_pos (beq_self_eq_true _)]
  unfold NumText.core at r ⊢
  rw [b1]
  exact r
noncomputable def rIntS : List V → Hp → VK → Prop := fun xs H Q => ∃ (y : Str) (n : Int), xs = [.str y] ∧ PySem.intText? y = some n ∧ y.length ≤ 640 ∧ Q (.int n) H
theorem call_intS : CallR X (.type "int") rIntS := by
  intro pins s σ H xs us Q I r ⟨y, n, ex, h0, h1, q⟩
  subst ex
  obtain ⟨u, rfl, r1⟩ := r.one
  obtain ⟨t, rfl⟩ := r1
  exact PySem.W.KIN.call_text h0 h1 ⟨.int _, H, I.tok _, ⟨_, rfl⟩, q⟩
theorem ok_intS (K : PySem.W.Frag) : CROk K rIntS intSF := by
  intro G H xs ds d Q s r e q
  unfold intSF at e
  split at e
  · split at e
    · rename_i hc
      cases e
      obtain ⟨v, rfl, r1⟩ := r.one
      obtain ⟨y, rfl, ey, hy⟩ := r1.str_inv
      subst ey
      rw [Str.len_list] at hc
      exact ⟨y, _, rfl, int_blank hc.1 hc.2.1 hc.2.2, hc.2.2, q _ G H (.refl s) (.int _)⟩
    · cases e
  · cases e
theorem k_intS_0 (hg : Gl X "int") (hm : X.mg "int" = none) (ha : QFA X [e] gl) (he : starEach [e] X.env = (false, eval e X.env) :: starEach [] X.env := by rfl) :
    QF X (.Call (.Name "int" p) [e] [] pos) (gOf intSF gl) := pf_callTy_0 call_intS (ok_intS _) hg hm PyProof.Rows.Boot.«int» ha (by decide) (by decide) he rfl
end
end L2
namespace L2
open PySem PySem.Spec PyProof.Rows
noncomputable def splitL (c : Nat) : List Nat → List (List Nat)
  | [] => [[]]
  | d :: r => if d = c then [] :: splitL c r else (match splitL c r with
    | p :: ps => (d :: p) :: ps
    | [] => [[d]])
theorem splitL_one {c : Nat} : ∀ {p : List Nat}, c ∉ p → splitL c p = [p]
  | [], _ => rfl
  | d :: p, h => by
    have h1 : ¬ d = c := fun z => h (by rw [z]; exact List.mem_cons_self ..)
    have h2 := splitL_one (c := c) (p := p) fun z => h (List.mem_cons_of_mem _ z)
    rw [splitL, if_neg h1, h2]
theorem splitL_app {c : Nat} (r : List Nat) : ∀ {p : List Nat}, c ∉ p → splitL c (p ++ c :: r) = p :: splitL c r
  | [], _ => by rw [List.nil_append, splitL, if_pos rfl]
  | d :: p, h => by
    have h1 : ¬ d = c := fun z => h (by rw [z]; exact List.mem_cons_self ..)
    have h2 := splitL_app r (c := c) (p := p) fun z => h (List.mem_cons_of_mem _ z)
    rw [List.cons_append, splitL, if_neg h1, h2]
theorem splitL_join {c : Nat} : ∀ {ps : List (List Nat)}, ps ≠ [] → (∀ p ∈ ps, c ∉ p) → splitL c (joinL [c] ps) = ps
  | [], h, _ => absurd rfl h
  | [p], _, h => splitL_one (h p (List.mem_cons_self ..))
  | p :: q :: r, _, h => by
    have ih := splitL_join (c := c) (ps := q :: r) (by simp) fun z hz => h z (List.mem_cons_of_mem _ hz)
    show splitL c (p ++ [c] ++ joinL [c] (q :: r)) = _
    rw [List.append_assoc]
    show splitL c (p ++ c :: joinL [c] (q :: r)) = _
    rw [splitL_app _ (h p (List.mem_cons_self ..)), ih]
theorem split_ne (x y : Str) : Txt.split x y ≠ [] := by
  unfold Txt.split
  split
  · simp
  · split
    · simp
    · intro z
      have := congrArg List.length z
      rw [length_partsBetween] at this
      simp at this
theorem split_list (x : Str) (c : Nat) : (Txt.split x ⟨#[c]⟩).map (fun y => y.cps.toList) = splitL c x.cps.toList := by
  have h1 := StrLaws.join_split x ⟨#[c]⟩
  have h2 := join_list_eq ⟨#[c]⟩ (Txt.split x ⟨#[c]⟩)
  have h3 : Txt.join ⟨#[c]⟩ (Txt.split x ⟨#[c]⟩) = x := (StrLaws.glued_eq_join _ _).trans h1
  rw [h3] at h2
  rw [h2]
  refine (splitL_join (c := c) (by simpa using split_ne x _) fun p hp => ?_).symm
  obtain ⟨y, hy, rfl⟩ := List.mem_map.1 hp
  exact StrLaws.split_free x c y hy
theorem splitL_len (c : Nat) : ∀ x : List Nat, (splitL c x).length ≤ x.length + 1
  | [] => by simp [splitL]
  | d :: r => by
    have ih := splitL_len c r
    unfold splitL
    split
    · simp; omega
    · split
      · rename_i p ps e
        rw [e] at ih
        simp at ih ⊢; omega
      · simp
theorem splitL_le (c : Nat) : ∀ (x : List Nat), ∀ p ∈ splitL c x, p.length ≤ x.length
  | [], p, h => by simp [splitL] at h; subst h; simp
  | d :: r, p, h => by
    have ih := splitL_le c r
    unfold splitL at h
    split at h
    · rcases List.mem_cons.1 h with rfl | h
      · simp
      · have := ih p h; simp; omega
    · split at h
      · rename_i q ps e
        rw [e] at ih
        rcases List.mem_cons.1 h with rfl | h
        · have := ih q (List.mem_cons_self ..); simp; omega
        · have := ih p (List.mem_cons_of_mem _ h); simp; omega
      · simp at h; subst h; simp
noncomputable def splitF : D → List D → Option D
  | .str x, [.str [c]] => if x.length ≤ 10000 then some (.lst false ((splitL c x).map .str)) else none
  | _, _ => none
section
variable {X : Cx} {a b c e : Expr} {ga : Ev → R D} {gl : Ev → R (List D)} {pos p : Pos} {tg : Expr}
theorem split_new {prog : Program} {w : World} {A : Around} {E : Value → Shared → Prop} {s : Shared} {x y : Str} {t u : Tok} {Q : Value → Shared → Prop} (hy : (y.length == 0) = false) (hsz : x.length ≤ sizeLine)
    (hsz2 : (Builtin.Str.partsBetween x (Builtin.Str.occurrences x y 0 x.length (x.length + 1)) y.length).length ≤ sizeLine)
    (hq : ∀ (l : List (Str × Tok)) (k : Nat), l.map (·.1) = Txt.split x y → Q (.ref s.heap.objs.size) { s with toks := k, heap := s.heap.push { cls := .type "list", data := .seq (strValues l).toArray } }) :
    wpAny (model prog w) A (call (.builtin "str.split") [.str x t, .str y u]) Q E s := by
  have T := typeIs_str s x t
  by_cases g1 : (decide (x.length < y.length) || decide (Builtin.Str.strKind x < Builtin.Str.strKind y)) = true
  · exact call_meets F.slot_str_split T F.entry_str_split (F.args_str_split_2 _ _) (meets_str_split_cannot_occur x y t u g1) (hq [(x, t)] s.toks (if_pos g1).symm)
  · have g1' := eq_false_of_ne_true g1
    by_cases g2 : (Builtin.Str.occurrences x y 0 x.length (x.length + 1)).isEmpty = true
    · exact call_meets F.slot_str_split T F.entry_str_split (F.args_str_split_2 _ _) (meets_str_split_not_found x y t u g1' hy g2) (hq [(x, t)] s.toks ((if_neg g1).trans (if_pos g2)).symm)
    · have g2' := eq_false_of_ne_true g2
      have key := hq (PySem.numbered s.toks (Builtin.Str.partsBetween x (Builtin.Str.occurrences x y 0 x.length (x.length + 1)) y.length)) (s.toks + (Builtin.Str.partsBetween x (Builtin.Str.occurrences x y 0 x.length (x.length + 1)) y.length).length) ((numbered_texts _ _).trans ((if_neg g1).trans (if_neg g2)).symm)
      rw [← strsFrom_eq] at key
      exact call_meets F.slot_str_split T F.entry_str_split (F.args_str_split_2 _ _) (meets_str_split_sep x y t u g1' hy g2' hsz hsz2) key
noncomputable def rSplit : V → List V → Hp → VK → Prop := fun x vs H Q => ∃ (y : Str) (c : Nat), x = .str y ∧ vs = [.str ⟨#[c]⟩] ∧ y.length ≤ 10000 ∧ ∀ l, H l = none → Q (.ref l) (upd H l (.lst ((Txt.split y ⟨#[c]⟩).map V.str)))
theorem strVals : ∀ l : List (Str × Tok), Vals ((l.map (·.1)).map V.str) (strValues l)
  | [] => .nil
  | (y, t) :: l => .cons ⟨t, rfl⟩ (strVals l)
theorem mt_split : MtR X "str.split" rSplit := by
  intro pins s σ H x xs v us Q I rx rv ⟨y, c, ex, exs, hz, q⟩
  subst ex exs
  obtain ⟨t, rfl⟩ := rx
  obtain ⟨u, rfl, r1⟩ := rv.one
  obtain ⟨t', rfl⟩ := r1
  have big : 20000 ≤ sizeLine := by decide
  have hp : (Builtin.Str.partsBetween y (Builtin.Str.occurrences y ⟨#[c]⟩ 0 y.length (y.length + 1)) (⟨#[c]⟩ : Str).length).length ≤ sizeLine := by
    rw [length_partsBetween]
    have := StrLaws.occ_length_le y ⟨#[c]⟩ 0 y.length (y.length + 1)
    omega
  refine split_new rfl (by omega) hp fun l k hl => ?_
  have hlen : (Txt.split y ⟨#[c]⟩).length ≤ sizeLine := by
    have e := congrArg List.length (split_list y c)
    rw [List.length_map] at e
    have := splitL_len c y.cps.toList
    rw [Str.len_list] at this
    omega
  refine ⟨.ref s.heap.objs.size, _, I.laid (t' := k) (fun b o q => Heap.get?_push_of_some _ q) (Nat.le_refl _) (show ObjOk X.prog X.w _ _ _ (.lst ((Txt.split y ⟨#[c]⟩).map V.str)) from ⟨by rw [List.length_map]; exact hlen, strValues l, _, by rw [← hl]; exact strVals l, Heap.get?_push_size _ rfl⟩), rfl, q _ (I.hok.fresh (Nat.le_refl _))⟩
theorem reps_strs {K : PySem.W.Frag} {G : Hp} : ∀ ys : List Str, (∀ y ∈ ys, y.length ≤ sizeLine) → Reps K G (ys.map V.str) ((ys.map fun y => y.cps.toList).map .str)
  | [], _ => .nil
  | y :: ys, h => .cons (.str y (h y (List.mem_cons_self ..))) (reps_strs ys fun z hz => h z (List.mem_cons_of_mem _ hz))
theorem ok_split (K : PySem.W.Frag) : MROk K "str" rSplit splitF := by
  intro G H x xs dx ds d Q s rx rs e q
  unfold splitF at e
  split at e
  · split at e
    · rename_i x0 c hc
      cases e
      obtain ⟨v, rfl, r1⟩ := rs.one
      obtain ⟨i, rfl, ei, hi⟩ := rx.str_inv
      obtain ⟨j, rfl, ej, hj⟩ := r1.str_inv
      subst ei
      have : j = ⟨#[c]⟩ := (Str.of_list ej).symm
      subst this
      rw [Str.len_list] at hc
      refine ⟨i, c, rfl, rfl, hc, fun l hl => q _ _ _ (.new s hl) (.lst upd_same ?_)⟩
      rw [← split_list]
      refine Reps.mono (.into (s.free hl)) (reps_strs _ fun y hy => ?_)
      have := splitL_le c i.cps.toList y.cps.toList (by rw [← split_list]; exact List.mem_map.2 ⟨y, hy, rfl⟩)
      rw [Str.len_list, Str.len_list] at this
      exact Nat.le_trans this hi
    · cases e
  · cases e
theorem k_split_0 {o : Expr} {ap cp : Pos} (ho : QF X o ga) (ha : QFA X [e] gl) (hbase : attributeBase o "split" X.env (eval o X.env) = eval o X.env := by rfl)
    (hfew : ((backTo cp (starEach [e] X.env)).all (fun x => !x.1) && (backToKw cp (keywordEach [] X.env)).all (fun x => x.1.isSome)
      && decide ([e].length + ([] : List Keyword).length + (if ([] : List Keyword).isEmpty then 0 else 1) < 30)) = true := by rfl)
    (hline : (ap.endLine == cp.line) = true := by rfl) (hs : starEach [e] X.env = (false, eval e X.env) :: starEach [] X.env := by rfl) :
    QF X (.Call (.Attribute o "split" ap) [e] [] cp) (gMeth "str" splitF ga gl) := pf_meth_0 PySem.F.plainAttrs_str PySem.F.slot_str_split PySem.F.type_str_split mt_split (ok_split _) ho ha hbase hfew hline hs rfl
end
end L2
namespace L2
open PySem PySem.Spec PyProof.Rows
noncomputable def oOwnP (j i : Nat) (gl : Ev → R (List D)) : Ev → O := fun ρ => (noEx (gl (frz j ρ))).out ρ fun ds => if ds.all (fl 10) = true then .nx (ρ.set i (some (.own ds))) else .no
section
variable {X : Cx} {elt iter : Expr} {ifs : List Expr} {x : Str} {px pos : Pos} {scope : Scope} {N' : List Str} {ix : List Nat} {gi : Ev → R (List D)} {gt : Ev → R Bool} {ge : Ev → R D}
end
end L2
namespace L2
open PySem PySem.Spec PyProof.Rows
section
variable {prog : Program} {w : World} {A : Around} {E : Value → Shared → Prop} {s : Shared}
structure Z3 (z TI TO i1 i2 i3 l1 l2 l3 : Addr) : Prop where
  nd : [z, TI, TO, i1, i2, i3].Nodup
  ap : ∀ l ∈ [l1, l2, l3], l ∉ [z, TO, i1, i2, i3]
end
section
variable {P : Program} {w : World} {K : PySem.W.Frag} {elts : List Expr} {kt : Nat} {tp : Pos}
end
section
variable {X : Cx} {a b c : Expr} {gl : Ev → R (List D)} {elts : List Expr} {kt : Nat} {p pos tp : Pos}
end
end L2
namespace L2
open PySem PySem.Spec PyProof.Rows
section
variable {X : Cx} {a b e : Expr} {ga gb : Ev → R D} {gl : Ev → R (List D)} {pos p : Pos}
noncomputable def inSF : D → D → Option D
  | .str [c], .str y => some (.bl (decide (c ∈ y)))
  | _, _ => none
theorem ok_inS (K : PySem.W.Frag) : ROk K (fun x y H Q => ∃ i j, x = .str i ∧ y = .str j ∧ Q (.bl (!(Builtin.Str.occurrences j i 0 j.length 1).isEmpty)) H) inSF := by
  intro G H x y dx dy d Q s rx ry e q
  unfold inSF at e
  split at e
  · rename_i c z
    cases e
    obtain ⟨i, rfl, ei, hi⟩ := rx.str_inv
    obtain ⟨j, rfl, ej, hj⟩ := ry.str_inv
    have : i = ⟨#[c]⟩ := (Str.of_list ei).symm
    subst this
    refine ⟨_, j, rfl, rfl, ?_⟩
    rw [StrLaws.found_one, ej]
    exact q _ G H (.refl s) (.bl _)
  · cases e
theorem pf_inS_0 (ha : QF X a ga) (hb : QF X b gb) (hm : behindInMarks .In b = false := by rfl) : QF X (.Compare a [.In] [b] pos) (g2 inSF ga gb) := pf_cmp_0 op_in_str (ok_inS _) ha hb hm
end
end L2
namespace L2
open PySem PySem.Spec PyProof.Rows
noncomputable def compXG (asg : D → Ev → R Ev) (gt : Ev → R Bool) (ge : Ev → R D) : List D → Ev → R (List D)
  | [], _ => .ok []
  | d :: ds, ρ => noEx (asg d ρ) >>= fun ρ1 => noEx (gt ρ1) >>= fun k => if k = true then ge ρ1 >>= fun x => compXG asg gt ge ds ρ1 >>= fun xs => .ok (x :: xs) else compXG asg gt ge ds ρ1
noncomputable def gCompX (gi : Ev → R (List D)) (ix : List Nat) (gt : Ev → R Bool) (ge : Ev → R D) : Ev → R (List D) := fun ρ => gi ρ >>= fun items => if items.length ≤ sizeLine then compXG (setV 0) gt ge items (inner ix ρ) else .no
section
variable {X : Cx} {elt iter : Expr} {ifs : List Expr} {x : Str} {px pos : Pos} {scope : Scope} {N' : List Str} {ix : List Nat} {gi : Ev → R (List D)} {gt : Ev → R Bool} {ge : Ev → R D}
end
end L2
namespace L2
open PySem PySem.Spec PyProof.Rows
section
variable {X : Cx} {a b c e ix : Expr} {es : List Expr} {ga gb gi : Ev → R D} {gl : Ev → R (List D)} {pos p p1 p2 p3 pl sp : Pos}
noncomputable def endsF : D → List D → Option D
  | .str x, [.str [c]] => some (.bl (x.getLast? == some c))
  | _, _ => none
noncomputable def rEnds : V → List V → Hp → VK → Prop := fun x vs H Q => ∃ (y : Str) (c : Nat), x = .str y ∧ vs = [.str ⟨#[c]⟩] ∧ Q (.bl (Txt.endswith y ⟨#[c]⟩)) H
theorem mt_ends : MtR X "str.endswith" rEnds := by
  intro pins s σ H x xs v us Q I rx rv ⟨y, c, ex, exs, q⟩
  subst ex exs
  obtain ⟨t, rfl⟩ := rx
  obtain ⟨u, rfl, r1⟩ := rv.one
  obtain ⟨t', rfl⟩ := r1
  exact SC.endswith ⟨.bl _, H, I, rfl, q⟩
theorem ends_list (y : Str) (c : Nat) : Txt.endswith y ⟨#[c]⟩ = (y.cps.toList.getLast? == some c) := by
  have hl : y.length = y.cps.toList.length := (Str.len_list y).symm
  have key := StrLaws.subAt_one y c (y.length - 1)
  rw [List.getLast?_eq_getElem?, ← hl]
  unfold Txt.endswith
  rw [Bool.eq_iff_iff, beq_iff_eq, ← key]
  show ((decide (0 + 1 ≤ y.length) && Builtin.Str.subAt y ⟨#[c]⟩ (y.length - 1)) = true) ↔ (y.length - 1 + 1 ≤ y.length ∧ _)
  rw [Bool.and_eq_true, decide_eq_true_eq]
  constructor
  · exact fun h => ⟨by omega, h.2⟩
  · exact fun h => ⟨by omega, h.2⟩
theorem ok_ends (K : PySem.W.Frag) : MROk K "str" rEnds endsF := by
  intro G H x xs dx ds d Q s rx rs e q
  unfold endsF at e
  split at e
  · cases e
    rename_i x0 c
    obtain ⟨v, rfl, r1⟩ := rs.one
    obtain ⟨i, rfl, ei, hi⟩ := rx.str_inv
    obtain ⟨j, rfl, ej, hj⟩ := r1.str_inv
    subst ei
    have : j = ⟨#[c]⟩ := (Str.of_list ej).symm
    subst this
    refine ⟨i, c, rfl, rfl, q _ G H (.refl s) ?_⟩
    rw [ends_list]; exact .bl _
  · cases e
theorem k_ends_0 {o : Expr} {ap cp : Pos} (ho : QF X o ga) (ha : QFA X [e] gl) (hbase : attributeBase o "endswith" X.env (eval o X.env) = eval o X.env := by rfl)
    (hfew : ((backTo cp (starEach [e] X.env)).all (fun x => !x.1) && (backToKw cp (keywordEach [] X.env)).all (fun x => x.1.isSome)
      && decide ([e].length + ([] : List Keyword).length + (if ([] : List Keyword).isEmpty then 0 else 1) < 30)) = true := by rfl)
    (hline : (ap.endLine == cp.line) = true := by rfl) (hs : starEach [e] X.env = (false, eval e X.env) :: starEach [] X.env := by rfl) :
    QF X (.Call (.Attribute o "endswith" ap) [e] [] cp) (gMeth "str" endsF ga gl) := pf_meth_0 PySem.F.plainAttrs_str PySem.F.slot_str_endswith PySem.F.type_str_endswith mt_ends (ok_ends _) ho ha hbase hfew hline hs rfl
noncomputable def cutAt (c : Nat) : List Nat → Option (List Nat × List Nat)
  | [] => none
  | d :: r => if d = c then some ([], r) else (cutAt c r).map fun p => (d :: p.1, p.2)
noncomputable def partL (c : Nat) (x : List Nat) : List Nat × List Nat × List Nat := match cutAt c x with
  | some (p, q) => (p, [c], q)
  | none => (x, [], [])
noncomputable def partF : D → List D → Option D
  | .str x, [.str [c]] => if x.length ≤ 10000 then some (.tup [.str (partL c x).1, .str (partL c x).2.1, .str (partL c x).2.2]) else none
  | _, _ => none
theorem pick_2 {f g h : Ev → R D} {gs : List (Ev → R D)} {ρ : Ev} : pickK (f :: g :: h :: gs) ρ (.int 2) = h ρ := rfl
end
end L2
namespace L2
open PySem PySem.Spec PyProof.Rows
theorem fn_at {CX : CXT} {P : Program} {w : World} {K : PySem.W.Frag} {mg : Str → Option Value} {base : Heap} {k : Nat} {f : Addr} {name qual : Str} {params : Arguments} {body : List Stmt} {scope : Scope} {dV kV doc pm cdv ct oc : Value} {an od : Option Addr}
    {osl : Array (Option Value)} {N ps : List Str} {A : Around} {outer : List Env} {s : Shared} {H : Hp} {args : Args} {us : List Value} {vs : List V} {Q : VK} {E : XK} {t : TS} (lk : K.lookup f = some ⟨oc, od, .func (PySem.W.fnOf name qual params body scope dV kV doc pm an cdv ct), osl⟩) (hcd : PySem.W.codeIn K cdv qual = true) (S : FnScope N ps scope)
    (hl : vs.length = ps.length) (hr : Room (k + 1) A) (e0 : Env0 P w K mg base A outer s H) (hb : BindsTo s (PySem.W.fnOf name qual params body scope dV kV doc pm an cdv ct) args (ps.zip us)) (r : Vals vs us)
    (ht : PSs (cxOf CX P w K mg base N qual scope f cdv A outer s H E) body t) (hq : t { nx := fun _ H' => Q .non H', rt := Q } (start N vs) H) :
    codeAny (model P w) A (.call (.ref f) args) (CR CX outer P w H s Q E) s := by
  have KX : K.In s.heap := e0.mod.kin.keeps fun b o e => (e0.bs b o e).1
  have lim : s.heap.NoLimit := e0.mod.nolimit.keeps fun b o e => (e0.bs b o e).1
  have hkind : ∀ y ∈ ps.zip us, scope.names.lookup y.1 = some .local ∨ (scope.names.lookup y.1 = some .cell ∧ ((cellsFrom (s.heap.objs.size + 1) scope.names []).lookup y.1).isSome = true) := fun ⟨n, v⟩ hy => by
    rcases S.par n (List.of_mem_zip hy).1 with q | q
    · exact .inl q
    · exact .inr ⟨q, PySem.W.cellsFrom_some _ _ _ (.inl q)⟩
  refine codeAny_call_function hr.depth (KX _ _ lk) rfl S.co S.gen rfl (PySem.W.codeRec_of KX hcd) (hb _ _ _ _ ?_)
  refine wpAny_newFunctionEnv_cells S.kind hkind fun env he s1 x => ?_
  subst he
  refine ⟨lim.keeps x.toInCall.keep, codeAny_func ?_⟩
  have I : Inv (cxOf CX P w K mg base N qual scope f cdv A outer s H E) [] (start N vs) H s1 := inv_start S hr.hd e0 hl r x
  refine wpAny_mono (ht [] s1 (start N vs) H _ I hq) (fun fl s' hs => ?_) fun e s' hs => hs
  have fin : ∀ {σ' : St} {H' : Hp} {v : V} {u : Value}, Inv (cxOf CX P w K mg base N qual scope f cdv A outer s H E) [] σ' H' s' → RelV v u → Q v H' → CE outer P w H s Q u s' :=
    fun {σ' H' v u} J rv q => ⟨v, H', J.os, J.bare, J.base, J.hok, rv, q⟩
  cases fl with
  | ret u =>
    obtain ⟨v, σ', H', J, rv, q⟩ := hs
    exact fin J rv q
  | next =>
    obtain ⟨σ', H', J, q⟩ := hs
    exact fin (v := V.non) (u := Value.none) J rfl q
  | brk =>
    obtain ⟨_, _, _, q⟩ := hs
    exact False.elim q
  | cont =>
    obtain ⟨_, _, _, q⟩ := hs
    exact False.elim q

noncomputable abbrev lamCx (P : Program) (w : World) (K : PySem.W.Frag) (mg : Str → Option Value) (base : Heap) (N : List Str) (qual : Str) (scope : Scope) (cl : List (Str × Addr)) (f : Addr) (cd : Value) (A : Around) (outer : List Env) (s : Shared) (H : Hp) (E : XK) : Cx :=
  gCx P w K mg base N (PySem.W.envX qual scope s.heap.objs.size f cd cl) (fun _ => false) A outer s H E
structure ClOk (N : List Str) (scope : Scope) (cl : List (Str × Addr)) (σ : St) (H : Hp) (h : Heap) : Prop where
  kind : scope.kind = .function
  nocell : ∀ y ∈ scope.names, y.2 ≠ .cell
  inj : ∀ y z c, cl.lookup y = some c → cl.lookup z = some c → y = z
  has : ∀ y, scope.names.lookup y = some .free → ∃ c, cl.lookup y = some c
  cell : ∀ y c, cl.lookup y = some c → H c = none ∧ ∃ v, h.IsCell c v
  val : ∀ (i : Nat) y v, N[i]? = some y → σ[i]? = some (some v) → ∃ u c, RelV v u ∧ scope.names.lookup y = some .free ∧ cl.lookup y = some c ∧ h.IsCell c (some u)
  len : σ.length = N.length
theorem inv_lam {P : Program} {w : World} {K : PySem.W.Frag} {mg : Str → Option Value} {base : Heap} {N : List Str} {qual : Str} {scope : Scope} {cl : List (Str × Addr)} {f : Addr} {cd : Value} {A : Around} {outer : List Env} {s : Shared} {H : Hp} {E : XK} {σ : St} {h' : Heap} {tk : Nat}
    (C : ClOk N scope cl σ H s.heap) (hd : A.handled = none) (e0 : Env0 P w K mg base A outer s H) (hns : h'.Ns s.heap.objs.size fun x => List.lookup x ([] : List (Str × Value)).reverse)
    (hk : ∀ b o, s.heap.get? b = some o → h'.get? b = some o) :
    Inv (lamCx P w K mg base N qual scope cl f cd A outer s H E) [] σ H { s with heap := h', toks := tk } := by
  have noA : ∀ b : Addr, b ∉ (lamCx P w K mg base N qual scope cl f cd A outer s H E).ex := fun b z => absurd (show b ∈ ([] : List Addr) from z) (by simp)
  refine ⟨⟨e0.mod, C.kind, rfl, rfl, Nat.le_refl _, C.inj, fun y hy => ?_, fun y c z _ => ?_, fun _ => hd, Around.frames_deeper e0.frames, .inr ⟨rfl, rfl⟩, fun b z => absurd z (noA b), e0.bs, e0.bsz, fun b _ _ => noA b, fun b z => absurd z (noA b), e0.funs, e0.frf, e0.tabs⟩,
    rfl, e0.bare, Un.kept hk, ⟨_, hns, fun i y v h1 h2 h3 => ?_⟩, fun y c h => ?_, e0.hok.fresh (Nat.le_refl _), fun y c h => (C.cell y c h).1, fun p hp => absurd (show p ∈ ([] : List (Addr × Obj)) from hp) (by simp), e0.hok.kept hk, C.len⟩
  · have hy : scope.names.lookup y = some .cell ∨ scope.names.lookup y = some .free := hy
    rcases hy with hy | hy
    · exact absurd rfl (C.nocell _ (PySem.mem_of_lookup hy))
    · exact C.has y hy
  · cases z
  · obtain ⟨u, c, r, k, e, q⟩ := C.val i y v h1 h2
    exact ⟨u, r, .inr ⟨.inr k, c, e, q.keeps hk⟩⟩
  · obtain ⟨_, v, q⟩ := C.cell y c h
    exact ⟨v, q.keeps hk⟩
section
variable {Y : Cx} {pins : List (Addr × Obj)} {σY σ : St} {H : Hp} {s : Shared} {f : Addr} {o : Obj} {N : List Str} {qual : Str} {params : Arguments} {body : Expr} {scope : Scope} {cl : List (Str × Addr)} {pm cd ctv : Value} {k : Nat} {te : TE} {Q : VK} {E : XK}
theorem lam_call (J : Inv Y pins σY H s) (hr : Room (k + 1) Y.A) (hf : s.heap.get? f = some o) (hfd : o.data = .func (PySem.W.kla_fn "<lambda>" qual params body scope cl pm cd ctv)) (hcd : s.heap.CodeRec cd qual)
    (hp : bindArgs (PySem.W.kla_fn "<lambda>" qual params body scope cl pm cd ctv) ⟨[], []⟩ = pure []) (hco : scope.isCoroutine = false) (hge : scope.isGenerator = false) (C : ClOk N scope cl σ H s.heap)
    (hb : PE (lamCx Y.prog Y.w Y.K Y.mg Y.base N qual scope cl f cd Y.A Y.stack s H E) body te) (h : te σ H Q) :
    wpAny (model Y.prog Y.w) Y.A (call (.ref f) []) (EP Y pins σY Q) (fun e s' => CXo Y.prog Y.w Y.stack H s E e s') s := by
  have lim : s.heap.NoLimit := J.nolimit
  refine wpAny_call (codeAny_mono (R := CR (CXo Y.prog Y.w) Y.stack Y.prog Y.w H s Q E) ?_ fun r s' hq => ?_)
  · refine PySem.W.kla_callFunE hr.depth hf hfd hco hge rfl hcd (wpAny_of_eq hp ?_)
    refine wpAny_newFunctionEnv C.nocell (by intro y hy; simp at hy) (fun h₁ hns₁ hsb₁ => ?_) C.kind
    have old : ∀ b ob, s.heap.get? b = some ob → h₁.get? b = some ob := fun b ob e => hsb₁.extBut b ob (Nat.ne_of_lt (Heap.lt_size e)) (Heap.get?_push_of_some _ e)
    refine ⟨lim.keeps old, PySem.W.kla_codeExpr ?_⟩
    refine wpAny_mono (hb [] _ σ H Q (inv_lam C hr.hd J.env0 hns₁ old) h) (fun u s' hs => ?_) fun e s' hs => hs
    obtain ⟨v, H', I', rv, q⟩ := hs
    exact ⟨v, H', I'.os, I'.bare, I'.base, I'.hok, rv, q⟩
  · cases r with
    | error e => exact hq
    | ok fl =>
      cases fl with
      | ret u => exact J.after hq
      | next => exact False.elim hq
      | brk => exact False.elim hq
      | cont => exact False.elim hq
end

theorem among_snoc {pos : Pos} {a b c cv : Value} : ∀ {l : List Value}, TriplesOk l → codeAmong pos (l ++ [a, b, c]) = some cv → cv = c ∨ codeAmong pos l = some cv := fun {l} => by
  induction l using TriplesOk.induct with
  | case1 =>
    intro _ h
    left
    rw [List.nil_append, codeAmong.eq_def] at h
    repeat' split at h
    all_goals simp_all [codeAmong]
  | case2 i t j u v r ih =>
    intro ht h
    rw [TriplesOk.eq_2] at ht
    simp only [List.cons_append] at h
    rw [codeAmong.eq_1] at h ⊢
    split at h
    · rename_i q; rw [if_pos q]; exact .inr h
    · rename_i q; rw [if_neg q]; exact ih ht h
  | case3 x h1 h2 =>
    intro ht
    rw [TriplesOk.eq_3 x h1 h2] at ht
    exact ht.elim
section
variable {X : Cx} {pins : List (Addr × Obj)} {σ : St} {H : Hp} {s : Shared} {params : Arguments} {body : Expr} {scope : Scope} {pos : Pos} {c P : Addr} {ps : Array Value} {Q : Value → Shared → Prop}
structure Lam (X : Cx) (pins : List (Addr × Obj)) (σ : St) (H : Hp) (s : Shared) (params : Arguments) (body : Expr) (scope : Scope) (f : Addr) (cd ctv pm : Value) (H1 : Hp) (s1 : Shared) : Prop where
  inv : Inv X pins σ H1 s1
  hh : Same H H1
  new : ∀ a, H a = none → H1 a = none ∨ s.heap.objs.size ≤ a
  free : H1 f = none
  fn : s1.heap.get? f = some { cls := .type "function", data := .func (PySem.W.kla_fn "<lambda>" (X.env.qual ++ "<lambda>") params body scope (clOf X.env scope.names []) pm cd ctv) }
  codeH : ∃ c o vs t u, cd = .ref c ∧ H1 c = some (.frz o u) ∧ o.data = .fields vs ∧ vs[1]? = some (.str (X.env.qual ++ "<lambda>") t)
theorem lam_make (I : Inv X pins σ H s) (hdef : defaultsOf params X.env = ([], [])) (hc : X.env.code = .ref c) (hcd : PySem.W.CodeHd s.heap c P) (hT : H P = some (.tbl ps)) (hq : qualOf ps = X.env.qual ++ "<lambda>") (hbm : s.heap.BuiltinsAt X.mg P)
    (hfr : ∀ y ∈ scope.names, y.2 = .free → X.env.kindOf y.1 = some .cell) (hgP : mainGlobals ≠ P) (h : ∀ f cd ctv pm H1 s1, Lam X pins σ H s params body scope f cd ctv pm H1 s1 → Q (.ref f) s1) :
    wpAny (model X.prog X.w) X.A (eval (.Lambda params body scope pos) X.env) Q X.xe s := by
  have clos : closureFor scope X.env = pure (clOf X.env scope.names []) := closureFor_eq fun y hy hk => I.ok.has y.1 (.inl (hfr y hy hk))
  have hns : s.heap.Ns mainGlobals X.mg := by
    obtain ⟨o, es, ep, e, r⟩ := I.ok.mod.glob
    exact ⟨o, es, ep, I.bk _ _ e, r⟩
  obtain ⟨qs, hP, tr, co⟩ := I.hok P _ hT
  have neP : ∀ {b : Addr}, H b = none → b ≠ P := fun e z => by rw [z, hT] at e; cases e
  refine PySem.W.kla_eval hdef ?_
  cases q : codeAmong pos qs.toList with
  | some cv =>
    obtain ⟨c', o', vs', t', e1, e2, e3, e4⟩ := co pos cv q
    refine PySem.W.kla_makeFunctionHit clos I.ok.glob hns hc hcd hP tr q hbm fun ctv h' tk old sz => ?_
    have old2 : ∀ b o, s.heap.get? b = some o → ∀ ob, (h'.push ob).get? b = some o := fun b o e ob => Heap.get?_push_of_some _ (old b o e)
    refine h _ cv ctv _ H _ ⟨I.kept (t' := tk) fun b o e => old2 b o e _, .refl _, fun a e => .inl e, I.hok.fresh sz, Heap.get?_push_size _ rfl, ⟨c', o', vs', t', _, e1, e2, e3, ?_⟩⟩
    rw [← hq]; exact e4
  | none =>
    refine PySem.W.kla_makeFunction clos I.ok.glob hns hc hcd hP tr q hgP hbm fun c' ctv h' tk ext lo hi cr tab => ?_
    have fr : H c' = none := I.hok.fresh lo
    obtain ⟨c2, oc, vs, t, z1, z2, z3, z4⟩ := cr
    cases z1
    have old : ∀ b o, b ≠ P → s.heap.get? b = some o → ∀ ob, (h'.push ob).get? b = some o := fun b o n e ob => Heap.get?_push_of_some _ (ext b o n e)
    have neU : ∀ {b : Addr} {o : HO}, H b = some o → upd H c' (.frz oc (.own P)) b = some o := fun e => by rw [upd_ne (ne_of_none e fr)]; exact e
    have un : ∀ ob, Un (frs X.stack) [] H (upd H c' (.frz oc (.own P))) s.heap (h'.push ob) := fun ob => by
      refine ⟨fun b o e n _ _ => old b o (neP n) e ob, fun b o e n _ _ => ⟨o.slots, old b o (neP n) e ob⟩, fun b o e n _ => ?_, fun b o e _ => ?_, fun b xs e => neU e, fun b o u e => neU e, fun b ps e => ⟨#[], by rw [neU e]; simp⟩⟩
      · rw [upd_ne (fun z => by have := Heap.lt_size e; rw [z] at this; exact absurd this (Nat.not_lt.mpr lo))]; exact n
      · by_cases z : b = P
        · rw [z]; exact ⟨_, Heap.get?_push_of_some _ tab⟩
        · exact ⟨o, old b o z e ob⟩
    have hok : ∀ ob, HOk X.prog X.w (upd H c' (.frz oc (.own P))) (h'.push ob) := fun ob b o e => by
      by_cases z : b = c'
      · subst z
        rw [upd_same] at e
        cases e
        exact ⟨Heap.get?_push_of_some _ z2, oc, Heap.get?_push_of_some _ z2⟩
      · rw [upd_ne z] at e
        by_cases zP : b = P
        · subst zP
          rw [hT] at e
          cases e
          refine ⟨_, Heap.get?_push_of_some _ tab, ?_, fun pos' cv q' => ?_⟩
          · rw [Array.toList_append]; exact TriplesOk_snoc _ _ _ _ tr
          · rw [Array.toList_append] at q'
            rcases among_snoc tr q' with y | y
            · subst y
              refine ⟨c', oc, vs, t, rfl, upd_same, z3, ?_⟩
              rw [hq]; exact z4
            · obtain ⟨c2, o3, vs3, t3, y1, y2, y3⟩ := co pos' cv y
              exact ⟨c2, o3, vs3, t3, y1, neU y2, y3⟩
        · refine (I.hok b o e).stay (fun b' u hb' q' => old b' u (fun z => ?_) q' ob) (fun b' e' => neU e') (fun b' xs e' => neU e') (fun b' ob' u' e' => neU e')
          rcases hb' with hb' | hb'
          · exact zP (hb' ▸ z)
          · rw [z, hT] at hb'; cases hb'
    refine h _ (.ref c') ctv _ (upd H c' (.frz oc (.own P))) _ ⟨I.call' (s' := { s with heap := _, toks := tk }) (ch := []) rfl (un _) (hok _) I.bare (fun b z => absurd z (by simp)), fun b o e => neU e, fun a e => ?_, ?_, Heap.get?_push_size _ rfl, ⟨c', oc, vs, t, _, rfl, upd_same, z3, z4⟩⟩
    · by_cases z : a = c'
      · exact .inr (z ▸ lo)
      · exact .inl (by rw [upd_ne z]; exact e)
    · rw [upd_ne (Nat.ne_of_gt hi)]
      refine I.hok.fresh (Nat.le_trans lo (Nat.le_of_lt hi))
end
end L2
namespace L2
open PySem PySem.Spec PyProof.Rows
structure FnFH (P : Program) (w : World) (K : PySem.W.Frag) (mg : Str → Option Value) (base : Heap) (k : Nat) (f : Addr) (fd : FuncData) (ps : List Str) (g : List D → R D) : Prop where
  run : ∀ (A : Around) (x : Addr) (outer : List Env) (s : Shared) (H : Hp) (args : Args) (us : List Value) (vs : List V) (Q : VK) (E : XK), Room k A → Env0 P w K mg base A outer s H → BindsTo s fd args (ps.zip us) → Vals vs us → (vs.length = ps.length ∧ spF K g vs H Q E) →
    codeAny (model P w) (A.mark (some (.ref x))) (.call (.ref f) args) (CR (CXo P w) outer P w H s Q E) s
theorem FnFH.to {P : Program} {w : World} {K : PySem.W.Frag} {mg : Str → Option Value} {base : Heap} {k : Nat} {f : Addr} {fd : FuncData} {ps : List Str} {g g' : List D → R D} (F : FnFH P w K mg base k f fd ps g) (h : ∀ ds, ds.length = ps.length → g' ds = .no ∨ g ds = g' ds) : FnFH P w K mg base k f fd ps g' := by
  refine ⟨fun A x outer s H args us vs Q E hr e0 hb hv ⟨hl, G, ds, sub, r, q⟩ => F.run A x outer s H args us vs Q E hr e0 hb hv ⟨hl, G, ds, sub, r, ?_⟩⟩
  rcases h ds (by rw [← r.length]; exact hl) with z | z
  · rw [z] at q; exact q.elim
  · rw [z]; exact q
theorem Fun.okFH_0 {P : Program} {w : World} {K : PySem.W.Frag} {mg : Str → Option Value} {base : Heap} {x qual : Str} {st : Stmt} {f : Addr} {fd : FuncData} {N ps : List Str} {k : Nat} (F : Fun K x qual st f fd) (S : FnScope N ps (defScope st)) {g : Ev → O}
    (hbody : ∀ (cdv : Value) (A : Around) (outer : List Env) (s : Shared) (H : Hp) (E : XK) (a : Addr) (xe : Value → Shared → Prop), Room k (A.deeper (envOfC qual (defScope st) s.heap.objs.size f cdv)) → QSsF (sutCx (cxOf (CXo P w) P w K mg base N qual (defScope st) f cdv A outer s H E) a xe) (defBody st) g) :
    FnFH P w K mg base (k + 1) f fd ps (fun ds => noEx (bodyR (g (startE N.length ds)))) := by
  obtain ⟨oc, od, kV, doc, pm, an, cdv, ct, osl, rfl, lk, hcd⟩ := F.ex
  refine ⟨fun A a outer s H args us vs Q E hr e0 hb r ⟨hl, G, ds, sub, rp, h⟩ => ?_⟩
  have KX : K.In s.heap := e0.mod.kin.keeps fun b o e => (e0.bs b o e).1
  have lim : s.heap.NoLimit := e0.mod.nolimit.keeps fun b o e => (e0.bs b o e).1
  have hkind : ∀ y ∈ ps.zip us, (defScope st).names.lookup y.1 = some .local ∨ ((defScope st).names.lookup y.1 = some .cell ∧ ((cellsFrom (s.heap.objs.size + 1) (defScope st).names []).lookup y.1).isSome = true) := fun ⟨n, v⟩ hy => by
    rcases S.par n (List.of_mem_zip hy).1 with q | q
    · exact .inl q
    · exact .inr ⟨q, PySem.W.cellsFrom_some _ _ _ (.inl q)⟩
  refine codeAny_call_function (A := A.mark (some (.ref a))) hr.depth (KX _ _ lk) rfl S.co S.gen rfl (PySem.W.codeRec_of KX hcd) (hb _ _ _ _ ?_)
  refine wpAny_newFunctionEnv_cells S.kind hkind fun env he s1 x => ?_
  subst he
  refine ⟨lim.keeps x.toInCall.keep, codeAny_func ?_⟩
  have I : Inv (cxOf (CXo P w) P w K mg base N qual (defScope st) f cdv A outer s H E) [] (start N vs) H s1 := inv_start S hr.hd e0 hl r x
  have J : Inv (sutCx (cxOf (CXo P w) P w K mg base N qual (defScope st) f cdv A outer s H E) a fun _ _ => False) [] (start N vs) H s1 := I.cx (fun p q => q) rfl (fun z => by cases z)
  refine wpAny_mono (hbody cdv A outer s H E a (fun _ _ => False) (hr.deeper _) G H [] s1 (start N vs) H { nx := fun _ H' => Q .non H', rt := Q } J ⟨G, startE N.length ds, start_st sub rp, ?_⟩) (fun fl s' hs => ?_) fun e s' hs => hs.elim
  · dsimp only at h
    cases q : g (startE N.length ds) with
    | nx ρ => rw [q] at h; exact fun σ G' H' sr => h .non G' H' sr.up .non
    | rt d => rw [q] at h; exact fun v G' H' u rv => h v G' H' u rv
    | re d ρ => rw [q] at h; exact fun v σ G' H' sr rv => h v G' H' sr.up rv
    | bk ρ => rw [q] at h; exact h.elim
    | ct ρ => rw [q] at h; exact h.elim
    | ex C ρ => rw [q] at h; exact h.elim
    | no => rw [q] at h; exact h.elim
  · have fin : ∀ {σ' : St} {H' : Hp} {v : V} {u : Value}, Inv (sutCx (cxOf (CXo P w) P w K mg base N qual (defScope st) f cdv A outer s H E) a fun _ _ => False) [] σ' H' s' → RelV v u → Q v H' → CE outer P w H s Q u s' :=
      fun {σ' H' v u} J rv q => ⟨v, H', J.os, J.bare, J.base, J.hok, rv, q⟩
    cases fl with
    | ret u =>
      obtain ⟨v, σ', H', J, rv, q⟩ := hs
      exact fin J rv q
    | next =>
      obtain ⟨σ', H', J, q⟩ := hs
      exact fin (v := V.non) (u := Value.none) J rfl q
    | brk =>
      obtain ⟨_, _, _, q⟩ := hs
      exact False.elim q
    | cont =>
      obtain ⟨_, _, _, q⟩ := hs
      exact False.elim q
structure CalleeH (P : Program) (w : World) (K : PySem.W.Frag) (mg : Str → Option Value) (base : Heap) (x : Str) (k n : Nat) (g : List D → R D) : Prop where
  ex : ∃ f fd ps, FnFH P w K mg base k f fd ps g ∧ mg x = some (.ref f) ∧ PySem.W.keepIn K (.ref f) = true ∧ Binds K fd ps [] ∧ ps.length = n
theorem CalleeH.mono {P : Program} {w : World} {K : PySem.W.Frag} {mg : Str → Option Value} {base : Heap} {x : Str} {k n : Nat} {g : List D → R D} (c : CalleeH P w K mg base x k n g) (k' : Nat) (h : k ≤ k' := by decide) : CalleeH P w K mg base x k' n g := by
  obtain ⟨f, fd, ps, F, hm, hk, hb, e⟩ := c.ex
  exact ⟨f, fd, ps, ⟨fun A a outer s H args us vs Q E hr => F.run A a outer s H args us vs Q E (hr.mono h)⟩, hm, hk, hb, e⟩
theorem Fun.calleeH {P : Program} {w : World} {K : PySem.W.Frag} {mg : Str → Option Value} {base : Heap} {x : Str} {st : Stmt} {f : Addr} {fd : FuncData} {ps : List Str} {k : Nat} {g : List D → R D} (F : Fun K x x st f fd) (hm : mg x = some (.ref f)) (ok : FnFH P w K mg base k f fd ps g)
    (h : ∀ (kV doc pm : Value) (an : Option Addr) (cdv ct : Value) (us : List Value), us.length = ps.length → bindArgs (PySem.W.fnOf x x (defArgs st) (defBody st) (defScope st) .none kV doc pm an cdv ct) ⟨us, []⟩ = pure (ps.zip us)) : CalleeH P w K mg base x k ps.length g :=
  ⟨f, fd, ps, ok, hm, F.kp, F.binds h, rfl⟩
section
variable {Y : Cx} {a : Addr} {xe : Value → Shared → Prop} {k n : Nat} {x : Str} {p pos : Pos} {e : Expr} {es : List Expr} {gl : Ev → R (List D)} {g : List D → R D}
theorem pf_callH_0 (c : CalleeH Y.prog Y.w Y.K Y.mg Y.base x k n g) (hr : Room k Y.A) (ha : QFA (sutCx Y a xe) (e :: es) gl) (hg : Gl Y x := by rfl)
    (hdb : (x == ("__debug__" : Str)) = false := by decide) (he : starEach (e :: es) Y.env = (false, eval e Y.env) :: starEach es Y.env := by rfl) (hpl : (backTo pos (starEach es Y.env)).any (·.1) = false := by rfl) :
    QF (sutCx Y a xe) (.Call (.Name x p) (e :: es) [] pos) (gCall n g gl) := by
  obtain ⟨f, fd, ps, F, hm, hk, hb, rfl⟩ := c.ex
  intro pins s σ H Q I h
  obtain ⟨G, ρ, st, h⟩ := h
  have t : tAF (sutCx Y a xe) gl σ H (fun vs H1 => ∃ G1 ds, Up G H G1 H1 ∧ Same G1 H1 ∧ Reps Y.K G1 vs ds ∧ ds.length = ps.length ∧ (g ds).post (Fin G1 H1 (Rep Y.K) Q) (Exx (sutCx Y a xe) σ G1 H1)) := by
    have h : (gl ρ >>= fun ds => if ds.length = ps.length then g ds else .no).post (Fin G H (Rep Y.K) Q) (Exx (sutCx Y a xe) σ G H) := h
    refine tG.intro st h fun ds vs G1 H1 u1 st1 r1 h1 => ?_
    by_cases hl : ds.length = ps.length
    · rw [if_pos hl] at h1; exact ⟨G1, ds, u1, st1.sub, r1, hl, h1⟩
    · rw [if_neg hl] at h1; exact h1.elim
  refine wpAny_Call_Name_kw (ld_glob I hg hm ?_ hdb)
  refine PySem.W.callWith_K (h₀ := Y.base) I.ok.mod.kin hk (thn (ha pos pins s σ H _ I t) fun us s1 q => ⟨?_, ?_⟩) he hpl
  · obtain ⟨vs, H1, I1, r, _⟩ := q; exact I1.kIn
  obtain ⟨vs, H1, I1, r, G1, ds, u1, sub1, rp, hl, h1⟩ := q
  have hvl : vs.length = ps.length := by rw [rp.length]; exact hl
  have hul : (us ++ []).length = ps.length := by rw [List.append_nil, ← r.length]; exact hvl
  have hbb := hb s1 us I1.kIn hul
  rw [List.append_nil] at hbb
  have e0 : Env0 Y.prog Y.w Y.K Y.mg Y.base Y.A Y.stack s1 H1 := let z := I1.env0; ⟨z.frames, z.mod, z.bs, z.bsz, z.funs, z.frf, z.hok, z.bare, z.tabs⟩
  refine wpAny_call (codeAny_mono (F.run Y.A a Y.stack s1 H1 ⟨us, []⟩ us vs Q (fun c _ H' => ∃ C G', c = .ref C ∧ Up G1 H1 G' H' ∧ Exx (sutCx Y a xe) σ G1 H1 C) hr e0 hbb r ⟨hvl, G1, ds, sub1, rp, h1.mono (fun _ q => q) fun C q G' H' u => ⟨C, G', rfl, u, q⟩⟩) fun r' s' hq => ?_)
  cases r' with
  | error e' =>
    obtain ⟨a', C, H', rfl, fl, C', G', ec, u, q⟩ := hq
    cases ec
    exact q _ _ ⟨G1, H1, .refl sub1, pins, s1, a', rfl, I1, .inr (.inl ⟨G', H', fl, u⟩)⟩
  | ok fl =>
    cases fl with
    | ret u => exact I1.after hq
    | next => exact False.elim hq
    | brk => exact False.elim hq
    | cont => exact False.elim hq
end

noncomputable def DeedAt (P : Program) (w : World) (K : PySem.W.Frag) (mg : Str → Option Value) (base : Heap) (k : Nat) (s1 : Shared) (G1 H1 : Hp) (f : Addr) (m : R D) : Prop :=
  ∀ (Y : Cx) (pins : List (Addr × Obj)) (σY : St) (G2 H2 : Hp) (s2 : Shared) (fs : List Addr) (Q : VK), Y.prog = P → Y.w = w → Y.K = K → Y.mg = mg → Y.base = base → Inv Y pins σY H2 s2 → Room k Y.A → Un fs [] H1 H2 s1.heap s2.heap → Up G1 H1 G2 H2 →
    m.post (Fin G2 H2 (Rep Y.K) Q) (Exx Y σY G2 H2) → (∃ o fd, s2.heap.get? f = some o ∧ o.data = .func fd) ∧ wpAny (model Y.prog Y.w) Y.A (call (.ref f) []) (EP Y pins σY Q) Y.xe s2
theorem IsCell.un {fs : List Addr} {H1 H2 : Hp} {h1 h2 : Heap} {c : Addr} {v : Option Value} (u : Un fs [] H1 H2 h1 h2) (hn : H1 c = none) (h : h1.IsCell c v) : h2.IsCell c v := by
  obtain ⟨o, e, d⟩ := h
  obtain ⟨sl, q⟩ := u.any e hn (by simp)
  exact ⟨_, q, d⟩
theorem ClOk.un {fs : List Addr} {N : List Str} {scope : Scope} {cl : List (Str × Addr)} {σ : St} {H1 H2 : Hp} {h1 h2 : Heap} (C : ClOk N scope cl σ H1 h1) (u : Un fs [] H1 H2 h1 h2) : ClOk N scope cl σ H2 h2 :=
  ⟨C.kind, C.nocell, C.inj, C.has, fun y c e => by
    obtain ⟨n, v, q⟩ := C.cell y c e
    obtain ⟨o, e1, d⟩ := id q
    exact ⟨u.free c o e1 n (by simp), v, IsCell.un u n q⟩, fun i y v e1 e2 => by
    obtain ⟨x, c, r, k, e, q⟩ := C.val i y v e1 e2
    exact ⟨x, c, r, k, e, IsCell.un u (C.cell y c e).1 q⟩, C.len⟩
theorem StE.r {K : PySem.W.Frag} {G H : Hp} {σ : St} {ρ : Ev} (st : StE K G H σ ρ) (h : NoOwn ρ) : StR K G H G H σ ρ :=
  ⟨st, st.sub, .refl st.sub, fun i ds e => absurd e (h.own i ds), fun i j ds es l e => absurd e (h.own i ds), h.ob⟩
theorem deed_lam_0 {P : Program} {w : World} {K : PySem.W.Frag} {mg : Str → Option Value} {base : Heap} {k : Nat} {s1 : Shared} {G1 H1 : Hp} {f : Addr} {o : Obj} {N : List Str} {qual : Str} {params : Arguments} {body : Expr} {scope : Scope} {cl : List (Str × Addr)} {pm cd ctv : Value} {σ : St} {ρ : Ev} {gb : Ev → R D}
    (hfn : H1 f = none) (hf : s1.heap.get? f = some o) (hfd : o.data = .func (PySem.W.kla_fn "<lambda>" qual params body scope cl pm cd ctv)) (hcd : ∃ c o vs t u, cd = .ref c ∧ H1 c = some (.frz o u) ∧ o.data = .fields vs ∧ vs[1]? = some (.str qual t))
    (hp : bindArgs (PySem.W.kla_fn "<lambda>" qual params body scope cl pm cd ctv) ⟨[], []⟩ = pure []) (hco : scope.isCoroutine = false) (hge : scope.isGenerator = false) (C : ClOk N scope cl σ H1 s1.heap) (st : StE K G1 H1 σ ρ) (hno : NoOwn ρ)
    (hb : ∀ (A : Around) (outer : List Env) (s : Shared) (H : Hp) (E : XK), Room k (A.deeper (PySem.W.envX qual scope s.heap.objs.size f cd cl)) → QF (lamCx P w K mg base N qual scope cl f cd A outer s H E) body gb) :
    DeedAt P w K mg base (k + 1) s1 G1 H1 f (gb ρ) := by
  rintro Y pins σY G2 H2 s2 fs Q rfl rfl rfl rfl rfl J hr un up h
  obtain ⟨sl, hf2⟩ := un.any hf hfn (by simp)
  refine ⟨⟨_, _, hf2, hfd⟩, ?_⟩
  have code : s2.heap.CodeRec cd qual := by
    obtain ⟨c, oc, vs, t, u, rfl, e, d, q⟩ := hcd
    obtain ⟨e2, _⟩ := J.hok c _ (up.hh _ _ e)
    exact ⟨c, oc, vs, t, rfl, e2, d, q⟩
  have st2 : StE Y.K G2 H2 σ ρ := st.up up
  refine wpAny_mono (lam_call (E := fun c _ H' => ∃ C G', c = .ref C ∧ Up G2 H2 G' H' ∧ Exx Y σY G2 H2 C) J hr hf2 hfd code hp hco hge (C.un un) (hb Y.A Y.stack s2 H2 _ (hr.deeper _)) ⟨G2, ρ, st2, h.mono (fun _ q => q) fun Cx q e s' fl => ?_⟩) (fun _ _ q => q) fun e s' hq => ?_
  · obtain ⟨Ga, Ha, u, fr⟩ := fl
    exact leave_g rfl rfl (.of ((st2.r hno).ups u) fr) fun G' H' u' => ⟨Cx, G', rfl, u', q⟩
  · obtain ⟨a, C, H', rfl, fl, C', G', ec, u, q⟩ := hq
    cases ec
    exact q _ _ ⟨G2, H2, .refl up.sub, pins, s2, a, rfl, J, .inr (.inl ⟨G', H', fl, u⟩)⟩
structure Told (P : Program) (w : World) (K : PySem.W.Frag) (mg : Str → Option Value) (base : Heap) (x : Str) (k j : Nat) (g : R D → R D) : Prop where
  ex : ∃ ft, mg x = some (.ref ft) ∧ PySem.W.keepIn K (.ref ft) = true ∧ ∀ (A : Around) (outer : List Env) (s1 : Shared) (G1 H1 : Hp) (f : Addr) (m : R D) (Q : VK) (E : XK), Room k A → Env0 P w K mg base A outer s1 H1 → Same G1 H1 → DeedAt P w K mg base j s1 G1 H1 f m →
    (g m).post (Fin G1 H1 (Rep K) Q) (fun C => ∀ G' H', Up G1 H1 G' H' → E (.ref C) none H') → codeAny (model P w) A (.call (.ref ft) ⟨[.ref f], []⟩) (CR (CXo P w) outer P w H1 s1 Q E) s1
section
variable {P : Program} {w : World} {K : PySem.W.Frag} {mg : Str → Option Value} {base : Heap} {x y : Str} {st : Stmt} {ft : Addr} {fd : FuncData} {k : Nat} {b₀ : Stmt} {suite : List Stmt} {p1 p2 p3 tp hp tpos : Pos} {nm tn : Str} {gs : Ev → O} {fe : Addr → Option Bool} {Ct : Addr}
theorem looks_fn {M : Model} {h : Heap} {f : Addr} {o : Obj} {fd : FuncData} (e : h.get? f = some o) (d : o.data = .func fd) : PySem.W.Looks M h (keeperOf (.ref f)) .frame := by
  unfold keeperOf
  exact (PySem.W.Looks.ld e).andThen (by rw [d]; exact .now)
theorem told_mk_0 (F : Fun K x x st ft fd) (hm : mg x = some (.ref ft)) (S : FnScope [y, nm] [y] (defScope st)) (hbd : defBody st = [.Try [.Return (some (.Call (.Name y p1) [] [] p2)) p3] [.ExceptHandler (some (.Name tn tp)) (some nm) (b₀ :: suite) hp] [] [] tpos])
    (hbind : ∀ (kV doc pm : Value) (an : Option Addr) (cdv ct : Value) (u : Value), bindArgs (PySem.W.fnOf x x (defArgs st) (defBody st) (defScope st) .none kV doc pm an cdv ct) ⟨[u], []⟩ = pure [(y, u)])
    (hh : ∀ (cdv : Value) (A : Around) (outer : List Env) (s : Shared) (H : Hp) (E : XK) (a : Addr) (xe : Value → Shared → Prop), Room k (A.deeper (envOfC x (defScope st) s.heap.objs.size ft cdv)) → QSsF (sutCx (cxOf (CXo P w) P w K mg base [y, nm] x (defScope st) ft cdv A outer s H E) a xe) (b₀ :: suite) gs)
    (hf : ∀ C, fe C = some true → PySem.W.exmOne K (.ref C) (.ref Ct) = some true) (hg : (defScope st).names.lookup tn = some .globalImplicit) (hmt : mg tn = some (.ref Ct)) (hy : (defScope st).names.lookup y = some .local) (hx : (defScope st).names.lookup nm = some .local)
    (hdb : (tn == ("__debug__" : Str)) = false := by decide) (hdy : (y == ("__debug__" : Str)) = false := by decide) (hcy : (y == ("__classdict__" : Str)) = false := by decide) :
    Told P w K mg base x (k + 1) k (fun m => bodyR (tryO (fun ρ => m.out ρ .rt) gs fe 1 [none, none])) := by
  obtain ⟨oc, od, kV, doc, pm, an, cdv, ct, osl, rfl, lk, hcd⟩ := F.ex
  refine ⟨ft, hm, F.kp, fun A outer s1 G1 H1 f m Q E hr e0 sub dd h => ?_⟩
  refine fn_at (us := [.ref f]) (vs := [.ref f]) lk hcd S rfl hr e0 (.of_eq (hbind ..)) (.cons rfl .nil) (t := fun D σ H => σ[0]? = some (some (.ref f)) ∧ tS (cxOf (CXo P w) P w K mg base [y, nm] x (defScope st) ft cdv A outer s1 H1 E) G1 H1 (tryO (fun ρ => m.out ρ .rt) gs fe 1) D σ H) ?_ ⟨rfl, G1, [none, none], ⟨⟨sub, rfl, fun i d e => ?_, fun i m C p fs e => ?_⟩, sub, .refl sub, fun i ds e => ?_, fun i j ds es l e => ?_, NoOwn.ob fun i x e => ?_⟩, ?_⟩
  · rw [hbd]
    have hr' := hr.deeper (envOfC x (defScope st) s1.heap.objs.size ft cdv)
    refine pss_one (ps_try_p_0 (X := cxOf (CXo P w) P w K mg base [y, nm] x (defScope st) ft cdv A outer s1 H1 E) (fun σ => σ[0]? = some (some (.ref f))) 1 fe S.nd rfl rfl rfl S.kind G1 H1 (fun pn xe => ?_) (fun a xe => hh cdv A outer s1 H1 E a xe hr') hf hg hmt rfl hx hdb)
    refine pss_one fun pins s σ H D I hq => ?_
    obtain ⟨h0, G, ρ, sr, hq⟩ := hq
    have pe : PE (tryCx (cxOf (CXo P w) P w K mg base [y, nm] x (defScope st) ft cdv A outer s1 H1 E) pn xe) (.Call (.Name y p1) [] [] p2) (fun σ H Q => σ[0]? = some (some (.ref f)) ∧ ∃ G, Up G1 H1 G H ∧ m.post (Fin G H (Rep K) Q) (Exx (tryCx (cxOf (CXo P w) P w K mg base [y, nm] x (defScope st) ft cdv A outer s1 H1 E) pn xe) σ G H)) := by
      intro pins s σ H Q I ⟨h0, G, up, hm⟩
      have v : PE (tryCx (cxOf (CXo P w) P w K mg base [y, nm] x (defScope st) ft cdv A outer s1 H1 E) pn xe) (.Name y p1) (tVar 0) := pe_var rfl (.inl hy) hdy hcy
      refine wpAny_Call_Name_kw (thn (v pins s σ H (fun u H' => u = .ref f ∧ H' = H) I ⟨_, h0, rfl, rfl⟩) fun u s' ⟨v', H', I', rv, ev, eh⟩ => ?_)
      subst ev eh
      obtain rfl : u = Value.ref f := rv
      obtain ⟨ob, run⟩ := dd _ pins σ G H' s' _ Q rfl rfl rfl rfl rfl I' hr' I'.base up hm
      exact PySem.W.callWith_of rfl (P := fun h => ∃ o fd, h.get? f = some o ∧ o.data = .func fd) (fun h ⟨o, fd, e, d⟩ => ⟨.frame, .inl rfl, looks_fn e d⟩) (PyProof.Rows.evalArgs_nil3 ⟨ob, run⟩)
    refine ps_ret pe pins s σ H D I ⟨h0, G, sr.up, ?_⟩
    cases q : m with
    | ok d => rw [q] at hq; exact fun v G' H' u r => hq v G' H' (sr.up.trans u) r
    | ex C => rw [q] at hq; exact Exx.of sr hq
    | no => rw [q] at hq; exact hq
  · match i, e with
    | 0, e => cases e
    | 1, e => cases e
  · match i, e with
    | 0, e => cases e
    | 1, e => cases e
  · match i, e with
    | 0, e => cases e
    | 1, e => cases e
  · match i, e with
    | 0, e => cases e
    | 1, e => cases e
  · match i, e with
    | 0, e => cases e
    | 1, e => cases e
  · cases q : tryO (fun ρ => m.out ρ .rt) gs fe 1 [none, none] with
    | nx ρ => rw [q] at h; exact fun σ G' H' sr => h .non G' H' sr.up .non
    | rt d => rw [q] at h; exact fun v G' H' u rv => h v G' H' u rv
    | re d ρ => rw [q] at h; exact fun v σ G' H' sr rv => h v G' H' sr.up rv
    | bk ρ => rw [q] at h; exact h.elim
    | ct ρ => rw [q] at h; exact h.elim
    | ex C ρ => rw [q] at h; exact fun e s' fl => leave_ok fl h
    | no => rw [q] at h; exact h.elim
end
end L2
namespace L2
open PySem PySem.Spec PyProof.Rows
structure LamAt (X : Cx) : Prop where
  ex : ∃ c P q, X.env.code = .ref c ∧ (∀ h, X.K.In h → PySem.W.CodeHd h c P) ∧ TabB X.base P q ∧ q = X.env.qual ++ "<lambda>" ∧ X.base.BuiltinsAt X.mg P ∧ mainGlobals ≠ P
structure LamOk (X : Cx) (scope : Scope) (N' : List Str) (ix : List Nat) : Prop where
  kind : scope.kind = .function
  co : scope.isCoroutine = false
  gen : scope.isGenerator = false
  cell : ∀ y ∈ scope.names, y.2 ≠ .cell
  fr : ∀ y ∈ scope.names, y.2 = .free → X.env.kindOf y.1 = some .cell
  tl : N' = ix.map fun (i : Nat) => X.N.getD i Str.empty
  lt : ∀ i ∈ ix, i < X.N.length
  fre : ∀ y ∈ N', scope.names.lookup y = some .free ∧ (y, NameKind.free) ∈ scope.names
theorem lam_ok {X : Cx} {scope : Scope} {N' : List Str} {ix : List Nat} (hk : scope.kind = .function := by rfl) (hc : scope.isCoroutine = false := by rfl) (hg : scope.isGenerator = false := by rfl)
    (h1 : (∀ y ∈ scope.names, y.2 ≠ .cell) ∧ (∀ y ∈ scope.names, y.2 = .free → y.1 ∈ N') ∧ ∀ y ∈ N', scope.names.lookup y = some .free ∧ (y, NameKind.free) ∈ scope.names := by decide +kernel)
    (h2 : N'.map X.env.kindOf = N'.map fun _ => some NameKind.cell := by rfl) (h3 : N' = ix.map (fun (i : Nat) => X.N.getD i Str.empty) := by rfl) (h4 : ix.all (fun i => decide (i < X.N.length)) = true := by rfl) : LamOk X scope N' ix := by
  obtain ⟨a, b, c⟩ := h1
  exact ⟨hk, hc, hg, a, fun y hy h => List.map_inj_left.1 h2 _ (b y hy h), h3, fun i hi => of_decide_eq_true (List.all_eq_true.1 h4 i hi), c⟩
section
variable {X : Cx} {scope : Scope} {N' : List Str} {ix : List Nat} {params : Arguments} {body : Expr} {lp p pos : Pos} {x : Str} {k j : Nat} {gb : Ev → R D} {g : R D → R D}
theorem clOk_of {pins : List (Addr × Obj)} {σ : St} {H : Hp} {s : Shared} (ok : LamOk X scope N' ix) (I : Inv X pins σ H s) : ClOk N' scope (clOf X.env scope.names []) (innerS 0 ix σ) H s.heap := by
  have cl : ∀ y c, (clOf X.env scope.names []).lookup y = some c → X.env.cells.lookup y = some c := clOf_sub scope.names [] (fun y c h => by simp at h)
  have hasf : ∀ y, (y, NameKind.free) ∈ scope.names → ∃ c, (clOf X.env scope.names []).lookup y = some c := fun y hy => clOf_has scope.names [] y (.inr ⟨hy, I.ok.has y (.inl (ok.fr _ hy rfl))⟩)
  refine ⟨ok.kind, ok.cell, fun y z c h1 h2 => I.ok.inj y z c (cl y c h1) (cl z c h2), fun y hy => hasf y (PySem.mem_of_lookup hy), fun y c h => ⟨I.freeC y c (cl y c h), I.cell y c (cl y c h)⟩, fun i y v h1 h2 => ?_, ?_⟩
  · unfold innerS at h2
    rw [List.replicate_zero, List.nil_append, List.getElem?_map] at h2
    cases e : ix[i]? with
    | none => rw [e] at h2; cases h2
    | some i0 =>
      rw [e] at h2
      have h2' : σ[i0]? = some (some v) := by
        cases q : σ[i0]? with
        | none => rw [Option.map_some, q] at h2; cases h2
        | some z => rw [Option.map_some, q] at h2; have := Option.some.inj h2; rw [← this]; rfl
      have hy : X.N[i0]? = some y := by
        have ht2 := h1
        rw [ok.tl, List.getElem?_map, e] at ht2
        have hl := ok.lt i0 (List.mem_of_getElem? e)
        have q := Option.some.inj ht2
        rw [List.getElem?_eq_getElem hl, ← q]
        show some X.N[i0] = some (X.N.getD i0 Str.empty)
        rw [List.getD_eq_getElem?_getD, List.getElem?_eq_getElem hl]
        rfl
      obtain ⟨fr1, fr2⟩ := ok.fre y (List.mem_of_getElem? h1)
      have kc := ok.fr _ fr2 rfl
      obtain ⟨m0, hn0, hl⟩ := I.loc
      obtain ⟨u, ru, lk⟩ := hl i0 y v hy h2' (.inr (.inl kc))
      rcases lk with ⟨z, _⟩ | ⟨_, c, hc, hcell⟩
      · rw [kc] at z; cases z
      · obtain ⟨c', hc'⟩ := hasf y fr2
        have := cl y c' hc'
        rw [hc] at this
        cases this
        exact ⟨u, c, ru, fr1, hc', hcell⟩
  · unfold innerS
    rw [ok.tl]; simp
noncomputable def gTold (g : R D → R D) (ix : List Nat) (gb : Ev → R D) : Ev → R D := fun ρ => g (gb (innerN 0 ix ρ))
theorem k_told_0 (T : Told X.prog X.w X.K X.mg X.base x k (j + 1) g) (hr : Room k X.A) (L : LamAt X) (ok : LamOk X scope N' ix)
    (hb : ∀ (cl : List (Str × Addr)) (f : Addr) (cd : Value) (A : Around) (outer : List Env) (s : Shared) (H : Hp) (E : XK), Room j (A.deeper (PySem.W.envX (X.env.qual ++ "<lambda>") scope s.heap.objs.size f cd cl)) → QF (lamCx X.prog X.w X.K X.mg X.base N' (X.env.qual ++ "<lambda>") scope cl f cd A outer s H E) body gb)
    (hp : ∀ cl pm cd ctv, bindArgs (PySem.W.kla_fn "<lambda>" (X.env.qual ++ "<lambda>") params body scope cl pm cd ctv) ⟨[], []⟩ = pure [] := by intros; rfl) (hdef : defaultsOf params X.env = ([], []) := by rfl)
    (hg : Gl X x := by rfl) (hdb : (x == ("__debug__" : Str)) = false := by decide) (he : starEach [.Lambda params body scope lp] X.env = (false, eval (.Lambda params body scope lp) X.env) :: starEach [] X.env := by rfl) :
    QF X (.Call (.Name x p) [.Lambda params body scope lp] [] pos) (gTold g ix gb) := by
  obtain ⟨ft, hm, hk, run⟩ := T.ex
  obtain ⟨c, P, q, hc, hcd, hT, rfl, hbm, hgP⟩ := L.ex
  intro pins s σ H Q I h
  obtain ⟨G, ρ, st, h⟩ := h
  refine wpAny_Call_Name_kw (ld_glob I hg hm ?_ hdb)
  refine PySem.W.callWith_K (h₀ := X.base) I.ok.mod.kin hk ?_ he rfl
  rw [he]
  show wpAny _ _ (spliced ((false, eval (.Lambda params body scope lp) X.env) :: backTo pos (starEach [] X.env))) _ _ s
  obtain ⟨more, hTH⟩ := I.ok.tabs.un I.base P _ hT
  refine Calls.spliced_cons (lam_make I hdef hc (hcd _ I.kIn) hTH ?_ (hbm.keeps I.bk) ok.fr hgP fun f cd ctv pm H1 s1 L => Calls.spliced_nil ⟨L.inv.kIn, ?_⟩)
  · unfold qualOf
    rw [Array.toList_append]
    rfl
  have sub : Same G H1 := st.sub.trans L.hh
  have up : Up G H G H1 := ⟨sub, .refl _, L.hh, fun a o h => .inl h⟩
  have st1 := inner_st (st.up up) 0 ix
  have dd : DeedAt X.prog X.w X.K X.mg X.base (j + 1) s1 G H1 f (gb (innerN 0 ix ρ)) :=
    deed_lam_0 L.free L.fn rfl L.codeH (hp _ _ _ _) ok.co ok.gen (clOk_of ok L.inv) st1 inner_own fun A outer s H E hr => hb _ f cd A outer s H E hr
  have h1 : (g (gb (innerN 0 ix ρ))).post (Fin G H1 (Rep X.K) Q) (Exx X σ G H1) := post_up up h
  refine wpAny_call (codeAny_mono (run X.A X.stack s1 G H1 f _ Q (fun c _ H' => ∃ C G', c = .ref C ∧ Up G H1 G' H' ∧ Exx X σ G H1 C) hr L.inv.env0 sub dd (h1.mono (fun _ q => q) fun C q G' H' u => ⟨C, G', rfl, u, q⟩)) fun r' s' hq => ?_)
  cases r' with
  | error e' =>
    obtain ⟨a, C, H', rfl, fl, C', G', ec, u, q⟩ := hq
    cases ec
    exact q _ _ ⟨G, H1, .refl sub, pins, s1, a, rfl, L.inv, .inr (.inl ⟨G', H', fl, u⟩)⟩
  | ok fl =>
    cases fl with
    | ret u => exact L.inv.after hq
    | next => exact False.elim hq
    | brk => exact False.elim hq
    | cont => exact False.elim hq
end
theorem k_varL_0 {P : Program} {w : World} {K : PySem.W.Frag} {mg : Str → Option Value} {base : Heap} {N : List Str} {i : Nat} {x : Str} {pos : Pos} {qual : Str} {scope : Scope} {cl : List (Str × Addr)} {f : Addr} {cd : Value} {A : Around} {outer : List Env} {s : Shared} {H : Hp} {E : XK} (h : At N i x)
    (hv : Vis (lamCx P w K mg base N qual scope cl f cd A outer s H E).env.scope x := by first | exact Or.inl rfl | exact Or.inr (Or.inl rfl) | exact Or.inr (Or.inr rfl)) (hd : (x == ("__debug__" : Str)) = false := by decide)
    (hcd : (x == ("__classdict__" : Str)) = false := by decide) : QF (lamCx P w K mg base N qual scope cl f cd A outer s H E) (.Name x pos) (fun ρ => rdV ρ i) := pf_var_0 i h hv hd hcd
structure LamDef (K : PySem.W.Frag) (mg : Str → Option Value) (fd : FuncData) (Pt : Addr) : Prop where
  ex : ∃ c, fd.code = .ref c ∧ ∀ h, K.In h → PySem.W.CodeHd h c Pt
  ne : mainGlobals ≠ Pt
structure LamB (K : PySem.W.Frag) (mg : Str → Option Value) (base : Heap) (qual : Str) (fd : FuncData) (Pt : Addr) : Prop where
  ld : LamDef K mg fd Pt
  tb : TabB base Pt (qual ++ ".<locals>." ++ "<lambda>")
  bm : base.BuiltinsAt mg Pt
theorem Fun.okFT_0 {P : Program} {w : World} {K : PySem.W.Frag} {mg : Str → Option Value} {base : Heap} {x qual : Str} {st : Stmt} {f : Addr} {fd : FuncData} {N ps : List Str} {k : Nat} {Pt : Addr} (F : Fun K x qual st f fd) (LB : LamB K mg base qual fd Pt) (S : FnScope N ps (defScope st)) {g : Ev → O}
    (hbody : ∀ (cdv : Value) (A : Around) (outer : List Env) (s : Shared) (H : Hp) (E : XK), Room k (A.deeper (envOfC qual (defScope st) s.heap.objs.size f cdv)) → LamAt (cxOf (CXo P w) P w K mg base N qual (defScope st) f cdv A outer s H E) → QSsF (cxOf (CXo P w) P w K mg base N qual (defScope st) f cdv A outer s H E) (defBody st) g) :
    FnF P w K mg base (k + 1) f fd ps (fun ds => bodyR (g (startE N.length ds))) := by
  obtain ⟨oc, od, kV, doc, pm, an, cdv, ct, osl, rfl, lk, hcd⟩ := F.ex
  refine fn_of lk hcd S (fun vs H Q E h => h.1) fun A outer s H vs Q E hr hsp => ?_
  obtain ⟨hl, G, ds, sub, r, h⟩ := hsp
  have la : LamAt (cxOf (CXo P w) P w K mg base N qual (defScope st) f cdv A outer s H E) := by
    obtain ⟨c, ec, hd⟩ := LB.ld.ex
    exact ⟨c, Pt, _, ec, hd, LB.tb, rfl, LB.bm, LB.ld.ne⟩
  refine ⟨_, hbody cdv A outer s H E hr la G H, G, startE N.length ds, start_st sub r, ?_⟩
  dsimp only at h
  cases q : g (startE N.length ds) with
  | nx ρ => rw [q] at h; exact fun σ G' H' sr => h .non G' H' sr.up .non
  | rt d => rw [q] at h; exact fun v G' H' u rv => h v G' H' u rv
  | re d ρ => rw [q] at h; exact fun v σ G' H' sr rv => h v G' H' sr.up rv
  | bk ρ => rw [q] at h; exact h.elim
  | ct ρ => rw [q] at h; exact h.elim
  | ex C ρ => rw [q] at h; exact fun e s' fl => leave_ok fl h
  | no => rw [q] at h; exact h.elim
end L2
namespace L2
open PySem PySem.Spec PyProof.Rows
noncomputable def hid (H : Hp) (ow : Owns) : Hp := fun a => if (ow a).isSome = true then none else H a
noncomputable def retag (i j : Nat) (ow : Owns) : Owns := fun a => match ow a with
  | some (i', t) => if i' = i then some (j, t) else none
  | none => none
section
variable {K : PySem.W.Frag} {H₀ G H : Hp} {ow : Owns} {i j : Nat} {m : Bool} {C p : Addr} {fs : List (Nat × Fd)}
end
inductive RM where
  | ok (d : D) (fs : List (Nat × Fd)) | rd (d : D) | ex (C : Addr) | no
noncomputable abbrev MF := List (Nat × Fd) → List D → RM
noncomputable def spM (K : PySem.W.Frag) (C : Addr) (F : MF) : Sp := fun vs H Q E => ∃ G p us ds fs ow, vs = .ref p :: us ∧ Reps K G us ds ∧ Same G H ∧ (∀ a t, ow a = some t → G a = none) ∧ ObjAt K (fun _ => none) G H ow 0 true C p fs ∧ match F fs ds with
  | .ok d fs' => ∀ v G' H' ow', Up G (hid H ow) G' H' → ObjAt K (hid H ow) G' H' ow' 0 true C p fs' → Rep K G' v d → Q v H'
  | .rd d => ∀ v G' H', Up G H G' H' → Rep K G' v d → Q v H'
  | .ex C' => ∀ G' H', Up G H G' H' → E (.ref C') none H'
  | .no => False
noncomputable abbrev FnM (P : Program) (w : World) (K : PySem.W.Frag) (mg : Str → Option Value) (base : Heap) (k : Nat) (f : Addr) (fd : FuncData) (ps : List Str) (C : Addr) (F : MF) : Prop := FnOk P w K mg base (CXo P w) k f fd ps (fun vs H Q E => vs.length = ps.length ∧ spM K C F vs H Q E)
noncomputable def cutO (i : Nat) (m : Bool) (H₀ G H : Hp) (ow : Owns) : Owns := fun a => open Classical in if (∃ o, H a = some o) ∧ G a = none ∧ (m = true → H₀ a = none) then retag i 0 ow a else none
section
variable {K : PySem.W.Frag} {H₀ G H : Hp} {ow : Owns} {i : Nat} {m : Bool} {C p : Addr} {fs : List (Nat × Fd)}
end
section
variable {K : PySem.W.Frag} {H₀ H₀' G H : Hp} {ow ow2 : Owns} {i : Nat} {C p : Addr}
end
end L2
namespace L2
open PySem PySem.Spec PyProof.Rows
section
variable {K : PySem.W.Frag} {H₀ G H : Hp} {ow : Owns} {i : Nat} {m : Bool} {k : Nat}
end
section
variable {K : PySem.W.Frag} {G₀ H₀ G H : Hp} {σ : St} {ρ : Ev} {i k : Nat} {C p dx : Addr} {fs : List (Nat × Fd)} {vs : List (Str × V)}
end
end L2
namespace L2
open PySem PySem.Spec PyProof.Rows
structure CF (K : PySem.W.Frag) (C : Addr) (ks : List Nat) : Prop where
  cl : Cls K C
  na : ∀ k ∈ ks, k < fnames.length ∧ NoAttr K C (fname k)
section
variable {X : Cx} {e b : Expr} {es : List Expr} {ga gb : Ev → R D} {gl : Ev → R (List D)} {x f : Str} {i k : Nat} {C : Addr} {ks : List Nat} {p1 p2 p3 pos ap cp : Pos}
end
end L2
namespace L2
open PySem PySem.Spec PyProof.Rows
structure MCallee (P : Program) (w : World) (K : PySem.W.Frag) (mg : Str → Option Value) (base : Heap) (C : Addr) (mn : Str) (k n : Nat) (F : MF) : Prop where
  ex : ∃ f fd ps, FnM P w K mg base k f fd ps C F ∧ Meth K C mn f ∧ Binds K fd ps [] ∧ ps.length = n + 1
section
variable {X : Cx} {pins : List (Addr × Obj)} {σ : St} {G H : Hp} {s : Shared} {k n : Nat} {f : Addr} {fd : FuncData} {ps : List Str} {C p : Addr} {F : MF} {us : List Value} {vs : List V} {ds : List D} {fs : List (Nat × Fd)} {ow : Owns} {Q : VK}
end
noncomputable def RM.read : RM → R D
  | .rd d => .ok d
  | .ex C => .ex C
  | _ => .no
noncomputable def RM.out (r : RM) (C p : Addr) (i : Nat) (ρ : Ev) : O := match r with
  | .ok _ fs' => .nx (ρ.set i (some (.obj true C p fs')))
  | .rd _ => .nx ρ
  | .ex E => .ex E ρ
  | .no => .no
section
variable {X : Cx} {e : Expr} {es : List Expr} {gl : Ev → R (List D)} {x mn : Str} {i k n : Nat} {C : Addr} {ks : List Nat} {F : MF} {p1 ap pos ep : Pos}
end
end L2
namespace L2
open PySem PySem.Spec PyProof.Rows
structure MkC (P : Program) (w : World) (K : PySem.W.Frag) (mg : Str → Option Value) (base : Heap) (C : Addr) (cn : Str) (k n : Nat) (F : MF) : Prop where
  ex : ∃ f fd ps, FnM P w K mg base k f fd ps C F ∧ Mk K C f ∧ mg cn = some (.ref C) ∧ Binds K fd ps [] ∧ ps.length = n + 1
section
variable {X : Cx} {pins : List (Addr × Obj)} {σ : St} {G H : Hp} {s : Shared} {k n : Nat} {f : Addr} {fd : FuncData} {ps : List Str} {C : Addr} {F : MF} {us : List Value} {vs : List V} {ds : List D} {Q : VK}
end
section
variable {X : Cx} {e : Expr} {es : List Expr} {gl : Ev → R (List D)} {cn : Str} {k n : Nat} {C : Addr} {F : MF} {p pos : Pos}
end
section
variable {X : Cx} {st : Stmt} {rest : List Stmt} {g1 : Ev → O} {gs : Ev → O} {α : Type} {g2 : α → Ev → O} {e : Expr} {es : List Expr} {gl gl' : Ev → R (List D)} {cn : Str} {k n : Nat} {C : Addr} {F : MF} {p pos : Pos}
end
end L2
namespace L2
open PySem PySem.Spec PyProof.Rows
section
variable {X : Cx} {e a b c : Expr} {rest : List Expr} {g g1 g2 : Ev → O} {ga gb : Ev → R D} {gt : Ev → R Bool} {pos : Pos} {s1 s2 : List Stmt} {h1 h2 : Ev → O}
end
section
variable {X : Cx} {e : Expr} {es : List Expr} {gl : Ev → R (List D)} {x y mn : Str} {i k n : Nat} {C : Addr} {ks : List Nat} {F : MF} {p1 ap pos ep : Pos}
end
structure CalleeM (P : Program) (w : World) (K : PySem.W.Frag) (mg : Str → Option Value) (base : Heap) (C : Addr) (x : Str) (k n : Nat) (F : MF) : Prop where
  ex : ∃ f fd ps, FnM P w K mg base k f fd ps C F ∧ mg x = some (.ref f) ∧ PySem.W.keepIn K (.ref f) = true ∧ Binds K fd ps [] ∧ ps.length = n + 1
section
variable {X : Cx} {es : List Expr} {gl : Ev → R (List D)} {x y : Str} {i k n : Nat} {C : Addr} {F : MF} {p1 py pos : Pos}
end
section
variable {X : Cx} {es : List Expr} {gl : Ev → R (List D)} {x y : Str} {i k n : Nat} {C : Addr} {F : MF} {p1 py pos : Pos}
end
noncomputable def DeedOk (P : Program) (w : World) (K : PySem.W.Frag) (mg : Str → Option Value) (base : Heap) (k : Nat) (s1 : Shared) (G1 H1 : Hp) (f : Addr) (Q : VK) : Prop :=
  ∀ (Y : Cx) (pins : List (Addr × Obj)) (σY : St) (G2 H2 : Hp) (s2 : Shared) (fs : List Addr), Y.prog = P → Y.w = w → Y.K = K → Y.mg = mg → Y.base = base → Inv Y pins σY H2 s2 → Room k Y.A → Un fs [] H1 H2 s1.heap s2.heap → Up G1 H1 G2 H2 →
    (∃ o fd, s2.heap.get? f = some o ∧ o.data = .func fd) ∧ wpAny (model Y.prog Y.w) Y.A (call (.ref f) []) (EP Y pins σY Q) Y.xe s2
structure ToldOk (P : Program) (w : World) (K : PySem.W.Frag) (mg : Str → Option Value) (base : Heap) (x : Str) (k j : Nat) : Prop where
  ex : ∃ ft, mg x = some (.ref ft) ∧ PySem.W.keepIn K (.ref ft) = true ∧ ∀ (A : Around) (outer : List Env) (s1 : Shared) (G1 H1 : Hp) (f : Addr) (Q : VK) (E : XK), Room k A → Env0 P w K mg base A outer s1 H1 → Same G1 H1 → DeedOk P w K mg base j s1 G1 H1 f Q →
    codeAny (model P w) A (.call (.ref ft) ⟨[.ref f], []⟩) (CR (CXo P w) outer P w H1 s1 Q E) s1
section
variable {P : Program} {w : World} {K : PySem.W.Frag} {mg : Str → Option Value} {base : Heap} {x y : Str} {st : Stmt} {ft : Addr} {fd : FuncData} {k : Nat} {h₀ : ExceptHandler} {p1 p2 p3 tpos : Pos} {nm : Str}
end
section
variable {X : Cx} {scope : Scope} {N' : List Str} {ix : List Nat} {params : Arguments} {body : Expr} {lp p pos : Pos} {x : Str} {k j i : Nat} {C : Addr} {gb : Ev → O} {g : R D → R D}
end
section
variable {X : Cx} {scope : Scope} {N' : List Str} {ix : List Nat} {params : Arguments} {body : Expr} {lp p pos : Pos} {x : Str} {k j i : Nat} {C : Addr} {gb : Ev → O} {g : R D → R D}
end
section
variable {X : Cx} {a b : Expr} {rest : List Expr} {g g1 g2 : Ev → O} {gb : Ev → R D} {pos : Pos}
end
end L2
namespace L2
open PySem PySem.Spec PyProof.Rows
section
variable {X : Cx} {pos : Pos}
end
section
variable {X : Cx} {rest : List Stmt} {α : Type} {g2 : α → Ev → O} {e e3 : Expr} {es : List Expr} {gl gl' : Ev → R (List D)} {ga : Ev → R D} {cn : Str} {k n : Nat} {C : Addr} {F : MF} {pos : Pos}
end
end L2
namespace L2
open PySem PySem.Spec PyProof.Rows
end L2
namespace L2
open PySem PySem.Spec PyProof.Rows
section
variable {X : Cx} {e : Expr} {ga : Ev → R D} {gl : Ev → R (List D)}
end
section
variable {X : Cx} {e o : Expr} {ga : Ev → R D} {gl : Ev → R (List D)}
end
section
variable {Y : Cx} {pins : List (Addr × Obj)} {σY σ : St} {H : Hp} {s : Shared} {f : Addr} {o : Obj} {N : List Str} {qual : Str} {params : Arguments} {body : Expr} {scope : Scope} {cl : List (Str × Addr)} {pm cd ctv : Value} {k : Nat} {te : TE} {Q : VK} {E : XK} {x : Str} {u : Value} {v : V}
end
section
variable {X : Cx} {a : Expr} {ga gb : Ev → R D} {scope : Scope} {N' : List Str} {ix : List Nat} {params : Arguments} {body : Expr} {lp p pos kp : Pos} {x : Str} {j : Nat}
end
section
variable {X : Cx} {a : Expr} {ga gb : Ev → R D} {scope : Scope} {N' : List Str} {ix : List Nat} {params : Arguments} {body : Expr} {lp p pos kp : Pos} {x : Str} {j : Nat}
end
section
variable {X : Cx} {a b : Expr} {gl : Ev → R (List D)} {p p2 pos pos2 : Pos}
end
end L2
namespace L2
open PySem PySem.Spec PyProof.Rows
open PySem.AutoSeq1 (wpAny_loadPart')
open PySem.MeetsSeq PySem.MeetsSeq2 PySem.MeetsSeq3
section
variable {X : Cx} {scope : Scope} {N' : List Str} {ix : List Nat} {params : Arguments} {body : Expr} {x : Str} {j : Nat} {pins : List (Addr × Obj)} {σ : St} {H0 G : Hp} {Ii S l f : Addr} {qual : Str} {cl : List (Str × Addr)} {pm cd ctv : Value} {σ' : St} {ρ' : Ev} {gb : Ev → R D} {vs : List V} {dd : D} {Rr : Result → Shared → Prop}
end
section
variable {X : Cx} {scope : Scope} {N' : List Str} {ix : List Nat} {params : Arguments} {body : Expr} {x : Str} {j : Nat} {pins : List (Addr × Obj)} {σ : St} {H G : Hp} {l f : Addr} {qual : Str} {cl : List (Str × Addr)} {pm cd ctv : Value} {σ' : St} {ρ' : Ev} {gb : Ev → R D} {vr : List V} {v0 : V} {d0 dd : D} {ds ks : List D} {kb : List Int} {s : Shared} {o : Obj} {Q : VK}
end
section
variable {X : Cx} {a : Expr} {ga gb : Ev → R D} {scope : Scope} {N' : List Str} {ix : List Nat} {params : Arguments} {body : Expr} {lp p pos kp : Pos} {x : Str} {j : Nat}
end
section
variable {X : Cx} {pins : List (Addr × Obj)} {σ : St} {H G : Hp} {Ii S l : Addr} {vs : List V} {dd : D} {Rr : Result → Shared → Prop}
end
section
variable {X : Cx} {e o : Expr} {ga : Ev → R D} {gl : Ev → R (List D)}
end
section
variable {X : Cx} {a : Expr} {gl : Ev → R (List D)} {p p2 pos pos2 : Pos}
end
end L2
namespace L2
open PySem PySem.Spec PyProof.Rows
section
variable {X : Cx} {elt iter : Expr} {ifs : List Expr} {x : Str} {px pos : Pos} {scope : Scope} {gi : Ev → R (List D)} {gt : Ev → R Bool} {ge : Ev → R D}
noncomputable def compCxC (X : Cx) (x : Str) (scope : Scope) (C : Addr) (s₂ : Shared) (H₂ : Hp) (fp : List Addr) : Cx :=
  { X with N := [x], s₀ := s₂, H₀ := H₂, env := compEnvC scope [(x, C + 1)] C X.env, outer := X.stack, stack := X.stack, ex := fp, fn := fun y => y == x, pn := [], xe := fun _ _ => False }
structure CompOkC (X : Cx) (scope : Scope) (x : Str) : Prop where
  kind : scope.kind = .function
  names : ∀ y ∈ scope.names, y.2 = .local → scope.names.lookup y.1 = some .local
  nofree : ∀ y ∈ scope.names, y.2 ≠ .free
  cells : ∀ L, cellsFrom L scope.names [] = [(x, L)]
  lk : scope.names.lookup x = some .cell
  only : ∀ y, scope.names.lookup y = some .cell → y = x
theorem clOf_none {env : Env} : ∀ {l : List (Str × NameKind)} {cs : List (Str × Addr)}, (∀ y ∈ l, y.2 ≠ .free) → clOf env l cs = cs
  | [], _, _ => rfl
  | (n, k) :: r, cs, h => by
    have hk := h (n, k) (List.mem_cons_self ..)
    have : (k == NameKind.free) = false := by simpa using hk
    unfold clOf
    rw [this]
    exact clOf_none fun y hy => h y (List.mem_cons_of_mem _ hy)
theorem relabel_none {env : Env} {scope : Scope} (h : ∀ y ∈ scope.names, y.2 ≠ .free) : (relabel scope env).names = scope.names := by
  show scope.names.map _ = _
  conv => rhs; rw [← List.map_id scope.names]
  refine List.map_congr_left fun y hy => ?_
  have : (y.2 == NameKind.free) = false := by simpa using h y hy
  simp [this]
theorem newEnvC {M : Model} {A : Around} {E : Value → Shared → Prop} {s : Shared} {globals : Addr} {qual : Str} {env : Env} {Q : Env → Shared → Prop} (hc : ∀ L, cellsFrom L scope.names [] = [(x, L)])
    (hQ : ∀ h', h'.Ns s.heap.objs.size (fun _ => none) → h'.IsCell (s.heap.objs.size + 1) none → (∀ b o, s.heap.get? b = some o → h'.get? b = some o) →
      Q (newEnv scope s.heap.objs.size globals [(x, s.heap.objs.size + 1)] qual none .none (some env) builtinsNs) { s with heap := h' }) :
    wpAny M A (newFunctionEnv scope globals [] [] qual none .none (some env)) Q E s := by
  simp only [newFunctionEnv, Option.isSome_some, if_true]
  refine wpAny_bind (wpAny_alloc ?_)
  refine wpAny_bind (wpAny_layCells _ (fun name kind cells => by cases hkc : kind == NameKind.cell <;> simp [hkc]) _ _ _ _ ?_)
  have ok := cellsFrom_ok scope.names (s.heap.push { cls := .type "dict", data := .dict #[] }) (s.heap.objs.size + 1) [] ⟨fun _ _ hm => (nomatch hm), List.Pairwise.nil⟩ (by rw [Heap.size_push]; exact Nat.le_refl _)
  rw [Heap.size_push, hc] at ok
  rw [show ({ s with heap := s.heap.push { cls := .type "dict", data := .dict #[] } } : Shared).heap.objs.size = s.heap.objs.size + 1 from Heap.size_push .., hc]
  rw [List.forIn_nil]
  refine wpAny_bind (wpAny_pure (wpAny_pure ?_))
  exact hQ _ ((Heap.Ns.new s.heap (.type "dict")).keeps (pushCells_keeps _ _)) (ok.empty x _ (List.mem_singleton.2 rfl)).1 fun b o e => pushCells_keeps _ _ b o (Heap.get?_push_of_some _ e)
theorem compC_inv {pins : List (Addr × Obj)} {σ : St} {H : Hp} {s : Shared} {fp : List Addr} {h₁ : Heap} {tk : Nat} {m : Str → Option Value} {C : Addr} {H' : Hp} (ok : CompOkC X scope x) (hcalm : X.calm = true) (I : Inv X pins σ H s) (hf : ∀ b ∈ fp, FpOk X pins H b) (hfl : ∀ b ∈ fp, b < s.heap.objs.size)
    (hC : s.heap.objs.size ≤ C) (hn : h₁.Ns C m) (hcc : h₁.IsCell (C + 1) none) (old : ∀ b o, s.heap.get? b = some o → h₁.get? b = some o) (un : Un (frs X.stack) fp H H' s.heap h₁) (hok : HOk X.prog X.w H' h₁) (hfC : H' C = none) (hfC1 : H' (C + 1) = none) :
    Inv (compCxC X x scope C s H fp) [] (innerS 1 [] σ) H' { s with heap := h₁, toks := tk } := by
  have cl : ∀ y c, [(x, C + 1)].lookup y = some c → y = x ∧ c = C + 1 := fun y c h => by
    rw [List.lookup_cons] at h
    split at h
    · rename_i q; cases h; exact ⟨eq_of_beq q, rfl⟩
    · simp at h
  have rl := relabel_none (env := X.env) ok.nofree
  refine ⟨⟨I.ok.mod, by show (relabel scope X.env).kind = _; exact ok.kind, I.ok.glob, I.ok.blt, hC, ?_, ?_, ?_, I.ok.hd, I.ok.frames, .inl rfl, ?_, I.bs, Nat.le_trans I.ok.bsz I.sz, ?_, ?_, I.stack, I.stkFree, I.ok.tabs.un I.base⟩, rfl, I.bare, un, ?_, ?_, hfC, ?_, ?_, hok, ?_⟩
  · intro y z c h1 h2
    rw [(cl y c h1).1, (cl z c h2).1]
  · intro y hy
    have hy' : (relabel scope X.env).names.lookup y = some .cell ∨ (relabel scope X.env).names.lookup y = some .free := hy
    rw [rl] at hy'
    rcases hy' with h | h
    · have := ok.only y h
      subst this
      exact ⟨C + 1, by show [(y, C + 1)].lookup y = _; simp⟩
    · exact absurd rfl (ok.nofree _ (PySem.mem_of_lookup h))
  · intro y c _ h
    rw [(cl y c h).2]
    exact Nat.le_succ_of_le hC
  · intro b hb
    have hb' := hfl b hb
    refine ⟨fun z => absurd hb' (by rw [z]; exact Nat.not_lt.mpr hC), fun y c h z => ?_⟩
    rw [(cl y c h).2] at z
    exact absurd hb' (by rw [← z]; exact Nat.not_lt.mpr (Nat.le_succ_of_le hC))
  · intro b o e hb
    obtain ⟨f0, f1, f2, f3, f4, f5⟩ := hf b hb
    rcases f3 with f3 | f3
    · exact I.ok.noex b o e f3
    · exact absurd (Heap.lt_size (I.ok.bs b o e).1) (Nat.not_lt.mpr f3)
  · intro b hb hb'
    obtain ⟨f0, f1, f2, f3, f4, f5⟩ := hf b hb
    rcases List.mem_cons.mp (I.stkSub b hb') with e | e
    · exact f1 e
    · exact f2 e
  · refine ⟨m, hn, fun i y v h1 h2 h3 => ?_⟩
    have h2 : ([none] : St)[i]? = some (some v) := h2
    cases i with
    | zero => cases h2
    | succ i => simp at h2
  · intro y c h
    rw [(cl y c h).2]
    exact ⟨none, hcc⟩
  · intro y c h
    rw [(cl y c h).2]
    exact hfC1
  · intro p hp
    exact absurd (show p ∈ ([] : List (Addr × Obj)) from hp) (by simp)
  · rfl
theorem comp_blockC_0 {pins : List (Addr × Obj)} {σ : St} {H : Hp} {s : Shared} {it : Addr} {fp : List Addr} {tn : Nat → Heap → Prop} {J : It} {G : Hp} {ρ : Ev} {items : List D} {Q : VK} {RR : Value → Addr → Result → Shared → Prop} {E : Value → Shared → Prop} (ok : CompOkC X scope x) (hcalm : X.calm = true)
    (he : ∀ C s₂ H₂ fp, QF (compCxC X x scope C s₂ H₂ fp) elt ge) (ht : ∀ C s₂ H₂ fp, PTs (compCxC X x scope C s₂ H₂ fp) ifs gt)
    (I : Inv X pins σ H s) (T : Turn X.prog X.w X.K (.Name x px) J fp it tn) (st0 : tn 0 s.heap) (hf : ∀ b ∈ fp, FpOk X pins H b) (st : StE X.K G H σ ρ) (hi : ItOk X.K G J items)
    (h : (compG (setV 0) gt ge items (innerN 1 [] ρ) >>= fun ds => if ds.length ≤ sizeLine then R.ok ds else .no).post (FinL X.K G H Q) (Exx X σ G H))
    (hR : ∀ (Dd C : Addr) (s' : Shared) (m : Str → Option Value) (vs : List V) (G' H' : Hp), Up G H G' H' → H' Dd = none → C ≠ Dd → (∀ ds, Reps X.K G' vs ds → True) → Q (.ref Dd) (upd H' Dd (.lst vs)) → s'.heap.Ns C m → s'.os = s.os → AllBare s'.gens → H' C = none → s.heap.objs.size ≤ C →
      Un (frs X.stack) fp H (upd H' Dd (.lst vs)) s.heap s'.heap → HOk X.prog X.w (upd H' Dd (.lst vs)) s'.heap → RR (.ref Dd) C (.ok .next) s') :
    wpAny (model X.prog X.w) X.A (newList []) (fun acc s₃ => wpAny (model X.prog X.w) X.A (newFunctionEnv scope X.env.globals [] [] X.env.qual none .none (some X.env)) (fun cenv s₄ =>
      codeAny (model X.prog X.w) X.A (.compStart (.ListComp elt [⟨.Name x px, iter, ifs, 0⟩] scope pos) 0 (.ref it) acc { cenv with scope := relabel scope X.env }) (RR acc cenv.locals) s₄) E s₃) E s := by
  have hown : ∀ d ρ ρ', setV 0 d ρ = .ok ρ' → NoOwn ρ → NoOwn ρ' := setV_own
  have rl := relabel_none (env := X.env) ok.nofree
  have lkx : (relabel scope X.env).names.lookup x = some .cell := by rw [rl]; exact ok.lk
  have hg : ∀ C s₂ H₂ fp, PGF (compCxC X x scope C s₂ H₂ fp) (.Name x px) (setV 0) := fun C s₂ H₂ fp => pgf_name (X := compCxC X x scope C s₂ H₂ fp) (pos := px) 0 (by show [x].Nodup; simp) rfl (.inr lkx) (.inl (by show (x == x) = true; simp))
  have hfl : ∀ b ∈ fp, b < s.heap.objs.size := fun b hb => let ⟨o, e, _⟩ := T.obj 0 s.heap st0 b hb; Heap.lt_size e
  refine wpAny_newObj_type (newEnvC ok.cells fun h₁ hns₁ hcc₁ old₁ => ?_)
  dsimp only at hns₁ hcc₁ old₁ ⊢
  generalize hH2 : s.heap.push { cls := .type "list", dict := none, data := .seq ([] : List Value).toArray } = Hq at hns₁ hcc₁ old₁ ⊢
  have hC : Hq.objs.size = s.heap.objs.size + 1 := by rw [← hH2, Heap.size_push]
  have hDC : s.heap.objs.size ≠ Hq.objs.size := by rw [hC]; exact Nat.ne_of_lt (Nat.lt_succ_self _)
  have hCle : s.heap.objs.size ≤ Hq.objs.size := by rw [hC]; exact Nat.le_succ _
  have old : ∀ b o, s.heap.get? b = some o → h₁.get? b = some o := fun b o e => old₁ b o (hH2 ▸ Heap.get?_push_of_some _ e)
  have hacc : h₁.get? s.heap.objs.size = some { cls := .type "list", data := .seq ([] : List Value).toArray } := old₁ _ _ (hH2 ▸ Heap.get?_push_size _ rfl)
  have hD0 : H s.heap.objs.size = none := I.fresh
  have hC0 : H Hq.objs.size = none := I.hok.fresh hCle
  have hC1 : H (Hq.objs.size + 1) = none := I.hok.fresh (Nat.le_succ_of_le hCle)
  have st0' : tn 0 h₁ := T.keep 0 _ _ st0 fun b hb o e => old b o e
  have I0 : ∀ tk, Inv (compCxC X x scope Hq.objs.size s H fp) [] (innerS 1 [] σ) (upd H s.heap.objs.size (.lst [])) { s with heap := h₁, toks := tk } := fun tk =>
    compC_inv ok hcalm I hf hfl hCle hns₁ hcc₁ old (Un.laid old (Nat.le_refl _) hD0) (I.hok.laid old (Nat.le_refl _) ⟨Nat.zero_le _, [], 0, .nil, hacc⟩) (by rw [upd_ne hDC.symm]; exact hC0) (by rw [upd_ne (by rw [hC]; exact Nat.ne_of_gt (Nat.lt_succ_of_lt (Nat.lt_succ_self _)))]; exact hC1)
  have loop : ∀ tk, codeAny (model X.prog X.w) X.A (.compLoop (.ListComp elt [⟨.Name x px, iter, ifs, 0⟩] scope pos) 0 (.ref it) (.ref s.heap.objs.size) (compEnvC scope [(x, Hq.objs.size + 1)] Hq.objs.size X.env))
      (RR (.ref s.heap.objs.size) Hq.objs.size) { s with heap := h₁, toks := tk } := fun tk => by
    have fpk : ∀ {pins' : List (Addr × Obj)} {σ' : St} {H' : Hp} {s' : Shared}, Inv (compCxC X x scope Hq.objs.size s H fp) pins' σ' H' s' → pins' = [] → (∀ b ∈ fp, H' b = none) → ∀ b ∈ fp, FpOk (compCxC X x scope Hq.objs.size s H fp) pins' H' b := fun I' e hn b hb =>
      ⟨hn b hb, (I'.ok.exf b hb).1, I'.ok.exfs b hb, .inl hb, (I'.ok.exf b hb).2, by subst e; intro p hp; exact absurd (show p ∈ ([] : List (Addr × Obj)) from hp) (by simp)⟩
    refine compLoop_L (fun nn s' => ∃ (i : Nat) (σ' : St) (G' H' : Hp) (ρ' : Ev) (vs : List V) (ys : List D), nn = items.length - i ∧ i ≤ items.length ∧ Inv (compCxC X x scope Hq.objs.size s H fp) [] σ' H' s' ∧ tn i s'.heap ∧ (∀ b ∈ fp, H' b = none) ∧
      H' s.heap.objs.size = some (.lst vs) ∧ G' s.heap.objs.size = none ∧ Up G H G' H' ∧ StE X.K G' H' σ' ρ' ∧ (NoOwn ρ') ∧ Reps X.K G' vs ys ∧
      (compG (setV 0) gt ge (items.drop i) ρ' >>= fun zs => if (ys ++ zs).length ≤ sizeLine then R.ok (ys ++ zs) else .no).post (FinL X.K G H Q) (Exx X σ G H)) ?_ items.length
      ⟨0, innerS 1 [] σ, G, upd H s.heap.objs.size (.lst []), innerN 1 [] ρ, [], [], by simp, Nat.zero_le _, I0 tk, st0', fun b hb => by rw [upd_ne (Nat.ne_of_lt (hfl b hb))]; exact (hf b hb).1, upd_same, st.sub.free hD0,
        ⟨fun a o e => by rw [upd_ne (ne_of_none e (st.sub.free hD0))]; exact st.sub a o e, .refl _, .into hD0, fun _ _ e => .inl e⟩,
        ⟨fun a o e => by rw [upd_ne (ne_of_none e (st.sub.free hD0))]; exact st.sub a o e, (inner_st st 1 []).len, (inner_st st 1 []).val, fun j m C p fs h => absurd h (NoOwn.obj inner_own j m C p fs)⟩, inner_own, .nil, by simpa using h⟩
    rintro nn s' ⟨i, σ', G', H', ρ', vs, ys, rfl, hil, I', tn', fr', hD', gD', up', st', no', rp', h'⟩
    have hIt := hi i G' H' up'.gg st'.sub
    by_cases hlt : i < items.length
    · -- a turn
      have hd : items.drop i = items[i] :: items.drop (i + 1) := List.drop_eq_getElem_cons hlt
      rw [hd] at h'
      obtain ⟨go, yl⟩ := hIt.1 items[i] (by simp [hlt])
      refine wpAny_mono (T.item (compCxC X x scope Hq.objs.size s H fp) rfl rfl rfl hcalm i [] s' σ' H' (fun _ _ => False) I' (fpk I' rfl fr') tn' go) (fun r s1 ⟨u, hr, h1⟩ => ?_) fun _ _ z => z
      subst hr
      refine wpAny_mono h1 (fun _ s2 ⟨x2, H2, I2, r2, y2, tn2, fr2⟩ => ?_) fun _ _ z => z
      obtain ⟨G2, up2, rep2⟩ := yl x2 H2 y2
      have I2p := I2.pinned (fpk I2 rfl fr2) (T.obj _ _ tn2)
      have st2 : StE X.K G2 H2 σ' ρ' := st'.up up2
      have sr2 : StR X.K G2 H2 G2 H2 σ' ρ' := ⟨st2, up2.sub, .refl up2.sub, fun j ds e => absurd e (no'.own j ds), fun j k ds es l e => absurd e (no'.own j ds), no'.ob⟩
      have ea : ∃ ρ1, setV 0 items[i] ρ' = .ok ρ1 := by
        unfold compG at h'
        cases q : setV 0 items[i] ρ' with
        | ok k => exact ⟨k, rfl⟩
        | ex C => rw [q] at h'; exact h'.elim
        | no => rw [q] at h'; exact h'.elim
      obtain ⟨ρ1, ea⟩ := ea
      unfold compG at h'
      rw [ea] at h'
      simp only [noEx, R.ok_bind] at h'
      refine wpAny_mono (hg Hq.objs.size s H fp _ s2 σ' H2 x2 u (fun σ3 H3 => H3 = H2 ∧ StR X.K G2 H2 G2 H2 σ3 ρ1) I2p r2
        ⟨G2, H2, G2, ρ', items[i], _, sr2, rep2, ea, fun σ3 q => ⟨rfl, q⟩⟩) (fun _ s3 ⟨σ3, H3, I3, e3, sr3⟩ => ?_) fun _ _ z => z
      subst e3
      have no3 := hown _ _ _ ea no'
      have hD2 : H3 s.heap.objs.size = some (.lst vs) := up2.hh _ _ hD'
      have gD2 : G2 s.heap.objs.size = none := by
        cases q : G2 s.heap.objs.size with
        | none => rfl
        | some o =>
          rcases up2.fr _ _ q with z | z
          · rw [gD'] at z; cases z
          · rw [hD'] at z; cases z
      -- the tests
      have ek : ∃ k, gt ρ1 = .ok k := by
        cases q : gt ρ1 with
        | ok k => exact ⟨k, rfl⟩
        | ex C => rw [q] at h'; exact h'.elim
        | no => rw [q] at h'; exact h'.elim
      obtain ⟨k, ek⟩ := ek
      rw [ek] at h'
      simp only [noEx, R.ok_bind] at h'
      refine wpAny_mono (ht Hq.objs.size s H fp _ s3 σ3 H3 (fun b H4 => b = k ∧ ∃ G4, Up G2 H3 G4 H4) I3 ⟨G2, _, sr3.e, by rw [ek]; exact fun b G4 H4 u4 e4 => ⟨e4, G4, u4⟩⟩) (fun b s4 ⟨H4, I4, eb, G4, up4⟩ => ?_) fun _ _ z => z
      subst eb
      have next : ∀ {H7 : Hp} {s7 : Shared} {G7 : Hp} {vs7 : List V} {ys7 : List D}, Inv (compCxC X x scope Hq.objs.size s H fp) ([] ++ pinsAt fp s2.heap) σ3 H7 s7 → H7 s.heap.objs.size = some (.lst vs7) → G7 s.heap.objs.size = none → Up G H G7 H7 → StE X.K G7 H7 σ3 ρ1 → Reps X.K G7 vs7 ys7 →
          (compG (setV 0) gt ge (items.drop (i + 1)) ρ1 >>= fun zs => if (ys7 ++ zs).length ≤ sizeLine then R.ok (ys7 ++ zs) else .no).post (FinL X.K G H Q) (Exx X σ G H) →
          ∃ m, m < items.length - i ∧ ∃ (i : Nat) (σ' : St) (G' H' : Hp) (ρ' : Ev) (vs : List V) (ys : List D), m = items.length - i ∧ i ≤ items.length ∧ Inv (compCxC X x scope Hq.objs.size s H fp) [] σ' H' s7 ∧ tn i s7.heap ∧ (∀ b ∈ fp, H' b = none) ∧
            H' s.heap.objs.size = some (.lst vs) ∧ G' s.heap.objs.size = none ∧ Up G H G' H' ∧ StE X.K G' H' σ' ρ' ∧ (NoOwn ρ') ∧ Reps X.K G' vs ys ∧
            (compG (setV 0) gt ge (items.drop i) ρ' >>= fun zs => if (ys ++ zs).length ≤ sizeLine then R.ok (ys ++ zs) else .no).post (FinL X.K G H Q) (Exx X σ G H) := fun {H7 s7 G7 vs7 ys7} I7 hD7 gD7 up7 st7 rp7 h7 => by
        have pin : ∀ b ∈ fp, ∀ o, s2.heap.get? b = some o → s7.heap.get? b = some o ∧ H7 b = none := fun b hb o e => by
          have := I7.pin (b, o) (List.mem_append_right _ (List.mem_append_right _ (mem_pinsAt hb e)))
          exact ⟨this.1, this.2.1⟩
        refine ⟨items.length - (i + 1), by omega, i + 1, σ3, G7, H7, _, vs7, ys7, rfl, hlt, I7.unpinned, T.keep _ _ _ tn2 fun b hb o e => (pin b hb o e).1, fun b hb => ?_, hD7, gD7, up7, st7, no3, rp7, h7⟩
        obtain ⟨o, e, _⟩ := T.obj _ _ tn2 b hb
        exact (pin b hb o e).2
      have hD4 : H4 s.heap.objs.size = some (.lst vs) := up4.hh _ _ hD2
      have gD4 : G4 s.heap.objs.size = none := by
        cases q : G4 s.heap.objs.size with
        | none => rfl
        | some o =>
          rcases up4.fr _ _ q with z | z
          · rw [gD2] at z; cases z
          · rw [hD2] at z; cases z
      cases b with
      | false =>
        simp only [Bool.false_eq_true, if_false] at h' ⊢
        exact next I4 hD4 gD4 ((up'.trans up2).trans up4) (sr3.e.up up4) ((rp'.mono up2.gg).mono up4.gg) h'
      | true =>
        simp only [if_true] at h' ⊢
        have ex : ∃ y, ge ρ1 = .ok y := by
          cases q : ge ρ1 with
          | ok y => exact ⟨y, rfl⟩
          | ex C => rw [q] at h'; exact h'.elim
          | no => rw [q] at h'; exact h'.elim
        obtain ⟨y, ey⟩ := ex
        rw [ey] at h'
        simp only [noEx, R.ok_bind] at h'
        refine wpAny_mono (he Hq.objs.size s H fp _ s4 σ3 H4 (fun v H5 => ∃ G5, Up G4 H4 G5 H5 ∧ Rep X.K G5 v y) I4 ⟨G4, _, sr3.e.up up4, by rw [ey]; exact fun v G5 H5 u5 r5 => ⟨G5, u5, r5⟩⟩) (fun u5 s5 ⟨v5, H5, I5, r5, G5, up5, rep5⟩ => ?_) fun _ _ z => z
        have hD5 : H5 s.heap.objs.size = some (.lst vs) := up5.hh _ _ hD4
        have gD5 : G5 s.heap.objs.size = none := by
          cases q : G5 s.heap.objs.size with
          | none => rfl
          | some o =>
            rcases up5.fr _ _ q with z | z
            · rw [gD4] at z; cases z
            · rw [hD4] at z; cases z
        have ups := ((up'.trans up2).trans up4).trans up5
        rcases compG_noEx (asg := setV 0) (gt := gt) (ge := ge) (items.drop (i + 1)) ρ1 with ⟨zs, ez⟩ | ez
        · rw [ez] at h'
          simp only [R.ok_bind] at h'
          have hz : (ys ++ y :: zs).length ≤ sizeLine := by
            by_cases hz : (ys ++ y :: zs).length ≤ sizeLine
            · exact hz
            · rw [if_neg hz] at h'; exact h'.elim
          have hvl : vs.length < sizeLine := by
            rw [rp'.length]
            rw [List.length_append, List.length_cons] at hz
            omega
          refine wpAny_mono (mt_append (X := compCxC X x scope Hq.objs.size s H fp) _ s5 σ3 H5 (.ref s.heap.objs.size) [v5] (.ref s.heap.objs.size) [u5] (fun _ H6 => H6 = upd H5 s.heap.objs.size (.lst (vs ++ [v5]))) I5 rfl (.cons r5 .nil)
            ⟨_, vs, v5, rfl, rfl, hD5, hvl, rfl⟩) (fun _ s6 ⟨_, H6, I6, _, e6⟩ => ?_) fun _ _ z => z
          subst e6
          have sub6 : Same G5 (upd H5 s.heap.objs.size (.lst (vs ++ [v5]))) := fun a o e => by rw [upd_ne (ne_of_none e gD5)]; exact up5.sub a o e
          refine next I6 upd_same gD5 ⟨sub6, ups.gg, fun a o e => ?_, ups.fr⟩ ?_ (ys7 := ys ++ [y]) ((((rp'.mono up2.gg).mono up4.gg).mono up5.gg).append (.cons rep5 .nil)) ?_
          · rw [upd_ne (ne_of_none e hD0)]; exact ups.hh a o e
          · exact ⟨sub6, ((sr3.e.up up4).up up5).len, ((sr3.e.up up4).up up5).val, fun j m C p fs h => absurd h (no3.obj j m C p fs)⟩
          · rw [ez]
            simp only [R.ok_bind, List.append_assoc, List.singleton_append]
            exact h'
        · rw [ez] at h'; exact h'.elim
    · -- the end
      have hie : i = items.length := by omega
      subst hie
      rw [List.drop_length] at h'
      unfold compG at h'
      simp only [R.ok_bind, List.append_nil] at h'
      refine wpAny_mono (T.done (compCxC X x scope Hq.objs.size s H fp) rfl rfl rfl hcalm items.length [] s' σ' H' (fun _ _ => False) I' (fpk I' rfl fr') tn' (hIt.2 (Nat.le_refl _))) (fun r s1 ⟨hr, I1⟩ => ?_) fun _ _ z => z
      subst hr
      have hz : ys.length ≤ sizeLine := by
        by_cases hz : ys.length ≤ sizeLine
        · exact hz
        · rw [if_neg hz] at h'; exact h'.elim
      rw [if_pos hz] at h'
      have eH : upd (fun a => if a = s.heap.objs.size then none else H' a) s.heap.objs.size (.lst vs) = H' := by
        funext a
        unfold upd
        by_cases e : a = s.heap.objs.size
        · subst e; rw [if_pos rfl]; exact hD'.symm
        · rw [if_neg e]
          show (if a = s.heap.objs.size then none else H' a) = _
          rw [if_neg e]
      have hn : (fun a => if a = s.heap.objs.size then none else H' a) s.heap.objs.size = none := by simp
      have upn : Up G H G' (fun a => if a = s.heap.objs.size then none else H' a) := by
        refine ⟨fun a o e => ?_, up'.gg, fun a o e => ?_, up'.fr⟩
        · have : a ≠ s.heap.objs.size := ne_of_none e gD'
          simp only [this, if_false]; exact up'.sub a o e
        · have : a ≠ s.heap.objs.size := ne_of_none e hD0
          simp only [this, if_false]; exact up'.hh a o e
      obtain ⟨m1, hm1, _⟩ := I1.loc
      refine hR s.heap.objs.size Hq.objs.size s1 m1 vs G' _ upn hn hDC.symm (fun _ _ => trivial) (h' _ vs G' _ upn hn rp') hm1 I1.os I1.bare ?_ hCle (by rw [eH]; exact I1.base) (by rw [eH]; exact I1.hok)
      have := I1.free
      show (if Hq.objs.size = s.heap.objs.size then none else H' Hq.objs.size) = none
      rw [if_neg hDC.symm]; exact this
  exact codeAny_compStart_list (loop _) (T.self X.A 0 _ _ _ st0' (loop _))

theorem pfl_compC_0 (ok : CompOkC X scope x) (hcalm : X.calm = true) (hi : QIF X (.Name x px) iter gi) (he : ∀ C s₂ H₂ fp, QF (compCxC X x scope C s₂ H₂ fp) elt ge) (ht : ∀ C s₂ H₂ fp, PTs (compCxC X x scope C s₂ H₂ fp) ifs gt)
    (hs : ∀ x, foldedSetIterable iter X.env x = pure x := by intro _; rfl) : QFL X (.ListComp elt [⟨.Name x px, iter, ifs, 0⟩] scope pos) (gComp gi [] gt ge) := by
  intro pins s σ H Q I h
  obtain ⟨G, ρ, st, h⟩ := h
  rw [eval_ListComp]
  refine wpAny_comprehension_free (use := none) rfl hs ((closureFor_eq fun y hy hy2 => absurd hy2 (ok.nofree y hy)).trans (by rw [clOf_none ok.nofree])) ok.kind ok.names ?_
  have t : tG X (fun G J items => ItOk X.K G J items) gi σ H (fun J H1 => ∃ G1 items, Up G H G1 H1 ∧ StE X.K G1 H1 σ ρ ∧ ItOk X.K G1 J items ∧ (compD gt ge items (inner [] ρ) >>= fun ds => if ds.length ≤ sizeLine then R.ok ds else .no).post (FinL X.K G H Q) (Exx X σ G H)) := by
    refine ⟨G, ρ, st, ?_⟩
    unfold gComp at h
    cases e : gi ρ with
    | ok items => rw [e] at h; exact fun J G1 H1 u r => ⟨G1, items, u, st.up u, r, h⟩
    | ex C => rw [e] at h; exact h
    | no => rw [e] at h; exact h
  refine thn (hi pins s σ H _ I t) fun v s1 h1 => thn h1 fun itv s2 h2 => ?_
  obtain ⟨it, fp, tn, J, H2, e, I2, T, st2, f2, G2, items, u2, sE2, iok, h2⟩ := h2
  subst e
  have h2' : (compD gt ge items (inner [] ρ) >>= fun ds => if ds.length ≤ sizeLine then R.ok ds else .no).post (FinL X.K G2 H2 Q) (Exx X σ G2 H2) :=
    h2.mono (fun ds q l vs G' H' u hl r => q l vs G' H' (u2.trans u) hl r) fun C q => q.up u2
  refine comp_blockC_0 (iter := iter) (pos := pos) (RR := fun acc C => compPost (model X.prog X.w) X.A X.xe none (EP X pins σ Q) acc C) ok hcalm he ht I2 T st2 f2 sE2 iok h2' ?_
  intro Dd C s' m vs G' H' up hd hCD _ q hm hos hb hC hCl un hok
  refine ⟨m, hm, fun h' hs' => ?_⟩
  have I3 := I2.call' (H' := upd H' Dd (.lst vs)) (s' := { s' with heap := h' }) (ch := fp) hos (un.sameBut (fun b o hbc e => hs'.extBut b o hbc e) hCl) (hok.sameBut (fun b o hbc e => hs'.extBut b o hbc e) (by rw [upd_ne hCD]; exact hC)) hb fun b hb' => by
    obtain ⟨f0, f1, f2', f3, f4, f5⟩ := f2 b hb'
    exact ⟨f3, f1, f4, f5⟩
  exact ⟨.ref Dd, _, I3, rfl, q⟩
theorem compC_ok (h1 : scope.kind = .function := by rfl) (h2 : (∀ y ∈ scope.names, y.2 = .local → scope.names.lookup y.1 = some .local) ∧ ∀ y ∈ scope.names, y.2 ≠ .free := by decide +kernel) (h3 : ∀ L, cellsFrom L scope.names [] = [(x, L)] := by intro; rfl) (h4 : scope.names.lookup x = some .cell := by rfl)
    (h5 : ((scope.names.filter fun y => y.2 == .cell).map fun y => y.1) = [x] := by rfl) : CompOkC X scope x :=
  ⟨h1, h2.1, h2.2, h3, h4, fun y hy => by
    have hm : y ∈ ((scope.names.filter fun y => y.2 == .cell).map fun y => y.1) := List.mem_map.2 ⟨(y, .cell), List.mem_filter.2 ⟨PySem.mem_of_lookup hy, rfl⟩, rfl⟩
    rw [h5] at hm
    exact List.mem_singleton.1 hm⟩
theorem lamC {C : Addr} {s₂ : Shared} {H₂ : Hp} {fp : List Addr} (L : LamAt X) : LamAt (compCxC X x scope C s₂ H₂ fp) := ⟨L.ex⟩
end
end L2
namespace L2
open PySem PySem.Spec PyProof.Rows
@[irreducible] noncomputable def PF (X : Cx) (e : Expr) (g : Ev → R D) : Prop := QF X e g
@[irreducible] noncomputable def PFA (X : Cx) (e : List Expr) (g : Ev → R (List D)) : Prop := QFA X e g
@[irreducible] noncomputable def PB (X : Cx) (e : Expr) (g : Ev → R Bool) : Prop := QB X e g
@[irreducible] noncomputable def PBW (X : Cx) (e : Expr) (g : Ev → R Bool) : Prop := QBW X e g
@[irreducible] noncomputable def PSF (X : Cx) (e : Stmt) (g : Ev → O) : Prop := QSF X e g
@[irreducible] noncomputable def PSsF (X : Cx) (e : List Stmt) (g : Ev → O) : Prop := QSsF X e g
@[irreducible] noncomputable def PFL (X : Cx) (e : Expr) (g : Ev → R (List D)) : Prop := QFL X e g
@[irreducible] noncomputable def PIF (X : Cx) (tg e : Expr) (g : Ev → R (List D)) : Prop := QIF X tg e g
@[irreducible] noncomputable def PFO (X : Cx) (e : Option Expr) (g : Ev → R (Option Int)) : Prop := QFO X e g
section
variable {X : Cx} {e a b c : Expr} {ga gb gc : Ev → R D} {pos : Pos}
theorem pf_int {i : Int} {j : Nat} : PF X (.Constant (.int i) j pos) (fun _ => .ok (.int i)) := by
  with_unfolding_all exact pf_int_0 
theorem pf_bl {k : Bool} {j : Nat} : PF X (.Constant (.bool k) j pos) (fun _ => .ok (.bl k)) := by
  with_unfolding_all exact pf_bl_0 
theorem pf_non {j : Nat} : PF X (.Constant .none j pos) (fun _ => .ok .non) := by
  with_unfolding_all exact pf_non_0 
theorem pf_str {x : Str} {j : Nat} {l : List Nat} (hl : x.cps.toList = l := by rfl) (hz : l.length ≤ 1000 := by decide) : PF X (.Constant (.str x) j pos) (fun _ => .ok (.str l)) := by
  with_unfolding_all exact pf_str_0 hl hz
theorem pf_globI {x : Str} {i : Int} {t : Tok} (hg : Gl X x) (hm : X.mg x = some (.int i t)) (hd : (x == ("__debug__" : Str)) = false := by decide) : PF X (.Name x pos) (fun _ => .ok (.int i)) := by
  with_unfolding_all exact pf_globI_0 hg hm hd
end
section
variable {X : Cx}
theorem pf_add {a b : Expr} {ga gb : Ev → R D} {pos : Pos} (ha : PF X a ga) (hb : PF X b gb) : PF X (.BinOp a .Add b pos) (g2 addD ga gb) := by
  with_unfolding_all exact pf_add_0 ha hb
theorem pf_sub {a b : Expr} {ga gb : Ev → R D} {pos : Pos} (ha : PF X a ga) (hb : PF X b gb) : PF X (.BinOp a .Sub b pos) (g2 subD ga gb) := by
  with_unfolding_all exact pf_sub_0 ha hb
theorem pf_fdiv {a b : Expr} {ga gb : Ev → R D} {pos : Pos} (ha : PF X a ga) (hb : PF X b gb) : PF X (.BinOp a .FloorDiv b pos) (g2 fdivD ga gb) := by
  with_unfolding_all exact pf_fdiv_0 ha hb
theorem pf_mod {a b : Expr} {ga gb : Ev → R D} {pos : Pos} (ha : PF X a ga) (hb : PF X b gb) : PF X (.BinOp a .Mod b pos) (g2 modD ga gb) := by
  with_unfolding_all exact pf_mod_0 ha hb
end
section
variable {X : Cx} {a b c e : Expr} {ga gb gc : Ev → R D} {pos : Pos}
theorem pf_le (ha : PF X a ga) (hb : PF X b gb) : PF X (.Compare a [.LtE] [b] pos) (g2 leD ga gb) := by
  with_unfolding_all exact pf_le_0 ha hb
theorem pf_lele (ha : PF X a ga) (hb : PF X b gb) (hc : PF X c gc) (hm : lastMarks [.LtE, .LtE] [b, c] = false := by with_unfolding_all rfl) : PF X (.Compare a [.LtE, .LtE] [b, c] pos) (g3 leD leD ga gb gc) := by
  with_unfolding_all exact pf_lele_0 ha hb hc hm
end
section
variable {X : Cx} {a b : Expr} {ga gb : Ev → R D} {pos : Pos}
theorem pf_eq (hu : X.A.units + 64 < cLine) (ha : PF X a ga) (hb : PF X b gb) : PF X (.Compare a [.Eq] [b] pos) (g2 eqF ga gb) := by
  with_unfolding_all exact pf_eq_0 hu ha hb
theorem pf_ne (hu : X.A.units + 64 < cLine) (ha : PF X a ga) (hb : PF X b gb) : PF X (.Compare a [.NotEq] [b] pos) (g2 neF ga gb) := by
  with_unfolding_all exact pf_ne_0 hu ha hb
end
section
variable {X : Cx} {a b c e : Expr} {es rest : List Expr} {ga gb gc : Ev → R D} {gt gu : Ev → R Bool} {gl : Ev → R (List D)} {pos : Pos}
theorem pf_one {op : BoolOp} (h : PF X a ga) : PF X (.BoolOp op [a] pos) ga := by
  with_unfolding_all exact pf_one_0 h
theorem pf_and (ha : PF X a ga) (hb : PF X (.BoolOp .And (b :: rest) pos) gb) : PF X (.BoolOp .And (a :: b :: rest) pos) (gAnd ga gb) := by
  with_unfolding_all exact pf_and_0 ha hb
theorem pf_not (ha : PF X a ga) : PF X (.UnaryOp .Not a pos) (gNot ga) := by
  with_unfolding_all exact pf_not_0 ha
theorem pbw_and1 (ha : PB X a gt) : PBW X (.BoolOp .And [a] pos) gt := by
  with_unfolding_all exact pbw_and1_0 ha
theorem pbw_or1 (ha : PB X a gt) : PBW X (.BoolOp .Or [a] pos) gt := by
  with_unfolding_all exact pbw_or1_0 ha
theorem pbw_and (ha : PB X a gt) (hb : PBW X (.BoolOp .And (b :: rest) pos) gu) : PBW X (.BoolOp .And (a :: b :: rest) pos) (tAndB gt gu) := by
  with_unfolding_all exact pbw_and_0 ha hb
theorem pbw_or (ha : PB X a gt) (hb : PBW X (.BoolOp .Or (b :: rest) pos) gu) : PBW X (.BoolOp .Or (a :: b :: rest) pos) (tOrB gt gu) := by
  with_unfolding_all exact pbw_or_0 ha hb
theorem pf_if (hc : PB X c gt) (ha : PF X a ga) (hb : PF X b gb) : PF X (.IfExp c a b pos) (gIf gt ga gb) := by
  with_unfolding_all exact pf_if_0 hc ha hb
theorem pfa_nil  : PFA X [] (fun _ => .ok []) := by
  with_unfolding_all exact pfa_nil_0 
theorem pf_ix (ha : PF X a ga) (hb : PF X b gb) (hs : PlainIx b := by exact fun _ _ => rfl) : PF X (.Subscript a b pos) (g2 ixD ga gb) := by
  with_unfolding_all exact pf_ix_0 ha hb hs
end
section
variable {X : Cx} {a b c e : Expr} {es rest : List Expr} {lo hi : Option Expr} {ga gb gc : Ev → R D} {go gp : Ev → R (Option Int)} {gl : Ev → R (List D)} {pos p2 : Pos}
theorem pfo_none  : PFO X none (fun _ => .ok none) := by
  with_unfolding_all exact pfo_none_0 
theorem pf_slice (ha : PF X a ga) (hl : PFO X lo go) (hu : PFO X hi gp) : PF X (.Subscript a (.Slice lo hi none p2) pos) (gSl ga go gp) := by
  with_unfolding_all exact pf_slice_0 ha hl hu
theorem pf_callTy {T : String} {x : Str} {p : Pos} {r : List V → Hp → VK → Prop} {f : List D → Option D} (hc : CallR X (.type T) r) (hf : CROk X.K r f) (hg : Gl X x) (hm : X.mg x = none) (hv : bootBuiltins x = some (.type T)) (ha : PFA X (e :: es) gl)
    (hn : x ≠ "__name__" := by decide) (hdb : (x == ("__debug__" : Str)) = false := by decide)
    (he : starEach (e :: es) X.env = (false, eval e X.env) :: starEach es X.env := by rfl) (hpl : (backTo pos (starEach es X.env)).any (·.1) = false := by rfl) : PF X (.Call (.Name x p) (e :: es) [] pos) (fun ρ => gl ρ >>= fun ds => ofO (f ds)) := by
  with_unfolding_all exact pf_callTy_0 hc hf hg hm hv ha hn hdb he hpl
end
section
variable {X : Cx} {tg a e : Expr} {ga : Ev → R D} {gl : Ev → R (List D)} {pos : Pos}
end
section
end
section
variable {X : Cx} {elt iter : Expr} {ifs : List Expr} {x : Str} {px pos : Pos} {scope : Scope} {N' : List Str} {ix : List Nat} {gi : Ev → R (List D)} {gt : Ev → R Bool} {ge : Ev → R D}
theorem pfl_comp (ok : CompOk X scope x N' ix) (hcalm : X.calm = true) (hi : PIF X (.Name x px) iter gi) (he : ∀ C s₂ H₂ fp, PF (compCx X N' scope C s₂ H₂ fp) elt ge) (ht : ∀ C s₂ H₂ fp, PTs (compCx X N' scope C s₂ H₂ fp) ifs gt)
    (hs : ∀ x, foldedSetIterable iter X.env x = pure x := by intro _; rfl) : PFL X (.ListComp elt [⟨.Name x px, iter, ifs, 0⟩] scope pos) (gComp gi ix gt ge) := by
  with_unfolding_all exact pfl_comp_0 ok hcalm hi he ht hs
end
section
variable {X : Cx} {st : Stmt} {rest body a b : List Stmt} {e c tg : Expr} {g g1 g2 : Ev → O} {ga : Ev → R D} {gt : Ev → R Bool} {gl : Ev → R (List D)} {pos : Pos}
end
section
variable {X : Cx} {k : Nat} {f : Addr} {fd : FuncData} {ps : List Str} {x : Str} {p pos : Pos} {e : Expr} {es : List Expr} {gl : Ev → R (List D)} {g : List D → R D}
end
section
theorem Fun.okF {P : Program} {w : World} {K : PySem.W.Frag} {mg : Str → Option Value} {base : Heap} {x qual : Str} {st : Stmt} {f : Addr} {fd : FuncData} {N ps : List Str} {k : Nat} (F : Fun K x qual st f fd) (S : FnScope N ps (defScope st)) {g : Ev → O}
    (hbody : ∀ (cdv : Value) (A : Around) (outer : List Env) (s : Shared) (H : Hp) (E : XK), Room k (A.deeper (envOfC qual (defScope st) s.heap.objs.size f cdv)) → PSsF (cxOf (CXo P w) P w K mg base N qual (defScope st) f cdv A outer s H E) (defBody st) g) : FnF P w K mg base (k + 1) f fd ps (fun ds => bodyR (g (startE N.length ds))) := by
  with_unfolding_all exact Fun.okF_0 F S hbody
end
section
variable {X : Cx}
theorem pf_mul {a b : Expr} {ga gb : Ev → R D} {pos : Pos} (ha : PF X a ga) (hb : PF X b gb) : PF X (.BinOp a .Mult b pos) (g2 mulD ga gb) := by
  with_unfolding_all exact pf_mul_0 ha hb
end
section
variable {X : Cx} {e o : Expr} {es : List Expr} {ga gb : Ev → R D} {gl : Ev → R (List D)} {pos : Pos}
end
section
variable {X : Cx} {e : Expr} {es : List Expr} {ga : Ev → R D} {gl : Ev → R (List D)} {pos : Pos}
end
section
variable {X : Cx} {body suite : List Stmt} {b₀ : Stmt} {gb gs : Ev → O} {pos hp tp : Pos} {tn nm : Str} {Ct : Addr}
end
section
end
section
variable {X : Cx} {e : Expr} {ga : Ev → R D} {p p2 pos : Pos}
end
section
variable {X : Cx} {st : Stmt} {rest body sa sb : List Stmt} {e a b c o tg : Expr} {es : List Expr} {g gs1 gs2 : Ev → O} {ga gb gc : Ev → R D} {gt : Ev → R Bool} {gl : Ev → R (List D)} {pos p p2 : Pos} {x : Str}
theorem k_cons (h1 : PSF X st gs1) (h2 : PSsF X rest gs2) : PSsF X (st :: rest) (oSeq gs1 gs2) := by
  with_unfolding_all exact k_cons_0 h1 h2
theorem k_nil  : PSsF X [] oNx := by
  with_unfolding_all exact k_nil_0 
theorem k_ret (he : PF X e ga) : PSF X (.Return (some e) pos) (oRet ga) := by
  with_unfolding_all exact k_ret_0 he
theorem k_if (hc : PB X c gt) (ha : PSsF X sa gs1) (hb : PSsF X sb gs2) : PSF X (.If c sa sb pos) (oIf gt gs1 gs2) := by
  with_unfolding_all exact k_if_0 hc ha hb
theorem k_own (i : Nat) (hN : X.N.Nodup) (he : PFL X e gl) (hi : X.N[i]? = some x := by rfl) (hx : Loc X.env.scope x := by first | exact Or.inl rfl | exact Or.inr rfl)
    (hs : swapsWithSole [.Name x p] e pos.line X.env = pure false := by rfl) (hw : swappedStores [.Name x p] e X.env = pure none := by rfl) (hf : X.fn x = true ∨ X.env.scope.names.lookup x = some .local := by first | exact .inl rfl | exact .inr rfl) : PSF X (.Assign [.Name x p] e pos) (oOwn i gl) := by
  with_unfolding_all exact k_own_0 i hN he hi hx hs hw hf
theorem k_expr (he : PF X e ga) (hs : swapsWith e none pos.line X.env = pure false := by rfl) : PSF X (.Expr e pos) (oExpr ga) := by
  with_unfolding_all exact k_expr_0 he hs
theorem k_for {iter : Expr} {gi : Ev → R (List D)} {asg : D → Ev → R Ev} (hp : PassesOwn (model X.prog X.w) X.A X.env X.xe) (hcalm : X.calm = true) (hi : PIF X tg iter gi) (hg : PGF X tg asg) (hb : PSsF X body g)
    (hs : ∀ x, foldedSetIterable iter X.env x = pure x := by intro _; rfl) (hn : ∀ d ρ C, asg d ρ ≠ .ex C := by intro _ _ _ z; cases z) : PSF X (.For tg iter body [] pos) (oFor asg gi g) := by
  with_unfolding_all exact k_for_0 hp hcalm hi hg hb hs hn
theorem k_len (hg : Gl X "len") (hm : X.mg "len" = none) (ha : PFA X [e] gl) (he : starEach [e] X.env = [(false, eval e X.env)] := by rfl) : PF X (.Call (.Name "len" p) [e] [] pos) (gOf lenF gl) := by
  with_unfolding_all exact k_len_0 hg hm ha he
theorem k_all (hc : X.calm = true) (hg : Gl X "all") (hm : X.mg "all" = none) (ha : PFA X [e] gl) (he : starEach [e] X.env = [(false, eval e X.env)] := by rfl) : PF X (.Call (.Name "all" p) [e] [] pos) (gOf allF gl) := by
  with_unfolding_all exact k_all_0 hc hg hm ha he
theorem k_acons (ha : PF X e ga) (hr : PFA X es gl) (hs : starEach (e :: es) X.env = (false, eval e X.env) :: starEach es X.env := by rfl) : PFA X (e :: es) (gACons ga gl) := by
  with_unfolding_all exact k_acons_0 ha hr hs
theorem k_call {k n : Nat} {f : List D → R D} (c : Callee X.prog X.w X.K X.mg X.base x k n f) (hr : Room k X.A) (ha : PFA X (e :: es) gl) (hg : Gl X x := by rfl)
    (hdb : (x == ("__debug__" : Str)) = false := by decide) (he : starEach (e :: es) X.env = (false, eval e X.env) :: starEach es X.env := by rfl) (hpl : (backTo pos (starEach es X.env)).any (·.1) = false := by rfl) : PF X (.Call (.Name x p) (e :: es) [] pos) (gCall n f gl) := by
  with_unfolding_all exact k_call_0 c hr ha hg hdb he hpl
theorem k_comp {gens : List Comprehension} {sc : Scope} (h : PFL X (.ListComp e gens sc pos) gl) : PF X (.ListComp e gens sc pos) (gFresh gl) := by
  with_unfolding_all exact k_comp_0 h
theorem k_list (h : PFL X (.List es pos) gl) : PF X (.List es pos) (gFresh gl) := by
  with_unfolding_all exact k_list_0 h
theorem k_lst (h : PFA X es gl) : PFL X (.List es pos) (gLst gl) := by
  with_unfolding_all exact k_lst_0 h
theorem k_tup {k : Nat} (h : PFA X es gl) : PF X (.Tuple es k pos) (gThen mkT gl) := by
  with_unfolding_all exact k_tup_0 h
theorem k_neg (ha : PF X a ga) : PF X (.UnaryOp .USub a pos) (gThen negD ga) := by
  with_unfolding_all exact k_neg_0 ha
theorem k_isInt (hm : X.mg "isinstance" = none) (ha : PF X e ga) (hm2 : X.mg "int" = none) (hg2 : Gl X "int" := by rfl) (hg : Gl X "isinstance" := by rfl) (hs1 : starEach [e, .Name "int" p2] X.env = (false, eval e X.env) :: starEach [.Name "int" p2] X.env := by rfl) : PF X (.Call (.Name "isinstance" p) [e, .Name "int" p2] [] pos) (gThen (isTy isInt) ga) := by
  with_unfolding_all exact k_isInt_0 hm ha hm2 hg2 hg hs1
theorem k_isBool (hm : X.mg "isinstance" = none) (ha : PF X e ga) (hm2 : X.mg "bool" = none) (hg2 : Gl X "bool" := by rfl) (hg : Gl X "isinstance" := by rfl) (hs1 : starEach [e, .Name "bool" p2] X.env = (false, eval e X.env) :: starEach [.Name "bool" p2] X.env := by rfl) : PF X (.Call (.Name "isinstance" p) [e, .Name "bool" p2] [] pos) (gThen (isTy (· == "bool")) ga) := by
  with_unfolding_all exact k_isBool_0 hm ha hm2 hg2 hg hs1
theorem k_isStr (hm : X.mg "isinstance" = none) (ha : PF X e ga) (hm2 : X.mg "str" = none) (hg2 : Gl X "str" := by rfl) (hg : Gl X "isinstance" := by rfl) (hs1 : starEach [e, .Name "str" p2] X.env = (false, eval e X.env) :: starEach [.Name "str" p2] X.env := by rfl) : PF X (.Call (.Name "isinstance" p) [e, .Name "str" p2] [] pos) (gThen (isTy (· == "str")) ga) := by
  with_unfolding_all exact k_isStr_0 hm ha hm2 hg2 hg hs1
theorem k_isTuple (hm : X.mg "isinstance" = none) (ha : PF X e ga) (hm2 : X.mg "tuple" = none) (hg2 : Gl X "tuple" := by rfl) (hg : Gl X "isinstance" := by rfl) (hs1 : starEach [e, .Name "tuple" p2] X.env = (false, eval e X.env) :: starEach [.Name "tuple" p2] X.env := by rfl) : PF X (.Call (.Name "isinstance" p) [e, .Name "tuple" p2] [] pos) (gThen (isTy (· == "tuple")) ga) := by
  with_unfolding_all exact k_isTuple_0 hm ha hm2 hg2 hg hs1
theorem k_some (h : PF X e ga) : PFO X (some e) (gSome ga) := by
  with_unfolding_all exact k_some_0 h
theorem k_blt (ha : PF X a ga) (hb : PF X b gb) : PB X (.Compare a [.Lt] [b] pos) (gB2 ltD ga gb) := by
  with_unfolding_all exact k_blt_0 ha hb
theorem k_beq (hu : X.A.units + 64 < cLine) (ha : PF X a ga) (hb : PF X b gb) : PB X (.Compare a [.Eq] [b] pos) (gB2 eqF ga gb) := by
  with_unfolding_all exact k_beq_0 hu ha hb
theorem k_bne (hu : X.A.units + 64 < cLine) (ha : PF X a ga) (hb : PF X b gb) : PB X (.Compare a [.NotEq] [b] pos) (gB2 neF ga gb) := by
  with_unfolding_all exact k_bne_0 hu ha hb
theorem k_blele (ha : PF X a ga) (hb : PF X b gb) (hc : PF X c gc) (hm : lastMarks [.LtE, .LtE] [b, c] = false := by with_unfolding_all rfl) : PB X (.Compare a [.LtE, .LtE] [b, c] pos) (gB3 leD leD ga gb gc) := by
  with_unfolding_all exact k_blele_0 ha hb hc hm
theorem k_bnot (ha : PB X a gt) : PB X (.UnaryOp .Not a pos) (gBn gt) := by
  with_unfolding_all exact k_bnot_0 ha
theorem k_bval (h : PF X (.Call a es [] pos) ga) : PB X (.Call a es [] pos) (gThen truD ga) := by
  with_unfolding_all exact k_bval_0 h
theorem k_bop {op : BoolOp} (h : PBW X (.BoolOp op es pos) gt) : PB X (.BoolOp op es pos) gt := by
  with_unfolding_all exact k_bop_0 h
theorem k_ival (ha : PF X a ga) : PIF X tg a (gThen itemsD ga) := by
  with_unfolding_all exact k_ival_0 ha
theorem k_irange (hg : Gl X "range") (hm : X.mg "range" = none) (ha : PFA X [a] gl) (hs : starEach [a] X.env = [(false, eval a X.env)] := by rfl) : PIF X tg (.Call (.Name "range" p) [a] [] pos) (gThen rangeD1 gl) := by
  with_unfolding_all exact k_irange_0 hg hm ha hs
end
section
variable {X : Cx} {N : List Str} {i : Nat} {x : Str} {pos : Pos}
theorem k_var {CX : CXT} {P : Program} {w : World} {K : PySem.W.Frag} {mg : Str → Option Value} {base : Heap} {qual : Str} {scope : Scope} {f : Addr} {cdv : Value} {A : Around} {outer : List Env} {s : Shared} {H : Hp} {E : XK} (h : At N i x)
    (hv : Vis (cxOf CX P w K mg base N qual scope f cdv A outer s H E).env.scope x := by first | exact Or.inl rfl | exact Or.inr (Or.inl rfl) | exact Or.inr (Or.inr rfl)) (hd : (x == ("__debug__" : Str)) = false := by decide)
    (hcd : (x == ("__classdict__" : Str)) = false := by decide) : PF (cxOf CX P w K mg base N qual scope f cdv A outer s H E) (.Name x pos) (fun ρ => rdV ρ i) := by
  with_unfolding_all exact k_var_0 h hv hd hcd
theorem k_varC {scope : Scope} {C : Addr} {s₂ : Shared} {H₂ : Hp} {fp : List Addr} (h : At N i x)
    (hv : Vis (compCx X N scope C s₂ H₂ fp).env.scope x := by first | exact Or.inl rfl | exact Or.inr (Or.inl rfl) | exact Or.inr (Or.inr rfl)) (hd : (x == ("__debug__" : Str)) = false := by decide)
    (hcd : (x == ("__classdict__" : Str)) = false := by decide) : PF (compCx X N scope C s₂ H₂ fp) (.Name x pos) (fun ρ => rdV ρ i) := by
  with_unfolding_all exact k_varC_0 h hv hd hcd
theorem k_put {CX : CXT} {P : Program} {w : World} {K : PySem.W.Frag} {mg : Str → Option Value} {base : Heap} {qual : Str} {scope : Scope} {f : Addr} {cdv : Value} {A : Around} {outer : List Env} {s : Shared} {H : Hp} {E : XK} {e : Expr} {p : Pos} {ga : Ev → R D} (h : At N i x) (hN : N.Nodup)
    (he : PF (cxOf CX P w K mg base N qual scope f cdv A outer s H E) e ga) (hx : Loc (cxOf CX P w K mg base N qual scope f cdv A outer s H E).env.scope x := by first | exact Or.inl rfl | exact Or.inr rfl)
    (hs : swapsWithSole [.Name x p] e pos.line (cxOf CX P w K mg base N qual scope f cdv A outer s H E).env = pure false := by rfl) (hw : swappedStores [.Name x p] e (cxOf CX P w K mg base N qual scope f cdv A outer s H E).env = pure none := by rfl)
    (hf : (cxOf CX P w K mg base N qual scope f cdv A outer s H E).fn x = true ∨ (cxOf CX P w K mg base N qual scope f cdv A outer s H E).env.scope.names.lookup x = some .local := by first | exact .inl rfl | exact .inr rfl) : PSF (cxOf CX P w K mg base N qual scope f cdv A outer s H E) (.Assign [.Name x p] e pos) (oSet i ga) := by
  with_unfolding_all exact k_put_0 h hN he hx hs hw hf
end
section
theorem k_raise {X : Cx} {x : Str} {C : Addr} {e : Expr} {ga : Ev → R D} {np cp pos : Pos} (r : Ref x C X.mg X.base) (hh : X.A.handled = none) (ha : PF X e ga) (hg : Gl X x := by rfl)
    (hdb : (x == ("__debug__" : Str)) = false := by decide) (hs : starEach [e] X.env = (false, eval e X.env) :: starEach [] X.env := by rfl) : PSF X (.Raise (some (.Call (.Name x np) [e] [] cp)) none pos) (oRaise C (gACons ga fun _ => .ok [])) := by
  with_unfolding_all exact k_raise_0 r hh ha hg hdb hs
end
section
variable {X : Cx} {elt iter : Expr} {ifs : List Expr} {x : Str} {px pos : Pos} {scope : Scope} {N' : List Str} {ix : List Nat} {gi : Ev → R (List D)} {gt : Ev → R Bool} {ge : Ev → R D}
theorem k_compA (i : Nat) {y : Str} {py spos : Pos} (hN : X.N.Nodup) (ok : CompOk X scope x N' ix) (hcalm : X.calm = true) (hi : PIF X (.Name x px) iter gi) (he : ∀ C s₂ H₂ fp, PF (compCx X N' scope C s₂ H₂ fp) elt ge) (ht : ∀ C s₂ H₂ fp, PTs (compCx X N' scope C s₂ H₂ fp) ifs gt)
    (hni : X.N[i]? = some y := by rfl) (hy : X.env.scope.names.lookup y = some .local := by rfl) (hs : ∀ x, foldedSetIterable iter X.env x = pure x := by intro _; rfl)
    (hsw : swapsWith (.ListComp elt [⟨.Name x px, iter, ifs, 0⟩] scope pos) (some (.Name y py)) spos.line X.env = pure true := by rfl) : PSF X (.Assign [.Name y py] (.ListComp elt [⟨.Name x px, iter, ifs, 0⟩] scope pos) spos) (oOwn i (gComp gi ix gt ge)) := by
  with_unfolding_all exact k_compA_0 i hN ok hcalm hi he ht hni hy hs hsw
end
section
variable {X : Cx} {st : Stmt} {rest body : List Stmt} {e c o : Expr} {es : List Expr} {g : Ev → O} {ga : Ev → R D} {gl : Ev → R (List D)} {pos p p2 : Pos}
theorem k_extend (i : Nat) {x : Str} {p ap cp : Pos} (he : PF X e ga) (hi : X.N[i]? = some x := by rfl) (hv : Vis X.env.scope x := by first | exact Or.inl rfl | exact Or.inr (Or.inl rfl))
    (hd : (x == ("__debug__" : Str)) = false := by decide) (hcd : (x == ("__classdict__" : Str)) = false := by decide) (hs1 : starEach [e] X.env = (false, eval e X.env) :: starEach [] X.env := by rfl)
    (hbase : attributeBase (.Name x p) "extend" X.env (eval (.Name x p) X.env) = eval (.Name x p) X.env := by rfl)
    (hfew : ((backTo cp (starEach [e] X.env)).all (fun x => !x.1) && (backToKw cp (keywordEach [] X.env)).all (fun x => x.1.isSome)
      && decide ([e].length + ([] : List Keyword).length + (if ([] : List Keyword).isEmpty then 0 else 1) < 30)) = true := by rfl)
    (hline : (ap.endLine == cp.line) = true := by rfl)
    (hs : swapsWith (.Call (.Attribute (.Name x p) "extend" ap) [e] [] cp) none pos.line X.env = pure false := by rfl) : PSF X (.Expr (.Call (.Attribute (.Name x p) "extend" ap) [e] [] cp) pos) (oExt i ga) := by
  with_unfolding_all exact k_extend_0 i he hi hv hd hcd hs1 hbase hfew hline hs
theorem k_append (i : Nat) {x : Str} {p ap cp : Pos} (he : PF X e ga) (hi : X.N[i]? = some x := by rfl) (hv : Vis X.env.scope x := by first | exact Or.inl rfl | exact Or.inr (Or.inl rfl))
    (hd : (x == ("__debug__" : Str)) = false := by decide) (hcd : (x == ("__classdict__" : Str)) = false := by decide) (hs1 : starEach [e] X.env = (false, eval e X.env) :: starEach [] X.env := by rfl)
    (hbase : attributeBase (.Name x p) "append" X.env (eval (.Name x p) X.env) = eval (.Name x p) X.env := by rfl)
    (hfew : ((backTo cp (starEach [e] X.env)).all (fun x => !x.1) && (backToKw cp (keywordEach [] X.env)).all (fun x => x.1.isSome)
      && decide ([e].length + ([] : List Keyword).length + (if ([] : List Keyword).isEmpty then 0 else 1) < 30)) = true := by rfl)
    (hline : (ap.endLine == cp.line) = true := by rfl)
    (hs : swapsWith (.Call (.Attribute (.Name x p) "append" ap) [e] [] cp) none pos.line X.env = pure false := by rfl) : PSF X (.Expr (.Call (.Attribute (.Name x p) "append" ap) [e] [] cp) pos) (oApp i ga) := by
  with_unfolding_all exact k_append_0 i he hi hv hd hcd hs1 hbase hfew hline hs
theorem k_frz {sts : List Stmt} (i : Nat) (h : PSsF X sts g) : PSsF X sts (oFrz i g) := by
  with_unfolding_all exact k_frz_0 i h
theorem k_count {ap cp : Pos} (ho : PF X o ga) (ha : PFA X [e] gl) (hbase : attributeBase o "count" X.env (eval o X.env) = eval o X.env := by rfl)
    (hfew : ((backTo cp (starEach [e] X.env)).all (fun x => !x.1) && (backToKw cp (keywordEach [] X.env)).all (fun x => x.1.isSome)
      && decide ([e].length + ([] : List Keyword).length + (if ([] : List Keyword).isEmpty then 0 else 1) < 30)) = true := by rfl)
    (hline : (ap.endLine == cp.line) = true := by rfl) (hs : starEach [e] X.env = (false, eval e X.env) :: starEach [] X.env := by rfl) : PF X (.Call (.Attribute o "count" ap) [e] [] cp) (gMeth "list" countF ga gl) := by
  with_unfolding_all exact k_count_0 ho ha hbase hfew hline hs
theorem k_index {ap cp : Pos} (ho : PF X o ga) (ha : PFA X [e] gl) (hbase : attributeBase o "index" X.env (eval o X.env) = eval o X.env := by rfl)
    (hfew : ((backTo cp (starEach [e] X.env)).all (fun x => !x.1) && (backToKw cp (keywordEach [] X.env)).all (fun x => x.1.isSome)
      && decide ([e].length + ([] : List Keyword).length + (if ([] : List Keyword).isEmpty then 0 else 1) < 30)) = true := by rfl)
    (hline : (ap.endLine == cp.line) = true := by rfl) (hs : starEach [e] X.env = (false, eval e X.env) :: starEach [] X.env := by rfl) : PF X (.Call (.Attribute o "index" ap) [e] [] cp) (gMeth "list" indexF ga gl) := by
  with_unfolding_all exact k_index_0 ho ha hbase hfew hline hs
end
section
variable {X : Cx} {e : Expr} {ga : Ev → R D} {p p2 pos : Pos} {rs : List Addr} {ts : List (Str × Addr)}
theorem k_isErr {y : Str} {T : Addr} (Er : Errs X.K X.mg rs ts) (hy : (y, T) ∈ ts) (hm : X.mg "isinstance" = none) (ha : PF X e ga) (hg : Gl X "isinstance" := by rfl) (hg2 : Gl X y := by rfl) (hd : (y == ("__debug__" : Str)) = false := by decide)
    (hs1 : starEach [e, .Name y p2] X.env = (false, eval e X.env) :: starEach [.Name y p2] X.env := by rfl) : PF X (.Call (.Name "isinstance" p) [e, .Name y p2] [] pos) (gThen (isEx (isOf rs T)) ga) := by
  with_unfolding_all exact k_isErr_0 Er hy hm ha hg hg2 hd hs1
theorem k_isVE (Er : Errs X.K X.mg rs ts) (hm : X.mg "isinstance" = none) (hm2 : X.mg "ValueError" = none) (ha : PF X e ga) (hg : Gl X "isinstance" := by rfl) (hg2 : Gl X "ValueError" := by rfl)
    (hs1 : starEach [e, .Name "ValueError" p2] X.env = (false, eval e X.env) :: starEach [.Name "ValueError" p2] X.env := by rfl) : PF X (.Call (.Name "isinstance" p) [e, .Name "ValueError" p2] [] pos) (gThen (isEx (isVE rs)) ga) := by
  with_unfolding_all exact k_isVE_0 Er hm hm2 ha hg hg2 hs1
end
section
variable {CX : CXT} {P : Program} {w : World} {K : PySem.W.Frag} {mg : Str → Option Value} {base : Heap} {N : List Str} {i : Nat} {x : Str} {qual : Str} {scope : Scope} {f a : Addr} {cdv : Value} {A : Around} {outer : List Env} {s : Shared} {H : Hp} {E : XK} {pn : List (Addr × Obj)} {xe : Value → Shared → Prop} {pos p : Pos} {e : Expr} {ga : Ev → R D}
theorem k_varS (h : At N i x) (hv : Vis (cxOf CX P w K mg base N qual scope f cdv A outer s H E).env.scope x := by first | exact Or.inl rfl | exact Or.inr (Or.inl rfl) | exact Or.inr (Or.inr rfl)) (hd : (x == ("__debug__" : Str)) = false := by decide)
    (hcd : (x == ("__classdict__" : Str)) = false := by decide) : PF (sutCx (cxOf CX P w K mg base N qual scope f cdv A outer s H E) a xe) (.Name x pos) (fun ρ => rdV ρ i) := by
  with_unfolding_all exact k_varS_0 h hv hd hcd
theorem k_putS (h : At N i x) (hN : N.Nodup) (he : PF (sutCx (cxOf CX P w K mg base N qual scope f cdv A outer s H E) a xe) e ga) (hx : Loc (cxOf CX P w K mg base N qual scope f cdv A outer s H E).env.scope x := by first | exact Or.inl rfl | exact Or.inr rfl)
    (hs : swapsWithSole [.Name x p] e pos.line (cxOf CX P w K mg base N qual scope f cdv A outer s H E).env = pure false := by rfl) (hw : swappedStores [.Name x p] e (cxOf CX P w K mg base N qual scope f cdv A outer s H E).env = pure none := by rfl)
    (hf : (cxOf CX P w K mg base N qual scope f cdv A outer s H E).fn x = true ∨ (cxOf CX P w K mg base N qual scope f cdv A outer s H E).env.scope.names.lookup x = some .local := by first | exact .inl rfl | exact .inr rfl) : PSF (sutCx (cxOf CX P w K mg base N qual scope f cdv A outer s H E) a xe) (.Assign [.Name x p] e pos) (oSet i ga) := by
  with_unfolding_all exact k_putS_0 h hN he hx hs hw hf
end
section
variable {X : Cx} {body suite : List Stmt} {b₀ : Stmt} {gb gs : Ev → O} {pos hp tp : Pos} {nm : Str} {rs : List Addr} {ts : List (Str × Addr)}
end
section
variable {X : Cx} {st : Stmt} {rest body a b : List Stmt} {e c tg : Expr} {g g1 g2 : Ev → O} {ga gb : Ev → R D} {gt : Ev → R Bool} {gl : Ev → R (List D)} {pos : Pos}
end
section
variable {X : Cx} {e : Expr} {ga : Ev → R D} {p p2 p3 p4 pos : Pos} {k : Nat}
end
section
theorem k_join {X : Cx} {o e : Expr} {ga : Ev → R D} {gl : Ev → R (List D)} {ap cp : Pos} (ho : PF X o ga) (ha : PFA X [e] gl) (hbase : attributeBase o "join" X.env (eval o X.env) = eval o X.env := by rfl)
    (hfew : ((backTo cp (starEach [e] X.env)).all (fun x => !x.1) && (backToKw cp (keywordEach [] X.env)).all (fun x => x.1.isSome)
      && decide ([e].length + ([] : List Keyword).length + (if ([] : List Keyword).isEmpty then 0 else 1) < 30)) = true := by rfl)
    (hline : (ap.endLine == cp.line) = true := by rfl) (hs : starEach [e] X.env = (false, eval e X.env) :: starEach [] X.env := by rfl) : PF X (.Call (.Attribute o "join" ap) [e] [] cp) (gMeth "str" joinD ga gl) := by
  with_unfolding_all exact k_join_0 ho ha hbase hfew hline hs
end
section
variable {X : Cx}
end
section
variable {X : Cx} {a b : Expr} {ga gb : Ev → R D} {elts : List Expr} {kt : Nat} {p pos tp kp : Pos}
end
section
variable {X : Cx} {elt iter tgt : Expr} {ifs : List Expr} {pos : Pos} {scope : Scope} {n : Nat} {N' : List Str} {ix : List Nat} {asg : D → Ev → R Ev} {gi : Ev → R (List D)} {gt : Ev → R Bool} {ge : Ev → R D}
end
section
variable {X : Cx}
end
section
variable {X : Cx} {ga : Ev → R D} {gl : Ev → R (List D)} {pos : Pos}
theorem k_parO (i j : Nat) {x y : Str} {a b : Expr} {px py pt pt2 : Pos} {kt k2 : Nat} (hc : X.calm = true) (hN : X.N.Nodup) (ha : PF X a ga) (hb : PFL X b gl) (hij : i ≠ j := by decide) (hi : X.N[i]? = some x := by rfl) (hj : X.N[j]? = some y := by rfl)
    (hx : X.env.scope.names.lookup x = some .local := by rfl) (hy : X.env.scope.names.lookup y = some .local := by rfl)
    (hw : swappedStores [.Tuple [.Name x px, .Name y py] kt pt] (.Tuple [a, b] k2 pt2) X.env = pure (some [x, y]) := by rfl)
    (hs : swapsWithSole [.Tuple [.Name x px, .Name y py] kt pt] (.Tuple [a, b] k2 pt2) pos.line X.env = pure false := by rfl)
    (h1 : starEach [a, b] X.env = (false, eval a X.env) :: starEach [b] X.env := by rfl) (h2 : starEach [b] X.env = (false, eval b X.env) :: starEach [] X.env := by rfl) : PSF X (.Assign [.Tuple [.Name x px, .Name y py] kt pt] (.Tuple [a, b] k2 pt2) pos) (oParO i j ga gl) := by
  with_unfolding_all exact k_parO_0 i j hc hN ha hb hij hi hj hx hy hw hs h1 h2
end
section
variable {X : Cx} {a b : Expr} {gl : Ev → R (List D)} {elts : List Expr} {kt : Nat} {p pos tp : Pos}
end
section
variable {X : Cx} {a st : Expr} {ga gs : Ev → R D} {pos p2 : Pos}
theorem k_rev (ha : PF X a ga) (hs : PF X st gs) : PF X (.Subscript a (.Slice none none (some st) p2) pos) (gRev ga gs) := by
  with_unfolding_all exact k_rev_0 ha hs
end
section
variable {X : Cx} {c e : Expr} {body : List Stmt} {gt : Ev → R Bool} {g : Ev → O} {ga : Ev → R D} {pos : Pos}
end
section
variable {X : Cx} {a b ix e : Expr} {es : List Expr} {ga gb gi : Ev → R D} {gl : Ev → R (List D)} {pos p1 p2 pl sp : Pos}
end
section
variable {X : Cx} {a b : Expr} {ga gb : Ev → R D} {pos : Pos}
theorem pf_globS {x z : Str} {l : List Nat} {t : Tok} (hg : Gl X x) (hm : X.mg x = some (.str z t)) (hl : z.cps.toList = l := by rfl) (hz : l.length ≤ 1000 := by decide) (hd : (x == ("__debug__" : Str)) = false := by decide) : PF X (.Name x pos) (fun _ => .ok (.str l)) := by
  with_unfolding_all exact pf_globS_0 hg hm hl hz hd
end
section
variable {X : Cx} {a b c e e1 e2 e3 e4 e5 : Expr} {ga gb gc g1 g2' g3' g4 g5 : Ev → R D} {gl : Ev → R (List D)} {pos p : Pos}
theorem k_fmt (h : PF X e ga) : PF X (.FormattedValue e (-1) none pos) (gThen fmtD ga) := by
  with_unfolding_all exact k_fmt_0 h
theorem k_fstr3 (h1 : PF X e1 g1) (h2 : PF X e2 g2') (h3 : PF X e3 g3') : PF X (.JoinedStr [e1, e2, e3] pos) (gFstr [g1, g2', g3']) := by
  with_unfolding_all exact k_fstr3_0 h1 h2 h3
theorem k_intS (hg : Gl X "int") (hm : X.mg "int" = none) (ha : PFA X [e] gl) (he : starEach [e] X.env = (false, eval e X.env) :: starEach [] X.env := by rfl) : PF X (.Call (.Name "int" p) [e] [] pos) (gOf intSF gl) := by
  with_unfolding_all exact k_intS_0 hg hm ha he
end
section
variable {X : Cx} {a b c e : Expr} {ga : Ev → R D} {gl : Ev → R (List D)} {pos p : Pos} {tg : Expr}
theorem k_split {o : Expr} {ap cp : Pos} (ho : PF X o ga) (ha : PFA X [e] gl) (hbase : attributeBase o "split" X.env (eval o X.env) = eval o X.env := by rfl)
    (hfew : ((backTo cp (starEach [e] X.env)).all (fun x => !x.1) && (backToKw cp (keywordEach [] X.env)).all (fun x => x.1.isSome)
      && decide ([e].length + ([] : List Keyword).length + (if ([] : List Keyword).isEmpty then 0 else 1) < 30)) = true := by rfl)
    (hline : (ap.endLine == cp.line) = true := by rfl) (hs : starEach [e] X.env = (false, eval e X.env) :: starEach [] X.env := by rfl) : PF X (.Call (.Attribute o "split" ap) [e] [] cp) (gMeth "str" splitF ga gl) := by
  with_unfolding_all exact k_split_0 ho ha hbase hfew hline hs
end
section
variable {X : Cx} {elt iter : Expr} {ifs : List Expr} {x : Str} {px pos : Pos} {scope : Scope} {N' : List Str} {ix : List Nat} {gi : Ev → R (List D)} {gt : Ev → R Bool} {ge : Ev → R D}
end
section
variable {X : Cx} {a b c : Expr} {gl : Ev → R (List D)} {elts : List Expr} {kt : Nat} {p pos tp : Pos}
end
section
variable {X : Cx} {a b e : Expr} {ga gb : Ev → R D} {gl : Ev → R (List D)} {pos p : Pos}
theorem pf_inS (ha : PF X a ga) (hb : PF X b gb) (hm : behindInMarks .In b = false := by rfl) : PF X (.Compare a [.In] [b] pos) (g2 inSF ga gb) := by
  with_unfolding_all exact pf_inS_0 ha hb hm
end
section
end
section
variable {X : Cx} {elt iter : Expr} {ifs : List Expr} {x : Str} {px pos : Pos} {scope : Scope} {N' : List Str} {ix : List Nat} {gi : Ev → R (List D)} {gt : Ev → R Bool} {ge : Ev → R D}
end
section
variable {X : Cx} {a b c e ix : Expr} {es : List Expr} {ga gb gi : Ev → R D} {gl : Ev → R (List D)} {pos p p1 p2 p3 pl sp : Pos}
theorem k_ends {o : Expr} {ap cp : Pos} (ho : PF X o ga) (ha : PFA X [e] gl) (hbase : attributeBase o "endswith" X.env (eval o X.env) = eval o X.env := by rfl)
    (hfew : ((backTo cp (starEach [e] X.env)).all (fun x => !x.1) && (backToKw cp (keywordEach [] X.env)).all (fun x => x.1.isSome)
      && decide ([e].length + ([] : List Keyword).length + (if ([] : List Keyword).isEmpty then 0 else 1) < 30)) = true := by rfl)
    (hline : (ap.endLine == cp.line) = true := by rfl) (hs : starEach [e] X.env = (false, eval e X.env) :: starEach [] X.env := by rfl) : PF X (.Call (.Attribute o "endswith" ap) [e] [] cp) (gMeth "str" endsF ga gl) := by
  with_unfolding_all exact k_ends_0 ho ha hbase hfew hline hs
end
section
theorem Fun.okFH {P : Program} {w : World} {K : PySem.W.Frag} {mg : Str → Option Value} {base : Heap} {x qual : Str} {st : Stmt} {f : Addr} {fd : FuncData} {N ps : List Str} {k : Nat} (F : Fun K x qual st f fd) (S : FnScope N ps (defScope st)) {g : Ev → O}
    (hbody : ∀ (cdv : Value) (A : Around) (outer : List Env) (s : Shared) (H : Hp) (E : XK) (a : Addr) (xe : Value → Shared → Prop), Room k (A.deeper (envOfC qual (defScope st) s.heap.objs.size f cdv)) → PSsF (sutCx (cxOf (CXo P w) P w K mg base N qual (defScope st) f cdv A outer s H E) a xe) (defBody st) g) : FnFH P w K mg base (k + 1) f fd ps (fun ds => noEx (bodyR (g (startE N.length ds)))) := by
  with_unfolding_all exact Fun.okFH_0 F S hbody
end
section
variable {Y : Cx} {a : Addr} {xe : Value → Shared → Prop} {k n : Nat} {x : Str} {p pos : Pos} {e : Expr} {es : List Expr} {gl : Ev → R (List D)} {g : List D → R D}
theorem pf_callH (c : CalleeH Y.prog Y.w Y.K Y.mg Y.base x k n g) (hr : Room k Y.A) (ha : PFA (sutCx Y a xe) (e :: es) gl) (hg : Gl Y x := by rfl)
    (hdb : (x == ("__debug__" : Str)) = false := by decide) (he : starEach (e :: es) Y.env = (false, eval e Y.env) :: starEach es Y.env := by rfl) (hpl : (backTo pos (starEach es Y.env)).any (·.1) = false := by rfl) : PF (sutCx Y a xe) (.Call (.Name x p) (e :: es) [] pos) (gCall n g gl) := by
  with_unfolding_all exact pf_callH_0 c hr ha hg hdb he hpl
end
section
end
section
variable {P : Program} {w : World} {K : PySem.W.Frag} {mg : Str → Option Value} {base : Heap} {x y : Str} {st : Stmt} {ft : Addr} {fd : FuncData} {k : Nat} {b₀ : Stmt} {suite : List Stmt} {p1 p2 p3 tp hp tpos : Pos} {nm tn : Str} {gs : Ev → O} {fe : Addr → Option Bool} {Ct : Addr}
theorem told_mk (F : Fun K x x st ft fd) (hm : mg x = some (.ref ft)) (S : FnScope [y, nm] [y] (defScope st)) (hbd : defBody st = [.Try [.Return (some (.Call (.Name y p1) [] [] p2)) p3] [.ExceptHandler (some (.Name tn tp)) (some nm) (b₀ :: suite) hp] [] [] tpos])
    (hbind : ∀ (kV doc pm : Value) (an : Option Addr) (cdv ct : Value) (u : Value), bindArgs (PySem.W.fnOf x x (defArgs st) (defBody st) (defScope st) .none kV doc pm an cdv ct) ⟨[u], []⟩ = pure [(y, u)])
    (hh : ∀ (cdv : Value) (A : Around) (outer : List Env) (s : Shared) (H : Hp) (E : XK) (a : Addr) (xe : Value → Shared → Prop), Room k (A.deeper (envOfC x (defScope st) s.heap.objs.size ft cdv)) → PSsF (sutCx (cxOf (CXo P w) P w K mg base [y, nm] x (defScope st) ft cdv A outer s H E) a xe) (b₀ :: suite) gs)
    (hf : ∀ C, fe C = some true → PySem.W.exmOne K (.ref C) (.ref Ct) = some true) (hg : (defScope st).names.lookup tn = some .globalImplicit) (hmt : mg tn = some (.ref Ct)) (hy : (defScope st).names.lookup y = some .local) (hx : (defScope st).names.lookup nm = some .local)
    (hdb : (tn == ("__debug__" : Str)) = false := by decide) (hdy : (y == ("__debug__" : Str)) = false := by decide) (hcy : (y == ("__classdict__" : Str)) = false := by decide) : Told P w K mg base x (k + 1) k (fun m => bodyR (tryO (fun ρ => m.out ρ .rt) gs fe 1 [none, none])) := by
  with_unfolding_all exact told_mk_0 F hm S hbd hbind hh hf hg hmt hy hx hdb hdy hcy
end
section
variable {X : Cx} {scope : Scope} {N' : List Str} {ix : List Nat} {params : Arguments} {body : Expr} {lp p pos : Pos} {x : Str} {k j : Nat} {gb : Ev → R D} {g : R D → R D}
theorem k_told (T : Told X.prog X.w X.K X.mg X.base x k (j + 1) g) (hr : Room k X.A) (L : LamAt X) (ok : LamOk X scope N' ix)
    (hb : ∀ (cl : List (Str × Addr)) (f : Addr) (cd : Value) (A : Around) (outer : List Env) (s : Shared) (H : Hp) (E : XK), Room j (A.deeper (PySem.W.envX (X.env.qual ++ "<lambda>") scope s.heap.objs.size f cd cl)) → PF (lamCx X.prog X.w X.K X.mg X.base N' (X.env.qual ++ "<lambda>") scope cl f cd A outer s H E) body gb)
    (hp : ∀ cl pm cd ctv, bindArgs (PySem.W.kla_fn "<lambda>" (X.env.qual ++ "<lambda>") params body scope cl pm cd ctv) ⟨[], []⟩ = pure [] := by intros; rfl) (hdef : defaultsOf params X.env = ([], []) := by rfl)
    (hg : Gl X x := by rfl) (hdb : (x == ("__debug__" : Str)) = false := by decide) (he : starEach [.Lambda params body scope lp] X.env = (false, eval (.Lambda params body scope lp) X.env) :: starEach [] X.env := by rfl) : PF X (.Call (.Name x p) [.Lambda params body scope lp] [] pos) (gTold g ix gb) := by
  with_unfolding_all exact k_told_0 T hr L ok hb hp hdef hg hdb he
end
section
theorem k_varL {P : Program} {w : World} {K : PySem.W.Frag} {mg : Str → Option Value} {base : Heap} {N : List Str} {i : Nat} {x : Str} {pos : Pos} {qual : Str} {scope : Scope} {cl : List (Str × Addr)} {f : Addr} {cd : Value} {A : Around} {outer : List Env} {s : Shared} {H : Hp} {E : XK} (h : At N i x)
    (hv : Vis (lamCx P w K mg base N qual scope cl f cd A outer s H E).env.scope x := by first | exact Or.inl rfl | exact Or.inr (Or.inl rfl) | exact Or.inr (Or.inr rfl)) (hd : (x == ("__debug__" : Str)) = false := by decide)
    (hcd : (x == ("__classdict__" : Str)) = false := by decide) : PF (lamCx P w K mg base N qual scope cl f cd A outer s H E) (.Name x pos) (fun ρ => rdV ρ i) := by
  with_unfolding_all exact k_varL_0 h hv hd hcd
theorem Fun.okFT {P : Program} {w : World} {K : PySem.W.Frag} {mg : Str → Option Value} {base : Heap} {x qual : Str} {st : Stmt} {f : Addr} {fd : FuncData} {N ps : List Str} {k : Nat} {Pt : Addr} (F : Fun K x qual st f fd) (LB : LamB K mg base qual fd Pt) (S : FnScope N ps (defScope st)) {g : Ev → O}
    (hbody : ∀ (cdv : Value) (A : Around) (outer : List Env) (s : Shared) (H : Hp) (E : XK), Room k (A.deeper (envOfC qual (defScope st) s.heap.objs.size f cdv)) → LamAt (cxOf (CXo P w) P w K mg base N qual (defScope st) f cdv A outer s H E) → PSsF (cxOf (CXo P w) P w K mg base N qual (defScope st) f cdv A outer s H E) (defBody st) g) : FnF P w K mg base (k + 1) f fd ps (fun ds => bodyR (g (startE N.length ds))) := by
  with_unfolding_all exact Fun.okFT_0 F LB S hbody
end
section
variable {X : Cx} {e b : Expr} {es : List Expr} {ga gb : Ev → R D} {gl : Ev → R (List D)} {x f : Str} {i k : Nat} {C : Addr} {ks : List Nat} {p1 p2 p3 pos ap cp : Pos}
end
section
variable {X : Cx} {e : Expr} {es : List Expr} {gl : Ev → R (List D)} {x mn : Str} {i k n : Nat} {C : Addr} {ks : List Nat} {F : MF} {p1 ap pos ep : Pos}
end
section
variable {X : Cx} {e : Expr} {es : List Expr} {gl : Ev → R (List D)} {cn : Str} {k n : Nat} {C : Addr} {F : MF} {p pos : Pos}
end
section
variable {X : Cx} {st : Stmt} {rest : List Stmt} {g1 : Ev → O} {gs : Ev → O} {α : Type} {g2 : α → Ev → O} {e : Expr} {es : List Expr} {gl gl' : Ev → R (List D)} {cn : Str} {k n : Nat} {C : Addr} {F : MF} {p pos : Pos}
end
section
end
section
variable {X : Cx} {e a b c : Expr} {rest : List Expr} {g g1 g2 : Ev → O} {ga gb : Ev → R D} {gt : Ev → R Bool} {pos : Pos} {s1 s2 : List Stmt} {h1 h2 : Ev → O}
end
section
variable {X : Cx} {e : Expr} {es : List Expr} {gl : Ev → R (List D)} {x y mn : Str} {i k n : Nat} {C : Addr} {ks : List Nat} {F : MF} {p1 ap pos ep : Pos}
end
section
variable {X : Cx} {es : List Expr} {gl : Ev → R (List D)} {x y : Str} {i k n : Nat} {C : Addr} {F : MF} {p1 py pos : Pos}
end
section
variable {X : Cx} {scope : Scope} {N' : List Str} {ix : List Nat} {params : Arguments} {body : Expr} {lp p pos : Pos} {x : Str} {k j i : Nat} {C : Addr} {gb : Ev → O} {g : R D → R D}
end
section
variable {X : Cx} {a b : Expr} {rest : List Expr} {g g1 g2 : Ev → O} {gb : Ev → R D} {pos : Pos}
end
section
end
section
variable {X : Cx} {rest : List Stmt} {α : Type} {g2 : α → Ev → O} {e e3 : Expr} {es : List Expr} {gl gl' : Ev → R (List D)} {ga : Ev → R D} {cn : Str} {k n : Nat} {C : Addr} {F : MF} {pos : Pos}
end
section
end
section
variable {X : Cx} {e : Expr} {ga : Ev → R D} {gl : Ev → R (List D)}
end
section
variable {X : Cx} {e o : Expr} {ga : Ev → R D} {gl : Ev → R (List D)}
end
section
variable {X : Cx} {a : Expr} {ga gb : Ev → R D} {scope : Scope} {N' : List Str} {ix : List Nat} {params : Arguments} {body : Expr} {lp p pos kp : Pos} {x : Str} {j : Nat}
end
section
variable {X : Cx} {a b : Expr} {gl : Ev → R (List D)} {p p2 pos pos2 : Pos}
end
section
variable {X : Cx} {scope : Scope} {N' : List Str} {ix : List Nat} {params : Arguments} {body : Expr} {x : Str} {j : Nat} {pins : List (Addr × Obj)} {σ : St} {H0 G : Hp} {Ii S l f : Addr} {qual : Str} {cl : List (Str × Addr)} {pm cd ctv : Value} {σ' : St} {ρ' : Ev} {gb : Ev → R D} {vs : List V} {dd : D} {Rr : Result → Shared → Prop}
end
section
variable {X : Cx} {scope : Scope} {N' : List Str} {ix : List Nat} {params : Arguments} {body : Expr} {x : Str} {j : Nat} {pins : List (Addr × Obj)} {σ : St} {H G : Hp} {l f : Addr} {qual : Str} {cl : List (Str × Addr)} {pm cd ctv : Value} {σ' : St} {ρ' : Ev} {gb : Ev → R D} {vr : List V} {v0 : V} {d0 dd : D} {ds ks : List D} {kb : List Int} {s : Shared} {o : Obj} {Q : VK}
end
section
variable {X : Cx} {a : Expr} {ga gb : Ev → R D} {scope : Scope} {N' : List Str} {ix : List Nat} {params : Arguments} {body : Expr} {lp p pos kp : Pos} {x : Str} {j : Nat}
end
section
variable {X : Cx} {pins : List (Addr × Obj)} {σ : St} {H G : Hp} {Ii S l : Addr} {vs : List V} {dd : D} {Rr : Result → Shared → Prop}
end
section
variable {X : Cx} {e o : Expr} {ga : Ev → R D} {gl : Ev → R (List D)}
end
section
variable {X : Cx} {a : Expr} {gl : Ev → R (List D)} {p p2 pos pos2 : Pos}
end
section
variable {X : Cx} {elt iter : Expr} {ifs : List Expr} {x : Str} {px pos : Pos} {scope : Scope} {gi : Ev → R (List D)} {gt : Ev → R Bool} {ge : Ev → R D}
theorem pfl_compC (ok : CompOkC X scope x) (hcalm : X.calm = true) (hi : PIF X (.Name x px) iter gi) (he : ∀ C s₂ H₂ fp, PF (compCxC X x scope C s₂ H₂ fp) elt ge) (ht : ∀ C s₂ H₂ fp, PTs (compCxC X x scope C s₂ H₂ fp) ifs gt)
    (hs : ∀ x, foldedSetIterable iter X.env x = pure x := by intro _; rfl) : PFL X (.ListComp elt [⟨.Name x px, iter, ifs, 0⟩] scope pos) (gComp gi [] gt ge) := by
  with_unfolding_all exact pfl_compC_0 ok hcalm hi he ht hs
end
end L2
namespace L2
open PySem PySem.Spec PyProof.Rows
section
variable {ρ : Ev} {g g1 g2' : Ev → O} {gt gu : Ev → R Bool} {ga gb gc : Ev → R D} {gl : Ev → R (List D)} {go gp : Ev → R (Option Int)} {i n : Nat} {f f' : D → D → Option D} {asg : D → Ev → R Ev} {C : Addr}
theorem a_seq : oSeq g1 g2' ρ = (g1 ρ).seq g2' := rfl
theorem a_if : oIf gt g1 g2' ρ = (gt ρ).out ρ fun k => if k = true then g1 ρ else g2' ρ := rfl
theorem a_set : oSet i ga ρ = (ga ρ).out ρ fun d => .nx (ρ.set i (some (.val d))) := rfl
theorem a_ret : oRet ga ρ = (ga ρ).out ρ .rt := rfl
theorem a_nx : oNx ρ = .nx ρ := rfl
theorem a_own : oOwn i gl ρ = (gl ρ).out ρ fun ds => .nx (ρ.set i (some (.own ds))) := rfl
theorem a_expr : oExpr ga ρ = (ga ρ).out ρ fun _ => .nx ρ := rfl
theorem a_for : oFor asg gl g ρ = (gl ρ).out ρ fun items => loopD asg g items ρ := rfl
theorem a_raise : oRaise C gl ρ = (gl ρ).out ρ fun _ => .ex C ρ := rfl
theorem a_asg : oAsg asg ga ρ = (ga ρ).out ρ fun d => (asg d ρ).out ρ .nx := rfl
theorem a_frz : oFrz i g ρ = g (frz i ρ) := rfl
theorem a_then {α β : Type} {h : α → R β} {gx : Ev → R α} : gThen h gx ρ = gx ρ >>= h := rfl
theorem a_of {h : List D → Option D} : gOf h gl ρ = gl ρ >>= fun ds => ofO (h ds) := rfl
theorem a_cons : gACons ga gl ρ = ga ρ >>= fun x => gl ρ >>= fun xs => .ok (x :: xs) := rfl
theorem a_fresh : gFresh gl ρ = gl ρ >>= fun ds => .ok (.lst false ds) := rfl
theorem a_lst : gLst gl ρ = gl ρ >>= fun ds => if ds.length ≤ sizeLine then .ok ds else .no := rfl
theorem a_b2 : gB2 f ga gb ρ = g2 f ga gb ρ >>= asB := rfl
theorem a_b3 : gB3 f f' ga gb gc ρ = g3 f f' ga gb gc ρ >>= asB := rfl
theorem a_bn : gBn gt ρ = gt ρ >>= fun k => .ok (!k) := rfl
theorem a_some : gSome ga ρ = ga ρ >>= fun x => asI x >>= fun i => .ok (some i) := rfl
theorem a_meth {T : String} {h : D → List D → Option D} : gMeth T h ga gl ρ = ga ρ >>= fun x => if kindD T x = true then gl ρ >>= fun ds => ofO (h x ds) else .no := rfl
theorem a_g2 : g2 f ga gb ρ = ga ρ >>= fun x => gb ρ >>= fun y => ofO (f x y) := rfl
theorem a_and : gAnd ga gb ρ = ga ρ >>= fun x => asB x >>= fun k => if k = true then gb ρ else .ok (.bl false) := rfl
theorem a_or : gOr ga gb ρ = ga ρ >>= fun x => asB x >>= fun k => if k = true then .ok (.bl true) else gb ρ := rfl
theorem a_not : gNot ga ρ = ga ρ >>= fun x => asB x >>= fun k => .ok (.bl (!k)) := rfl
theorem a_tand : tAndB gt gu ρ = gt ρ >>= fun k => if k = true then gu ρ else .ok false := rfl
theorem a_tor : tOrB gt gu ρ = gt ρ >>= fun k => if k = true then .ok true else gu ρ := rfl
theorem a_gif : gIf gt ga gb ρ = gt ρ >>= fun k => if k = true then ga ρ else gb ρ := rfl
theorem a_sl : gSl ga go gp ρ = ga ρ >>= fun x => go ρ >>= fun l => gp ρ >>= fun u => ofO (cutD l u x) := rfl
theorem a_comp {ix : List Nat} : gComp gl ix gt ga ρ = gl ρ >>= fun items => compD gt ga items (inner ix ρ) >>= fun ds => if ds.length ≤ sizeLine then .ok ds else .no := rfl
theorem a_call1 {h : List D → R D} : gCall 1 h (gACons ga fun _ => .ok []) ρ = ga ρ >>= fun x => h [x] := gCall1
theorem a_call2 {h : List D → R D} : gCall 2 h (gACons ga (gACons gb fun _ => .ok [])) ρ = ga ρ >>= fun x => gb ρ >>= fun y => h [x, y] := gCall2
theorem a_call3 {h : List D → R D} : gCall 3 h (gACons ga (gACons gb (gACons gc fun _ => .ok []))) ρ = ga ρ >>= fun x => gb ρ >>= fun y => gc ρ >>= fun z => h [x, y, z] := gCall3
theorem a_call4 {h : List D → R D} {gd : Ev → R D} : gCall 4 h (gACons ga (gACons gb (gACons gc (gACons gd fun _ => .ok [])))) ρ = ga ρ >>= fun x => gb ρ >>= fun y => gc ρ >>= fun z => gd ρ >>= fun u => h [x, y, z, u] := by
  unfold gCall
  simp only [a_cons]
  cases ga ρ <;> try rfl
  simp only [R.ok_bind]
  cases gb ρ <;> try rfl
  simp only [R.ok_bind]
  cases gc ρ <;> try rfl
  simp only [R.ok_bind]
  cases gd ρ <;> rfl
end
theorem a_ext (i : Nat) (ga : Ev → R D) (ρ : Ev) : oExt i ga ρ = (ownAt ρ i).out ρ fun ds => (ga ρ).out ρ fun d => (asL d).out ρ fun es => if ds.length + es.length ≤ sizeLine then .nx (ρ.set i (some (.own (ds ++ es)))) else .no := rfl
theorem a_app (i : Nat) (ga : Ev → R D) (ρ : Ev) : oApp i ga ρ = (ownAt ρ i).out ρ fun ds => (ga ρ).out ρ fun d => if ds.length < sizeLine then .nx (ρ.set i (some (.own (ds ++ [d])))) else .no := rfl
theorem a_par (i j : Nat) (gl : Ev → R (List D)) (ρ : Ev) : oPar i j gl ρ = (gl ρ).out ρ fun ds => (setVs [i, j] ds ρ).out ρ .nx := rfl
theorem own0 (ds : List D) (ρ : Ev) : ownAt (some (.own ds) :: ρ) 0 = .ok ds := rfl
theorem own1 (a0 : Option Sl) (ds : List D) (ρ : Ev) : ownAt (a0 :: some (.own ds) :: ρ) 1 = .ok ds := rfl
theorem own2 (a0 a1 : Option Sl) (ds : List D) (ρ : Ev) : ownAt (a0 :: a1 :: some (.own ds) :: ρ) 2 = .ok ds := rfl
theorem asl (ds : List D) : asL (.lst false ds) = .ok ds := rfl
theorem frz1 (a0 : Option Sl) (ds : List D) (ρ : Ev) : frz 1 (a0 :: some (.own ds) :: ρ) = a0 :: some (.val (.lst false ds)) :: ρ := rfl
noncomputable def g3k (f' : D → D → Option D) (r : R D) (y : D) : D → R D
  | .bl true => r >>= fun w => ofO (f' y w)
  | .bl false => .ok (.bl false)
  | _ => .no
theorem a_g3 (f f' : D → D → Option D) (ga gb gc : Ev → R D) (ρ : Ev) : g3 f f' ga gb gc ρ = ga ρ >>= fun x => gb ρ >>= fun y => ofO (f x y) >>= g3k f' (gc ρ) y := rfl
theorem g3_bl (f' : D → D → Option D) (r : R D) (y : D) (b : Bool) : g3k f' r y (.bl b) = if b = true then (r >>= fun w => ofO (f' y w)) else .ok (.bl false) := by cases b <;> rfl
theorem sv2 (i j : Nat) (x y : D) (ρ : Ev) : setVs [i, j] [x, y] ρ = .ok ((ρ.set i (some (.val x))).set j (some (.val y))) := rfl
theorem frz4 (a0 a1 a2 a3 : Option Sl) (ds : List D) (ρ : Ev) : frz 4 (a0 :: a1 :: a2 :: a3 :: some (.own ds) :: ρ) = a0 :: a1 :: a2 :: a3 :: some (.val (.lst false ds)) :: ρ := rfl
theorem q_nx (ρ : Ev) (k : Ev → O) : (O.nx ρ).seq k = k ρ := rfl
theorem q_rt (d : D) (k : Ev → O) : (O.rt d).seq k = .rt d := rfl
theorem q_ex (C : Addr) (ρ : Ev) (k : Ev → O) : (O.ex C ρ).seq k = .ex C ρ := rfl
theorem q_no (k : Ev → O) : (O.no).seq k = .no := rfl
theorem w_rt (d : D) : bodyR (.rt d) = .ok d := rfl
theorem w_nx (ρ : Ev) : bodyR (.nx ρ) = .ok .non := rfl
theorem w_ex (C : Addr) (ρ : Ev) : bodyR (.ex C ρ) = .ex C := rfl
theorem b_bl (k : Bool) : asB (.bl k) = .ok k := rfl
theorem b_int (i : Int) : asI (.int i) = .ok i := rfl
theorem t_bl (k : Bool) : truD (.bl k) = .ok k := rfl
theorem rd7 (a0 a1 a2 a3 a4 a5 a6 : Option Sl) (d : D) (ρ : Ev) : rdV (a0 :: a1 :: a2 :: a3 :: a4 :: a5 :: a6 :: some (.val d) :: ρ) 7 = .ok d := rfl
theorem rd8 (a0 a1 a2 a3 a4 a5 a6 a7 : Option Sl) (d : D) (ρ : Ev) : rdV (a0 :: a1 :: a2 :: a3 :: a4 :: a5 :: a6 :: a7 :: some (.val d) :: ρ) 8 = .ok d := rfl
theorem rd9 (a0 a1 a2 a3 a4 a5 a6 a7 a8 : Option Sl) (d : D) (ρ : Ev) : rdV (a0 :: a1 :: a2 :: a3 :: a4 :: a5 :: a6 :: a7 :: a8 :: some (.val d) :: ρ) 9 = .ok d := rfl
theorem rd10 (a0 a1 a2 a3 a4 a5 a6 a7 a8 a9 : Option Sl) (d : D) (ρ : Ev) : rdV (a0 :: a1 :: a2 :: a3 :: a4 :: a5 :: a6 :: a7 :: a8 :: a9 :: some (.val d) :: ρ) 10 = .ok d := rfl
theorem rd11 (a0 a1 a2 a3 a4 a5 a6 a7 a8 a9 a10 : Option Sl) (d : D) (ρ : Ev) : rdV (a0 :: a1 :: a2 :: a3 :: a4 :: a5 :: a6 :: a7 :: a8 :: a9 :: a10 :: some (.val d) :: ρ) 11 = .ok d := rfl
theorem rd12 (a0 a1 a2 a3 a4 a5 a6 a7 a8 a9 a10 a11 : Option Sl) (d : D) (ρ : Ev) : rdV (a0 :: a1 :: a2 :: a3 :: a4 :: a5 :: a6 :: a7 :: a8 :: a9 :: a10 :: a11 :: some (.val d) :: ρ) 12 = .ok d := rfl
section
variable (i j : Int)
theorem e_add : addD (.int i) (.int j) = some (.int (i + j)) := by simp only [addD]
theorem e_sub : subD (.int i) (.int j) = some (.int (i - j)) := by simp only [subD]
theorem e_le : leD (.int i) (.int j) = some (.bl (decide (i ≤ j))) := by simp only [leD]
theorem e_lt : ltD (.int i) (.int j) = some (.bl (decide (i < j))) := by simp only [ltD]
theorem e_gt : gtD (.int i) (.int j) = some (.bl (decide (j < i))) := by simp only [gtD]
theorem e_ge : geD (.int i) (.int j) = some (.bl (decide (j ≤ i))) := by simp only [geD]
theorem e_eq : eqF (.int i) (.int j) = some (.bl (i == j)) := by simp only [eqF, eqD, Option.map_some]
theorem e_ne : neF (.int i) (.int j) = some (.bl (!(i == j))) := by simp only [neF, eqD, Option.map_some]
end
theorem e_mulL {i j : Int} (h : -(2 ^ 64) < i ∧ i < 2 ^ 64) : mulD (.int i) (.int j) = some (.int (i * j)) := by simp only [mulD]; rw [if_pos (Or.inl h)]
theorem s_add {x y : List Nat} (h : x.length + y.length ≤ sizeLine) : addD (.str x) (.str y) = some (.str (x ++ y)) := by simp only [addD]; rw [if_pos h]
theorem s_eq (x y : List Nat) : eqF (.str x) (.str y) = some (.bl (x == y)) := by simp only [eqF, eqD, Option.map_some]
theorem s_ne (x y : List Nat) : neF (.str x) (.str y) = some (.bl (!(x == y))) := by simp only [neF, eqD, Option.map_some]
theorem line_big : (1000 : Nat) ≤ sizeLine := by decide
theorem l_ix {fz : Bool} {xs : List D} {k : Nat} {d : D} (h : xs[k]? = some d) : ixD (.lst fz xs) (.int (k : Int)) = some d := by simp only [ixD]; exact atI_nat h
theorem cutTo {α : Type} (xs : List α) (k : Nat) : cutL xs none (some (k : Int)) = xs.take k := by
  unfold cutL
  rw [HT.sIx_none, HT.sIx_nat, List.drop_zero, Nat.sub_zero]
  by_cases h : k ≤ xs.length
  · rw [Nat.min_eq_left h]
  · rw [Nat.min_eq_right (by omega), List.take_length, List.take_of_length_le (by omega)]
theorem s_cut (lo hi : Option Int) (x : List Nat) : cutD lo hi (.str x) = some (.str (cutL x lo hi)) := rfl
theorem t_cut (lo hi : Option Int) (x : List D) : cutD lo hi (.tup x) = some (.tup (cutL x lo hi)) := rfl
theorem l_len (fz : Bool) (x : List D) : lenF [.lst fz x] = some (.int x.length) := rfl
theorem t_len (x : List D) : lenF [.tup x] = some (.int x.length) := rfl
theorem s_len (x : List Nat) : lenF [.str x] = some (.int x.length) := rfl
theorem m_t {ds : List D} (h : ds.length ≤ 1000) : mkT ds = .ok (.tup ds) := if_pos (Nat.le_trans h line_big)
theorem range_up {n : Nat} (h : n ≤ 1000) : rangeD1 [.int (n : Int)] = .ok ((List.range n).map fun (i : Nat) => D.int (i : Int)) := by
  have e : rangeD1 [.int (n : Int)] = if -(2 ^ 62) ≤ (n : Int) ∧ (n : Int) < 2 ^ 62 then .ok ((List.range (n : Int).toNat).map fun i => D.int (0 + (i : Nat))) else .no := by simp only [rangeD1]
  rw [e, if_pos (by constructor <;> omega), Int.toNat_natCast]
  simp only [Int.zero_add]
theorem set0 {α : Type} (a v : α) (l : List α) : (a :: l).set 0 v = v :: l := rfl
theorem loop_nx {asg : D → Ev → R Ev} {g : Ev → O} {d : D} {ds : List D} {ρ ρ1 ρ2 : Ev} (h1 : asg d ρ = .ok ρ1) (h2 : g ρ1 = .nx ρ2) : loopD asg g (d :: ds) ρ = loopD asg g ds ρ2 := by
  rw [loopD, h1]
  show (match g ρ1 with
    | .nx ρ2 => loopD asg g ds ρ2
    | .ct ρ2 => loopD asg g ds ρ2
    | .bk ρ2 => O.nx ρ2
    | .rt d => O.rt d
    | .re d ρ2 => .re d ρ2
    | .ex C ρ2 => O.ex C ρ2
    | .no => O.no) = _
  rw [h2]
theorem k_tupleOf {X : Cx} {e : Expr} {gl : Ev → R (List D)} {p pos : Pos} (hg : Gl X "tuple") (hm : X.mg "tuple" = none) (ha : PFA X [e] gl) (he : starEach [e] X.env = (false, eval e X.env) :: starEach [] X.env := by rfl) :
    PF X (.Call (.Name "tuple" p) [e] [] pos) (gOf tupleF gl) := pf_callTy call_tuple_of (ok_tuple _) hg hm PyProof.Rows.Boot.«tuple» ha (by decide) (by decide) he rfl
end L2
namespace L2
open PySem PySem.Spec PyProof.Rows
end L2
namespace L2
open PySem PySem.Spec PyProof.Rows
theorem rd13 (a0 a1 a2 a3 a4 a5 a6 a7 a8 a9 a10 a11 a12 : Option Sl) (d : D) (ρ : Ev) : rdV (a0 :: a1 :: a2 :: a3 :: a4 :: a5 :: a6 :: a7 :: a8 :: a9 :: a10 :: a11 :: a12 :: some (.val d) :: ρ) 13 = .ok d := rfl
theorem rd14 (a0 a1 a2 a3 a4 a5 a6 a7 a8 a9 a10 a11 a12 a13 : Option Sl) (d : D) (ρ : Ev) : rdV (a0 :: a1 :: a2 :: a3 :: a4 :: a5 :: a6 :: a7 :: a8 :: a9 :: a10 :: a11 :: a12 :: a13 :: some (.val d) :: ρ) 14 = .ok d := rfl
theorem a_ifP (i : Nat) (gt : Ev → R Bool) (g1 g2 : Ev → O) (ρ : Ev) : oIfP i gt g1 g2 ρ = (noEx (gt (frz i ρ))).out ρ fun k => if k = true then g1 ρ else g2 ρ := rfl
theorem a_setP (j i : Nat) (ga : Ev → R D) (ρ : Ev) : oSetP j i ga ρ = (noEx (ga (frz j ρ))).out ρ fun d => if fl 10 d = true then .nx (ρ.set i (some (.val d))) else .no := rfl
theorem a_appP (j i : Nat) (ga : Ev → R D) (ρ : Ev) : oAppP j i ga ρ = (ownAt ρ i).out ρ fun ds => (noEx (ga (frz j ρ))).out ρ fun d => if ds.length < sizeLine ∧ fl 10 d = true then .nx (ρ.set i (some (.own (ds ++ [d])))) else .no := rfl
noncomputable def itemK (i : Nat) (ρ : Ev) (ds : List D) (d : D) : Option Nat → O
  | some n => if fl 10 d = true then .nx (ρ.set i (some (.own (ds.set n d)))) else .no
  | none => .no
theorem a_item (i : Nat) (gk ga : Ev → R D) (ρ : Ev) : oItem i gk ga ρ = (ownAt ρ i).out ρ fun ds => (noEx (ga (frz i ρ))).out ρ fun d => (noEx (gk (frz i ρ) >>= asI)).out ρ fun k => itemK i ρ ds d (ixN ds.length k) := rfl
theorem itemK_some (i : Nat) (ρ : Ev) (ds : List D) (d : D) (n : Nat) : itemK i ρ ds d (some n) = if fl 10 d = true then .nx (ρ.set i (some (.own (ds.set n d)))) else .no := rfl
theorem a_seq1 (gl : Ev → R (List D)) (ρ : Ev) : gSeq1 gl ρ = gl ρ >>= oneK := rfl
theorem one_t (xs : List D) : oneK [.tup xs] = .ok xs := rfl
theorem a_enumS (ga gb : Ev → R D) (ρ : Ev) : gEnumS ga gb ρ = ga ρ >>= fun x => gb ρ >>= fun c => enumAt x c := rfl
theorem a_compT (n : Nat) (asg : D → Ev → R Ev) (gl : Ev → R (List D)) (ix : List Nat) (gt : Ev → R Bool) (ga : Ev → R D) (ρ : Ev) : gCompT n asg gl ix gt ga ρ = gl ρ >>= fun items => compG asg gt ga items (innerN n ix ρ) >>= fun ds => if ds.length ≤ sizeLine then .ok ds else .no := rfl
theorem a_parO (i j : Nat) (ga : Ev → R D) (gl : Ev → R (List D)) (ρ : Ev) : oParO i j ga gl ρ = (ga ρ).out ρ fun d => (gl ρ).out ρ fun ds => .nx ((ρ.set i (some (.val d))).set j (some (.own ds))) := rfl
theorem l_cut (f : Bool) (lo hi : Option Int) (x : List D) : cutD lo hi (.lst f x) = some (.lst false (cutL x lo hi)) := rfl
theorem a_rev (ga gs : Ev → R D) (ρ : Ev) : gRev ga gs ρ = ga ρ >>= fun x => gs ρ >>= fun k => revD x k := rfl
theorem rev_s (x : List Nat) : revD (.str x) (.int (-1)) = .ok (.str x.reverse) := rfl
theorem rev_l (f : Bool) (x : List D) : revD (.lst f x) (.int (-1)) = .ok (.lst false x.reverse) := rfl
theorem one_l (f : Bool) (xs : List D) : oneK [.lst f xs] = .ok xs := rfl
noncomputable def tryS (i : Nat) : O → O
  | .nx ρ => .nx (ρ.set i none)
  | .rt d => .rt d
  | _ => .no
noncomputable def tryK (gs : Ev → O) (f : Addr → Option Bool) (i : Nat) : O → O
  | .ex C ρ => (match f C with
    | some true => tryS i (gs (ρ.set i (some (.val (.exc C)))))
    | _ => .no)
  | o => o
theorem a_try (gb gs : Ev → O) (f : Addr → Option Bool) (i : Nat) (ρ : Ev) : tryO gb gs f i ρ = tryK gs f i (gb ρ) := by
  unfold tryO tryK
  cases gb ρ <;> rfl
theorem tryK_nx (gs : Ev → O) (f : Addr → Option Bool) (i : Nat) (ρ : Ev) : tryK gs f i (.nx ρ) = .nx ρ := rfl
theorem tryK_ex {gs : Ev → O} {f : Addr → Option Bool} {i : Nat} {ρ : Ev} {C : Addr} (h : f C = some true) : tryK gs f i (.ex C ρ) = tryS i (gs (ρ.set i (some (.val (.exc C))))) := by
  simp only [tryK, h]
theorem tryS_nx (i : Nat) (ρ : Ev) : tryS i (.nx ρ) = .nx (ρ.set i none) := rfl
noncomputable def joinK (gs : List (Ev → R D)) (out : List Nat) (ρ : Ev) : D → R D
  | .str x => if (out ++ x).length ≤ sizeLine then joinG gs (out ++ x) ρ else .no
  | _ => .no
theorem a_fstr (gs : List (Ev → R D)) (ρ : Ev) : gFstr gs ρ = joinG gs [] ρ := rfl
theorem a_join0 (out : List Nat) (ρ : Ev) : joinG [] out ρ = .ok (.str out) := rfl
theorem a_join1 (g : Ev → R D) (gs : List (Ev → R D)) (out : List Nat) (ρ : Ev) : joinG (g :: gs) out ρ = g ρ >>= joinK gs out ρ := rfl
theorem joinK_s (gs : List (Ev → R D)) (out : List Nat) (ρ : Ev) (x : List Nat) : joinK gs out ρ (.str x) = if (out ++ x).length ≤ sizeLine then joinG gs (out ++ x) ρ else .no := rfl
theorem fmt_s (x : List Nat) : fmtD (.str x) = .ok (.str x) := rfl
theorem fmt_i {n : Nat} (h : n < 10000000000) : fmtD (.int (n : Int)) = .ok (.str (decL n)) := by
  show (if 0 ≤ (n : Int) ∧ (n : Int) < 10000000000 then R.ok (D.str (decL (n : Int).toNat)) else .no) = _
  rw [if_pos (by omega), Int.toNat_natCast]
theorem a_ownP (j i : Nat) (gl : Ev → R (List D)) (ρ : Ev) : oOwnP j i gl ρ = (noEx (gl (frz j ρ))).out ρ fun ds => if ds.all (fl 10) = true then .nx (ρ.set i (some (.own ds))) else .no := rfl
theorem a_whl (n : Nat) (gt : Ev → R Bool) (g : Ev → O) (ρ : Ev) : oWhile n gt g ρ = whileD gt g n ρ := rfl
theorem a_compX (gi : Ev → R (List D)) (ix : List Nat) (gt : Ev → R Bool) (ge : Ev → R D) (ρ : Ev) : gCompX gi ix gt ge ρ = gi ρ >>= fun items => if items.length ≤ sizeLine then compXG (setV 0) gt ge items (inner ix ρ) else .no := rfl
end L2
section
open L2
set_option compiler.extract_closed false in
local macro_rules | `(tactic| walk_at "run") => `(tactic| simp -implicitDefEqProofs only [a_pick, pick_0, pick_1, pick_2, a_compX, ↓a_call1, ↓a_call2, ↓a_call3, ↓a_call4, a_seq, a_if, a_set, a_ret, a_nx, a_own, a_expr, a_for, a_raise, a_asg, a_frz, a_then, a_of, a_cons, a_fresh, a_lst, a_b2, a_b3, a_bn, a_some, a_meth, a_g2, a_and, a_or, a_not, a_tand, a_tor, a_gif, a_sl, a_comp, a_ext, a_app, a_appP, a_ifP, a_setP, a_item, noEx_ok, a_seq1, a_enumS, a_compT, a_parO, l_cut, a_rev, rev_s, rev_l, itemK_some, one_t, one_l, rd13, rd14, and_self, a_par, own0, own1, own2, asl, frz1, frz4, a_g3, g3_bl, sv2, q_nx, q_rt, q_ex, q_no, w_rt, w_nx, w_ex, b_bl, b_int, t_bl, rd0, rd1, rd2, rd3, rd4, rd5, rd6, rd7, rd8, rd9, rd10, rd11, rd12, R.ok_bind, R.ok_out, R.ex_bind, R.ex_out, ofO_some, e_add, e_sub, e_le, e_lt, e_gt, e_ge, e_eq, e_ne, s_eq, s_ne, l_len, t_len, s_len, s_cut, t_cut, set0, List.set_cons_succ, List.length_nil, List.length_cons, List.cons_append, List.nil_append, Nat.reduceAdd, Nat.reduceBEq, Bool.not_true, Bool.not_false, Bool.false_eq_true, if_false, if_true, a_ownP, a_whl, a_try, tryK_nx, tryK_ex, tryS_nx, a_fstr, a_join0, a_join1, joinK_s, fmt_s, Int.reduceLT, Int.reduceLE, Int.reduceBEq, decide_true, decide_false, *])
namespace Q
open L2
open PySem (sizeLine Addr)
noncomputable def isWh : D → Bool
  | .int _ => true
  | _ => false
noncomputable def isWhF : List D → R D
  | [.exc _] => .no
  | [d] => .ok (.bl (isWh d))
  | _ => .no
noncomputable def is_whole_s1 : Ev → O := (oRet (gAnd (gThen (isTy isInt) (fun ρ => rdV ρ 0)) (gNot (gThen (isTy (· == "bool")) (fun ρ => rdV ρ 0)))))
noncomputable def is_whole_all : Ev → O := (oSeq is_whole_s1 oNx)
theorem is_whole_ok : ∀ ds : List D, ds.length = 1 → isWhF ds = .no ∨ bodyR (is_whole_all  (startE 1 ds)) = isWhF ds := by
  intro ds hl
  unfold is_whole_all is_whole_s1
  match ds, hl with
  | [d], _ => cases d <;> first | exact Or.inr rfl | exact Or.inl rfl
noncomputable def inB (d : D) (lo hi : Int) : Bool := match d with
  | .int i => decide (lo ≤ i) && decide (i ≤ hi)
  | _ => false
noncomputable def inBF : List D → R D
  | [.exc _, _, _] => .no
  | [d, .int lo, .int hi] => .ok (.bl (inB d lo hi))
  | _ => .no
noncomputable def is_within_s1 (F_is_whole : List D → R D) : Ev → O := (oRet (gAnd (gCall 1 F_is_whole (gACons (fun ρ => rdV ρ 0) (fun _ => R.ok []))) (g3 leD leD (fun ρ => rdV ρ 1) (fun ρ => rdV ρ 0) (fun ρ => rdV ρ 2))))
noncomputable def is_within_all (F_is_whole : List D → R D) : Ev → O := (oSeq (is_within_s1 F_is_whole) oNx)
theorem is_within_ok : ∀ ds : List D, ds.length = 3 → inBF ds = .no ∨ bodyR (is_within_all isWhF (startE 3 ds)) = inBF ds := by
  intro ds hl
  unfold is_within_all is_within_s1
  match ds, hl with
  | [d, l, h], _ =>
    cases d <;> first | exact Or.inl rfl | skip
    all_goals (cases l <;> first | exact Or.inl rfl | skip)
    all_goals (cases h <;> first | exact Or.inl rfl | skip)
    all_goals first | exact Or.inr rfl | skip
    rename_i i lo hi hl
    refine Or.inr ?_
    show bodyR (oSeq _ oNx [some (.val (.int i)), some (.val (.int lo)), some (.val (.int hi))]) = R.ok (D.bl (inB (.int i) lo hi))
    by_cases h1 : lo ≤ i <;> simp [oSeq, oRet, gAnd, gCall, gACons, g3, rdV, isWhF, isWh, asB, leD, inB, bodyR, O.seq, h1]
noncomputable def plain (x : List Nat) : Bool := x.all fun c => decide (32 ≤ c) && decide (c ≤ 126)
noncomputable def isPl : D → Bool
  | .str x => plain x
  | _ => false
noncomputable def isPlF : List D → R D
  | [.exc _] => .no
  | [.str x] => if x.length ≤ sizeLine then .ok (.bl (plain x)) else .no
  | [d] => .ok (.bl false)
  | _ => .no
noncomputable def is_plain_s1 : Ev → O := (oRet (gAnd (gThen (isTy (· == "str")) (fun ρ => rdV ρ 0)) (gOf allF (gACons (gFresh (gComp (gThen itemsD (fun ρ => rdV ρ 0)) [] (fun _ => R.ok true) (g3 leD leD (fun _ => R.ok (D.str [32])) (fun ρ => rdV ρ 0) (fun _ => R.ok (D.str [126]))))) (fun _ => R.ok [])))))
noncomputable def is_plain_all : Ev → O := (oSeq is_plain_s1 oNx)
theorem is_plain_ok : ∀ ds : List D, ds.length = 1 → isPlF ds = .no ∨ bodyR (is_plain_all  (startE 1 ds)) = isPlF ds := by
  intro ds hl
  unfold is_plain_all is_plain_s1
  match ds, hl with
  | [d], _ =>
    cases d <;> first | exact Or.inl rfl | exact Or.inr rfl | skip
    rename_i x hl
    by_cases hx : x.length ≤ sizeLine
    · refine Or.inr ?_
      have e : compD (fun _ => R.ok true) (g3 leD leD (fun _ => .ok (.str [32])) (fun ρ => rdV ρ 0) (fun _ => .ok (.str [126]))) (x.map fun c => D.str [c]) [none] = .ok ((x.map fun c => D.str [c]).map fun d => .bl (match d with | .str [c] => decide (32 ≤ c) && decide (c ≤ 126) | _ => false)) := by
        refine compD_all _ [] _ none fun d m => ⟨rfl, ?_⟩
        obtain ⟨c, _, rfl⟩ := List.mem_map.1 m
        show (ofO (some (D.bl (!decide (([c] : List Nat) < [32])))) >>= fun z => match z with
          | .bl true => ofO (some (D.bl (!decide (([126] : List Nat) < [c]))))
          | .bl false => R.ok (D.bl false)
          | _ => R.no : R D) = _
        rw [sign_le, sign_le, ofO_some, R.ok_bind]
        cases h1 : decide (32 ≤ c) <;> simp [h1]
      have e2 : isPlF [.str x] = .ok (.bl (plain x)) := if_pos hx
      rw [e2]
      show bodyR (oSeq _ oNx [some (.val (.str x))]) = _
      simp only [oSeq, oRet, gAnd, gThen, gOf, gACons, gFresh, gComp, rd0, isTy, tyN, asB, inner, itemsD, R.ok_bind, List.map_nil]
      simp only [beq_self_eq_true, if_true, e, R.ok_bind]
      simp only [List.length_map, hx, if_true, R.ok_bind, allF_map, ofO_some, R.ok_out, bodyR, O.seq, List.all_map, plain]
      rfl
    · exact Or.inl (if_neg hx)
noncomputable def fine : D → Bool
  | .exc _ => false
  | .str x => decide (x.length ≤ sizeLine)
  | _ => true
noncomputable def rowOf (d : D) (wd : Int) : Bool := match d with
  | .str x => plain x && ((x.length : Int) == wd)
  | _ => false
noncomputable def full (d : D) (wd : Int) : Bool := match d with
  | .tup xs => decide (1 ≤ xs.length) && decide (xs.length ≤ 12) && xs.all fun r => rowOf r wd
  | _ => false
noncomputable def fullF : List D → R D
  | [.exc _, _] => .no
  | [.tup xs, .int wd] => if xs.all fine = true then .ok (.bl (full (.tup xs) wd)) else .no
  | [d, .int wd] => .ok (.bl false)
  | _ => .no
theorem isPlF_fine {d : D} (h : fine d = true) : isPlF [d] = .ok (.bl (isPl d)) := by
  cases d <;> first | rfl | (cases h; done) | skip
  exact if_pos (of_decide_eq_true h)
noncomputable def are_full_rows_s1 (F_is_plain : List D → R D) : Ev → O := (oIf (tOrB (gBn (gThen truD (gThen (isTy (· == "tuple")) (fun ρ => rdV ρ 0)))) (gBn (gB3 leD leD (fun _ => R.ok (D.int 1)) (gOf lenF (gACons (fun ρ => rdV ρ 0) (fun _ => R.ok []))) (fun _ => R.ok (D.int 12))))) (oSeq (oRet (fun _ => R.ok (D.bl false))) oNx) oNx)
noncomputable def are_full_rows_s2 (F_is_plain : List D → R D) : Ev → O := (oRet (gOf allF (gACons (gFresh (gComp (gThen itemsD (fun ρ => rdV ρ 0)) [1] (fun _ => R.ok true) (gAnd (gCall 1 F_is_plain (gACons (fun ρ => rdV ρ 0) (fun _ => R.ok []))) (g2 eqF (gOf lenF (gACons (fun ρ => rdV ρ 0) (fun _ => R.ok []))) (fun ρ => rdV ρ 1))))) (fun _ => R.ok []))))
noncomputable def are_full_rows_all (F_is_plain : List D → R D) : Ev → O := (oSeq (are_full_rows_s1 F_is_plain) (oSeq (are_full_rows_s2 F_is_plain) oNx))
theorem are_full_rows_ok : ∀ ds : List D, ds.length = 2 → fullF ds = .no ∨ bodyR (are_full_rows_all isPlF (startE 2 ds)) = fullF ds := by
  intro ds hl
  unfold are_full_rows_all are_full_rows_s1 are_full_rows_s2
  match ds, hl with
  | [d, l], _ =>
    cases d <;> first | exact Or.inl rfl | skip
    all_goals (cases l <;> first | exact Or.inl rfl | exact Or.inr rfl | skip)
    rename_i xs wd hl
    by_cases hf : xs.all fine = true
    · refine Or.inr ?_
      have e2 : fullF [.tup xs, .int wd] = .ok (.bl (full (.tup xs) wd)) := if_pos hf
      rw [e2]
      have e : compD (fun _ => R.ok true) (gAnd (gCall 1 isPlF (gACons (fun ρ => rdV ρ 0) fun x => R.ok [])) (g2 eqF (gOf lenF (gACons (fun ρ => rdV ρ 0) fun x => R.ok [])) fun ρ => rdV ρ 1)) xs [none, some (.val (.int wd))] = .ok (xs.map fun d => .bl (rowOf d wd)) := by
        refine compD_all _ [some (.val (.int wd))] xs none fun d m => ⟨rfl, ?_⟩
        have hd := List.all_eq_true.1 hf d m
        simp only [gAnd, gCall, gACons, rd0, R.ok_bind, List.length_singleton, if_true, isPlF_fine hd, asB]
        cases d <;> first | rfl | skip
        rename_i x
        show (if plain x = true then R.ok (D.bl ((x.length : Int) == wd)) else R.ok (.bl false)) = R.ok (.bl (plain x && ((x.length : Int) == wd)))
        cases plain x <;> rfl
      show bodyR (oSeq _ _ [some (.val (.tup xs)), some (.val (.int wd))]) = _
      have i2 : inner [1] [some (.val (.tup xs)), some (.val (.int wd))] = [none, some (.val (.int wd))] := rfl
      have t1 : isTy (fun x => x == "tuple") (.tup xs) = .ok (.bl true) := rfl
      have t2 : truD (.bl true) = .ok true := rfl
      have t3 : lenF [.tup xs] = some (.int xs.length) := rfl
      simp only [oSeq, oIf, tOrB, gBn, gThen, gB3, g3, oRet, gOf, gACons, gFresh, gComp, rd0, R.ok_bind, R.ok_out, itemsD, i2, e, t1, t2, t3, ofO_some, leD, Bool.not_true, Bool.false_eq_true, if_false]
      by_cases h1 : 1 ≤ xs.length
      · have h1' : (1 : Int) ≤ (xs.length : Int) := by omega
        by_cases h2 : xs.length ≤ 12
        · have h2' : (xs.length : Int) ≤ 12 := by omega
          have h3 : xs.length ≤ sizeLine := Nat.le_trans h2 (by decide)
          simp [h1, h1', h2, h2', h3, asB, oNx, O.seq, allF_map, bodyR, full]
          simp only [oSeq, oRet, gOf, gACons, gFresh, gComp, gThen, rd0, R.ok_bind, itemsD, i2, e, List.length_map, h3, if_true, allF_map, ofO_some, R.ok_out, O.seq]
        · have h2' : ¬ (xs.length : Int) ≤ 12 := by omega
          simp [h1, h1', h2, h2', asB, oNx, O.seq, bodyR, full]
      · have h1' : ¬ (1 : Int) ≤ (xs.length : Int) := by omega
        simp [h1, h1', asB, oNx, O.seq, bodyR, full]
    · exact Or.inl (if_neg hf)
noncomputable def place (d : D) (wd m : Int) : Bool := match d with
  | .tup [a, b] => inB a 0 (m - 1) && inB b 0 wd
  | _ => false
noncomputable def noExc : D → Bool
  | .exc _ => false
  | _ => true
noncomputable def placeF : List D → R D
  | [.exc _, _, _] => .no
  | [.tup xs, .int wd, .int m] => if xs.all noExc = true then .ok (.bl (place (.tup xs) wd m)) else .no
  | [d, .int wd, .int m] => .ok (.bl false)
  | _ => .no
theorem inBF_noExc {d : D} {lo hi : Int} (h : noExc d = true) : inBF [d, .int lo, .int hi] = .ok (.bl (inB d lo hi)) := by
  cases d <;> first | rfl | (cases h; done)
noncomputable def is_place_s1 (F_is_within : List D → R D) : Ev → O := (oIf (tOrB (gBn (gThen truD (gThen (isTy (· == "tuple")) (fun ρ => rdV ρ 0)))) (gB2 neF (gOf lenF (gACons (fun ρ => rdV ρ 0) (fun _ => R.ok []))) (fun _ => R.ok (D.int 2)))) (oSeq (oRet (fun _ => R.ok (D.bl false))) oNx) oNx)
noncomputable def is_place_s2 (F_is_within : List D → R D) : Ev → O := (oRet (gAnd (gCall 3 F_is_within (gACons (g2 ixD (fun ρ => rdV ρ 0) (fun _ => R.ok (D.int 0))) (gACons (fun _ => R.ok (D.int 0)) (gACons (g2 subD (fun ρ => rdV ρ 2) (fun _ => R.ok (D.int 1))) (fun _ => R.ok []))))) (gCall 3 F_is_within (gACons (g2 ixD (fun ρ => rdV ρ 0) (fun _ => R.ok (D.int 1))) (gACons (fun _ => R.ok (D.int 0)) (gACons (fun ρ => rdV ρ 1) (fun _ => R.ok [])))))))
noncomputable def is_place_all (F_is_within : List D → R D) : Ev → O := (oSeq (is_place_s1 F_is_within) (oSeq (is_place_s2 F_is_within) oNx))
theorem is_place_ok : ∀ ds : List D, ds.length = 3 → placeF ds = .no ∨ bodyR (is_place_all inBF (startE 3 ds)) = placeF ds := by
  intro ds hl
  unfold is_place_all is_place_s1 is_place_s2
  match ds, hl with
  | [d, l, h], _ =>
    cases d <;> first | exact Or.inl rfl | skip
    all_goals (cases l <;> first | exact Or.inl rfl | skip)
    all_goals (cases h <;> first | exact Or.inl rfl | exact Or.inr rfl | skip)
    rename_i xs wd m hl
    by_cases hf : xs.all noExc = true
    · refine Or.inr ?_
      have e2 : placeF [.tup xs, .int wd, .int m] = .ok (.bl (place (.tup xs) wd m)) := if_pos hf
      rw [e2]
      match xs, hf with
      | [], _ => rfl
      | [_], _ => rfl
      | [a, b], hf =>
        have ha : noExc a = true := List.all_eq_true.1 hf a (by simp)
        have hb : noExc b = true := List.all_eq_true.1 hf b (by simp)
        show bodyR ((gAnd (fun _ => inBF [a, .int 0, .int (m - 1)]) (fun _ => inBF [b, .int 0, .int wd]) []).out _ .rt |>.seq oNx) = _
        rw [gAnd, inBF_noExc ha, inBF_noExc hb]
        show bodyR ((if inB a 0 (m - 1) = true then R.ok (D.bl (inB b 0 wd)) else R.ok (D.bl false)).out _ .rt |>.seq oNx) = R.ok (D.bl (inB a 0 (m - 1) && inB b 0 wd))
        cases inB a 0 (m - 1) <;> rfl
      | a :: b :: c :: l, _ =>
        show bodyR (oSeq _ _ [some (.val (.tup (a :: b :: c :: l))), some (.val (.int wd)), some (.val (.int m))]) = _
        have t1 : isTy (fun x => x == "tuple") (.tup (a :: b :: c :: l)) = .ok (.bl true) := rfl
        have t2 : truD (.bl true) = .ok true := rfl
        have t3 : lenF [.tup (a :: b :: c :: l)] = some (.int (a :: b :: c :: l).length) := rfl
        have t4 : neF (.int (a :: b :: c :: l).length) (.int 2) = some (.bl true) := by
          have : (((a :: b :: c :: l).length : Int) == 2) = false := by simp; omega
          show some (D.bl (!(((a :: b :: c :: l).length : Int) == 2))) = _
          rw [this]; rfl
        simp only [oSeq, oIf, tOrB, gBn, gThen, gB2, g2, oRet, gOf, gACons, rd0, R.ok_bind, R.ok_out, t1, t2, t3, t4, ofO_some, Bool.not_true, Bool.false_eq_true, if_false]
        rfl
    · exact Or.inl (if_neg hf)
noncomputable def fine3 : D → Bool
  | .exc _ => false
  | .tup [w, r, p] => noExc w && (match r with | .exc _ => false | .tup xs => xs.all fine | _ => true) && (match p with | .exc _ => false | .tup xs => xs.all noExc | _ => true)
  | _ => true
noncomputable def screen : D → Bool
  | .tup [a, r, p] => match a with
    | .int wd => inB (.int wd) 1 40 && full r wd && (match r with | .tup rows => place p wd rows.length | _ => false)
    | _ => false
  | _ => false
noncomputable def screenF : List D → R D
  | [d] => if fine3 d = true then .ok (.bl (screen d)) else .no
  | _ => .no
noncomputable def is_screen_s1 (F_is_within : List D → R D) (F_are_full_rows : List D → R D) (F_is_place : List D → R D) : Ev → O := (oIf (tOrB (gBn (gThen truD (gThen (isTy (· == "tuple")) (fun ρ => rdV ρ 0)))) (gB2 neF (gOf lenF (gACons (fun ρ => rdV ρ 0) (fun _ => R.ok []))) (fun _ => R.ok (D.int 3)))) (oSeq (oRet (fun _ => R.ok (D.bl false))) oNx) oNx)
noncomputable def is_screen_s2 (F_is_within : List D → R D) (F_are_full_rows : List D → R D) (F_is_place : List D → R D) : Ev → O := (oSet 1 (g2 ixD (fun ρ => rdV ρ 0) (fun _ => R.ok (D.int 0))))
noncomputable def is_screen_s3 (F_is_within : List D → R D) (F_are_full_rows : List D → R D) (F_is_place : List D → R D) : Ev → O := (oIf (tOrB (gBn (gThen truD (gCall 3 F_is_within (gACons (fun ρ => rdV ρ 1) (gACons (fun _ => R.ok (D.int 1)) (gACons (fun _ => R.ok (D.int 40)) (fun _ => R.ok []))))))) (gBn (gThen truD (gCall 2 F_are_full_rows (gACons (g2 ixD (fun ρ => rdV ρ 0) (fun _ => R.ok (D.int 1))) (gACons (fun ρ => rdV ρ 1) (fun _ => R.ok []))))))) (oSeq (oRet (fun _ => R.ok (D.bl false))) oNx) oNx)
noncomputable def is_screen_s4 (F_is_within : List D → R D) (F_are_full_rows : List D → R D) (F_is_place : List D → R D) : Ev → O := (oRet (gCall 3 F_is_place (gACons (g2 ixD (fun ρ => rdV ρ 0) (fun _ => R.ok (D.int 2))) (gACons (fun ρ => rdV ρ 1) (gACons (gOf lenF (gACons (g2 ixD (fun ρ => rdV ρ 0) (fun _ => R.ok (D.int 1))) (fun _ => R.ok []))) (fun _ => R.ok []))))))
noncomputable def is_screen_all (F_is_within : List D → R D) (F_are_full_rows : List D → R D) (F_is_place : List D → R D) : Ev → O := (oSeq (is_screen_s1 F_is_within F_are_full_rows F_is_place) (oSeq (is_screen_s2 F_is_within F_are_full_rows F_is_place) (oSeq (is_screen_s3 F_is_within F_are_full_rows F_is_place) (oSeq (is_screen_s4 F_is_within F_are_full_rows F_is_place) oNx))))
theorem is_screen_ok : ∀ ds : List D, ds.length = 1 → screenF ds = .no ∨ bodyR (is_screen_all inBF fullF placeF (startE 2 ds)) = screenF ds := by
  intro ds hl
  unfold is_screen_all is_screen_s1 is_screen_s2 is_screen_s3 is_screen_s4
  match ds, hl with
  | [d], _ =>
    cases d <;> first | exact Or.inl rfl | exact Or.inr rfl | skip
    rename_i xs hl
    match xs with
    | [] => exact Or.inr rfl
    | [_] => exact Or.inr rfl
    | [_, _] => exact Or.inr rfl
    | a :: b :: c :: e :: l =>
      refine Or.inr ?_
      show bodyR (oSeq _ _ [some (.val (.tup (a :: b :: c :: e :: l))), none]) = _
      have t1 : isTy (fun x => x == "tuple") (.tup (a :: b :: c :: e :: l)) = .ok (.bl true) := rfl
      have t2 : truD (.bl true) = .ok true := rfl
      have t3 : lenF [.tup (a :: b :: c :: e :: l)] = some (.int (a :: b :: c :: e :: l).length) := rfl
      have t4 : neF (.int (a :: b :: c :: e :: l).length) (.int 3) = some (.bl true) := by
        have : (((a :: b :: c :: e :: l).length : Int) == 3) = false := by simp; omega
        show some (D.bl (!(((a :: b :: c :: e :: l).length : Int) == 3))) = _
        rw [this]; rfl
      simp only [oSeq, oIf, tOrB, gBn, gThen, gB2, g2, oRet, gOf, gACons, rd0, R.ok_bind, R.ok_out, t1, t2, t3, t4, ofO_some, Bool.not_true, Bool.false_eq_true, if_false]
      rfl
    | [a, r, p] =>
      by_cases hf : fine3 (.tup [a, r, p]) = true
      · refine Or.inr ?_
        have e2 : screenF [.tup [a, r, p]] = .ok (.bl (screen (.tup [a, r, p]))) := if_pos hf
        rw [e2]
        simp only [fine3, Bool.and_eq_true] at hf
        obtain ⟨⟨ha, hr⟩, hp⟩ := hf
        show bodyR (oSeq _ _ [some (.val (.tup [a, r, p])), none]) = _
        have t1 : isTy (fun x => x == "tuple") (.tup [a, r, p]) = .ok (.bl true) := rfl
        have t2 : ∀ k, truD (.bl k) = .ok k := fun _ => rfl
        have t3 : lenF [.tup [a, r, p]] = some (.int 3) := rfl
        have t4 : neF (.int 3) (.int 3) = some (.bl false) := rfl
        have x0 : ixD (.tup [a, r, p]) (.int 0) = some a := rfl
        have x1 : ixD (.tup [a, r, p]) (.int 1) = some r := rfl
        have x2 : ixD (.tup [a, r, p]) (.int 2) = some p := rfl
        have s1 : ([some (.val (.tup [a, r, p])), none] : Ev).set 1 (some (.val a)) = [some (.val (.tup [a, r, p])), some (.val a)] := rfl
        simp only [oSeq, oIf, oSet, tOrB, gBn, gThen, gB2, g2, oRet, gOf, gACons, rd0, rd1, R.ok_bind, R.ok_out, t1, t2, t3, t4, x0, x1, x2, s1, gCall2, gCall3, ofO_some, asB, oNx, O.seq, Bool.not_true, Bool.false_eq_true, if_false, inBF_noExc ha]
        cases hi : inB a 1 40 with
        | false =>
          have : screen (.tup [a, r, p]) = false := by
            cases a <;> first | rfl | skip
            simp only [screen, hi, Bool.false_and]
          rw [this]; rfl
        | true =>
          cases a <;> first | (cases hi; done) | skip
          rename_i i
          have e3 : fullF [r, .int i] = .ok (.bl (full r i)) := by
            cases r <;> first | rfl | (cases hr; done) | exact if_pos hr
          cases hq : full r i with
          | false =>
            have : screen (.tup [.int i, r, p]) = false := by simp only [screen, hi, hq, Bool.and_false, Bool.false_and]
            rw [e3, hq, this]; rfl
          | true =>
            cases r <;> first | (cases hq; done) | skip
            rename_i rows
            have e4 : placeF [p, .int i, .int rows.length] = .ok (.bl (place p i rows.length)) := by
              cases p <;> first | rfl | (cases hp; done) | exact if_pos hp
            have e5 : screen (.tup [.int i, .tup rows, p]) = place p i rows.length := by simp only [screen, hi, hq, Bool.and_true, Bool.true_and]
            rw [e3, hq, e5]
            show bodyR ((placeF [p, .int i, .int rows.length]).out _ .rt |>.seq _) = _
            rw [e4]; rfl
      · exact Or.inl (if_neg hf)
noncomputable def intsD : List D → Option (List Int)
  | [] => some []
  | .int i :: ds => (intsD ds).map (i :: ·)
  | _ => none
theorem intsD_eq : ∀ {ds : List D} {ns : List Int}, intsD ds = some ns → ds = ns.map .int
  | [], ns, h => by cases h; rfl
  | d :: ds, ns, h => by
    cases d <;> first | (cases h; done) | skip
    rename_i i
    cases q : intsD ds with
    | none => simp [intsD, q] at h
    | some ms => simp [intsD, q] at h; subst h; rw [intsD_eq q]; rfl
theorem intsD_map : ∀ ns : List Int, intsD (ns.map .int) = some ns
  | [] => rfl
  | i :: ns => by simp [intsD, intsD_map ns]
noncomputable def cell (ns : List Int) (k : Nat) : Int := if k < ns.length then ns.getD k 0 else if ns.length = 0 then 0 else ns.getD (k % ns.length) 0 * 31 + k
noncomputable def cellF : List D → R D
  | [.lst _ ds, .int k] => match intsD ds with
    | some ns => if 0 ≤ k then .ok (.int (cell ns k.toNat)) else .no
    | none => .no
  | _ => .no
theorem atI_ints {ns : List Int} {k : Nat} (h : k < ns.length) : atI (ns.map D.int) (k : Int) = some (.int (ns.getD k 0)) := by
  have e : ixN (ns.map D.int).length (k : Int) = some k := by
    rw [List.length_map]
    simp [ixN]
    try omega
  rw [atI, e]
  simp [List.getD, h]
noncomputable def law_cell_s1 : Ev → O := (oIf (gB2 ltD (fun ρ => rdV ρ 1) (gOf lenF (gACons (fun ρ => rdV ρ 0) (fun _ => R.ok [])))) (oSeq (oRet (g2 ixD (fun ρ => rdV ρ 0) (fun ρ => rdV ρ 1))) oNx) oNx)
noncomputable def law_cell_s2 : Ev → O := (oIf (gB2 eqF (fun ρ => rdV ρ 0) (gFresh (gLst (fun _ => R.ok [])))) (oSeq (oRet (fun _ => R.ok (D.int 0))) oNx) oNx)
noncomputable def law_cell_s3 : Ev → O := (oRet (g2 addD (g2 mulD (g2 ixD (fun ρ => rdV ρ 0) (g2 modD (fun ρ => rdV ρ 1) (gOf lenF (gACons (fun ρ => rdV ρ 0) (fun _ => R.ok []))))) (fun _ => R.ok (D.int 31))) (fun ρ => rdV ρ 1)))
noncomputable def law_cell_all : Ev → O := (oSeq law_cell_s1 (oSeq law_cell_s2 (oSeq law_cell_s3 oNx)))
theorem law_cell_ok : ∀ ds : List D, ds.length = 2 → cellF ds = .no ∨ bodyR (law_cell_all  (startE 2 ds)) = cellF ds := by
  intro ds hl
  unfold law_cell_all law_cell_s1 law_cell_s2 law_cell_s3
  match ds, hl with
  | [l, kd], _ =>
    cases l <;> first | exact Or.inl rfl | skip
    cases kd <;> first | exact Or.inl rfl | skip
    rename_i fz ds k hl
    cases hi : intsD ds with
    | none => refine Or.inl ?_; simp only [cellF, hi]
    | some ns =>
      have e := intsD_eq hi
      subst e
      by_cases hk : 0 ≤ k
      · refine Or.inr ?_
        have e2 : cellF [.lst fz (ns.map .int), .int k] = .ok (.int (cell ns k.toNat)) := by simp only [cellF, hi, hk, if_true]
        rw [e2]
        obtain ⟨n, rfl⟩ := Int.eq_ofNat_of_zero_le hk
        rw [Int.toNat_natCast]
        show bodyR (oSeq _ _ [some (.val (.lst fz (ns.map .int))), some (.val (.int n))]) = _
        have t3 : lenF [.lst fz (ns.map .int)] = some (.int ns.length) := by simp [lenF]
        by_cases h1 : n < ns.length
        · have h1' : (n : Int) < (ns.length : Int) := by omega
          have x1 : ixD (.lst fz (ns.map .int)) (.int n) = some (.int (ns.getD n 0)) := atI_ints h1
          simp only [oSeq, oIf, gB2, g2, oRet, gOf, gACons, rd0, rd1, R.ok_bind, R.ok_out, t3, x1, ofO_some, ltD, asB, h1', decide_true, if_true, O.seq, bodyR, cell, h1]
        · have h1' : ¬ (n : Int) < (ns.length : Int) := by omega
          cases ns with
          | nil => rfl
          | cons a as =>
            have t4 : eqF (.lst fz ((a :: as).map .int)) (.lst false []) = some (.bl false) := rfl
            have h2 : n % (a :: as).length < (a :: as).length := Nat.mod_lt _ (by simp)
            have x1 : ixD (.lst fz ((a :: as).map .int)) (.int ((n % (a :: as).length : Nat) : Int)) = some (.int ((a :: as).getD (n % (a :: as).length) 0)) := atI_ints h2
            have m1 : modD (.int n) (.int (a :: as).length) = some (.int ((n % (a :: as).length : Nat) : Int)) := by
              have : (0 : Int) < ((a :: as).length : Int) := by simp
              simp only [modD, this, if_true]; rw [Int.natCast_emod]
            have m2 : ∀ z : Int, mulD (.int z) (.int 31) = some (.int (z * 31)) := fun z => if_pos (Or.inr (by decide))
            have z1 : (0 : Nat) ≤ sizeLine := Nat.zero_le _
            have z2 : ¬ (a :: as).length = 0 := by simp
            simp only [oSeq, oIf, gB2, g2, oRet, gOf, gACons, gFresh, gLst, rd0, rd1, R.ok_bind, R.ok_out, t3, t4, x1, m1, m2, ofO_some, ltD, addD, asB, h1', decide_false, Bool.false_eq_true, if_false, O.seq, oNx, bodyR, cell, h1, List.length_nil, z1, if_true, z2]
      · refine Or.inl ?_; simp only [cellF, hi, hk, if_false]
noncomputable def drawn (ns : List Int) (k : Nat) : Int := (cell ns k + 6151 * ((k : Int) + 1)) * 40692 % 2147483399
noncomputable def pick (ns : List Int) (k : Nat) (m : Int) : Int := (drawn ns k * drawn ns k + drawn ns k / 31) % 2147483629 % m
theorem pick_range (ns : List Int) (k : Nat) {m : Int} (h : 0 < m) : 0 ≤ pick ns k m ∧ pick ns k m < m := ⟨Int.emod_nonneg _ (by omega), Int.emod_lt_of_pos _ h⟩
noncomputable def pickF : List D → R D
  | [.lst _ ds, .int k, .int m] => match intsD ds with
    | some ns => if 0 ≤ k ∧ 0 < m then .ok (.int (pick ns k.toNat m)) else .no
    | none => .no
  | _ => .no
theorem cellF_nat {fz : Bool} {ns : List Int} {n : Nat} : cellF [.lst fz (ns.map .int), .int n] = .ok (.int (cell ns n)) := by
  simp only [cellF, intsD_map, Int.natCast_nonneg, if_true, Int.toNat_natCast]
noncomputable def law_pick_s1 (F__law_cell : List D → R D) : Ev → O := (oSet 3 (g2 modD (g2 mulD (g2 addD (gCall 2 F__law_cell (gACons (fun ρ => rdV ρ 0) (gACons (fun ρ => rdV ρ 1) (fun _ => R.ok [])))) (g2 mulD (fun _ => R.ok (D.int 6151)) (g2 addD (fun ρ => rdV ρ 1) (fun _ => R.ok (D.int 1))))) (fun _ => R.ok (D.int 40692))) (fun _ => R.ok (D.int 2147483399))))
noncomputable def law_pick_s2 (F__law_cell : List D → R D) : Ev → O := (oRet (g2 modD (g2 modD (g2 addD (g2 mulD (fun ρ => rdV ρ 3) (fun ρ => rdV ρ 3)) (g2 fdivD (fun ρ => rdV ρ 3) (fun _ => R.ok (D.int 31)))) (fun _ => R.ok (D.int 2147483629))) (fun ρ => rdV ρ 2)))
noncomputable def law_pick_all (F__law_cell : List D → R D) : Ev → O := (oSeq (law_pick_s1 F__law_cell) (oSeq (law_pick_s2 F__law_cell) oNx))
theorem law_pick_ok : ∀ ds : List D, ds.length = 3 → pickF ds = .no ∨ bodyR (law_pick_all cellF (startE 4 ds)) = pickF ds := by
  intro ds hl
  unfold law_pick_all law_pick_s1 law_pick_s2
  match ds, hl with
  | [l, kd, md], _ =>
    cases l <;> first | exact Or.inl rfl | skip
    cases kd <;> first | exact Or.inl rfl | skip
    cases md <;> first | exact Or.inl rfl | skip
    rename_i fz ds k m hl
    cases hi : intsD ds with
    | none => refine Or.inl ?_; simp only [pickF, hi]
    | some ns =>
      have e := intsD_eq hi
      subst e
      by_cases hk : 0 ≤ k ∧ 0 < m
      · refine Or.inr ?_
        have e2 : pickF [.lst fz (ns.map .int), .int k, .int m] = .ok (.int (pick ns k.toNat m)) := by simp only [pickF, hi, hk, and_self, if_true]
        rw [e2]
        obtain ⟨hk, hm⟩ := hk
        obtain ⟨n, rfl⟩ := Int.eq_ofNat_of_zero_le hk
        rw [Int.toNat_natCast]
        show bodyR (oSeq _ _ [some (.val (.lst fz (ns.map .int))), some (.val (.int n)), some (.val (.int m)), none]) = _
        have m1 : ∀ z : Int, mulD (.int 6151) (.int z) = some (.int (6151 * z)) := fun z => by show (if ((-(2 ^ 64) : Int) < 6151 ∧ (6151 : Int) < 2 ^ 64) ∨ ((-(2 ^ 64) : Int) < z ∧ z < 2 ^ 64) then some (D.int (6151 * z)) else none) = _; exact if_pos (Or.inl (by decide))
        have m2 : ∀ z : Int, mulD (.int z) (.int 40692) = some (.int (z * 40692)) := fun z => if_pos (Or.inr (by decide))
        have m3 : ∀ z : Int, modD (.int z) (.int 2147483399) = some (.int (z % 2147483399)) := fun z => by show (if (0 : Int) < 2147483399 then some (D.int (z % 2147483399)) else none) = _; exact if_pos (by decide)
        have m4 : ∀ z : Int, modD (.int z) (.int 2147483629) = some (.int (z % 2147483629)) := fun z => by show (if (0 : Int) < 2147483629 then some (D.int (z % 2147483629)) else none) = _; exact if_pos (by decide)
        have m5 : ∀ z : Int, modD (.int z) (.int m) = some (.int (z % m)) := fun z => if_pos hm
        have m6 : ∀ z : Int, fdivD (.int z) (.int 31) = some (.int (z / 31)) := fun z => by show (if (0 : Int) < 31 ∧ (31 : Int) < 1073741824 then some (D.int (z / 31)) else none) = _; exact if_pos (by decide)
        have m7 : ∀ i j : Int, addD (.int i) (.int j) = some (.int (i + j)) := fun _ _ => rfl
        have hd : 0 ≤ drawn ns n ∧ drawn ns n < 2147483399 := ⟨Int.emod_nonneg _ (by decide), Int.emod_lt_of_pos _ (by decide)⟩
        have m8 : mulD (.int (drawn ns n)) (.int (drawn ns n)) = some (.int (drawn ns n * drawn ns n)) := if_pos (Or.inl (by omega))
        have s1 : ∀ v, ([some (.val (.lst fz (ns.map .int))), some (.val (.int n)), some (.val (.int m)), none] : Ev).set 3 v = [some (.val (.lst fz (ns.map .int))), some (.val (.int n)), some (.val (.int m)), v] := fun _ => rfl
        have q1 : (cell ns n + 6151 * ((n : Int) + 1)) * 40692 % 2147483399 = drawn ns n := rfl
        simp only [oSeq, oSet, oRet, g2, gCall2, rd0, rd1, rd2, rd3, R.ok_bind, R.ok_out, cellF_nat, m1, m2, m3, m4, m5, m6, m7, ofO_some, O.seq, s1, q1, m8, bodyR, pick]
      · refine Or.inl ?_; simp only [pickF, hi, hk, if_false]
noncomputable def checkF (C : Addr) : List D → R D
  | [d] => if fine3 d = true then (if screen d = true then .ok .non else .ex C) else .no
  | _ => .no
noncomputable def check_screen_s1 (F_is_screen : List D → R D) (C_NoScreen : Addr) : Ev → O := (oIf (gBn (gThen truD (gCall 1 F_is_screen (gACons (fun ρ => rdV ρ 0) (fun _ => R.ok []))))) (oSeq (oRaise C_NoScreen (gACons (fun _ => R.ok (D.str [116, 104, 105, 115, 32, 105, 115, 32, 110, 111, 32, 115, 99, 114, 101, 101, 110])) (fun _ => R.ok []))) oNx) oNx)
noncomputable def check_screen_all (F_is_screen : List D → R D) (C_NoScreen : Addr) : Ev → O := (oSeq (check_screen_s1 F_is_screen C_NoScreen) oNx)
theorem check_screen_ok {C : Addr} : ∀ ds : List D, ds.length = 1 → checkF C ds = .no ∨ bodyR (check_screen_all screenF C (startE 1 ds)) = checkF C ds := by
  intro ds hl
  unfold check_screen_all check_screen_s1
  match ds, hl with
  | [d], _ =>
    by_cases hf : fine3 d = true
    · refine Or.inr ?_
      have e1 : screenF [d] = .ok (.bl (screen d)) := if_pos hf
      have e2 : checkF C [d] = if screen d = true then .ok .non else .ex C := if_pos hf
      rw [e2]
      show bodyR (oSeq _ _ [some (.val d)]) = _
      have t2 : ∀ k, truD (.bl k) = .ok k := fun _ => rfl
      simp only [oSeq, oIf, oRaise, gBn, gThen, gCall1, rd0, R.ok_bind, R.ok_out, e1, t2]
      cases screen d <;> rfl
    · exact Or.inl (if_neg hf)
theorem rep_one {α : Type} (n : Nat) (x : α) : (List.replicate n [x]).flatten = List.replicate n x := by
  induction n with
  | zero => rfl
  | succ n ih => rw [List.replicate_succ, List.flatten_cons, ih]; rfl
theorem pickF_nat {fz : Bool} {ns : List Int} {n : Nat} {m : Int} (h : 0 < m) : pickF [.lst fz (ns.map .int), .int n, .int m] = .ok (.int (pick ns n m)) := by
  simp only [pickF, intsD_map, Int.natCast_nonneg, h, and_self, if_true, Int.toNat_natCast]
noncomputable def sgn (ns : List Int) (k : Nat) : Nat := ([32, 32, 97, 98, 35] : List Nat).getD (pick ns k 5).toNat 0
theorem sgn_ix (ns : List Int) (k : Nat) : ixD (.str [32, 32, 97, 98, 35]) (.int (pick ns k 5)) = some (.str [sgn ns k]) := by
  have h := pick_range ns k (m := 5) (by decide)
  unfold sgn
  generalize pick ns k 5 = v at h
  have : v = 0 ∨ v = 1 ∨ v = 2 ∨ v = 3 ∨ v = 4 := by omega
  rcases this with rfl | rfl | rfl | rfl | rfl <;> rfl
theorem sgn_plain (ns : List Int) (k : Nat) : 32 ≤ sgn ns k ∧ sgn ns k ≤ 126 := by
  have h := pick_range ns k (m := 5) (by decide)
  unfold sgn
  generalize pick ns k 5 = v at h
  have : v = 0 ∨ v = 1 ∨ v = 2 ∨ v = 3 ∨ v = 4 := by omega
  rcases this with rfl | rfl | rfl | rfl | rfl <;> decide
noncomputable def rowB : Ev → O := oSeq (oSet 3 (g2 addD (fun ρ => rdV ρ 3) (g2 ixD (fun x => R.ok (D.str [32, 32, 97, 98, 35])) (gCall 3 pickF (gACons (fun ρ => rdV ρ 0) (gACons (g2 addD (g2 addD (fun ρ => rdV ρ 1) fun x => R.ok (D.int 1)) fun ρ => rdV ρ 4) (gACons (fun x => R.ok (D.int 5)) fun x => R.ok []))))))) oNx
theorem row_loop (ns : List Int) (fz : Bool) (a : Nat) (W : Option Sl) : ∀ (ks : List Nat) (x : List Nat) (kk : Option Sl), x.length + ks.length ≤ sizeLine →
    ∃ kk', loopD (setV 4) rowB (ks.map fun i => D.int (0 + (i : Nat))) [some (.val (.lst fz (ns.map .int))), some (.val (.int a)), W, some (.val (.str x)), kk, none] = .nx [some (.val (.lst fz (ns.map .int))), some (.val (.int a)), W, some (.val (.str (x ++ ks.map fun k => sgn ns (a + 1 + k)))), kk', none]
  | [], x, kk, _ => ⟨kk, by simp [loopD]⟩
  | k :: ks, x, kk, h => by
    have h' : (x ++ [sgn ns (a + 1 + k)]).length + ks.length ≤ sizeLine := by simp at h ⊢; omega
    obtain ⟨kk', ih⟩ := row_loop ns fz a W ks (x ++ [sgn ns (a + 1 + k)]) (some (.val (.int (0 + (k : Nat))))) h'
    refine ⟨kk', ?_⟩
    have hx : x.length + 1 ≤ sizeLine := by simp at h; omega
    have c1 : ((a : Int) + 1 + (0 + (k : Int))) = ((a + 1 + k : Nat) : Int) := by omega
    have p5 : ∀ n : Nat, pickF [.lst fz (ns.map .int), .int n, .int 5] = .ok (.int (pick ns n 5)) := fun n => pickF_nat (by decide)
    have m7 : ∀ i j : Int, addD (.int i) (.int j) = some (.int (i + j)) := fun _ _ => rfl
    have m8 : addD (.str x) (.str [sgn ns (a + 1 + k)]) = some (.str (x ++ [sgn ns (a + 1 + k)])) := if_pos hx
    have hB : rowB [some (.val (.lst fz (ns.map .int))), some (.val (.int a)), W, some (.val (.str x)), some (.val (.int (0 + (k : Nat)))), none] = .nx [some (.val (.lst fz (ns.map .int))), some (.val (.int a)), W, some (.val (.str (x ++ [sgn ns (a + 1 + k)]))), some (.val (.int (0 + (k : Nat)))), none] := by
      simp only [rowB, oSeq, oSet, g2, gCall3, rd0, rd1, rd3, rd4, R.ok_bind, m7, c1, p5, sgn_ix, m8, ofO_some, R.ok_out, O.seq, oNx]
      rfl
    rw [List.map_cons, loopD]
    show (match rowB [some (.val (.lst fz (ns.map .int))), some (.val (.int a)), W, some (.val (.str x)), some (.val (.int (0 + (k : Nat)))), none] with
      | .nx ρ2 => loopD (setV 4) rowB _ ρ2
      | .ct ρ2 => loopD (setV 4) rowB _ ρ2
      | .bk ρ2 => O.nx ρ2
      | .rt d => O.rt d
      | .re d ρ2 => .re d ρ2
      | .ex C ρ2 => O.ex C ρ2
      | .no => O.no) = _
    rw [hB]
    simp only [List.map_cons]
    rw [ih, List.append_assoc]
    rfl
noncomputable def rowL (ns : List Int) (a wd : Nat) : List Nat :=
  if pick ns (a + 20) 2 = 0 then (List.range wd).map fun k => sgn ns (a + 1 + k) else ((List.range wd).map fun k => sgn ns (a + 1 + k)).take (pick ns a (wd + 1)).toNat ++ List.replicate (wd - (pick ns a (wd + 1)).toNat) 32
theorem rowL_length (ns : List Int) (a wd : Nat) : (rowL ns a wd).length = wd := by
  have h := pick_range ns a (m := (wd : Int) + 1) (by omega)
  unfold rowL
  split
  · simp
  · simp; omega
theorem rowL_plain (ns : List Int) (a wd : Nat) : plain (rowL ns a wd) = true := by
  have hm : ∀ c ∈ (List.range wd).map (fun k => sgn ns (a + 1 + k)), 32 ≤ c ∧ c ≤ 126 := by
    intro c hc
    obtain ⟨k, _, rfl⟩ := List.mem_map.1 hc
    exact sgn_plain ns _
  unfold plain
  rw [List.all_eq_true]
  intro c hc
  have : 32 ≤ c ∧ c ≤ 126 := by
    unfold rowL at hc
    split at hc
    · exact hm c hc
    · rcases List.mem_append.1 hc with q | q
      · exact hm c (List.mem_of_mem_take q)
      · have := (List.mem_replicate.1 q).2; omega
  simp [this.1, this.2]
noncomputable def rowF : List D → R D
  | [.lst _ ds, .int a, .int wd] => match intsD ds with
    | some ns => if 0 ≤ a ∧ 0 ≤ wd ∧ wd ≤ 100 then .ok (.str (rowL ns a.toNat wd.toNat)) else .no
    | none => .no
  | _ => .no
theorem range_nat {wd : Nat} (h : wd ≤ 100) : rangeD1 [.int (wd : Int)] = .ok ((List.range wd).map fun i => D.int (0 + (i : Nat))) := by
  have e : rangeD1 [.int (wd : Int)] = if -(2 ^ 62) ≤ (wd : Int) ∧ (wd : Int) < 2 ^ 62 then .ok ((List.range (wd : Int).toNat).map fun i => D.int (0 + (i : Nat))) else .no := by simp only [rangeD1]
  rw [e, if_pos (by constructor <;> omega), Int.toNat_natCast]
theorem pick2 {fz : Bool} {ns : List Int} {a : Nat} : pickF [.lst fz (ns.map .int), .int ((a + 20 : Nat) : Int), .int 2] = .ok (.int (pick ns (a + 20) 2)) := pickF_nat (by decide)
noncomputable def rowE (pk : List D → R D) : Ev → O := oSeq (oSet 5 (gCall 3 pk (gACons (fun ρ => rdV ρ 0) (gACons (fun ρ => rdV ρ 1) (gACons (g2 addD (fun ρ => rdV ρ 2) fun x => R.ok (D.int 1)) fun x => R.ok [])))))
  (oSeq (oRet (gIf (gB2 eqF (gCall 3 pk (gACons (fun ρ => rdV ρ 0) (gACons (g2 addD (fun ρ => rdV ρ 1) fun x => R.ok (D.int 20)) (gACons (fun x => R.ok (D.int 2)) fun x => R.ok [])))) fun x => R.ok (D.int 0)) (fun ρ => rdV ρ 3)
    (g2 addD (gSl (fun ρ => rdV ρ 3) (fun x => R.ok none) (gSome fun ρ => rdV ρ 5)) (g2 mulD (fun x => R.ok (D.str [32])) (g2 subD (fun ρ => rdV ρ 2) fun ρ => rdV ρ 5))))) oNx)
theorem mul_blank {n : Nat} (h : n ≤ 100) : mulD (.str [32]) (.int (n : Int)) = some (.str (List.replicate n 32)) := by
  have hz : (100 : Nat) ≤ sizeLine := by decide
  have e : [32] = [32] := rfl
  rw [e, ← rep_one n 32]
  simp only [mulD]
  rw [if_pos (by refine ⟨by omega, by omega, ?_⟩; simp; omega), Int.toNat_natCast]
theorem rowE_ok (pk : List D → R D) (S : D) (a wd l : Nat) (z : Int) (x : List Nat) (kk : Option Sl) (h1 : pk [S, .int a, .int ((wd : Int) + 1)] = .ok (.int (l : Int))) (h2 : pk [S, .int ((a : Int) + 20), .int 2] = .ok (.int z)) (hx : x.length = wd) (hw : wd ≤ 100) (hl : l ≤ wd) :
    rowE pk [some (.val S), some (.val (.int a)), some (.val (.int wd)), some (.val (.str x)), kk, none] = .rt (.str (if z = 0 then x else x.take l ++ List.replicate (wd - l) 32)) := by
  have c1 : (wd : Int) - (l : Int) = ((wd - l : Nat) : Int) := by omega
  have m1 : mulD (.str [32]) (.int ((wd - l : Nat) : Int)) = some (.str (List.replicate (wd - l) 32)) := mul_blank (by omega)
  have m2 : addD (.str (x.take l)) (.str (List.replicate (wd - l) 32)) = some (.str (x.take l ++ List.replicate (wd - l) 32)) := s_add (by have := line_big; simp; omega)
  have m3 := cutTo x l
  unfold rowE
  clear hx hw hl
  walk_at "run"
  by_cases hz : z = 0
  · simp only [hz, if_true, beq_self_eq_true, R.ok_out, q_rt]
  · have : (z == 0) = false := by simp [hz]
    simp only [hz, this, if_false, Bool.false_eq_true, R.ok_out, q_rt]
noncomputable def law_row_s1 (F__law_pick : List D → R D) : Ev → O := (oSet 3 (fun _ => R.ok (D.str [])))
noncomputable def law_row_b2 (F__law_pick : List D → R D) : Ev → O := (oSeq (oSet 3 (g2 addD (fun ρ => rdV ρ 3) (g2 ixD (fun _ => R.ok (D.str [32, 32, 97, 98, 35])) (gCall 3 F__law_pick (gACons (fun ρ => rdV ρ 0) (gACons (g2 addD (g2 addD (fun ρ => rdV ρ 1) (fun _ => R.ok (D.int 1))) (fun ρ => rdV ρ 4)) (gACons (fun _ => R.ok (D.int 5)) (fun _ => R.ok [])))))))) oNx)
noncomputable def law_row_s3 (F__law_pick : List D → R D) : Ev → O := (oFor (setV 4) (gThen rangeD1 (gACons (fun ρ => rdV ρ 2) (fun _ => R.ok []))) (law_row_b2 F__law_pick))
noncomputable def law_row_s4 (F__law_pick : List D → R D) : Ev → O := (oSet 5 (gCall 3 F__law_pick (gACons (fun ρ => rdV ρ 0) (gACons (fun ρ => rdV ρ 1) (gACons (g2 addD (fun ρ => rdV ρ 2) (fun _ => R.ok (D.int 1))) (fun _ => R.ok []))))))
noncomputable def law_row_s5 (F__law_pick : List D → R D) : Ev → O := (oRet (gIf (gB2 eqF (gCall 3 F__law_pick (gACons (fun ρ => rdV ρ 0) (gACons (g2 addD (fun ρ => rdV ρ 1) (fun _ => R.ok (D.int 20))) (gACons (fun _ => R.ok (D.int 2)) (fun _ => R.ok []))))) (fun _ => R.ok (D.int 0))) (fun ρ => rdV ρ 3) (g2 addD (gSl (fun ρ => rdV ρ 3) (fun _ => R.ok none) (gSome (fun ρ => rdV ρ 5))) (g2 mulD (fun _ => R.ok (D.str [32])) (g2 subD (fun ρ => rdV ρ 2) (fun ρ => rdV ρ 5))))))
noncomputable def law_row_all (F__law_pick : List D → R D) : Ev → O := (oSeq (law_row_s1 F__law_pick) (oSeq (law_row_s3 F__law_pick) (oSeq (law_row_s4 F__law_pick) (oSeq (law_row_s5 F__law_pick) oNx))))
theorem law_row_ok : ∀ ds : List D, ds.length = 3 → rowF ds = .no ∨ bodyR (law_row_all pickF (startE 6 ds)) = rowF ds := by
  intro ds hl
  unfold law_row_all law_row_s1 law_row_s3 law_row_s4 law_row_s5
  match ds, hl with
  | [l, ad, wd], _ =>
    cases l <;> first | exact Or.inl rfl | skip
    cases ad <;> first | exact Or.inl rfl | skip
    cases wd <;> first | exact Or.inl rfl | skip
    rename_i fz ds a wd hl
    cases hi : intsD ds with
    | none => refine Or.inl ?_; simp only [rowF, hi]
    | some ns =>
      have e := intsD_eq hi
      subst e
      by_cases hk : 0 ≤ a ∧ 0 ≤ wd ∧ wd ≤ 100
      · refine Or.inr ?_
        have e2 : rowF [.lst fz (ns.map .int), .int a, .int wd] = .ok (.str (rowL ns a.toNat wd.toNat)) := by simp only [rowF, hi, hk, and_self, if_true]
        rw [e2]
        obtain ⟨ha, hw, hw2⟩ := hk
        obtain ⟨a, rfl⟩ := Int.eq_ofNat_of_zero_le ha
        obtain ⟨wd, rfl⟩ := Int.eq_ofNat_of_zero_le hw
        rw [Int.toNat_natCast, Int.toNat_natCast]
        have hw3 : wd ≤ 100 := by omega
        show bodyR (oSeq (oSet 3 (fun _ => R.ok (D.str []))) (oSeq (oFor (setV 4) (gThen rangeD1 (gACons (fun ρ => rdV ρ 2) fun _ => R.ok [])) rowB) (rowE pickF)) [some (.val (.lst fz (ns.map .int))), some (.val (.int a)), some (.val (.int wd)), none, none, none]) = _
        obtain ⟨kk', hL⟩ := row_loop ns fz a (some (.val (.int wd))) (List.range wd) [] none (by have := line_big; simp; omega)
        have s2 : oFor (setV 4) (gThen rangeD1 (gACons (fun ρ => rdV ρ 2) fun _ => R.ok [])) rowB [some (.val (.lst fz (ns.map .int))), some (.val (.int a)), some (.val (.int wd)), some (.val (.str [])), none, none] = .nx [some (.val (.lst fz (ns.map .int))), some (.val (.int a)), some (.val (.int wd)), some (.val (.str ([] ++ (List.range wd).map fun k => sgn ns (a + 1 + k)))), kk', none] := by
          rw [a_for, a_then, a_cons, rd2, R.ok_bind, R.ok_bind, R.ok_bind, range_nat hw3, R.ok_out]
          exact hL
        have hp := pick_range ns a (m := (wd : Int) + 1) (by omega)
        have s3 := rowE_ok pickF (.lst fz (ns.map .int)) a wd (pick ns a ((wd : Int) + 1)).toNat (pick ns (a + 20) 2) ([] ++ (List.range wd).map fun k => sgn ns (a + 1 + k)) kk'
          (by rw [Int.toNat_of_nonneg hp.1]; exact pickF_nat (by omega)) (by exact pick2) (by simp) hw3 (by omega)
        rw [a_seq, a_set, R.ok_out, q_nx, a_seq]
        show bodyR ((oFor (setV 4) _ rowB [some (.val (.lst fz (ns.map .int))), some (.val (.int a)), some (.val (.int wd)), some (.val (.str [])), none, none]).seq _) = _
        rw [s2, q_nx, s3, w_rt]
        unfold rowL
        rw [List.nil_append]
      · refine Or.inl ?_; simp only [rowF, hi, hk, if_false]
theorem rowF_nat {fz : Bool} {ns : List Int} {a wd : Nat} (h : wd ≤ 100) : rowF [.lst fz (ns.map .int), .int (a : Int), .int (wd : Int)] = .ok (.str (rowL ns a wd)) := by
  have h2 : (wd : Int) ≤ 100 := by omega
  simp only [rowF, intsD_map, Int.natCast_nonneg, h2, and_self, if_true, Int.toNat_natCast]
noncomputable def rowsL (ns : List Int) (a wd m : Nat) : List D := (List.range m).map fun k => .str (rowL ns (a + 30 * k) wd)
noncomputable def scrL (ns : List Int) (a wd m : Nat) : D := .tup [.int wd, .tup (rowsL ns a wd m), .tup [.int (pick ns (a + 400) m), .int (pick ns (a + 401) (wd + 1))]]
noncomputable def lscrF : List D → R D
  | [.lst _ ds, .int a, .int wd, .int m] => match intsD ds with
    | some ns => if (0 ≤ a ∧ 0 ≤ wd ∧ wd ≤ 100) ∧ 0 < m ∧ m ≤ 100 then .ok (scrL ns a.toNat wd.toNat m.toNat) else .no
    | none => .no
  | _ => .no
noncomputable def law_screen_s1 (F__law_row : List D → R D) (F__law_pick : List D → R D) : Ev → O := (oSet 4 (gOf tupleF (gACons (gFresh (gComp (gThen rangeD1 (gACons (fun ρ => rdV ρ 3) (fun _ => R.ok []))) [0, 1, 2] (fun _ => R.ok true) (gCall 3 F__law_row (gACons (fun ρ => rdV ρ 1) (gACons (g2 addD (fun ρ => rdV ρ 2) (g2 mulD (fun _ => R.ok (D.int 30)) (fun ρ => rdV ρ 0))) (gACons (fun ρ => rdV ρ 3) (fun _ => R.ok []))))))) (fun _ => R.ok []))))
noncomputable def law_screen_s2 (F__law_row : List D → R D) (F__law_pick : List D → R D) : Ev → O := (oRet (gThen mkT (gACons (fun ρ => rdV ρ 2) (gACons (fun ρ => rdV ρ 4) (gACons (gThen mkT (gACons (gCall 3 F__law_pick (gACons (fun ρ => rdV ρ 0) (gACons (g2 addD (fun ρ => rdV ρ 1) (fun _ => R.ok (D.int 400))) (gACons (fun ρ => rdV ρ 3) (fun _ => R.ok []))))) (gACons (gCall 3 F__law_pick (gACons (fun ρ => rdV ρ 0) (gACons (g2 addD (fun ρ => rdV ρ 1) (fun _ => R.ok (D.int 401))) (gACons (g2 addD (fun ρ => rdV ρ 2) (fun _ => R.ok (D.int 1))) (fun _ => R.ok []))))) (fun _ => R.ok [])))) (fun _ => R.ok []))))))
noncomputable def law_screen_all (F__law_row : List D → R D) (F__law_pick : List D → R D) : Ev → O := (oSeq (law_screen_s1 F__law_row F__law_pick) (oSeq (law_screen_s2 F__law_row F__law_pick) oNx))
theorem law_screen_ok : ∀ ds : List D, ds.length = 4 → lscrF ds = .no ∨ bodyR (law_screen_all rowF pickF (startE 5 ds)) = lscrF ds := by
  intro ds hl
  unfold law_screen_all law_screen_s1 law_screen_s2
  match ds, hl with
  | [l, ad, wd, md], _ =>
    cases l <;> first | exact Or.inl rfl | skip
    cases ad <;> first | exact Or.inl rfl | skip
    cases wd <;> first | exact Or.inl rfl | skip
    cases md <;> first | exact Or.inl rfl | skip
    rename_i fz ds a wd m hl
    cases hi : intsD ds with
    | none => refine Or.inl ?_; simp only [lscrF, hi]
    | some ns =>
      have e := intsD_eq hi
      subst e
      by_cases hk : (0 ≤ a ∧ 0 ≤ wd ∧ wd ≤ 100) ∧ 0 < m ∧ m ≤ 100
      · refine Or.inr ?_
        have e2 : lscrF [.lst fz (ns.map .int), .int a, .int wd, .int m] = .ok (scrL ns a.toNat wd.toNat m.toNat) := by simp only [lscrF, hi, hk, and_self, if_true]
        rw [e2]
        obtain ⟨⟨ha, hw, hw2⟩, hm, hm2⟩ := hk
        obtain ⟨a, rfl⟩ := Int.eq_ofNat_of_zero_le ha
        obtain ⟨wd, rfl⟩ := Int.eq_ofNat_of_zero_le hw
        obtain ⟨m, rfl⟩ := Int.eq_ofNat_of_zero_le (Int.le_of_lt hm)
        rw [Int.toNat_natCast, Int.toNat_natCast, Int.toNat_natCast]
        have hw3 : wd ≤ 100 := by omega
        have hm3 : m ≤ 100 := by omega
        have e : compD (fun _ => R.ok true) (gCall 3 rowF (gACons (fun ρ => rdV ρ 1) (gACons (g2 addD (fun ρ => rdV ρ 2) (g2 mulD (fun _ => R.ok (D.int 30)) fun ρ => rdV ρ 0)) (gACons (fun ρ => rdV ρ 3) fun _ => R.ok []))))
            ((List.range m).map fun (i : Nat) => D.int (i : Int)) [none, some (.val (.lst fz (ns.map .int))), some (.val (.int a)), some (.val (.int wd))] = .ok (((List.range m).map fun (i : Nat) => D.int (i : Int)).map fun d => match d with | .int k => .str (rowL ns (a + 30 * k.toNat) wd) | d => d) := by
          refine compD_all _ _ _ none fun d hd => ⟨rfl, ?_⟩
          obtain ⟨k, _, rfl⟩ := List.mem_map.1 hd
          have m1 : mulD (.int 30) (.int (k : Int)) = some (.int ((30 * k : Nat) : Int)) := by rw [e_mulL (by decide)]; congr 2
          have m2 : (a : Int) + ((30 * k : Nat) : Int) = ((a + 30 * k : Nat) : Int) := by omega
          have m3 := rowF_nat (fz := fz) (ns := ns) (a := a + 30 * k) hw3
          walk_at "run"
          simp only [Int.toNat_natCast]
        show bodyR (oSeq _ _ [some (.val (.lst fz (ns.map .int))), some (.val (.int a)), some (.val (.int wd)), some (.val (.int m)), none]) = _
        have i1 : inner [0, 1, 2] [some (.val (.lst fz (ns.map .int))), some (.val (.int a)), some (.val (.int wd)), some (.val (.int m)), none] = [none, some (.val (.lst fz (ns.map .int))), some (.val (.int a)), some (.val (.int wd))] := rfl
        have r1 : rangeD1 [.int (m : Int)] = .ok ((List.range m).map fun (i : Nat) => D.int (i : Int)) := range_up (by omega)
        have z1 : (((List.range m).map fun (i : Nat) => D.int (i : Int)).map fun d => match d with | .int k => .str (rowL ns (a + 30 * k.toNat) wd) | d => d) = rowsL ns a wd m := by
          rw [List.map_map]; unfold rowsL; refine List.map_congr_left fun k _ => ?_; simp
        have z2 : (rowsL ns a wd m).length ≤ sizeLine := by have := line_big; unfold rowsL; simp; omega
        have p1 : pickF [.lst fz (ns.map .int), .int ((a : Int) + 400), .int (m : Int)] = .ok (.int (pick ns (a + 400) m)) := by have := pickF_nat (fz := fz) (ns := ns) (n := a + 400) (m := m) (by omega); exact this
        have p2 : pickF [.lst fz (ns.map .int), .int ((a : Int) + 401), .int ((wd : Int) + 1)] = .ok (.int (pick ns (a + 401) (wd + 1))) := by have := pickF_nat (fz := fz) (ns := ns) (n := a + 401) (m := (wd : Int) + 1) (by omega); exact this
        have k1 : ∀ x : List D, tupleF [.lst false x] = some (.tup x) := fun _ => rfl
        have k2 : ∀ x y : D, mkT [x, y] = .ok (.tup [x, y]) := fun _ _ => m_t (by simp)
        have k3 : ∀ x y z : D, mkT [x, y, z] = .ok (.tup [x, y, z]) := fun _ _ _ => m_t (by simp)
        rw [z1] at e
        clear hi hl e2 hw hw2 hm hm2 hw3 hm3 z1
        walk_at "run"
        rfl
      · refine Or.inl ?_; simp only [lscrF, hi, hk, if_false]
noncomputable def cl : Nat → D → Bool
  | 0, _ => false
  | _ + 1, .exc _ => false
  | n + 1, .tup xs => xs.all (cl n)
  | n + 1, .lst _ xs => xs.all (cl n)
  | _ + 1, _ => true
theorem eqZ_self {f : D → D → Option Bool} : ∀ xs : List D, (∀ x ∈ xs, f x x = some true) → eqZ f xs xs = some (xs.map fun _ => true)
  | [], _ => rfl
  | x :: xs, h => by
    rw [eqZ, h x (List.mem_cons_self ..), eqZ_self xs fun y hy => h y (List.mem_cons_of_mem _ hy)]; rfl
theorem all_true {α : Type} : ∀ xs : List α, (xs.map fun _ => true).all id = true
  | [] => rfl
  | _ :: xs => by rw [List.map_cons, List.all_cons, all_true xs]; rfl
theorem eqD_self : ∀ (n m : Nat) (d : D), n ≤ m → cl n d = true → eqD m d d = some true
  | 0, _, _, _, h => by simp [cl] at h
  | n + 1, 0, _, h, _ => by omega
  | n + 1, m + 1, d, hm, h => by
    cases d <;> first | (simp [cl] at h; done) | (simp [eqD]; done) | skip
    · rename_i xs
      simp only [cl, List.all_eq_true] at h
      have := eqZ_self (f := eqD m) xs fun x hx => eqD_self n m x (by omega) (h x hx)
      simp only [eqD, this, Option.map_some, all_true, beq_self_eq_true, Bool.and_true]
    · rename_i fz xs
      simp only [cl, List.all_eq_true] at h
      have := eqZ_self (f := eqD m) xs fun x hx => eqD_self n m x (by omega) (h x hx)
      simp only [eqD, if_true, this, Option.map_some, all_true]
theorem ne_self {d : D} (h : cl 10 d = true) : neF d d = some (.bl false) := by
  unfold neF; rw [eqD_self 10 40 d (by omega) h]; rfl
end Q
namespace Q
open L2
open PySem (sizeLine Addr)
noncomputable def law_some_s1 (F__law_pick : List D → R D) (F__law_screen : List D → R D) : Ev → O := (oRet (gCall 4 F__law_screen (gACons (fun ρ => rdV ρ 0) (gACons (g2 addD (fun ρ => rdV ρ 1) (fun _ => R.ok (D.int 5))) (gACons (g2 addD (fun _ => R.ok (D.int 1)) (gCall 3 F__law_pick (gACons (fun ρ => rdV ρ 0) (gACons (fun ρ => rdV ρ 1) (gACons (fun _ => R.ok (D.int 8)) (fun _ => R.ok [])))))) (gACons (g2 addD (fun _ => R.ok (D.int 1)) (gCall 3 F__law_pick (gACons (fun ρ => rdV ρ 0) (gACons (g2 addD (fun ρ => rdV ρ 1) (fun _ => R.ok (D.int 1))) (gACons (fun _ => R.ok (D.int 4)) (fun _ => R.ok [])))))) (fun _ => R.ok [])))))))
noncomputable def law_some_all (F__law_pick : List D → R D) (F__law_screen : List D → R D) : Ev → O := (oSeq (law_some_s1 F__law_pick F__law_screen) oNx)
theorem t3 (x y z : D) : mkT [x, y, z] = .ok (.tup [x, y, z]) := m_t (by simp)
theorem t2 (x y : D) : mkT [x, y] = .ok (.tup [x, y]) := m_t (by simp)
theorem screen_fine {d : D} (h : screen d = true) : fine3 d = true := by
  cases d <;> first | (cases h; done) | skip
  rename_i xs
  match xs, h with
  | [], h => cases h
  | [_], h => cases h
  | [_, _], h => cases h
  | a :: b :: c :: e :: l, h => cases h
  | [a, r, p], h =>
    cases a <;> first | (cases h; done) | skip
    rename_i i
    cases r <;> first | (simp [screen, full] at h; done) | skip
    rename_i rows
    simp only [screen, Bool.and_eq_true] at h
    obtain ⟨⟨h1, h2⟩, h3⟩ := h
    simp only [full, Bool.and_eq_true, List.all_eq_true] at h2
    simp only [inB, Bool.and_eq_true, decide_eq_true_eq] at h1
    simp only [fine3, Bool.and_eq_true, List.all_eq_true]
    refine ⟨⟨rfl, fun r hr => ?_⟩, ?_⟩
    · have q := h2.2 r hr
      cases r <;> first | rfl | (cases q; done) | skip
      rename_i x
      simp only [rowOf, Bool.and_eq_true, beq_iff_eq] at q
      simp only [fine, decide_eq_true_eq]
      have := line_big
      omega
    · cases p <;> first | (cases h3; done) | skip
      rename_i ps
      match ps, h3 with
      | [a, b], h3 =>
        simp only [place, Bool.and_eq_true] at h3
        show [a, b].all noExc = true
        rw [List.all_eq_true]
        intro x hx
        rcases List.mem_cons.1 hx with rfl | hx
        · cases x <;> first | rfl | exact absurd h3.1 (by simp [inB])
        · rcases List.mem_cons.1 hx with rfl | hx
          · cases x <;> first | rfl | exact absurd h3.2 (by simp [inB])
          · cases hx
theorem checkF_ok {C : Addr} {d : D} (h : screen d = true) : checkF C [d] = .ok .non := by
  show (if fine3 d = true then (if screen d = true then R.ok D.non else .ex C) else .no) = _
  rw [if_pos (screen_fine h), if_pos h]
noncomputable def stretch (b m r : Int) : Bool := decide (0 ≤ b) && decide (b ≤ r - 1) && (decide (1 ≤ m) && decide (m ≤ r - b))
noncomputable def cutRow (l w : Nat) : D → D
  | .str x => .str ((x.drop l).take w)
  | d => d
noncomputable def partF : List D → R D
  | [.tup [.int wd, .tup rows, p], .int t, .int l, .int h, .int w] => if screen (.tup [.int wd, .tup rows, p]) = true ∧ stretch t h rows.length = true ∧ stretch l w wd = true then .ok (.tup [.int w, .tup (((rows.drop t.toNat).take h.toNat).map (cutRow l.toNat w.toNat)), .tup [.int 0, .int 0]]) else .no
  | _ => .no
theorem full_of {wd : Int} {rows : List D} {p : D} (h : screen (.tup [.int wd, .tup rows, p]) = true) : (1 ≤ wd ∧ wd ≤ 40) ∧ (1 ≤ rows.length ∧ rows.length ≤ 12) ∧ (∀ r ∈ rows, ∃ x, r = .str x ∧ plain x = true ∧ (x.length : Int) = wd) ∧ place p wd rows.length = true := by
  simp only [screen, Bool.and_eq_true] at h
  obtain ⟨⟨h1, h2⟩, h3⟩ := h
  simp only [full, Bool.and_eq_true, List.all_eq_true, decide_eq_true_eq] at h2
  simp only [inB, Bool.and_eq_true, decide_eq_true_eq] at h1
  refine ⟨h1, h2.1, fun r hr => ?_, h3⟩
  have q := h2.2 r hr
  cases r <;> first | (cases q; done) | skip
  rename_i x
  simp only [rowOf, Bool.and_eq_true, beq_iff_eq] at q
  exact ⟨x, rfl, q.1, q.2⟩
noncomputable def wS (ns : List Int) (a : Nat) : Nat := (1 + pick ns a 8).toNat
noncomputable def mS (ns : List Int) (a : Nat) : Nat := (1 + pick ns (a + 1) 4).toNat
theorem wS_range (ns : List Int) (a : Nat) : 1 ≤ wS ns a ∧ wS ns a ≤ 8 ∧ (1 : Int) + pick ns a 8 = (wS ns a : Int) := by
  have h := pick_range ns a (m := 8) (by decide)
  unfold wS; omega
theorem mS_range (ns : List Int) (a : Nat) : 1 ≤ mS ns a ∧ mS ns a ≤ 4 ∧ (1 : Int) + pick ns (a + 1) 4 = (mS ns a : Int) := by
  have h := pick_range ns (a + 1) (m := 4) (by decide)
  unfold mS; omega
noncomputable def pl (ns : List Int) (a : Nat) (wd m : Nat) : D := .tup [.int (pick ns (a + 400) m), .int (pick ns (a + 401) (wd + 1))]
noncomputable def scS (ns : List Int) (a : Nat) : D := .tup [.int (wS ns a : Int), .tup (rowsL ns (a + 5) (wS ns a) (mS ns a)), pl ns (a + 5) (wS ns a) (mS ns a)]
noncomputable def someF : List D → R D
  | [.lst _ ds, .int a] => match intsD ds with
    | some ns => if 0 ≤ a then .ok (scS ns a.toNat) else .no
    | none => .no
  | _ => .no
theorem someF_nat {fz : Bool} {ns : List Int} {a : Nat} : someF [.lst fz (ns.map .int), .int (a : Int)] = .ok (scS ns a) := by
  simp only [someF, intsD_map, Int.natCast_nonneg, if_true, Int.toNat_natCast]
theorem law_some_ok : ∀ ds : List D, ds.length = 2 → someF ds = .no ∨ bodyR (law_some_all pickF lscrF (startE 2 ds)) = someF ds := by
  intro ds hl
  match ds, hl with
  | [l, a], _ =>
    cases l <;> first | exact Or.inl rfl | skip
    cases a <;> first | exact Or.inl rfl | skip
    rename_i fz ds a hl
    cases hi : intsD ds with
    | none => refine Or.inl ?_; simp only [someF, hi]
    | some ns =>
      have e := intsD_eq hi
      subst e
      by_cases hk : 0 ≤ a
      · refine Or.inr ?_
        obtain ⟨a, rfl⟩ := Int.eq_ofNat_of_zero_le hk
        rw [someF_nat]
        show bodyR (oSeq _ _ [some (.val (.lst fz (ns.map .int))), some (.val (.int a))]) = _
        have p1 : pickF [.lst fz (ns.map .int), .int (a : Int), .int 8] = .ok (.int (pick ns a 8)) := pickF_nat (by decide)
        have p2 : pickF [.lst fz (ns.map .int), .int ((a : Int) + 1), .int 4] = .ok (.int (pick ns (a + 1) 4)) := pickF_nat (n := a + 1) (by decide)
        obtain ⟨w1, w2, w3⟩ := wS_range ns a
        obtain ⟨m1, m2, m3⟩ := mS_range ns a
        have s1 : lscrF [.lst fz (ns.map .int), .int ((a : Int) + 5), .int (wS ns a : Int), .int (mS ns a : Int)] = .ok (scS ns a) := by
          have e : lscrF [.lst fz (ns.map .int), .int ((a : Int) + 5), .int (wS ns a : Int), .int (mS ns a : Int)] = if ((0 : Int) ≤ (a : Int) + 5 ∧ (0 : Int) ≤ (wS ns a : Int) ∧ (wS ns a : Int) ≤ 100) ∧ 0 < (mS ns a : Int) ∧ (mS ns a : Int) ≤ 100 then .ok (scrL ns ((a : Int) + 5).toNat (wS ns a : Int).toNat (mS ns a : Int).toNat) else .no := by simp only [lscrF, intsD_map]
          rw [e, if_pos (by omega), Int.toNat_natCast, Int.toNat_natCast, show ((a : Int) + 5).toNat = a + 5 by omega]; rfl
        unfold law_some_s1
        clear hl hi hk w1 w2 m1 m2
        walk_at "run"
      · refine Or.inl ?_; simp only [someF, hi, hk, if_false]
theorem screen_mk {wd : Nat} {rows : List D} {p : D} (w1 : 1 ≤ wd) (w2 : wd ≤ 40) (n1 : 1 ≤ rows.length) (n2 : rows.length ≤ 12) (hr : ∀ r ∈ rows, ∃ x, r = .str x ∧ x.length = wd ∧ plain x = true) (hp : place p wd rows.length = true) : screen (.tup [.int wd, .tup rows, p]) = true := by
  simp only [screen, full, inB, Bool.and_eq_true, decide_eq_true_eq, List.all_eq_true]
  refine ⟨⟨⟨by omega, by omega⟩, ⟨n1, n2⟩, fun r h => ?_⟩, hp⟩
  obtain ⟨x, rfl, h1, h2⟩ := hr r h
  simp [rowOf, h1, h2]
end Q
namespace Q
open L2
open PySem (sizeLine Addr)
end Q
namespace Q
open L2
open PySem (sizeLine Addr)
noncomputable def law_class_s1 (C_NoOrder : Addr) (C_NoNumber : Addr) (C_NoBack : Addr) (C_NoRoom : Addr) (C_NoTask : Addr) (C_NoTable : Addr) (C_NoScreen : Addr) (C_NoText : Addr) (rs : List Addr) : Ev → O := (oOwn 1 (gLst (gACons (gThen (isEx (isOf rs C_NoBack)) (fun ρ => rdV ρ 0)) (gACons (gThen (isEx (isOf rs C_NoNumber)) (fun ρ => rdV ρ 0)) (gACons (gThen (isEx (isOf rs C_NoOrder)) (fun ρ => rdV ρ 0)) (fun _ => R.ok []))))))
noncomputable def law_class_s2 (C_NoOrder : Addr) (C_NoNumber : Addr) (C_NoBack : Addr) (C_NoRoom : Addr) (C_NoTask : Addr) (C_NoTable : Addr) (C_NoScreen : Addr) (C_NoText : Addr) (rs : List Addr) : Ev → O := (oExt 1 (gFresh (gLst (gACons (gThen (isEx (isOf rs C_NoRoom)) (fun ρ => rdV ρ 0)) (fun _ => R.ok [])))))
noncomputable def law_class_s3 (C_NoOrder : Addr) (C_NoNumber : Addr) (C_NoBack : Addr) (C_NoRoom : Addr) (C_NoTask : Addr) (C_NoTable : Addr) (C_NoScreen : Addr) (C_NoText : Addr) (rs : List Addr) : Ev → O := (oSet 1 (g2 addD (fun ρ => rdV ρ 1) (gFresh (gLst (gACons (gThen (isEx (isOf rs C_NoScreen)) (fun ρ => rdV ρ 0)) (gACons (gThen (isEx (isOf rs C_NoTable)) (fun ρ => rdV ρ 0)) (gACons (gThen (isEx (isOf rs C_NoTask)) (fun ρ => rdV ρ 0)) (fun _ => R.ok []))))))))
noncomputable def law_class_s4 (C_NoOrder : Addr) (C_NoNumber : Addr) (C_NoBack : Addr) (C_NoRoom : Addr) (C_NoTask : Addr) (C_NoTable : Addr) (C_NoScreen : Addr) (C_NoText : Addr) (rs : List Addr) : Ev → O := (oSet 1 (g2 addD (fun ρ => rdV ρ 1) (gFresh (gLst (gACons (gThen (isEx (isOf rs C_NoText)) (fun ρ => rdV ρ 0)) (fun _ => R.ok []))))))
noncomputable def law_class_s5 (C_NoOrder : Addr) (C_NoNumber : Addr) (C_NoBack : Addr) (C_NoRoom : Addr) (C_NoTask : Addr) (C_NoTable : Addr) (C_NoScreen : Addr) (C_NoText : Addr) (rs : List Addr) : Ev → O := (oIf (tOrB (gB2 neF (gMeth "list" countF (fun ρ => rdV ρ 1) (gACons (fun _ => R.ok (D.bl true)) (fun _ => R.ok []))) (fun _ => R.ok (D.int 1))) (gBn (gThen truD (gThen (isEx (isVE rs)) (fun ρ => rdV ρ 0))))) (oSeq (oRet (fun _ => R.ok (D.str [119, 114, 111, 110, 103]))) oNx) oNx)
noncomputable def law_class_s6 (C_NoOrder : Addr) (C_NoNumber : Addr) (C_NoBack : Addr) (C_NoRoom : Addr) (C_NoTask : Addr) (C_NoTable : Addr) (C_NoScreen : Addr) (C_NoText : Addr) (rs : List Addr) : Ev → O := (oSet 2 (gFresh (gLst (gACons (fun _ => R.ok (D.str [110, 111, 32, 98, 97, 99, 107])) (gACons (fun _ => R.ok (D.str [110, 111, 32, 110, 117, 109, 98, 101, 114])) (gACons (fun _ => R.ok (D.str [110, 111, 32, 111, 114, 100, 101, 114])) (gACons (fun _ => R.ok (D.str [110, 111, 32, 114, 111, 111, 109])) (gACons (fun _ => R.ok (D.str [110, 111, 32, 115, 99, 114, 101, 101, 110])) (gACons (fun _ => R.ok (D.str [110, 111, 32, 116, 97, 98, 108, 101])) (gACons (fun _ => R.ok (D.str [110, 111, 32, 116, 97, 115, 107])) (gACons (fun _ => R.ok (D.str [110, 111, 32, 116, 101, 120, 116])) (fun _ => R.ok []))))))))))))
noncomputable def law_class_s7 (C_NoOrder : Addr) (C_NoNumber : Addr) (C_NoBack : Addr) (C_NoRoom : Addr) (C_NoTask : Addr) (C_NoTable : Addr) (C_NoScreen : Addr) (C_NoText : Addr) (rs : List Addr) : Ev → O := (oRet (g2 ixD (fun ρ => rdV ρ 2) (gMeth "list" indexF (fun ρ => rdV ρ 1) (gACons (fun _ => R.ok (D.bl true)) (fun _ => R.ok [])))))
noncomputable def law_class_all (C_NoOrder : Addr) (C_NoNumber : Addr) (C_NoBack : Addr) (C_NoRoom : Addr) (C_NoTask : Addr) (C_NoTable : Addr) (C_NoScreen : Addr) (C_NoText : Addr) (rs : List Addr) : Ev → O := (oSeq (law_class_s1 C_NoOrder C_NoNumber C_NoBack C_NoRoom C_NoTask C_NoTable C_NoScreen C_NoText rs) (oSeq (law_class_s2 C_NoOrder C_NoNumber C_NoBack C_NoRoom C_NoTask C_NoTable C_NoScreen C_NoText rs) (oFrz 1 (oSeq (law_class_s3 C_NoOrder C_NoNumber C_NoBack C_NoRoom C_NoTask C_NoTable C_NoScreen C_NoText rs) (oSeq (law_class_s4 C_NoOrder C_NoNumber C_NoBack C_NoRoom C_NoTask C_NoTable C_NoScreen C_NoText rs) (oSeq (law_class_s5 C_NoOrder C_NoNumber C_NoBack C_NoRoom C_NoTask C_NoTable C_NoScreen C_NoText rs) (oSeq (law_class_s6 C_NoOrder C_NoNumber C_NoBack C_NoRoom C_NoTask C_NoTable C_NoScreen C_NoText rs) (oSeq (law_class_s7 C_NoOrder C_NoNumber C_NoBack C_NoRoom C_NoTask C_NoTable C_NoScreen C_NoText rs) oNx))))))))
noncomputable def law_told_s (F__law_class : List D → R D) : Ev → O := (oSeq (oRet (gCall 1 F__law_class (gACons (fun ρ => rdV ρ 1) (fun _ => R.ok [])))) oNx)
noncomputable def law_told_all (F__law_class : List D → R D) (rs : List Addr) : R D → R D := fun m => bodyR (tryO (fun ρ => m.out ρ .rt) (law_told_s F__law_class) (isVE rs) 1 [none, none])

noncomputable def wText : List Nat := [110, 111, 32, 116, 101, 120, 116]
noncomputable def cls8 (C_NoOrder C_NoNumber C_NoBack C_NoRoom C_NoTask C_NoTable C_NoScreen C_NoText : Addr) (rs : List Addr) : List D → R D := fun ds => noEx (bodyR (law_class_all C_NoOrder C_NoNumber C_NoBack C_NoRoom C_NoTask C_NoTable C_NoScreen C_NoText rs (startE 3 ds)))
theorem law_class_ok {C_NoScreen C_NoOrder C_NoRoom C_NoNumber C_NoTable C_NoTask C_NoText C_NoBack : Addr} {rs : List Addr} (nd : [C_NoScreen, C_NoOrder, C_NoRoom, C_NoNumber, C_NoTable, C_NoTask, C_NoText, C_NoBack].Nodup) : ∀ ds : List D, ds.length = 1 → cls8 C_NoOrder C_NoNumber C_NoBack C_NoRoom C_NoTask C_NoTable C_NoScreen C_NoText rs ds = .no ∨ noEx (bodyR (law_class_all C_NoOrder C_NoNumber C_NoBack C_NoRoom C_NoTask C_NoTable C_NoScreen C_NoText rs (startE 3 ds))) = cls8 C_NoOrder C_NoNumber C_NoBack C_NoRoom C_NoTask C_NoTable C_NoScreen C_NoText rs ds := fun _ _ => .inr rfl
theorem told_d (F : List D → R D) (rs : List Addr) (d : D) : law_told_all F rs (.ok d) = .ok d := rfl
theorem told_x {F : List D → R D} {rs : List Addr} {C : Addr} {d : D} (h : C ∈ rs) (e : F [.exc C] = .ok d) : law_told_all F rs (.ex C) = .ok d := by
  unfold law_told_all
  have f : isVE rs C = some true := by unfold isVE; rw [if_pos h]
  show bodyR (match (O.ex C [none, none]) with | .ex C ρ' => (match isVE rs C with | some true => (match law_told_s F (ρ'.set 1 (some (.val (.exc C)))) with | .nx ρ'' => .nx (ρ''.set 1 none) | .rt d => .rt d | _ => .no) | _ => .no) | o => o) = _
  dsimp only
  rw [f]
  dsimp only
  have g : law_told_s F ([none, none].set 1 (some (.val (.exc C)))) = .rt d := by
    show ((F [.exc C]).out _ .rt).seq _ = _
    rw [e]; rfl
  rw [g]; rfl
theorem cls_NoText {C_NoScreen C_NoOrder C_NoRoom C_NoNumber C_NoTable C_NoTask C_NoText C_NoBack : Addr} {rs : List Addr} (nd : [C_NoScreen, C_NoOrder, C_NoRoom, C_NoNumber, C_NoTable, C_NoTask, C_NoText, C_NoBack].Nodup) (h : C_NoText ∈ rs) : cls8 C_NoOrder C_NoNumber C_NoBack C_NoRoom C_NoTask C_NoTable C_NoScreen C_NoText rs [.exc C_NoText] = .ok (.str wText) := by
  have z3 : 3 ≤ sizeLine := by decide
  have z1 : 1 ≤ sizeLine := by decide
  have z4 : 3 + 1 ≤ sizeLine := by decide
  have z8 : 8 ≤ sizeLine := by decide
  have f1 : ∀ (a0 : Option Sl) (ds : List D) (a2 : Option Sl), frz 1 [a0, some (.own ds), a2] = [a0, some (.val (.lst false ds)), a2] := fun _ _ _ => rfl
  have o1 : ∀ (a0 : Option Sl) (ds : List D) (a2 : Option Sl), ownAt [a0, some (.own ds), a2] 1 = .ok ds := fun _ _ _ => rfl
  have kd : ∀ (f : Bool) (l : List D), kindD "list" (.lst f l) = true := fun _ _ => rfl
  have y : ∀ T, isEx (isOf rs T) (.exc C_NoText) = .ok (.bl (C_NoText == T)) := fun T => by simp only [isEx, isOf, h, if_true]; rfl
  have y2 : isEx (isVE rs) (.exc C_NoText) = .ok (.bl true) := by simp only [isEx, isVE, h, if_true]; rfl
  have q0 : (C_NoText == C_NoText) = true := by simp
  have q_NoScreen : (C_NoText == C_NoScreen) = false := by simp; intro z; subst z; simp at nd
  have q_NoOrder : (C_NoText == C_NoOrder) = false := by simp; intro z; subst z; simp at nd
  have q_NoRoom : (C_NoText == C_NoRoom) = false := by simp; intro z; subst z; simp at nd
  have q_NoNumber : (C_NoText == C_NoNumber) = false := by simp; intro z; subst z; simp at nd
  have q_NoTable : (C_NoText == C_NoTable) = false := by simp; intro z; subst z; simp at nd
  have q_NoTask : (C_NoText == C_NoTask) = false := by simp; intro z; subst z; simp at nd
  have q_NoBack : (C_NoText == C_NoBack) = false := by simp; intro z; subst z; simp at nd
  have a1 : ∀ a b c d e f g : D, addD (.lst false [a, b, c, d]) (.lst false [e, f, g]) = some (.lst false [a, b, c, d, e, f, g]) := fun _ _ _ _ _ _ _ => rfl
  have a2 : ∀ a b c d e f g k : D, addD (.lst false [a, b, c, d, e, f, g]) (.lst false [k]) = some (.lst false [a, b, c, d, e, f, g, k]) := fun _ _ _ _ _ _ _ _ => rfl
  have c1 : countF (.lst false [.bl false, .bl false, .bl false, .bl false, .bl false, .bl false, .bl false, .bl true]) [.bl true] = some (.int 1) := rfl
  have c2 : indexF (.lst false [.bl false, .bl false, .bl false, .bl false, .bl false, .bl false, .bl false, .bl true]) [.bl true] = some (.int 7) := rfl
  unfold cls8
  show noEx (bodyR (oSeq _ _ [some (.val (.exc C_NoText)), none, none])) = _
  unfold law_class_s1 law_class_s2 law_class_s3 law_class_s4 law_class_s5 law_class_s6 law_class_s7
  clear nd h
  walk_at "run"
  all_goals rfl
end Q
namespace Q
open L2
open PySem (sizeLine Addr)
noncomputable def putD : List Nat → D → D → Option D
  | [], _, v => some v
  | k :: ks, .tup xs, v => match xs[k]? with
    | some x => if xs.length ≤ 1000 then (putD ks x v).map fun y => .tup (xs.take k ++ [y] ++ xs.drop (k + 1)) else none
    | none => none
  | _, _, _ => none
noncomputable def natsD : List D → Option (List Nat)
  | [] => some []
  | .int i :: ds => if 0 ≤ i then (natsD ds).map (i.toNat :: ·) else none
  | _ :: _ => none
noncomputable def putF (n : Nat) : List D → R D
  | [d, .tup p, v] => match natsD p with
    | some ks => if ks.length < n ∧ n ≤ 500 then ofO (putD ks d v) else .no
    | none => .no
  | _ => .no
noncomputable def pt : Nat → D → Bool
  | 0, _ => false
  | _ + 1, .int _ => true
  | _ + 1, .str x => decide (x.length ≤ 900)
  | n + 1, .tup xs => xs.all (pt n) && decide (xs.length ≤ 900)
  | _ + 1, _ => false
end Q
namespace Q
open L2
open PySem (sizeLine Addr)
noncomputable def scr (wd : Nat) (rows : List (List Nat)) (r c : Nat) : D := .tup [.int (wd : Int), .tup (rows.map .str), .tup [.int (r : Int), .int (c : Int)]]
noncomputable def strsD : List D → Option (List (List Nat))
  | [] => some []
  | .str x :: ds => (strsD ds).map (x :: ·)
  | _ :: _ => none
structure SOk (wd : Nat) (rows : List (List Nat)) (r c : Nat) : Prop where
  w : wd ≤ 100
  c : c ≤ wd
  r : r < rows.length
  m : rows.length ≤ 100
  l : ∀ x ∈ rows, x.length = wd
end Q
namespace Q
open L2
open PySem (sizeLine Addr)
inductive Od where
  | say (x : List Nat)
  | go (r c : Nat)
  | wipe
end Q
namespace Q70
open L2 Q
open PySem (sizeLine Addr)
noncomputable def are_figures_s1 : Ev → O := (oRet (gAnd (g2 neF (fun ρ => rdV ρ 0) (fun _ => R.ok (D.str []))) (gOf allF (gACons (gFresh (gComp (gThen itemsD (fun ρ => rdV ρ 0)) [] (fun _ => R.ok true) (g2 inSF (fun ρ => rdV ρ 0) (fun _ => R.ok (D.str [48, 49, 50, 51, 52, 53, 54, 55, 56, 57]))))) (fun _ => R.ok [])))))
noncomputable def are_figures_all : Ev → O := (oSeq are_figures_s1 oNx)
noncomputable def spot_text_s1 : Ev → O := (oRet (gFstr [(gThen fmtD (fun ρ => rdV ρ 0)), (fun _ => R.ok (D.str [32])), (gThen fmtD (fun ρ => rdV ρ 1))]))
noncomputable def spot_text_all : Ev → O := (oSeq spot_text_s1 oNx)
noncomputable def is_short_number_s1 (F_are_figures : List D → R D) : Ev → O := (oRet (gAnd (gCall 1 F_are_figures (gACons (fun ρ => rdV ρ 0) (fun _ => R.ok []))) (g2 leD (gOf lenF (gACons (fun ρ => rdV ρ 0) (fun _ => R.ok []))) (fun _ => R.ok (D.int 2)))))
noncomputable def is_short_number_all (F_are_figures : List D → R D) : Ev → O := (oSeq (is_short_number_s1 F_are_figures) oNx)
noncomputable def spot_or_none_s1 (F_is_short_number : List D → R D) : Ev → O := (oSet 1 (gMeth "str" splitF (fun ρ => rdV ρ 0) (gACons (fun _ => R.ok (D.str [32])) (fun _ => R.ok []))))
noncomputable def spot_or_none_s2 (F_is_short_number : List D → R D) : Ev → O := (oIf (tOrB (gB2 neF (gOf lenF (gACons (fun ρ => rdV ρ 1) (fun _ => R.ok []))) (fun _ => R.ok (D.int 2))) (gBn (gThen truD (gOf allF (gACons (gFresh (gComp (gThen itemsD (fun ρ => rdV ρ 1)) [] (fun _ => R.ok true) (gCall 1 F_is_short_number (gACons (fun ρ => rdV ρ 0) (fun _ => R.ok []))))) (fun _ => R.ok [])))))) (oSeq (oRet (fun _ => R.ok D.non)) oNx) oNx)
noncomputable def spot_or_none_s3 (F_is_short_number : List D → R D) : Ev → O := (oRet (gThen mkT (gACons (gOf intSF (gACons (g2 ixD (fun ρ => rdV ρ 1) (fun _ => R.ok (D.int 0))) (fun _ => R.ok []))) (gACons (gOf intSF (gACons (g2 ixD (fun ρ => rdV ρ 1) (fun _ => R.ok (D.int 1))) (fun _ => R.ok []))) (fun _ => R.ok [])))))
noncomputable def spot_or_none_all (F_is_short_number : List D → R D) : Ev → O := (oSeq (spot_or_none_s1 F_is_short_number) (oSeq (spot_or_none_s2 F_is_short_number) (oSeq (spot_or_none_s3 F_is_short_number) oNx)))
noncomputable def lines_of_s1 (C_NoText : Addr) : Ev → O := (oIf (tOrB (gBn (gThen truD (gThen (isTy (· == "str")) (fun ρ => rdV ρ 0)))) (tAndB (gB2 neF (fun ρ => rdV ρ 0) (fun _ => R.ok (D.str []))) (gBn (gThen truD (gMeth "str" endsF (fun ρ => rdV ρ 0) (gACons (fun _ => R.ok (D.str [10])) (fun _ => R.ok []))))))) (oSeq (oRaise C_NoText (gACons (fun _ => R.ok (D.str [116, 104, 105, 115, 32, 105, 115, 32, 110, 111, 32, 116, 101, 120, 116, 32, 111, 102, 32, 108, 105, 110, 101, 115, 32, 116, 104, 97, 116, 32, 97, 114, 101, 32, 101, 97, 99, 104, 32, 101, 110, 100, 101, 100, 32, 98, 121, 32, 97, 32, 108, 105, 110, 101, 32, 102, 101, 101, 100])) (fun _ => R.ok []))) oNx) oNx)
noncomputable def lines_of_s2 (C_NoText : Addr) : Ev → O := (oRet (gSl (gMeth "str" splitF (fun ρ => rdV ρ 0) (gACons (fun _ => R.ok (D.str [10])) (fun _ => R.ok []))) (fun _ => R.ok none) (gSome (gThen negD (fun _ => R.ok (D.int 1))))))
noncomputable def lines_of_all (C_NoText : Addr) : Ev → O := (oSeq (lines_of_s1 C_NoText) (oSeq (lines_of_s2 C_NoText) oNx))
theorem line_20k : 20000 ≤ sizeLine := by decide
theorem dec_len_le {n k : Nat} (hk : 0 < k) (h : n < 10 ^ k) : (decL n).length ≤ k := by
  unfold decL; rw [List.length_map]; exact (Nat.length_toDigits_le_iff (by decide) hk).2 h
theorem dec_len_pos (n : Nat) : 1 ≤ (decL n).length := by
  unfold decL; rw [List.length_map]
  have : Nat.toDigits 10 n ≠ [] := Nat.toDigits_ne_nil
  exact List.length_pos_iff.2 this
theorem dec_dig (n : Nat) : ∀ c ∈ decL n, 48 ≤ c ∧ c ≤ 57 := by
  intro c hc
  unfold decL at hc
  obtain ⟨ch, h1, rfl⟩ := List.mem_map.1 hc
  have := Nat.isDigit_of_mem_toDigits (by decide) (by decide) h1
  simp only [Char.isDigit, Bool.and_eq_true, decide_eq_true_eq, UInt32.le_iff_toNat_le] at this
  exact this
theorem digitC : ∀ d : Nat, d < 10 → (Nat.digitChar d).toNat - 48 = d := by decide
theorem val_snoc (x : List Nat) (c : Nat) : valL (x ++ [c]) = valL x * 10 + (c - 48) := by
  unfold valL; rw [List.foldl_append]; rfl
theorem val_dec (n : Nat) : valL (decL n) = n := by
  induction n using Nat.strongRecOn with
  | _ n ih =>
    by_cases h : n < 10
    · have e : decL n = [(Nat.digitChar n).toNat] := by unfold decL; rw [Nat.toDigits_of_lt_base h]; rfl
      rw [e]
      show 0 * 10 + ((Nat.digitChar n).toNat - 48) = n
      rw [digitC n h]; omega
    · have e : decL n = decL (n / 10) ++ [(Nat.digitChar (n % 10)).toNat] := by
        have t := Nat.toDigits_append_toDigits (b := 10) (n := n / 10) (d := n % 10) (by decide) (by omega) (by omega)
        rw [show 10 * (n / 10) + n % 10 = n by omega] at t
        unfold decL
        rw [← t, List.map_append, Nat.toDigits_of_lt_base (show n % 10 < 10 by omega)]; rfl
      rw [e, val_snoc, ih (n / 10) (by omega), digitC (n % 10) (by omega)]
      omega
theorem dec_digL (n : Nat) : digL (decL n) = true := by
  unfold digL; rw [List.all_eq_true]; intro c hc
  have := dec_dig n c hc
  simp only [Bool.and_eq_true, decide_eq_true_eq]; exact this
noncomputable def agF : List D → R D := fun ds => bodyR (are_figures_all (startE 1 ds))
theorem are_figures_ok : ∀ ds : List D, ds.length = 1 → agF ds = .no ∨ bodyR (are_figures_all (startE 1 ds)) = agF ds := fun _ _ => .inr rfl
noncomputable def figB (x : List Nat) : Bool := !(x == []) && digL x
theorem fig_mem (c : Nat) : decide (c ∈ [48, 49, 50, 51, 52, 53, 54, 55, 56, 57]) = (decide (48 ≤ c) && decide (c ≤ 57)) := by
  by_cases h : 48 ≤ c ∧ c ≤ 57
  · rw [decide_eq_true h.1, decide_eq_true h.2, decide_eq_true]; rfl
    simp only [List.mem_cons, List.mem_nil_iff, or_false]; omega
  · rw [decide_eq_false (p := c ∈ [48, 49, 50, 51, 52, 53, 54, 55, 56, 57])]
    · by_cases h1 : 48 ≤ c
      · rw [decide_eq_true h1, decide_eq_false (by omega)]; rfl
      · rw [decide_eq_false h1]; rfl
    · simp only [List.mem_cons, List.mem_nil_iff, or_false]; omega
theorem ag_str {x : List Nat} (hx : x.length ≤ 1000) : agF [.str x] = .ok (.bl (figB x)) := by
  have lb := line_20k
  have cm : compD (fun _ => R.ok true) (g2 inSF (fun ρ => rdV ρ 0) (fun _ => R.ok (D.str [48, 49, 50, 51, 52, 53, 54, 55, 56, 57]))) (x.map fun c => .str [c]) [none] = .ok ((x.map fun c => D.str [c]).map fun d => .bl (match d with | .str [c] => decide (48 ≤ c) && decide (c ≤ 57) | _ => false)) := by
    refine compD_all (fun d => .bl (match d with | .str [c] => decide (48 ≤ c) && decide (c ≤ 57) | _ => false)) [] _ none fun d hd => ⟨rfl, ?_⟩
    obtain ⟨c, _, rfl⟩ := List.mem_map.1 hd
    show _ = R.ok (D.bl (decide (48 ≤ c) && decide (c ≤ 57)))
    rw [← fig_mem]; rfl
  have al := allF_map (fun d => match d with | .str [c] => decide (48 ≤ c) && decide (c ≤ 57) | _ => false) false (x.map fun c => D.str [c])
  have ea : ((x.map fun c => D.str [c]).all fun d => match d with | .str [c] => decide (48 ≤ c) && decide (c ≤ 57) | _ => false) = digL x := by
    rw [List.all_map]; rfl
  rw [ea] at al
  have z : ((x.map fun c => D.str [c]).map fun d => D.bl (match d with | .str [c] => decide (48 ≤ c) && decide (c ≤ 57) | _ => false)).length ≤ sizeLine := by simp; omega
  have it : itemsD (.str x) = .ok (x.map fun c => .str [c]) := rfl
  have i1 : ∀ a0 : Option Sl, inner [] [a0] = [none] := fun _ => rfl
  generalize (x.map fun c => D.str [c]).map (fun d => D.bl (match d with | .str [c] => decide (48 ≤ c) && decide (c ≤ 57) | _ => false)) = u at *
  generalize x.map (fun c => D.str [c]) = v at *
  show bodyR (oSeq _ _ [some (.val (.str x))]) = _
  unfold are_figures_s1 figB
  cases hx0 : (x == []) with
  | true =>
    clear lb hx z al cm ea
    walk_at "run"
    all_goals rfl
  | false =>
    have e : (!false && digL x) = digL x := rfl
    rw [e]
    clear lb hx ea e
    walk_at "run"
    all_goals rfl
theorem int_fig {x : List Nat} (h : figB x = true) (hx : x.length ≤ 600) : intSF [.str x] = some (.int (valL x : Nat)) := by
  unfold figB at h
  rw [Bool.and_eq_true] at h
  have hd : x.dropWhile (fun c => c == 32) = x := by
    cases x with
    | nil => rfl
    | cons c r =>
      have := List.all_eq_true.1 h.2 c (List.mem_cons_self ..)
      simp only [Bool.and_eq_true, decide_eq_true_eq] at this
      exact List.dropWhile_cons_of_neg (by simp; omega)
  show (if digL (x.dropWhile (fun c => c == 32)) = true ∧ x.dropWhile (fun c => c == 32) ≠ [] ∧ x.length ≤ 640 then some (D.int ((valL (x.dropWhile (fun c => c == 32)) : Nat) : Int)) else none) = _
  rw [hd, if_pos]
  exact ⟨h.2, fun z => by rw [z] at h; simp at h, by omega⟩
theorem fig_dec (n : Nat) : figB (decL n) = true := by
  unfold figB
  rw [dec_digL, Bool.and_true]
  have := dec_len_pos n
  cases h : decL n with
  | nil => rw [h] at this; simp at this
  | cons a l => rfl

theorem no32 {x : List Nat} (h : figB x = true) (c : Nat) (hc : c < 48) : c ∉ x := fun hm => by
  unfold figB at h
  rw [Bool.and_eq_true] at h
  have := List.all_eq_true.1 h.2 c hm
  simp only [Bool.and_eq_true, decide_eq_true_eq] at this
  omega
theorem go_len {r c : Nat} (hr : r ≤ 11) (hc : c ≤ 40) : (decL r).length ≤ 2 ∧ (decL c).length ≤ 2 := ⟨dec_len_le (by decide) (by omega), dec_len_le (by decide) (by omega)⟩
noncomputable def stF : List D → R D := fun ds => bodyR (spot_text_all (startE 2 ds))
theorem spot_text_ok : ∀ ds : List D, ds.length = 2 → stF ds = .no ∨ bodyR (spot_text_all (startE 2 ds)) = stF ds := fun _ _ => .inr rfl
theorem st_nat {r c : Nat} (hr : r ≤ 11) (hc : c ≤ 40) : stF [.int (r : Int), .int (c : Int)] = .ok (.str (decL r ++ [32] ++ decL c)) := by
  have lb := line_20k
  have f1 := fmt_i (n := r) (by omega)
  have f2 := fmt_i (n := c) (by omega)
  have g := go_len hr hc
  have b1 : (decL r).length ≤ sizeLine := by omega
  have b2 : (decL r ++ [32]).length ≤ sizeLine := by simp; omega
  have b3 : (decL r ++ [32] ++ decL c).length ≤ sizeLine := by simp; omega
  have en : ∀ a : List Nat, ([] : List Nat) ++ a = a := fun _ => rfl
  show bodyR (oSeq _ _ [some (.val (.int (r : Int))), some (.val (.int (c : Int)))]) = _
  unfold spot_text_s1
  clear lb hr hc g
  walk_at "run"
noncomputable def shF' : List D → R D := fun ds => bodyR (is_short_number_all agF (startE 1 ds))
theorem is_short_number_ok : ∀ ds : List D, ds.length = 1 → shF' ds = .no ∨ bodyR (is_short_number_all agF (startE 1 ds)) = shF' ds := fun _ _ => .inr rfl
noncomputable def shB (x : List Nat) : Bool := figB x && decide (x.length ≤ 2)
theorem sh_str {x : List Nat} (hx : x.length ≤ 1000) : shF' [.str x] = .ok (.bl (shB x)) := by
  have a1 := ag_str hx
  have q : decide ((x.length : Int) ≤ 2) = decide (x.length ≤ 2) := by
    by_cases h : x.length ≤ 2
    · rw [decide_eq_true h, decide_eq_true (by omega)]
    · rw [decide_eq_false h, decide_eq_false (by omega)]
  show bodyR (oSeq _ _ [some (.val (.str x))]) = _
  unfold is_short_number_s1 shB
  clear hx
  cases hf : figB x with
  | true => rw [hf] at a1; walk_at "run"; try rfl
  | false => rw [hf] at a1; walk_at "run"; try rfl
noncomputable def soF : List D → R D := fun ds => bodyR (spot_or_none_all shF' (startE 2 ds))
theorem spot_or_none_ok : ∀ ds : List D, ds.length = 1 → soF ds = .no ∨ bodyR (spot_or_none_all shF' (startE 2 ds)) = soF ds := fun _ _ => .inr rfl
noncomputable def spotO (x : List Nat) : D := match splitL 32 x with
  | [p, q] => if shB p = true ∧ shB q = true then .tup [.int (valL p : Nat), .int (valL q : Nat)] else .non
  | _ => .non
theorem so_str {x : List Nat} (hx : x.length ≤ 1000) : soF [.str x] = .ok (spotO x) := by
  have lb := line_20k
  have sp : splitF (.str x) [.str [32]] = some (.lst false ((splitL 32 x).map .str)) := if_pos (by omega)
  have kd : kindD "str" (.str x) = true := rfl
  have sl := splitL_len 32 x
  have cm : compD (fun _ => R.ok true) (gCall 1 shF' (gACons (fun ρ => rdV ρ 0) (fun _ => R.ok []))) ((splitL 32 x).map .str) [none] = .ok (((splitL 32 x).map D.str).map fun d => .bl (match d with | .str p => shB p | _ => false)) := by
    refine compD_all (fun d => .bl (match d with | .str p => shB p | _ => false)) [] _ none fun d hd => ⟨rfl, ?_⟩
    obtain ⟨p, hp, rfl⟩ := List.mem_map.1 hd
    have := splitL_le 32 x p hp
    have a1 := sh_str (x := p) (by omega)
    show _ = R.ok (D.bl (shB p))
    clear hd this hp
    walk_at "run"
  have al := allF_map (fun d => match d with | .str p => shB p | _ => false) false ((splitL 32 x).map D.str)
  have ea : (((splitL 32 x).map D.str).all fun d => match d with | .str p => shB p | _ => false) = (splitL 32 x).all shB := by rw [List.all_map]; rfl
  rw [ea] at al
  have z : (((splitL 32 x).map D.str).map fun d => D.bl (match d with | .str p => shB p | _ => false)).length ≤ sizeLine := by simp; omega
  have it : ∀ (f : Bool) (l : List D), itemsD (.lst f l) = .ok l := fun _ _ => rfl
  have i1 : ∀ a0 a1 : Option Sl, inner [] [a0, a1] = [none] := fun _ _ => rfl
  have ll : ((splitL 32 x).map D.str).length = (splitL 32 x).length := List.length_map ..
  show bodyR (oSeq _ _ [some (.val (.str x)), none]) = _
  unfold spot_or_none_s1 spot_or_none_s2 spot_or_none_s3
  by_cases h2 : (splitL 32 x).length = 2
  · have q : (((splitL 32 x).length : Int) == 2) = true := by rw [beq_iff_eq]; omega
    obtain ⟨p, q', e⟩ : ∃ p q', splitL 32 x = [p, q'] := by
      match h : splitL 32 x, h2 with
      | [p, q'], _ => exact ⟨p, q', rfl⟩
    cases hf : (splitL 32 x).all shB with
    | true =>
      rw [hf] at al
      have hpq : shB p = true ∧ shB q' = true := by rw [e] at hf; simpa using hf
      have es : spotO x = .tup [.int (valL p : Nat), .int (valL q' : Nat)] := by unfold spotO; rw [e]; exact if_pos hpq
      have l1 := splitL_le 32 x p (by rw [e]; simp)
      have l2 := splitL_le 32 x q' (by rw [e]; simp)
      have fp : figB p = true ∧ p.length ≤ 2 := by have := hpq.1; unfold shB at this; simpa using this
      have fq : figB q' = true ∧ q'.length ≤ 2 := by have := hpq.2; unfold shB at this; simpa using this
      have n1 := int_fig fp.1 (by omega)
      have n2 := int_fig fq.1 (by omega)
      have x0 : ixD (.lst false ((splitL 32 x).map D.str)) (.int 0) = some (.str p) := by rw [e]; exact l_ix (k := 0) rfl
      have x1 : ixD (.lst false ((splitL 32 x).map D.str)) (.int 1) = some (.str q') := by rw [e]; exact l_ix (k := 1) rfl
      have tt : ∀ a b : D, mkT [a, b] = .ok (.tup [a, b]) := fun _ _ => m_t (by simp)
      rw [es]
      generalize ((splitL 32 x).map D.str).map (fun d => D.bl (match d with | .str p => shB p | _ => false)) = u at *
      generalize (splitL 32 x).map D.str = v at *
      clear lb hx sl ea e es hf hpq l1 l2 fp fq h2
      walk_at "run"
    | false =>
      rw [hf] at al
      have es : spotO x = .non := by
        unfold spotO; rw [e]
        refine if_neg fun z => ?_
        rw [e] at hf; simp [z.1, z.2] at hf
      rw [es]
      generalize ((splitL 32 x).map D.str).map (fun d => D.bl (match d with | .str p => shB p | _ => false)) = u at *
      generalize (splitL 32 x).map D.str = v at *
      clear lb hx sl ea e es hf h2
      walk_at "run"
  · have q : (((splitL 32 x).length : Int) == 2) = false := by rw [beq_eq_false_iff_ne]; omega
    have es : spotO x = .non := by
      unfold spotO
      split
      · rename_i p q' e; rw [e] at h2; simp at h2
      · rfl
    rw [es]
    generalize ((splitL 32 x).map D.str).map (fun d => D.bl (match d with | .str p => shB p | _ => false)) = u at *
    generalize (splitL 32 x).map D.str = v at *
    clear lb hx sl ea es h2
    walk_at "run"
theorem spot_go {r c : Nat} (hr : r ≤ 11) (hc : c ≤ 40) : spotO (decL r ++ [32] ++ decL c) = .tup [.int (r : Int), .int (c : Int)] := by
  have g := go_len hr hc
  have e : splitL 32 (decL r ++ [32] ++ decL c) = [decL r, decL c] := by
    rw [List.append_assoc]
    show splitL 32 (decL r ++ 32 :: decL c) = _
    rw [splitL_app _ (no32 (fig_dec r) 32 (by decide)), splitL_one (no32 (fig_dec c) 32 (by decide))]
  unfold spotO
  rw [e]
  show (if shB (decL r) = true ∧ shB (decL c) = true then _ else _) = _
  rw [if_pos, val_dec, val_dec]
  unfold shB
  rw [fig_dec, fig_dec]
  simp; exact g
end Q70
namespace Q70
open L2 Q
open PySem (sizeLine Addr)
theorem join_nil : ∀ l : List (List Nat), joinL [] l = l.flatten
  | [] => rfl
  | [q] => by simp [joinL]
  | q :: r :: l => by
    have ih := join_nil (r :: l)
    show q ++ [] ++ joinL [] (r :: l) = _
    rw [ih]; simp
theorem strs_map : ∀ l : List (List Nat), L2.strsD (l.map .str) = some l
  | [] => rfl
  | q :: l => by
    have ih := strs_map l
    rw [List.map_cons]
    unfold L2.strsD
    first | (rw [ih]; rfl) | (simp only [ih]; rfl) | simp [ih]
noncomputable def lnF (C : Addr) : List D → R D := fun ds => bodyR (lines_of_all C (startE 1 ds))
theorem lines_of_ok {C : Addr} : ∀ ds : List D, ds.length = 1 → lnF C ds = .no ∨ bodyR (lines_of_all C (startE 1 ds)) = lnF C ds := fun _ _ => .inr rfl
noncomputable def endB (x : List Nat) : Bool := (x == []) || (x.getLast? == some 10)
theorem cut_butlast {α : Type} (xs : List α) : cutL xs none (some (-1)) = xs.dropLast := by
  unfold cutL
  have e : HT.sIx xs.length xs.length (some (-1)) = xs.length - 1 := by
    show (if (-1 : Int) < 0 then ((-1 : Int) + (xs.length : Int)).toNat else min (-1 : Int).toNat xs.length) = _
    rw [if_pos (by omega)]; omega
  rw [e, HT.sIx_none, List.drop_zero, Nat.sub_zero, List.dropLast_eq_take]
theorem ln_str {C : Addr} {x : List Nat} (hx : x.length ≤ 1000) : lnF C [.str x] = if endB x = true then .ok (.lst false ((splitL 10 x).dropLast.map .str)) else .ex C := by
  have sp : splitF (.str x) [.str [10]] = some (.lst false ((splitL 10 x).map .str)) := if_pos (by omega)
  have kd : kindD "str" (.str x) = true := rfl
  have ty : isTy (fun x => x == "str") (.str x) = .ok (.bl true) := rfl
  have en : endsF (.str x) [.str [10]] = some (.bl (x.getLast? == some 10)) := rfl
  have ng1 : negD (.int 1) = .ok (.int (-1)) := rfl
  have cu : cutL ((splitL 10 x).map D.str) none (some (-1)) = (splitL 10 x).dropLast.map .str := by rw [cut_butlast, List.map_dropLast]
  show bodyR (oSeq _ _ [some (.val (.str x))]) = _
  unfold lines_of_s1 lines_of_s2 endB
  generalize (splitL 10 x).dropLast.map D.str = u at *
  generalize (splitL 10 x).map D.str = v at *
  clear hx
  cases h1 : (x == []) with
  | true => rw [Bool.true_or, if_pos rfl]; walk_at "run"
  | false =>
    rw [Bool.false_or]
    cases h2 : (x.getLast? == some 10) with
    | true => rw [h2] at en; rw [if_pos rfl]; walk_at "run"
    | false => rw [h2] at en; rw [if_neg (by decide)]; walk_at "run"
end Q70
namespace Q96
open L2 Q Q70
open PySem (sizeLine Addr)
noncomputable def screen_text_s1 (F_check_screen : List D → R D) (F_spot_text : List D → R D) : Ev → O := (oExpr (gCall 1 F_check_screen (gACons (fun ρ => rdV ρ 0) (fun _ => R.ok []))))
noncomputable def screen_text_s2 (F_check_screen : List D → R D) (F_spot_text : List D → R D) : Ev → O := (oOwn 1 (gComp (gThen itemsD (g2 ixD (fun ρ => rdV ρ 0) (fun _ => R.ok (D.int 1)))) [] (fun _ => R.ok true) (gFstr [(fun _ => R.ok (D.str [124])), (gThen fmtD (fun ρ => rdV ρ 0)), (fun _ => R.ok (D.str [124, 10]))])))
noncomputable def screen_text_s3 (F_check_screen : List D → R D) (F_spot_text : List D → R D) : Ev → O := (oRet (g2 addD (g2 addD (gMeth "str" joinD (fun _ => R.ok (D.str [])) (gACons (fun ρ => rdV ρ 1) (fun _ => R.ok []))) (gCall 2 F_spot_text (gACons (g2 ixD (g2 ixD (fun ρ => rdV ρ 0) (fun _ => R.ok (D.int 2))) (fun _ => R.ok (D.int 0))) (gACons (g2 ixD (g2 ixD (fun ρ => rdV ρ 0) (fun _ => R.ok (D.int 2))) (fun _ => R.ok (D.int 1))) (fun _ => R.ok []))))) (fun _ => R.ok (D.str [10]))))
noncomputable def screen_text_all (F_check_screen : List D → R D) (F_spot_text : List D → R D) : Ev → O := (oSeq (screen_text_s1 F_check_screen F_spot_text) (oSeq (screen_text_s2 F_check_screen F_spot_text) (oFrz 1 (oSeq (screen_text_s3 F_check_screen F_spot_text) oNx))))
noncomputable def screen_or_none_s1 (F_spot_or_none : List D → R D) : Ev → O := (oIf (gB2 ltD (gOf lenF (gACons (fun ρ => rdV ρ 0) (fun _ => R.ok []))) (fun _ => R.ok (D.int 2))) (oSeq (oRet (fun _ => R.ok D.non)) oNx) oNx)
noncomputable def screen_or_none_s2 (F_spot_or_none : List D → R D) : Ev → O := (oOwn 1 (gComp (gThen itemsD (gSl (fun ρ => rdV ρ 0) (fun _ => R.ok none) (gSome (gThen negD (fun _ => R.ok (D.int 1)))))) [] (fun _ => R.ok true) (gSl (fun ρ => rdV ρ 0) (gSome (fun _ => R.ok (D.int 1))) (gSome (gThen negD (fun _ => R.ok (D.int 1)))))))
noncomputable def screen_or_none_s3 (F_spot_or_none : List D → R D) : Ev → O := (oRet (gThen mkT (gACons (gOf lenF (gACons (g2 ixD (fun ρ => rdV ρ 1) (fun _ => R.ok (D.int 0))) (fun _ => R.ok []))) (gACons (gOf tupleF (gACons (fun ρ => rdV ρ 1) (fun _ => R.ok []))) (gACons (gCall 1 F_spot_or_none (gACons (g2 ixD (fun ρ => rdV ρ 0) (gThen negD (fun _ => R.ok (D.int 1)))) (fun _ => R.ok []))) (fun _ => R.ok []))))))
noncomputable def screen_or_none_all (F_spot_or_none : List D → R D) : Ev → O := (oSeq (screen_or_none_s1 F_spot_or_none) (oSeq (screen_or_none_s2 F_spot_or_none) (oFrz 1 (oSeq (screen_or_none_s3 F_spot_or_none) oNx))))
noncomputable def read_screen_s1 (F_lines_of : List D → R D) (F_screen_or_none : List D → R D) (F_is_screen : List D → R D) (F_screen_text : List D → R D) (C_NoText : Addr) : Ev → O := (oSet 1 (gCall 1 F_screen_or_none (gACons (gCall 1 F_lines_of (gACons (fun ρ => rdV ρ 0) (fun _ => R.ok []))) (fun _ => R.ok []))))
noncomputable def read_screen_s2 (F_lines_of : List D → R D) (F_screen_or_none : List D → R D) (F_is_screen : List D → R D) (F_screen_text : List D → R D) (C_NoText : Addr) : Ev → O := (oIf (tOrB (gBn (gThen truD (gCall 1 F_is_screen (gACons (fun ρ => rdV ρ 1) (fun _ => R.ok []))))) (gB2 neF (gCall 1 F_screen_text (gACons (fun ρ => rdV ρ 1) (fun _ => R.ok []))) (fun ρ => rdV ρ 0))) (oSeq (oRaise C_NoText (gACons (fun _ => R.ok (D.str [110, 111, 32, 115, 99, 114, 101, 101, 110, 32, 105, 115, 32, 119, 114, 105, 116, 116, 101, 110, 32, 115, 111])) (fun _ => R.ok []))) oNx) oNx)
noncomputable def read_screen_s3 (F_lines_of : List D → R D) (F_screen_or_none : List D → R D) (F_is_screen : List D → R D) (F_screen_text : List D → R D) (C_NoText : Addr) : Ev → O := (oRet (fun ρ => rdV ρ 1))
noncomputable def read_screen_all (F_lines_of : List D → R D) (F_screen_or_none : List D → R D) (F_is_screen : List D → R D) (F_screen_text : List D → R D) (C_NoText : Addr) : Ev → O := (oSeq (read_screen_s1 F_lines_of F_screen_or_none F_is_screen F_screen_text C_NoText) (oSeq (read_screen_s2 F_lines_of F_screen_or_none F_is_screen F_screen_text C_NoText) (oSeq (read_screen_s3 F_lines_of F_screen_or_none F_is_screen F_screen_text C_NoText) oNx)))
noncomputable def scT (rows : List (List Nat)) (r c : Nat) : List Nat := (rows.map fun x => [124] ++ x ++ [124, 10]).flatten ++ (decL r ++ [32] ++ decL c) ++ [10]
noncomputable def sxF (C : Addr) : List D → R D := fun ds => bodyR (screen_text_all (checkF C) stF (startE 2 ds))
theorem screen_text_ok {C : Addr} : ∀ ds : List D, ds.length = 1 → sxF C ds = .no ∨ bodyR (screen_text_all (checkF C) stF (startE 2 ds)) = sxF C ds := fun _ _ => .inr rfl
theorem flat_len {rows : List (List Nat)} {w : Nat} (h : ∀ x ∈ rows, x.length = w) : (rows.map fun x => [124] ++ x ++ [124, 10]).flatten.length = (w + 3) * rows.length := by
  induction rows with
  | nil => rfl
  | cons x rows ih =>
    have i := ih fun y hy => h y (List.mem_cons_of_mem _ hy)
    have hx := h x (List.mem_cons_self ..)
    rw [List.map_cons, List.flatten_cons, List.length_append, i, List.length_cons, Nat.mul_succ]
    simp; omega
theorem sx_ok {C : Addr} {wd : Nat} {rows : List (List Nat)} {r c : Nat} (hw : wd ≤ 40) (hm : rows.length ≤ 12) (hl : ∀ x ∈ rows, x.length = wd) (hr : r ≤ 11) (hc : c ≤ 40) (hk : checkF C [scr wd rows r c] = .ok .non) : sxF C [scr wd rows r c] = .ok (.str (scT rows r c)) := by
  have lb := line_20k
  have s1 := st_nat hr hc
  have g := go_len hr hc
  have fl := flat_len hl
  have fl2 : (wd + 3) * rows.length ≤ 43 * 12 := Nat.mul_le_mul (by omega) hm
  have x1 : ixD (scr wd rows r c) (.int 1) = some (.tup (rows.map .str)) := rfl
  have x2 : ixD (scr wd rows r c) (.int 2) = some (.tup [.int (r : Int), .int (c : Int)]) := rfl
  have y0 : ∀ a b : D, ixD (.tup [a, b]) (.int 0) = some a := fun _ _ => rfl
  have y1 : ∀ a b : D, ixD (.tup [a, b]) (.int 1) = some b := fun _ _ => rfl
  have it : ∀ l : List D, itemsD (.tup l) = .ok l := fun _ => rfl
  have i1 : ∀ a0 a1 : Option Sl, inner [] [a0, a1] = [none] := fun _ _ => rfl
  have cm : compD (fun _ => R.ok true) (gFstr [(fun _ => R.ok (D.str [124])), (gThen fmtD (fun ρ => rdV ρ 0)), (fun _ => R.ok (D.str [124, 10]))]) (rows.map .str) [none] = .ok ((rows.map fun x => [124] ++ x ++ [124, 10]).map .str) := by
    have := compD_all (gt := fun _ => R.ok true) (ge := gFstr [(fun _ => R.ok (D.str [124])), (gThen fmtD (fun ρ => rdV ρ 0)), (fun _ => R.ok (D.str [124, 10]))]) (fun d => match d with | .str x => .str ([124] ++ x ++ [124, 10]) | d => d) [] (rows.map .str) none fun d hd => ⟨rfl, by
      obtain ⟨x, hx, rfl⟩ := List.mem_map.1 hd
      have hxl := hl x hx
      have b1 : ([124] : List Nat).length ≤ sizeLine := by simp; omega
      have b2 : ([124] ++ x).length ≤ sizeLine := by simp; omega
      have b3 : ([124] ++ x ++ [124, 10]).length ≤ sizeLine := by simp; omega
      have f1 : fmtD (.str x) = .ok (.str x) := rfl
      show joinG _ [] _ = R.ok (D.str ([124] ++ x ++ [124, 10]))
      show (if ([] ++ [124] : List Nat).length ≤ sizeLine then (if (([] ++ [124] : List Nat) ++ x).length ≤ sizeLine then (if ((([] ++ [124] : List Nat) ++ x) ++ [124, 10]).length ≤ sizeLine then R.ok (D.str ((([] ++ [124] : List Nat) ++ x) ++ [124, 10])) else .no) else .no) else .no) = _
      rw [List.nil_append, if_pos b1, if_pos b2, if_pos b3]⟩
    rw [this, List.map_map, List.map_map]; rfl
  have z : ((rows.map fun x => [124] ++ x ++ [124, 10]).map D.str).length ≤ sizeLine := by simp; omega
  have jn : joinD (.str []) [.lst false ((rows.map fun x => [124] ++ x ++ [124, 10]).map .str)] = some (.str (rows.map fun x => [124] ++ x ++ [124, 10]).flatten) := by
    simp only [joinD, strs_map, join_nil]
    rw [if_pos]
    rw [← List.length_flatten]; simp only [List.length_nil, Nat.mul_zero]; omega
  have kd : kindD "str" (.str []) = true := rfl
  have a1 : addD (.str (rows.map fun x => [124] ++ x ++ [124, 10]).flatten) (.str (decL r ++ [32] ++ decL c)) = some (.str ((rows.map fun x => [124] ++ x ++ [124, 10]).flatten ++ (decL r ++ [32] ++ decL c))) := s_add (by simp only [List.length_append, List.length_cons, List.length_nil]; omega)
  have a2 : addD (.str ((rows.map fun x => [124] ++ x ++ [124, 10]).flatten ++ (decL r ++ [32] ++ decL c))) (.str [10]) = some (.str (scT rows r c)) := s_add (by simp only [List.length_append, List.length_cons, List.length_nil]; omega)
  show bodyR (oSeq _ _ [some (.val (scr wd rows r c)), none]) = _
  unfold screen_text_s1 screen_text_s2 screen_text_s3
  generalize scr wd rows r c = d at *
  generalize scT rows r c = w5 at *
  generalize (rows.map fun x => [124] ++ x ++ [124, 10]).flatten ++ (decL r ++ [32] ++ decL c) = w4 at *
  generalize (rows.map fun x => [124] ++ x ++ [124, 10]).flatten = w3 at *
  generalize (rows.map fun x => [124] ++ x ++ [124, 10]).map D.str = u at *
  generalize decL r ++ [32] ++ decL c = w2 at *
  generalize rows.map D.str = v at *
  clear lb g fl fl2 hw hm hl hr hc
  walk_at "run"
end Q96
namespace Q96
open L2 Q Q70
open PySem (sizeLine Addr)
noncomputable def snF' : List D → R D := fun ds => bodyR (screen_or_none_all soF (startE 2 ds))
theorem screen_or_none_ok : ∀ ds : List D, ds.length = 1 → snF' ds = .no ∨ bodyR (screen_or_none_all soF (startE 2 ds)) = snF' ds := fun _ _ => .inr rfl
theorem split_rows {x y : List Nat} : ∀ {rows : List (List Nat)}, (∀ z ∈ rows, 10 ∉ z) → 10 ∉ y → splitL 10 ((rows.map fun x => [124] ++ x ++ [124, 10]).flatten ++ y ++ [10]) = (rows.map fun x => [124] ++ x ++ [124]) ++ [y] ++ [[]]
  | [], _, hy => by
    show splitL 10 (y ++ [10]) = _
    rw [splitL_app _ hy]; rfl
  | z :: rows, h, hy => by
    have ih := split_rows (x := x) (rows := rows) (fun w hw => h w (List.mem_cons_of_mem _ hw)) hy
    have hz := h z (List.mem_cons_self ..)
    have e : ((z :: rows).map fun x => [124] ++ x ++ [124, 10]).flatten ++ y ++ [10] = ([124] ++ z ++ [124]) ++ 10 :: ((rows.map fun x => [124] ++ x ++ [124, 10]).flatten ++ y ++ [10]) := by simp
    rw [e, splitL_app _ (by simp [hz]), ih]; rfl
theorem cut_mid (z : List Nat) : cutL ([124] ++ z ++ [124]) (some 1) (some (-1)) = z := by
  unfold cutL
  have e1 : HT.sIx ([124] ++ z ++ [124]).length 0 (some 1) = 1 := by
    show (if (1 : Int) < 0 then ((1 : Int) + (([124] ++ z ++ [124]).length : Int)).toNat else min (1 : Int).toNat ([124] ++ z ++ [124]).length) = 1
    rw [if_neg (by omega)]; simp
  have e2 : HT.sIx ([124] ++ z ++ [124]).length ([124] ++ z ++ [124]).length (some (-1)) = z.length + 1 := by
    show (if (-1 : Int) < 0 then ((-1 : Int) + (([124] ++ z ++ [124]).length : Int)).toNat else min (-1 : Int).toNat ([124] ++ z ++ [124]).length) = _
    rw [if_pos (by omega)]; simp; omega
  rw [e1, e2]
  simp
theorem l_last (f : Bool) (l : List D) (d : D) : ixD (.lst f (l ++ [d])) (.int (-1)) = some d := by
  show atI (l ++ [d]) (-1) = some d
  have e : ixN (l ++ [d]).length (-1) = some l.length := by
    unfold ixN
    rw [if_neg (by omega), List.length_append, List.length_singleton, if_pos (by omega)]
    congr 1; omega
  unfold atI; rw [e]
  show (l ++ [d])[l.length]? = some d
  simp
theorem sn_ok {wd : Nat} {rows : List (List Nat)} {r c : Nat} (hm : rows.length ≤ 12) (h0 : 0 < rows.length) (hw : wd ≤ 40) (hl : ∀ x ∈ rows, x.length = wd) (hr : r ≤ 11) (hc : c ≤ 40) : snF' [.lst false (((rows.map fun x => [124] ++ x ++ [124]) ++ [decL r ++ [32] ++ decL c]).map .str)] = .ok (scr wd rows r c) := by
  have lb := line_20k
  have g := go_len hr hc
  have so := so_str (x := decL r ++ [32] ++ decL c) (by simp; omega)
  rw [spot_go hr hc] at so
  have em : (((rows.map fun x => [124] ++ x ++ [124]) ++ [decL r ++ [32] ++ decL c]).map D.str) = (rows.map fun x => [124] ++ x ++ [124]).map D.str ++ [D.str (decL r ++ [32] ++ decL c)] := by rw [List.map_append]; rfl
  rw [em]
  have ll : ((rows.map fun x => [124] ++ x ++ [124]).map D.str ++ [D.str (decL r ++ [32] ++ decL c)]).length = rows.length + 1 := by simp
  have q : decide (((rows.length + 1 : Nat) : Int) < 2) = false := by simp; omega
  have ng1 : negD (.int 1) = .ok (.int (-1)) := rfl
  have cu : cutL ((rows.map fun x => [124] ++ x ++ [124]).map D.str ++ [D.str (decL r ++ [32] ++ decL c)]) none (some (-1)) = (rows.map fun x => [124] ++ x ++ [124]).map D.str := by rw [cut_butlast]; simp
  have la := l_last false ((rows.map fun x => [124] ++ x ++ [124]).map D.str) (.str (decL r ++ [32] ++ decL c))
  have cm : compD (fun _ => R.ok true) (gSl (fun ρ => rdV ρ 0) (gSome (fun _ => R.ok (D.int 1))) (gSome (gThen negD (fun _ => R.ok (D.int 1))))) ((rows.map fun x => [124] ++ x ++ [124]).map D.str) [none] = .ok (rows.map .str) := by
    have := compD_all (gt := fun _ => R.ok true) (ge := gSl (fun ρ => rdV ρ 0) (gSome (fun _ => R.ok (D.int 1))) (gSome (gThen negD (fun _ => R.ok (D.int 1))))) (fun d => match d with | .str x => .str (cutL x (some 1) (some (-1))) | d => d) [] ((rows.map fun x => [124] ++ x ++ [124]).map D.str) none fun d hd => ⟨rfl, by
      obtain ⟨x, hx, rfl⟩ := List.mem_map.1 hd
      clear hx hd la cu ll em so
      walk_at "run"⟩
    rw [this, List.map_map, List.map_map]
    refine congrArg R.ok (List.map_congr_left fun o _ => ?_)
    show D.str (cutL ([124] ++ o ++ [124]) (some 1) (some (-1))) = .str o
    rw [cut_mid]
  obtain ⟨a, rs, ea⟩ : ∃ a rs, rows = a :: rs := by
    cases rows with
    | nil => simp at h0
    | cons a rs => exact ⟨a, rs, rfl⟩
  have x0 : ixD (.lst false (rows.map .str)) (.int 0) = some (.str a) := by rw [ea]; exact l_ix (k := 0) rfl
  have al : (a.length : Int) = (wd : Int) := by rw [hl a (by rw [ea]; simp)]
  have tu : tupleF [.lst false (rows.map .str)] = some (.tup (rows.map .str)) := rfl
  have t3 : ∀ a b c : D, mkT [a, b, c] = .ok (.tup [a, b, c]) := fun _ _ _ => m_t (by simp)
  have it : ∀ (f : Bool) (l : List D), itemsD (.lst f l) = .ok l := fun _ _ => rfl
  have i1 : ∀ a0 a1 : Option Sl, inner [] [a0, a1] = [none] := fun _ _ => rfl
  have z : (rows.map D.str).length ≤ sizeLine := by simp; omega
  have es : scr wd rows r c = .tup [.int (wd : Int), .tup (rows.map .str), .tup [.int (r : Int), .int (c : Int)]] := rfl
  rw [es]
  show bodyR (oSeq _ _ [some (.val (.lst false ((rows.map fun x => [124] ++ x ++ [124]).map D.str ++ [D.str (decL r ++ [32] ++ decL c)]))), none]) = _
  unfold screen_or_none_s1 screen_or_none_s2 screen_or_none_s3
  generalize (rows.map fun x => [124] ++ x ++ [124]).map D.str ++ [D.str (decL r ++ [32] ++ decL c)] = u1 at *
  generalize (rows.map fun x => [124] ++ x ++ [124]).map D.str = u2 at *
  generalize rows.map D.str = u3 at *
  generalize decL r ++ [32] ++ decL c = w at *
  clear lb g hm h0 hw hl hr hc em es ea
  walk_at "run"
noncomputable def rdF (C1 C7 : Addr) : List D → R D := fun ds => bodyR (read_screen_all (lnF C7) snF' screenF (sxF C1) C7 (startE 2 ds))
theorem read_screen_ok {C1 C7 : Addr} : ∀ ds : List D, ds.length = 1 → rdF C1 C7 ds = .no ∨ bodyR (read_screen_all (lnF C7) snF' screenF (sxF C1) C7 (startE 2 ds)) = rdF C1 C7 ds := fun _ _ => .inr rfl
theorem dec_free (n c : Nat) (hc : c < 48) : c ∉ decL n := no32 (fig_dec n) c hc
theorem rd_ok {C1 C7 : Addr} {wd : Nat} {rows : List (List Nat)} {r c : Nat} (hm : rows.length ≤ 12) (h0 : 0 < rows.length) (hw : wd ≤ 40) (hl : ∀ x ∈ rows, x.length = wd) (hf : ∀ x ∈ rows, 10 ∉ x) (hr : r ≤ 11) (hc : c ≤ 40) (hk : checkF C1 [scr wd rows r c] = .ok .non) (hs : screenF [scr wd rows r c] = .ok (.bl true)) : rdF C1 C7 [.str (scT rows r c)] = .ok (scr wd rows r c) := by
  have g := go_len hr hc
  have fl := flat_len hl
  have fl2 : (wd + 3) * rows.length ≤ 43 * 12 := Nat.mul_le_mul (by omega) hm
  have ln : (scT rows r c).length ≤ 1000 := by
    unfold scT
    simp only [List.length_append, List.length_cons, List.length_nil]; omega
  have l1 := ln_str (C := C7) (x := scT rows r c) ln
  have eb : endB (scT rows r c) = true := by
    unfold endB scT
    rw [List.getLast?_concat]; simp
  have sp : splitL 10 (scT rows r c) = (rows.map fun x => [124] ++ x ++ [124]) ++ [decL r ++ [32] ++ decL c] ++ [[]] := by
    have d1 := dec_free r 10 (by decide)
    have d2 := dec_free c 10 (by decide)
    exact split_rows (x := []) hf (by simp [d1, d2])
  rw [eb, if_pos rfl, sp] at l1
  have ed : ((rows.map fun x => [124] ++ x ++ [124]) ++ [decL r ++ [32] ++ decL c] ++ [[]]).dropLast = (rows.map fun x => [124] ++ x ++ [124]) ++ [decL r ++ [32] ++ decL c] := by simp
  rw [ed] at l1
  have s1 := sn_ok hm h0 hw hl hr hc
  have t1 := sx_ok (C := C1) hw hm hl hr hc hk
  have n5 : ∀ z : List Nat, (z == z) = true := fun z => by simp
  show bodyR (oSeq _ _ [some (.val (.str (scT rows r c))), none]) = _
  unfold read_screen_s1 read_screen_s2 read_screen_s3
  generalize scr wd rows r c = d at *
  generalize scT rows r c = w at *
  generalize ((rows.map fun x => [124] ++ x ++ [124]) ++ [decL r ++ [32] ++ decL c]).map D.str = u at *
  clear g fl fl2 ln eb sp ed hm h0 hw hl hf hr hc hk
  walk_at "run"
end Q96
namespace Q89
open L2 Q Q70 Q96
open PySem (sizeLine Addr)
theorem sn_any {ls : List (List Nat)} (h : ∀ y ∈ ls, y.length ≤ 1000) (hn : ls.length ≤ 2000) : snF' [.lst false (ls.map .str)] = .ok .non ∨ ∃ (w : Nat) (rows : List (List Nat)) (y : List Nat), (∀ x ∈ rows, x.length ≤ 1000) ∧ snF' [.lst false (ls.map .str)] = .ok (.tup [.int (w : Int), .tup (rows.map .str), spotO y]) := by
  have lb := line_20k
  by_cases h2 : ls.length < 2
  · refine .inl ?_
    have q : decide (((ls.map D.str).length : Int) < 2) = true := by simp; omega
    show bodyR (oSeq _ _ [some (.val (.lst false (ls.map D.str))), none]) = _
    unfold screen_or_none_s1 screen_or_none_s2 screen_or_none_s3
    generalize ls.map D.str = u at *
    clear h hn lb
    walk_at "run"
  · refine .inr ?_
    obtain ⟨is, la, rfl⟩ : ∃ is la, ls = is ++ [la] := ⟨ls.dropLast, ls.getLast (by intro z; rw [z] at h2; simp at h2), (List.dropLast_concat_getLast _).symm⟩
    obtain ⟨a, rs, ea⟩ : ∃ a rs, is = a :: rs := by
      cases is with
      | nil => simp at h2
      | cons a rs => exact ⟨a, rs, rfl⟩
    have so := so_str (x := la) (h la (by simp))
    refine ⟨(cutL a (some 1) (some (-1))).length, is.map fun y => cutL y (some 1) (some (-1)), la, fun x hx => ?_, ?_⟩
    · obtain ⟨y, hy, rfl⟩ := List.mem_map.1 hx
      have := cutL_le y (some 1) (some (-1))
      have := h y (by simp [hy])
      omega
    have em : (is ++ [la]).map D.str = is.map D.str ++ [D.str la] := by rw [List.map_append]; rfl
    rw [em]
    have ll : (is.map D.str ++ [D.str la]).length = is.length + 1 := by simp
    have q : decide (((is.length + 1 : Nat) : Int) < 2) = false := by rw [ea]; simp; omega
    have ng1 : negD (.int 1) = .ok (.int (-1)) := rfl
    have cu : cutL (is.map D.str ++ [D.str la]) none (some (-1)) = is.map D.str := by rw [cut_butlast]; simp
    have lx := l_last false (is.map D.str) (.str la)
    have cm : compD (fun _ => R.ok true) (gSl (fun ρ => rdV ρ 0) (gSome (fun _ => R.ok (D.int 1))) (gSome (gThen negD (fun _ => R.ok (D.int 1))))) (is.map D.str) [none] = .ok ((is.map fun y => cutL y (some 1) (some (-1))).map .str) := by
      have := compD_all (gt := fun _ => R.ok true) (ge := gSl (fun ρ => rdV ρ 0) (gSome (fun _ => R.ok (D.int 1))) (gSome (gThen negD (fun _ => R.ok (D.int 1))))) (fun d => match d with | .str x => .str (cutL x (some 1) (some (-1))) | d => d) [] (is.map D.str) none (fun d hd => ⟨rfl, by
        obtain ⟨x, hx, rfl⟩ := List.mem_map.1 hd
        clear hx hd lx cu ll em so
        walk_at "run"⟩)
      rw [this, List.map_map, List.map_map]
      rfl
    have x0 : ixD (.lst false ((is.map fun y => cutL y (some 1) (some (-1))).map .str)) (.int 0) = some (.str (cutL a (some 1) (some (-1)))) := by rw [ea]; exact l_ix (k := 0) rfl
    have tu : ∀ l : List D, tupleF [.lst false l] = some (.tup l) := fun _ => rfl
    have t3 : ∀ a b c : D, mkT [a, b, c] = .ok (.tup [a, b, c]) := fun _ _ _ => m_t (by simp)
    have it : ∀ (f : Bool) (l : List D), itemsD (.lst f l) = .ok l := fun _ _ => rfl
    have i1 : ∀ a0 a1 : Option Sl, inner [] [a0, a1] = [none] := fun _ _ => rfl
    have z : ((is.map fun y => cutL y (some 1) (some (-1))).map D.str).length ≤ sizeLine := by
      simp at hn ⊢; omega
    show bodyR (oSeq _ _ [some (.val (.lst false (is.map D.str ++ [D.str la]))), none]) = _
    unfold screen_or_none_s1 screen_or_none_s2 screen_or_none_s3
    clear lb h hn h2 em ea
    generalize is.map D.str ++ [D.str la] = u1 at *
    generalize is.map D.str = u2 at *
    generalize (is.map fun y => cutL y (some 1) (some (-1))).map D.str = u3 at *
    generalize cutL a (some 1) (some (-1)) = u4 at *
    generalize spotO la = sp at *
    walk_at "run"
theorem spot_cases (y : List Nat) : spotO y = .non ∨ ∃ a b : Nat, spotO y = .tup [.int (a : Int), .int (b : Int)] := by
  unfold spotO
  split
  · split
    · exact .inr ⟨_, _, rfl⟩
    · exact .inl rfl
  · exact .inl rfl
theorem fine_rows {rows : List (List Nat)} (h : ∀ x ∈ rows, x.length ≤ 1000) : (rows.map D.str).all fine = true := by
  rw [List.all_eq_true]
  intro d hd
  obtain ⟨x, hx, rfl⟩ := List.mem_map.1 hd
  have := h x hx
  have := line_20k
  show decide (x.length ≤ sizeLine) = true
  rw [decide_eq_true_iff]; omega
theorem fine3_any {w : Nat} {rows : List (List Nat)} {y : List Nat} (h : ∀ x ∈ rows, x.length ≤ 1000) : fine3 (.tup [.int (w : Int), .tup (rows.map .str), spotO y]) = true := by
  have f := fine_rows h
  rcases spot_cases y with e | ⟨a, b, e⟩
  · rw [e]; show (true && (rows.map D.str).all fine && true) = true; rw [f]; rfl
  · rw [e]; show (true && (rows.map D.str).all fine && [D.int (a : Int), D.int (b : Int)].all noExc) = true; rw [f]; rfl
theorem sx_any {C : Addr} {w : Nat} {rows : List (List Nat)} {y : List Nat} (hs : screen (.tup [.int (w : Int), .tup (rows.map .str), spotO y]) = true) : ∃ t, sxF C [.tup [.int (w : Int), .tup (rows.map .str), spotO y]] = .ok (.str t) := by
  obtain ⟨w12, m12, hr, hp⟩ := full_of hs
  rcases spot_cases y with e | ⟨a, b, e⟩
  · rw [e] at hp; exact absurd hp (by intro z; cases z)
  · rw [e] at hp hs ⊢
    have hk := checkF_ok (C := C) hs
    rw [List.length_map] at m12 hp
    have hl : ∀ x ∈ rows, x.length = w := fun x hx => by
      obtain ⟨x', e1, _, l⟩ := hr (.str x) (List.mem_map.2 ⟨x, hx, rfl⟩)
      cases e1; omega
    have ab : a ≤ 11 ∧ b ≤ 40 := by
      have hp : (inB (.int (a : Int)) 0 ((rows.length : Int) - 1) && inB (.int (b : Int)) 0 (w : Int)) = true := hp
      rw [Bool.and_eq_true] at hp
      obtain ⟨p1, p2⟩ := hp
      have p1 : (decide ((0 : Int) ≤ (a : Int)) && decide ((a : Int) ≤ (rows.length : Int) - 1)) = true := p1
      have p2 : (decide ((0 : Int) ≤ (b : Int)) && decide ((b : Int) ≤ (w : Int))) = true := p2
      simp only [Bool.and_eq_true, decide_eq_true_iff] at p1 p2
      omega
    exact ⟨_, sx_ok (C := C) (wd := w) (rows := rows) (r := a) (c := b) (by omega) (by omega) hl ab.1 ab.2 hk⟩
theorem rd_any {C1 C7 : Addr} {x : List Nat} (hx : x.length ≤ 1000) : rdF C1 C7 [.str x] = .ex C7 ∨ ∃ d, rdF C1 C7 [.str x] = .ok d ∧ sxF C1 [d] = .ok (.str x) := by
  have ln := ln_str (C := C7) hx
  by_cases he : endB x = true
  case neg =>
    rw [if_neg he] at ln
    refine .inl ?_
    show bodyR (oSeq _ _ [some (.val (.str x)), none]) = _
    unfold read_screen_s1
    clear he hx
    generalize lnF C7 = F at *
    walk_at "run"
  rw [if_pos he] at ln
  have sl := splitL_len 10 x
  have hls : ∀ y ∈ (splitL 10 x).dropLast, y.length ≤ 1000 := fun y hy => by
    have := splitL_le 10 x y (List.dropLast_subset _ hy)
    omega
  have no : ∀ (d : D) (b : Bool), screenF [d] = .ok (.bl false) → snF' [.lst false ((splitL 10 x).dropLast.map .str)] = .ok d → rdF C1 C7 [.str x] = .ex C7 := fun d b h1 h2 => by
    show bodyR (oSeq _ _ [some (.val (.str x)), none]) = _
    unfold read_screen_s1 read_screen_s2 read_screen_s3
    clear he hx hls sl
    generalize (splitL 10 x).dropLast.map D.str = u at *
    generalize lnF C7 = F at *
    generalize snF' = F2 at *
    generalize screenF = F3 at *
    walk_at "run"
  rcases sn_any (ls := (splitL 10 x).dropLast) hls (by rw [List.length_dropLast]; omega) with e | ⟨w, rows, y, hrw, e⟩
  · exact .inl (no .non true rfl e)
  · have f3 := fine3_any (w := w) (y := y) hrw
    cases hs : screen (.tup [.int (w : Int), .tup (rows.map .str), spotO y]) with
    | false =>
      have s : screenF [.tup [.int (w : Int), .tup (rows.map .str), spotO y]] = .ok (.bl false) := by
        have : screenF [.tup [.int (w : Int), .tup (rows.map .str), spotO y]] = .ok (.bl (screen (.tup [.int (w : Int), .tup (rows.map .str), spotO y]))) := if_pos f3
        rw [this, hs]
      exact .inl (no _ true s e)
    | true =>
      have s : screenF [.tup [.int (w : Int), .tup (rows.map .str), spotO y]] = .ok (.bl true) := by
        have : screenF [.tup [.int (w : Int), .tup (rows.map .str), spotO y]] = .ok (.bl (screen (.tup [.int (w : Int), .tup (rows.map .str), spotO y]))) := if_pos f3
        rw [this, hs]
      obtain ⟨t, ht⟩ := sx_any (C := C1) hs
      generalize D.tup [.int (w : Int), .tup (rows.map .str), spotO y] = d at *
      by_cases ht2 : t = x
      · subst ht2
        refine .inr ⟨d, ?_, ht⟩
        have q : (t == t) = true := by simp
        show bodyR (oSeq _ _ [some (.val (.str t)), none]) = _
        unfold read_screen_s1 read_screen_s2 read_screen_s3
        clear he hx hls sl no f3 hs
        generalize (splitL 10 t).dropLast.map D.str = u at *
        generalize lnF C7 = F at *
        generalize snF' = F2 at *
        generalize screenF = F3 at *
        generalize sxF C1 = F4 at *
        walk_at "run"
      · refine .inl ?_
        have q : (t == x) = false := by simpa using ht2
        show bodyR (oSeq _ _ [some (.val (.str x)), none]) = _
        unfold read_screen_s1 read_screen_s2 read_screen_s3
        clear he hx hls sl no f3 hs ht2
        generalize (splitL 10 x).dropLast.map D.str = u at *
        generalize lnF C7 = F at *
        generalize snF' = F2 at *
        generalize screenF = F3 at *
        generalize sxF C1 = F4 at *
        walk_at "run"
noncomputable def law_spoilt_s1 : Ev → O := (oSet 3 (g2 modD (fun ρ => rdV ρ 1) (g2 addD (gOf lenF (gACons (fun ρ => rdV ρ 0) (fun _ => R.ok []))) (fun _ => R.ok (D.int 1)))))
noncomputable def law_spoilt_s2 : Ev → O := (oSet 4 (g2 ixD (fun ρ => rdV ρ 2) (g2 modD (g2 fdivD (fun ρ => rdV ρ 1) (fun _ => R.ok (D.int 1000))) (gOf lenF (gACons (fun ρ => rdV ρ 2) (fun _ => R.ok []))))))
noncomputable def law_spoilt_s3 : Ev → O := (oSet 5 (g2 addD (g2 addD (fun ρ => rdV ρ 3) (fun _ => R.ok (D.int 1))) (g2 modD (g2 fdivD (fun ρ => rdV ρ 1) (fun _ => R.ok (D.int 7))) (fun _ => R.ok (D.int 9)))))
noncomputable def law_spoilt_s4 : Ev → O := (oSet 6 (g2 modD (g2 fdivD (fun ρ => rdV ρ 1) (fun _ => R.ok (D.int 100000))) (fun _ => R.ok (D.int 8))))
noncomputable def law_spoilt_s5 : Ev → O := (oIf (gB2 ltD (fun ρ => rdV ρ 6) (fun _ => R.ok (D.int 2))) (oSeq (oRet (g2 addD (g2 addD (gSl (fun ρ => rdV ρ 0) (fun _ => R.ok none) (gSome (fun ρ => rdV ρ 3))) (fun ρ => rdV ρ 4)) (gSl (fun ρ => rdV ρ 0) (gSome (fun ρ => rdV ρ 3)) (fun _ => R.ok none)))) oNx) oNx)
noncomputable def law_spoilt_s6 : Ev → O := (oIf (gB2 eqF (fun ρ => rdV ρ 6) (fun _ => R.ok (D.int 2))) (oSeq (oRet (g2 addD (gSl (fun ρ => rdV ρ 0) (fun _ => R.ok none) (gSome (fun ρ => rdV ρ 3))) (gSl (fun ρ => rdV ρ 0) (gSome (g2 addD (fun ρ => rdV ρ 3) (fun _ => R.ok (D.int 1)))) (fun _ => R.ok none)))) oNx) oNx)
noncomputable def law_spoilt_s7 : Ev → O := (oIf (gB2 ltD (fun ρ => rdV ρ 6) (fun _ => R.ok (D.int 5))) (oSeq (oRet (g2 addD (g2 addD (gSl (fun ρ => rdV ρ 0) (fun _ => R.ok none) (gSome (fun ρ => rdV ρ 3))) (fun ρ => rdV ρ 4)) (gSl (fun ρ => rdV ρ 0) (gSome (g2 addD (fun ρ => rdV ρ 3) (fun _ => R.ok (D.int 1)))) (fun _ => R.ok none)))) oNx) oNx)
noncomputable def law_spoilt_s8 : Ev → O := (oIf (gB2 eqF (fun ρ => rdV ρ 6) (fun _ => R.ok (D.int 5))) (oSeq (oRet (g2 addD (gSl (fun ρ => rdV ρ 0) (fun _ => R.ok none) (gSome (fun ρ => rdV ρ 3))) (gSl (fun ρ => rdV ρ 0) (gSome (fun ρ => rdV ρ 5)) (fun _ => R.ok none)))) oNx) oNx)
noncomputable def law_spoilt_s9 : Ev → O := (oIf (gB2 eqF (fun ρ => rdV ρ 6) (fun _ => R.ok (D.int 6))) (oSeq (oRet (g2 addD (gSl (fun ρ => rdV ρ 0) (fun _ => R.ok none) (gSome (fun ρ => rdV ρ 5))) (gSl (fun ρ => rdV ρ 0) (gSome (fun ρ => rdV ρ 3)) (fun _ => R.ok none)))) oNx) oNx)
noncomputable def law_spoilt_s10 : Ev → O := (oRet (g2 ixD (gFresh (gLst (gACons (g2 addD (fun ρ => rdV ρ 0) (fun _ => R.ok (D.str [32]))) (gACons (g2 addD (fun _ => R.ok (D.str [32])) (fun ρ => rdV ρ 0)) (gACons (g2 addD (gSl (fun ρ => rdV ρ 0) (gSome (fun ρ => rdV ρ 3)) (fun _ => R.ok none)) (gSl (fun ρ => rdV ρ 0) (fun _ => R.ok none) (gSome (fun ρ => rdV ρ 3)))) (gACons (fun _ => R.ok (D.str [])) (gACons (g2 addD (fun ρ => rdV ρ 0) (fun ρ => rdV ρ 0)) (fun _ => R.ok [])))))))) (g2 modD (fun ρ => rdV ρ 1) (fun _ => R.ok (D.int 5)))))
noncomputable def law_spoilt_all : Ev → O := (oSeq law_spoilt_s1 (oSeq law_spoilt_s2 (oSeq law_spoilt_s3 (oSeq law_spoilt_s4 (oSeq law_spoilt_s5 (oSeq law_spoilt_s6 (oSeq law_spoilt_s7 (oSeq law_spoilt_s8 (oSeq law_spoilt_s9 (oSeq law_spoilt_s10 oNx))))))))))
noncomputable def law_spoilt89 : List D → R D := fun ds => bodyR (law_spoilt_all (startE 7 ds))
theorem law_spoilt_ok89 : ∀ ds : List D, ds.length = 3 → law_spoilt89 ds = .no ∨ bodyR (law_spoilt_all (startE 7 ds)) = law_spoilt89 ds := fun _ _ => .inr rfl
noncomputable def law_s1 (F__law_told : R D → R D) (F__law_some : List D → R D) (F_screen_text : List D → R D) (F__law_cell : List D → R D) (F__law_pick : List D → R D) (F__law_spoilt : List D → R D) (F_read_screen : List D → R D) : Ev → O := (oSet 1 (gCall 1 F_screen_text (gACons (gCall 2 F__law_some (gACons (fun ρ => rdV ρ 0) (gACons (fun _ => R.ok (D.int 10)) (fun _ => R.ok [])))) (fun _ => R.ok []))))
noncomputable def law_s2 (F__law_told : R D → R D) (F__law_some : List D → R D) (F_screen_text : List D → R D) (F__law_cell : List D → R D) (F__law_pick : List D → R D) (F__law_spoilt : List D → R D) (F_read_screen : List D → R D) : Ev → O := (oParO 2 3 (gMeth "str" splitF (fun ρ => rdV ρ 1) (gACons (fun _ => R.ok (D.str [10])) (fun _ => R.ok []))) (gLst (gACons (fun ρ => rdV ρ 1) (fun _ => R.ok []))))
noncomputable def law_b3 (F__law_told : R D → R D) (F__law_some : List D → R D) (F_screen_text : List D → R D) (F__law_cell : List D → R D) (F__law_pick : List D → R D) (F__law_spoilt : List D → R D) (F_read_screen : List D → R D) : Ev → O := (oSeq (oSet 5 (g2 addD (g2 mulD (gCall 2 F__law_cell (gACons (fun ρ => rdV ρ 0) (gACons (g2 addD (fun _ => R.ok (D.int 700)) (fun ρ => rdV ρ 4)) (fun _ => R.ok [])))) (fun _ => R.ok (D.int 7919))) (gCall 3 F__law_pick (gACons (fun ρ => rdV ρ 0) (gACons (g2 addD (fun _ => R.ok (D.int 720)) (fun ρ => rdV ρ 4)) (gACons (fun _ => R.ok (D.int 999983)) (fun _ => R.ok []))))))) (oSeq (oApp 3 (gCall 3 F__law_spoilt (gACons (fun ρ => rdV ρ 1) (gACons (fun ρ => rdV ρ 5) (gACons (fun _ => R.ok (D.str [48, 49, 50, 51, 124, 32, 97, 98, 35, 10])) (fun _ => R.ok [])))))) (oSeq (oSet 6 (gCall 3 F__law_pick (gACons (fun ρ => rdV ρ 0) (gACons (g2 addD (fun _ => R.ok (D.int 740)) (fun ρ => rdV ρ 4)) (gACons (gOf lenF (gACons (fun ρ => rdV ρ 2) (fun _ => R.ok []))) (fun _ => R.ok [])))))) (oSeq (oSet 7 (gSl (fun ρ => rdV ρ 2) (gSome (fun ρ => rdV ρ 6)) (gSome (g2 addD (fun ρ => rdV ρ 6) (fun _ => R.ok (D.int 2)))))) (oSeq (oApp 3 (gMeth "str" joinD (fun _ => R.ok (D.str [10])) (gACons (g2 addD (gSl (fun ρ => rdV ρ 2) (fun _ => R.ok none) (gSome (fun ρ => rdV ρ 6))) (gSl (fun ρ => rdV ρ 2) (gSome (g2 addD (fun ρ => rdV ρ 6) (fun _ => R.ok (D.int 1)))) (fun _ => R.ok none))) (fun _ => R.ok [])))) (oSeq (oApp 3 (gMeth "str" joinD (fun _ => R.ok (D.str [10])) (gACons (g2 addD (gSl (fun ρ => rdV ρ 2) (fun _ => R.ok none) (gSome (g2 addD (fun ρ => rdV ρ 6) (fun _ => R.ok (D.int 1))))) (gSl (fun ρ => rdV ρ 2) (gSome (fun ρ => rdV ρ 6)) (fun _ => R.ok none))) (fun _ => R.ok [])))) (oSeq (oApp 3 (gMeth "str" joinD (fun _ => R.ok (D.str [10])) (gACons (g2 addD (g2 addD (gSl (fun ρ => rdV ρ 2) (fun _ => R.ok none) (gSome (fun ρ => rdV ρ 6))) (gRev (fun ρ => rdV ρ 7) (gThen negD (fun _ => R.ok (D.int 1))))) (gSl (fun ρ => rdV ρ 2) (gSome (g2 addD (fun ρ => rdV ρ 6) (fun _ => R.ok (D.int 2)))) (fun _ => R.ok none))) (fun _ => R.ok [])))) oNx)))))))
noncomputable def law_s4 (F__law_told : R D → R D) (F__law_some : List D → R D) (F_screen_text : List D → R D) (F__law_cell : List D → R D) (F__law_pick : List D → R D) (F__law_spoilt : List D → R D) (F_read_screen : List D → R D) : Ev → O := (oFor (setV 4) (gThen rangeD1 (gACons (fun _ => R.ok (D.int 5)) (fun _ => R.ok []))) (law_b3 F__law_told F__law_some F_screen_text F__law_cell F__law_pick F__law_spoilt F_read_screen))
noncomputable def law_b5 (F__law_told : R D → R D) (F__law_some : List D → R D) (F_screen_text : List D → R D) (F__law_cell : List D → R D) (F__law_pick : List D → R D) (F__law_spoilt : List D → R D) (F_read_screen : List D → R D) : Ev → O := (oSeq (oSet 9 (gTold F__law_told [8] (gCall 1 F_screen_text (gACons (gCall 1 F_read_screen (gACons (fun ρ => rdV ρ 0) (fun _ => R.ok []))) (fun _ => R.ok []))))) (oSeq (oIf (tAndB (gB2 neF (fun ρ => rdV ρ 9) (fun ρ => rdV ρ 8)) (gB2 neF (fun ρ => rdV ρ 9) (fun _ => R.ok (D.str [110, 111, 32, 116, 101, 120, 116])))) (oSeq (oRet (fun _ => R.ok (D.bl false))) oNx) oNx) oNx))
noncomputable def law_s6 (F__law_told : R D → R D) (F__law_some : List D → R D) (F_screen_text : List D → R D) (F__law_cell : List D → R D) (F__law_pick : List D → R D) (F__law_spoilt : List D → R D) (F_read_screen : List D → R D) : Ev → O := (oFor (setV 8) (gThen itemsD (fun ρ => rdV ρ 3)) (law_b5 F__law_told F__law_some F_screen_text F__law_cell F__law_pick F__law_spoilt F_read_screen))
noncomputable def law_s7 (F__law_told : R D → R D) (F__law_some : List D → R D) (F_screen_text : List D → R D) (F__law_cell : List D → R D) (F__law_pick : List D → R D) (F__law_spoilt : List D → R D) (F_read_screen : List D → R D) : Ev → O := (oSet 10 (gFresh (gLst (gACons (fun _ => R.ok (D.str [124, 97, 124, 10, 48, 32, 49, 10])) (gACons (fun _ => R.ok (D.str [124, 124, 124, 10, 48, 32, 48, 10])) (gACons (fun _ => R.ok (D.str [124, 97, 98, 124, 10, 124, 32, 99, 124, 10, 49, 32, 50, 10])) (gACons (g2 addD (g2 addD (fun _ => R.ok (D.str [124])) (g2 mulD (fun _ => R.ok (D.str [120])) (fun _ => R.ok (D.int 40)))) (fun _ => R.ok (D.str [124, 10, 48, 32, 52, 48, 10]))) (gACons (g2 addD (g2 mulD (fun _ => R.ok (D.str [124, 90, 124, 10])) (fun _ => R.ok (D.int 11))) (fun _ => R.ok (D.str [49, 48, 32, 49, 10]))) (fun _ => R.ok [])))))))))
noncomputable def law_s8 (F__law_told : R D → R D) (F__law_some : List D → R D) (F_screen_text : List D → R D) (F__law_cell : List D → R D) (F__law_pick : List D → R D) (F__law_spoilt : List D → R D) (F_read_screen : List D → R D) : Ev → O := (oIf (tOrB (gB2 neF (gFresh (gComp (gThen itemsD (fun ρ => rdV ρ 10)) [] (fun _ => R.ok true) (gCall 1 F_screen_text (gACons (gCall 1 F_read_screen (gACons (fun ρ => rdV ρ 0) (fun _ => R.ok []))) (fun _ => R.ok []))))) (fun ρ => rdV ρ 10)) (gB2 neF (gCall 1 F_read_screen (gACons (g2 ixD (fun ρ => rdV ρ 10) (fun _ => R.ok (D.int 1))) (fun _ => R.ok []))) (gThen mkT (gACons (fun _ => R.ok (D.int 1)) (gACons (gThen mkT (gACons (fun _ => R.ok (D.str [124])) (fun _ => R.ok []))) (gACons (gThen mkT (gACons (fun _ => R.ok (D.int 0)) (gACons (fun _ => R.ok (D.int 0)) (fun _ => R.ok [])))) (fun _ => R.ok []))))))) (oSeq (oRet (fun _ => R.ok (D.bl false))) oNx) oNx)
noncomputable def law_s9 (F__law_told : R D → R D) (F__law_some : List D → R D) (F_screen_text : List D → R D) (F__law_cell : List D → R D) (F__law_pick : List D → R D) (F__law_spoilt : List D → R D) (F_read_screen : List D → R D) : Ev → O := (oOwn 11 (gLst (gACons (fun _ => R.ok (D.str [])) (gACons (fun _ => R.ok (D.str [10])) (gACons (fun _ => R.ok (D.str [124, 97, 124, 10])) (gACons (fun _ => R.ok (D.str [124, 97, 124, 10, 48, 32, 49])) (gACons (fun _ => R.ok (D.str [124, 97, 124, 10, 48, 32, 50, 10])) (gACons (fun _ => R.ok (D.str [124, 97, 124, 10, 49, 32, 48, 10])) (gACons (fun _ => R.ok (D.str [124, 124, 10, 48, 32, 48, 10])) (gACons (fun _ => R.ok (D.str [97, 10, 48, 32, 48, 10])) (fun _ => R.ok [])))))))))))
noncomputable def law_s10 (F__law_told : R D → R D) (F__law_some : List D → R D) (F_screen_text : List D → R D) (F__law_cell : List D → R D) (F__law_pick : List D → R D) (F__law_spoilt : List D → R D) (F_read_screen : List D → R D) : Ev → O := (oExt 11 (gFresh (gLst (gACons (fun _ => R.ok (D.str [124, 97, 10, 48, 32, 48, 10])) (gACons (fun _ => R.ok (D.str [97, 124, 10, 48, 32, 48, 10])) (fun _ => R.ok []))))))
noncomputable def law_s11 (F__law_told : R D → R D) (F__law_some : List D → R D) (F_screen_text : List D → R D) (F__law_cell : List D → R D) (F__law_pick : List D → R D) (F__law_spoilt : List D → R D) (F_read_screen : List D → R D) : Ev → O := (oExt 11 (gFresh (gLst (gACons (fun _ => R.ok (D.str [124, 97, 98, 124, 10, 124, 99, 124, 10, 48, 32, 48, 10])) (gACons (fun _ => R.ok (D.str [124, 97, 124, 10, 48, 48, 32, 48, 10])) (gACons (fun _ => R.ok (D.str [124, 97, 124, 10, 48, 32, 48, 32, 10])) (gACons (fun _ => R.ok (D.str [124, 97, 124, 10, 48, 32, 32, 48, 10])) (gACons (fun _ => R.ok (D.str [124, 97, 124, 10, 10, 48, 32, 48, 10])) (fun _ => R.ok [])))))))))
noncomputable def law_s12 (F__law_told : R D → R D) (F__law_some : List D → R D) (F_screen_text : List D → R D) (F__law_cell : List D → R D) (F__law_pick : List D → R D) (F__law_spoilt : List D → R D) (F_read_screen : List D → R D) : Ev → O := (oExt 11 (gFresh (gLst (gACons (fun _ => R.ok (D.str [124, 97, 124, 10, 48, 32, 48, 10, 10])) (gACons (fun _ => R.ok (D.str [48, 32, 48, 10])) (gACons (fun _ => R.ok D.non) (gACons (fun _ => R.ok (D.int 5)) (fun _ => R.ok []))))))))
noncomputable def law_s13 (F__law_told : R D → R D) (F__law_some : List D → R D) (F_screen_text : List D → R D) (F__law_cell : List D → R D) (F__law_pick : List D → R D) (F__law_spoilt : List D → R D) (F_read_screen : List D → R D) : Ev → O := (oExt 11 (gFresh (gLst (gACons (gThen mkT (gACons (g2 ixD (fun ρ => rdV ρ 10) (fun _ => R.ok (D.int 0))) (fun _ => R.ok []))) (gACons (fun _ => R.ok (D.str [124, 9, 124, 10, 48, 32, 48, 10])) (gACons (fun _ => R.ok (D.str [124, 97, 124, 10, 45, 48, 32, 48, 10])) (gACons (g2 addD (g2 mulD (fun _ => R.ok (D.str [124, 97, 124, 10])) (fun _ => R.ok (D.int 13))) (fun _ => R.ok (D.str [48, 32, 48, 10]))) (fun _ => R.ok []))))))))
noncomputable def law_s14 (F__law_told : R D → R D) (F__law_some : List D → R D) (F_screen_text : List D → R D) (F__law_cell : List D → R D) (F__law_pick : List D → R D) (F__law_spoilt : List D → R D) (F_read_screen : List D → R D) : Ev → O := (oExt 11 (gFresh (gLst (gACons (g2 addD (g2 addD (fun _ => R.ok (D.str [124])) (g2 mulD (fun _ => R.ok (D.str [120])) (fun _ => R.ok (D.int 41)))) (fun _ => R.ok (D.str [124, 10, 48, 32, 48, 10]))) (gACons (fun _ => R.ok (D.str [124, 97, 124, 10, 48, 10])) (fun _ => R.ok []))))))
noncomputable def law_s15 (F__law_told : R D → R D) (F__law_some : List D → R D) (F_screen_text : List D → R D) (F__law_cell : List D → R D) (F__law_pick : List D → R D) (F__law_spoilt : List D → R D) (F_read_screen : List D → R D) : Ev → O := (oRet (g2 eqF (gFresh (gComp (gThen itemsD (fun ρ => rdV ρ 11)) [] (fun _ => R.ok true) (gTold F__law_told [0] (gCall 1 F_read_screen (gACons (fun ρ => rdV ρ 0) (fun _ => R.ok [])))))) (g2 mulD (gFresh (gLst (gACons (fun _ => R.ok (D.str [110, 111, 32, 116, 101, 120, 116])) (fun _ => R.ok [])))) (fun _ => R.ok (D.int 25)))))
noncomputable def law_all (F__law_told : R D → R D) (F__law_some : List D → R D) (F_screen_text : List D → R D) (F__law_cell : List D → R D) (F__law_pick : List D → R D) (F__law_spoilt : List D → R D) (F_read_screen : List D → R D) : Ev → O := (oSeq (law_s1 F__law_told F__law_some F_screen_text F__law_cell F__law_pick F__law_spoilt F_read_screen) (oSeq (law_s2 F__law_told F__law_some F_screen_text F__law_cell F__law_pick F__law_spoilt F_read_screen) (oSeq (law_s4 F__law_told F__law_some F_screen_text F__law_cell F__law_pick F__law_spoilt F_read_screen) (oFrz 3 (oSeq (law_s6 F__law_told F__law_some F_screen_text F__law_cell F__law_pick F__law_spoilt F_read_screen) (oSeq (law_s7 F__law_told F__law_some F_screen_text F__law_cell F__law_pick F__law_spoilt F_read_screen) (oSeq (law_s8 F__law_told F__law_some F_screen_text F__law_cell F__law_pick F__law_spoilt F_read_screen) (oSeq (law_s9 F__law_told F__law_some F_screen_text F__law_cell F__law_pick F__law_spoilt F_read_screen) (oSeq (law_s10 F__law_told F__law_some F_screen_text F__law_cell F__law_pick F__law_spoilt F_read_screen) (oSeq (law_s11 F__law_told F__law_some F_screen_text F__law_cell F__law_pick F__law_spoilt F_read_screen) (oSeq (law_s12 F__law_told F__law_some F_screen_text F__law_cell F__law_pick F__law_spoilt F_read_screen) (oSeq (law_s13 F__law_told F__law_some F_screen_text F__law_cell F__law_pick F__law_spoilt F_read_screen) (oSeq (law_s14 F__law_told F__law_some F_screen_text F__law_cell F__law_pick F__law_spoilt F_read_screen) (oFrz 11 (oSeq (law_s15 F__law_told F__law_some F_screen_text F__law_cell F__law_pick F__law_spoilt F_read_screen) oNx)))))))))))))))
theorem jn89 {ss : List (List Nat)} (h1 : ss.length ≤ 18) (h2 : ∀ s ∈ ss, s.length ≤ 50) (f : Bool) : ∃ t, joinD (.str [10]) [.lst f (ss.map .str)] = some (.str t) ∧ t.length ≤ 1000 := by
  have lb := line_20k
  have hs : (ss.map List.length).sum ≤ 50 * ss.length := by
    clear h1
    induction ss with
    | nil => simp
    | cons a ss ih =>
      have := ih fun s hs => h2 s (List.mem_cons_of_mem _ hs)
      have := h2 a (List.mem_cons_self ..)
      simp only [List.map_cons, List.sum_cons, List.length_cons]
      omega
  have sd : ∀ l : List (List Nat), L2.strsD (l.map .str) = some l := fun l => by
    induction l with
    | nil => rfl
    | cons a l ih => rw [List.map_cons]; show (L2.strsD (l.map D.str)).map (a :: ·) = _; rw [ih]; rfl
  refine ⟨joinL [10] ss, ?_, ?_⟩
  · have : joinD (.str [10]) [.lst f (ss.map .str)] = (match L2.strsD (ss.map .str) with
      | some xs => if (xs.map List.length).sum + xs.length * [10].length ≤ sizeLine then some (.str (joinL [10] xs)) else none
      | none => none) := rfl
    rw [this, sd]
    dsimp only
    rw [if_pos (by simp only [List.length_singleton]; omega)]
  · have := joinL_length [10] ss
    simp only [List.length_singleton] at this
    omega
theorem sadd89 {a b : List Nat} (h : a.length ≤ 200) (h' : b.length ≤ 200) : addD (.str a) (.str b) = some (.str (a ++ b)) := by
  have lb := line_20k
  exact if_pos (by omega)
theorem md89 {i j : Int} (h : 0 < j) : modD (.int i) (.int j) = some (.int (i % j)) := by
  simp only [modD]
  rw [if_pos h]
theorem fd89 {i j : Int} (h : 0 < j ∧ j < 1073741824) : fdivD (.int i) (.int j) = some (.int (i / j)) := by
  simp only [fdivD]
  rw [if_pos h]
noncomputable def sg89 : List Nat := [48, 49, 50, 51, 124, 32, 97, 98, 35, 10]
theorem sp89 {x : List Nat} (hx : x.length ≤ 60) (c : Int) : ∃ t, law_spoilt89 [.str x, .int c, .str sg89] = .ok (.str t) ∧ t.length ≤ 1000 := by
  have lb := line_20k
  have m1 : modD (.int c) (.int ((x.length : Int) + 1)) = some (.int (c % ((x.length : Int) + 1))) := md89 (by omega)
  have d1 : fdivD (.int c) (.int 1000) = some (.int (c / 1000)) := fd89 (by omega)
  have d2 : fdivD (.int c) (.int 7) = some (.int (c / 7)) := fd89 (by omega)
  have d3 : fdivD (.int c) (.int 100000) = some (.int (c / 100000)) := fd89 (by omega)
  have m2 : modD (.int (c / 1000)) (.int 10) = some (.int (c / 1000 % 10)) := md89 (by omega)
  have m3 : modD (.int (c / 7)) (.int 9) = some (.int (c / 7 % 9)) := md89 (by omega)
  have m4 : modD (.int (c / 100000)) (.int 8) = some (.int (c / 100000 % 8)) := md89 (by omega)
  have m5 : modD (.int c) (.int 5) = some (.int (c % 5)) := md89 (by omega)
  have sl : lenF [.str sg89] = some (.int 10) := rfl
  obtain ⟨s, ss⟩ : ∃ s, ixD (.str sg89) (.int (c / 1000 % 10)) = some (.str [s]) := by
    obtain ⟨k, hk⟩ := Int.eq_ofNat_of_zero_le (a := c / 1000 % 10) (by omega)
    have k10 : k < 10 := by omega
    rw [hk]
    clear hk
    match k, k10 with
    | 0, _ => exact ⟨_, rfl⟩
    | 1, _ => exact ⟨_, rfl⟩
    | 2, _ => exact ⟨_, rfl⟩
    | 3, _ => exact ⟨_, rfl⟩
    | 4, _ => exact ⟨_, rfl⟩
    | 5, _ => exact ⟨_, rfl⟩
    | 6, _ => exact ⟨_, rfl⟩
    | 7, _ => exact ⟨_, rfl⟩
    | 8, _ => exact ⟨_, rfl⟩
    | 9, _ => exact ⟨_, rfl⟩
    | n + 10, h => exact absurd h (by omega)
  have ax := cutL_le x
  generalize c % ((x.length : Int) + 1) = at_ at *
  have w1 : 0 ≤ c / 100000 % 8 := by omega
  have w2 : c / 100000 % 8 < 8 := by omega
  have c1 : 0 ≤ c % 5 := by omega
  have c2 : c % 5 < 5 := by omega
  generalize c / 1000 % 10 = si at *
  generalize c / 7 % 9 = on_ at *
  generalize c / 100000 % 8 = way at *
  generalize c % 5 = c5 at *
  have l1 := ax none (some at_)
  have l2 := ax (some at_) none
  have l3 := ax (some (at_ + 1)) none
  have l4 := ax (some (at_ + 1 + on_)) none
  have l5 := ax none (some (at_ + 1 + on_))
  have z5 : 5 ≤ sizeLine := by omega
  clear ax
  generalize e1 : cutL x none (some at_) = A1 at *
  generalize e2 : cutL x (some at_) none = A2 at *
  generalize e3 : cutL x (some (at_ + 1)) none = A3 at *
  generalize e4 : cutL x (some (at_ + 1 + on_)) none = A4 at *
  generalize e5 : cutL x none (some (at_ + 1 + on_)) = A5 at *
  have p1 := sadd89 (a := A1) (b := [s]) (by omega) (by simp)
  have p2 := sadd89 (a := A1 ++ [s]) (b := A2) (by simp; omega) (by omega)
  have p3 := sadd89 (a := A1) (b := A3) (by omega) (by omega)
  have p4 := sadd89 (a := A1 ++ [s]) (b := A3) (by simp; omega) (by omega)
  have p5 := sadd89 (a := A1) (b := A4) (by omega) (by omega)
  have p6 := sadd89 (a := A5) (b := A2) (by omega) (by omega)
  have p7 := sadd89 (a := x) (b := [32]) (by omega) (by simp)
  have p8 := sadd89 (a := [32]) (b := x) (by simp) (by omega)
  have p9 := sadd89 (a := A2) (b := A1) (by omega) (by omega)
  have p10 := sadd89 (a := x) (b := x) (by omega) (by omega)
  have st : ∀ (a b : D), bodyR (law_spoilt_all [some (.val (.str x)), some (.val (.int c)), some (.val (.str sg89)), none, none, none, none]) = law_spoilt89 [.str x, .int c, .str sg89] := fun _ _ => rfl
  rw [← st .non .non]
  clear st
  unfold law_spoilt_all law_spoilt_s1 law_spoilt_s2 law_spoilt_s3 law_spoilt_s4 law_spoilt_s5 law_spoilt_s6 law_spoilt_s7 law_spoilt_s8 law_spoilt_s9 law_spoilt_s10
  generalize sg89 = sg at *
  by_cases h1 : way < 2
  · refine ⟨A1 ++ [s] ++ A2, ?_, by simp; omega⟩
    have q : decide (way < 2) = true := decide_eq_true h1
    clear p3 p4 p5 p6 p7 p8 p9 p10 l1 l2 l3 l4 l5 lb hx w1 w2 c1 c2 h1
    walk_at "run"
  have q1 : decide (way < 2) = false := decide_eq_false h1
  by_cases h2 : way = 2
  · refine ⟨A1 ++ A3, ?_, by simp; omega⟩
    have q : (way == 2) = true := by simpa using h2
    clear p1 p2 p4 p5 p6 p7 p8 p9 p10 l1 l2 l3 l4 l5 lb hx w1 w2 c1 c2 h1 h2
    walk_at "run"
  have q2 : (way == 2) = false := by simpa using h2
  by_cases h3 : way < 5
  · refine ⟨A1 ++ [s] ++ A3, ?_, by simp; omega⟩
    have q : decide (way < 5) = true := decide_eq_true h3
    clear p2 p3 p5 p6 p7 p8 p9 p10 l1 l2 l3 l4 l5 lb hx w1 w2 c1 c2 h1 h2 h3
    walk_at "run"
  have q3 : decide (way < 5) = false := decide_eq_false h3
  by_cases h4 : way = 5
  · refine ⟨A1 ++ A4, ?_, by simp; omega⟩
    have q : (way == 5) = true := by simpa using h4
    clear p1 p2 p3 p4 p6 p7 p8 p9 p10 l1 l2 l3 l4 l5 lb hx w1 w2 c1 c2 h1 h2 h3 h4
    walk_at "run"
  have q4 : (way == 5) = false := by simpa using h4
  by_cases h5 : way = 6
  · refine ⟨A5 ++ A2, ?_, by simp; omega⟩
    have q : (way == 6) = true := by simpa using h5
    clear p1 p2 p3 p4 p5 p7 p8 p9 p10 l1 l2 l3 l4 l5 lb hx w1 w2 c1 c2 h1 h2 h3 h4 h5
    walk_at "run"
  have q5 : (way == 6) = false := by simpa using h5
  obtain ⟨t, ht, tl⟩ : ∃ t, ixD (.lst false [.str (x ++ [32]), .str ([32] ++ x), .str (A2 ++ A1), .str [], .str (x ++ x)]) (.int c5) = some (.str t) ∧ t.length ≤ 1000 := by
    obtain ⟨k, rfl⟩ := Int.eq_ofNat_of_zero_le c1
    have k5 : k < 5 := by omega
    match k, k5 with
    | 0, _ => exact ⟨_, rfl, by simp; omega⟩
    | 1, _ => exact ⟨_, rfl, by simp; omega⟩
    | 2, _ => exact ⟨_, rfl, by simp; omega⟩
    | 3, _ => exact ⟨_, rfl, by simp⟩
    | 4, _ => exact ⟨_, rfl, by simp; omega⟩
    | n + 5, h => exact absurd h (by omega)
  refine ⟨t, ?_, tl⟩
  clear p1 p2 p3 p4 p5 p6 l1 l2 l3 l4 l5 lb hx w1 w2 c1 c2 h1 h2 h3 h4 h5 tl
  generalize x ++ [32] = u1 at *
  generalize [32] ++ x = u2 at *
  generalize A2 ++ A1 = u3 at *
  generalize x ++ x = u4 at *
  walk_at "run"
theorem cut_map {α β : Type} (f : α → β) (xs : List α) (lo hi : Option Int) : cutL (xs.map f) lo hi = (cutL xs lo hi).map f := by
  unfold cutL
  rw [List.length_map, List.map_take, List.map_drop]
theorem cut_mem {α : Type} {xs : List α} {lo hi : Option Int} {a : α} (h : a ∈ cutL xs lo hi) : a ∈ xs := by
  unfold cutL at h
  exact List.mem_of_mem_drop (List.mem_of_mem_take h)
noncomputable def SS (d : D) : Prop := ∃ t, d = .str t ∧ t.length ≤ 1000
theorem ladd89 {a b : List (List Nat)} (h : a.length ≤ 100) (h' : b.length ≤ 100) : addD (.lst false (a.map .str)) (.lst false (b.map .str)) = some (.lst false ((a ++ b).map .str)) := by
  have lb := line_20k
  have : addD (.lst false (a.map .str)) (.lst false (b.map .str)) = some (.lst false (a.map .str ++ b.map .str)) := if_pos (by simp; omega)
  rw [this, List.map_append]
section
variable {T : R D → R D} {F1 F2 F6 : List D → R D} (ns : List Int) (fz : Bool)
noncomputable def st89 (S x1 x2 x3 x4 x5 x6 x7 x8 x9 x10 x11 : Option Sl) : Ev := [S, x1, x2, x3, x4, x5, x6, x7, x8, x9, x10, x11]
theorem b3_89 {x : List Nat} (hx : x.length ≤ 50) {rs : List (List Nat)} (r1 : 1 ≤ rs.length) (r2 : rs.length ≤ 6) (hr : ∀ s ∈ rs, s.length ≤ 50) (k : Nat) (hk : k ≤ 100) {ds : List D} (hd : ∀ d ∈ ds, SS d) (hl : ds.length ≤ 100) (x5 x6 x7 x8 x9 x10 x11 : Option Sl) :
    ∃ ds' y5 y6 y7, (∀ d ∈ ds', SS d) ∧ ds'.length = ds.length + 4 ∧ law_b3 T F1 F2 cellF pickF law_spoilt89 F6 (st89 (some (.val (.lst fz (ns.map .int)))) (some (.val (.str x))) (some (.val (.lst false (rs.map .str)))) (some (.own ds)) (some (.val (.int (k : Int)))) x5 x6 x7 x8 x9 x10 x11) = .nx (st89 (some (.val (.lst fz (ns.map .int)))) (some (.val (.str x))) (some (.val (.lst false (rs.map .str)))) (some (.own ds')) (some (.val (.int (k : Int)))) y5 y6 y7 x8 x9 x10 x11) := by
  have lb := line_20k
  have c1 : cellF [.lst fz (ns.map .int), .int (700 + (k : Int))] = .ok (.int (cell ns (700 + k))) := cellF_nat (n := 700 + k)
  have c2 : pickF [.lst fz (ns.map .int), .int (720 + (k : Int)), .int 999983] = .ok (.int (pick ns (720 + k) 999983)) := pickF_nat (n := 720 + k) (by decide)
  have c3 : pickF [.lst fz (ns.map .int), .int (740 + (k : Int)), .int ((rs.map D.str).length : Int)] = .ok (.int (pick ns (740 + k) ((rs.map D.str).length : Int))) := pickF_nat (n := 740 + k) (by simp; omega)
  generalize cell ns (700 + k) = ce at *
  generalize pick ns (720 + k) 999983 = pk at *
  generalize pick ns (740 + k) ((rs.map D.str).length : Int) = at_ at *
  generalize D.lst fz (ns.map .int) = S at *
  have mm : mulD (.int ce) (.int 7919) = some (.int (ce * 7919)) := by
    simp only [mulD]
    rw [if_pos (by right; decide)]
  obtain ⟨t0, s0, l0⟩ := sp89 (x := x) (by omega) (ce * 7919 + pk)
  have le : ∀ lo hi, (cutL rs lo hi).length ≤ 6 := fun lo hi => by have := cutL_le rs lo hi; omega
  have me : ∀ lo hi, ∀ s ∈ cutL rs lo hi, s.length ≤ 50 := fun lo hi s h => hr s (cut_mem h)
  have k1 := cut_map D.str rs none (some at_)
  have k2 := cut_map D.str rs (some (at_ + 1)) none
  have k3 := cut_map D.str rs none (some (at_ + 1))
  have k4 := cut_map D.str rs (some at_) none
  have k5 := cut_map D.str rs (some (at_ + 2)) none
  have k6 := cut_map D.str rs (some at_) (some (at_ + 2))
  have l1 := le none (some at_)
  have l2 := le (some (at_ + 1)) none
  have l3 := le none (some (at_ + 1))
  have l4 := le (some at_) none
  have l5 := le (some (at_ + 2)) none
  have l6 := le (some at_) (some (at_ + 2))
  have n1 := me none (some at_)
  have n2 := me (some (at_ + 1)) none
  have n3 := me none (some (at_ + 1))
  have n4 := me (some at_) none
  have n5 := me (some (at_ + 2)) none
  have n6 := me (some at_) (some (at_ + 2))
  clear le me
  generalize cutL rs none (some at_) = a1 at *
  generalize cutL rs (some (at_ + 1)) none = a2 at *
  generalize cutL rs none (some (at_ + 1)) = a3 at *
  generalize cutL rs (some at_) none = a4 at *
  generalize cutL rs (some (at_ + 2)) none = a5 at *
  generalize cutL rs (some at_) (some (at_ + 2)) = a6 at *
  have ad1 := ladd89 (a := a1) (b := a2) (by omega) (by omega)
  have ad2 := ladd89 (a := a3) (b := a4) (by omega) (by omega)
  have ad3 := ladd89 (a := a1) (b := a6.reverse) (by omega) (by rw [List.length_reverse]; omega)
  have ad4 := ladd89 (a := a1 ++ a6.reverse) (b := a5) (by simp; omega) (by omega)
  have rv : (a6.map D.str).reverse = a6.reverse.map D.str := by rw [List.map_reverse]
  obtain ⟨t1, j1, m1⟩ := jn89 (ss := a1 ++ a2) (by simp; omega) (fun s h => (List.mem_append.1 h).elim (n1 s) (n2 s)) false
  obtain ⟨t2, j2, m2⟩ := jn89 (ss := a3 ++ a4) (by simp; omega) (fun s h => (List.mem_append.1 h).elim (n3 s) (n4 s)) false
  obtain ⟨t3, j3, m3⟩ := jn89 (ss := a1 ++ a6.reverse ++ a5) (by simp; omega) (fun s h => by
    rcases List.mem_append.1 h with h | h
    · rcases List.mem_append.1 h with h | h
      · exact n1 s h
      · exact n6 s (List.mem_reverse.1 h)
    · exact n5 s h) false
  refine ⟨ds ++ [.str t0] ++ [.str t1] ++ [.str t2] ++ [.str t3], some (.val (.int (ce * 7919 + pk))), some (.val (.int at_)), some (.val (.lst false (a6.map .str))), ?_, by simp, ?_⟩
  · intro d h
    simp only [List.mem_append, List.mem_singleton] at h
    rcases h with (((h | h) | h) | h) | h
    · exact hd d h
    · exact ⟨_, h, l0⟩
    · exact ⟨_, h, m1⟩
    · exact ⟨_, h, m2⟩
    · exact ⟨_, h, m3⟩
  have z0 : ds.length < sizeLine := by omega
  have z1 : (ds ++ [D.str t0]).length < sizeLine := by simp; omega
  have z2 : (ds ++ [D.str t0] ++ [D.str t1]).length < sizeLine := by simp; omega
  have z3 : (ds ++ [D.str t0] ++ [D.str t1] ++ [D.str t2]).length < sizeLine := by simp; omega
  have o3 : ∀ (a b c : Option Sl) (ds : List D) (ρ : Ev), ownAt (a :: b :: c :: some (.own ds) :: ρ) 3 = .ok ds := fun _ _ _ _ _ => rfl
  have ng1 : negD (.int 1) = .ok (.int (-1)) := rfl
  have kd : ∀ y, kindD "str" (.str y) = true := fun _ => rfl
  have sgd : sg89 = [48, 49, 50, 51, 124, 32, 97, 98, 35, 10] := rfl
  rw [sgd] at s0
  unfold st89 law_b3
  clear lb n1 n2 n3 n4 n5 n6 l1 l2 l3 l4 l5 l6 l0 m1 m2 m3 hd hl hx r1 r2 hr hk sgd
  walk_at "run"
end
noncomputable def bad89 : List D := [.str [], .str [10], .str [124, 97, 124, 10], .str [124, 97, 124, 10, 48, 32, 49], .str [124, 97, 124, 10, 48, 32, 50, 10], .str [124, 97, 124, 10, 49, 32, 48, 10], .str [124, 124, 10, 48, 32, 48, 10], .str [97, 10, 48, 32, 48, 10], .str [124, 97, 10, 48, 32, 48, 10], .str [97, 124, 10, 48, 32, 48, 10], .str [124, 97, 98, 124, 10, 124, 99, 124, 10, 48, 32, 48, 10], .str [124, 97, 124, 10, 48, 48, 32, 48, 10], .str [124, 97, 124, 10, 48, 32, 48, 32, 10], .str [124, 97, 124, 10, 48, 32, 32, 48, 10], .str [124, 97, 124, 10, 10, 48, 32, 48, 10], .str [124, 97, 124, 10, 48, 32, 48, 10, 10], .str [48, 32, 48, 10], .non, .int 5, .tup [.str [124, 97, 124, 10, 48, 32, 49, 10]], .str [124, 9, 124, 10, 48, 32, 48, 10], .str [124, 97, 124, 10, 45, 48, 32, 48, 10], .str [124, 97, 124, 10, 124, 97, 124, 10, 124, 97, 124, 10, 124, 97, 124, 10, 124, 97, 124, 10, 124, 97, 124, 10, 124, 97, 124, 10, 124, 97, 124, 10, 124, 97, 124, 10, 124, 97, 124, 10, 124, 97, 124, 10, 124, 97, 124, 10, 124, 97, 124, 10, 48, 32, 48, 10], .str [124, 120, 120, 120, 120, 120, 120, 120, 120, 120, 120, 120, 120, 120, 120, 120, 120, 120, 120, 120, 120, 120, 120, 120, 120, 120, 120, 120, 120, 120, 120, 120, 120, 120, 120, 120, 120, 120, 120, 120, 120, 120, 124, 10, 48, 32, 48, 10], .str [124, 97, 124, 10, 48, 10]]
section
variable {Cs Ct : Addr}
theorem bad89_0 : rdF Cs Ct [.str []] = .ex Ct := rfl
theorem bad89_1 : rdF Cs Ct [.str [10]] = .ex Ct := rfl
theorem bad89_2 : rdF Cs Ct [.str [124, 97, 124, 10]] = .ex Ct := rfl
theorem bad89_3 : rdF Cs Ct [.str [124, 97, 124, 10, 48, 32, 49]] = .ex Ct := rfl
theorem bad89_4 : rdF Cs Ct [.str [124, 97, 124, 10, 48, 32, 50, 10]] = .ex Ct := rfl
theorem bad89_5 : rdF Cs Ct [.str [124, 97, 124, 10, 49, 32, 48, 10]] = .ex Ct := rfl
theorem bad89_6 : rdF Cs Ct [.str [124, 124, 10, 48, 32, 48, 10]] = .ex Ct := rfl
theorem bad89_7 : rdF Cs Ct [.str [97, 10, 48, 32, 48, 10]] = .ex Ct := rfl
theorem bad89_8 : rdF Cs Ct [.str [124, 97, 10, 48, 32, 48, 10]] = .ex Ct := rfl
theorem bad89_9 : rdF Cs Ct [.str [97, 124, 10, 48, 32, 48, 10]] = .ex Ct := rfl
theorem bad89_10 : rdF Cs Ct [.str [124, 97, 98, 124, 10, 124, 99, 124, 10, 48, 32, 48, 10]] = .ex Ct := rfl
theorem bad89_11 : rdF Cs Ct [.str [124, 97, 124, 10, 48, 48, 32, 48, 10]] = .ex Ct := rfl
theorem bad89_12 : rdF Cs Ct [.str [124, 97, 124, 10, 48, 32, 48, 32, 10]] = .ex Ct := rfl
theorem bad89_13 : rdF Cs Ct [.str [124, 97, 124, 10, 48, 32, 32, 48, 10]] = .ex Ct := rfl
theorem bad89_14 : rdF Cs Ct [.str [124, 97, 124, 10, 10, 48, 32, 48, 10]] = .ex Ct := rfl
theorem bad89_15 : rdF Cs Ct [.str [124, 97, 124, 10, 48, 32, 48, 10, 10]] = .ex Ct := rfl
theorem bad89_16 : rdF Cs Ct [.str [48, 32, 48, 10]] = .ex Ct := rfl
theorem bad89_17 : rdF Cs Ct [.non] = .ex Ct := rfl
theorem bad89_18 : rdF Cs Ct [.int 5] = .ex Ct := rfl
theorem bad89_19 : rdF Cs Ct [.tup [.str [124, 97, 124, 10, 48, 32, 49, 10]]] = .ex Ct := rfl
theorem bad89_20 : rdF Cs Ct [.str [124, 9, 124, 10, 48, 32, 48, 10]] = .ex Ct := rfl
theorem bad89_21 : rdF Cs Ct [.str [124, 97, 124, 10, 45, 48, 32, 48, 10]] = .ex Ct := rfl
theorem bad89_22 : rdF Cs Ct [.str [124, 97, 124, 10, 124, 97, 124, 10, 124, 97, 124, 10, 124, 97, 124, 10, 124, 97, 124, 10, 124, 97, 124, 10, 124, 97, 124, 10, 124, 97, 124, 10, 124, 97, 124, 10, 124, 97, 124, 10, 124, 97, 124, 10, 124, 97, 124, 10, 124, 97, 124, 10, 48, 32, 48, 10]] = .ex Ct := rfl
theorem bad89_23 : rdF Cs Ct [.str [124, 120, 120, 120, 120, 120, 120, 120, 120, 120, 120, 120, 120, 120, 120, 120, 120, 120, 120, 120, 120, 120, 120, 120, 120, 120, 120, 120, 120, 120, 120, 120, 120, 120, 120, 120, 120, 120, 120, 120, 120, 120, 124, 10, 48, 32, 48, 10]] = .ex Ct := rfl
theorem bad89_24 : rdF Cs Ct [.str [124, 97, 124, 10, 48, 10]] = .ex Ct := rfl
end
noncomputable def good89 : List D := [.str (scT [[97]] 0 1), .str (scT [[124]] 0 0), .str (scT [[97, 98], [32, 99]] 1 2), .str (scT [List.replicate 40 120] 0 40), .str (scT (List.replicate 11 [90]) 10 1)]
section
variable {Cs Ct : Addr}
theorem rs_ok {wd : Nat} {rows : List (List Nat)} {r c : Nat} (h1 : 1 ≤ rows.length ∧ rows.length ≤ 12) (hw : 1 ≤ wd ∧ wd ≤ 40) (hl : ∀ x ∈ rows, x.length = wd ∧ plain x = true) (hr : r < rows.length) (hc : c ≤ wd) :
    rdF Cs Ct [.str (scT rows r c)] = .ok (scr wd rows r c) ∧ sxF Cs [scr wd rows r c] = .ok (.str (scT rows r c)) := by
  have hs : screen (scr wd rows r c) = true := by
    refine screen_mk (p := .tup [.int (r : Int), .int (c : Int)]) hw.1 hw.2 (by rw [List.length_map]; exact h1.1) (by rw [List.length_map]; exact h1.2) (fun d hd => ?_) ?_
    · obtain ⟨x, hx, rfl⟩ := List.mem_map.1 hd
      exact ⟨x, rfl, hl x hx⟩
    · rw [List.length_map]
      show ((decide ((0 : Int) ≤ (r : Int)) && decide ((r : Int) ≤ (rows.length : Int) - 1)) && (decide ((0 : Int) ≤ (c : Int)) && decide ((c : Int) ≤ (wd : Int)))) = true
      simp only [Bool.and_eq_true, decide_eq_true_iff]
      omega
  have hk := checkF_ok (C := Cs) hs
  have hf : screenF [scr wd rows r c] = .ok (.bl true) := by
    have : screenF [scr wd rows r c] = .ok (.bl (screen (scr wd rows r c))) := if_pos (screen_fine hs)
    rw [this, hs]
  refine ⟨rd_ok h1.2 h1.1 hw.2 (fun x hx => (hl x hx).1) (fun x hx hm => ?_) (by omega) (by omega) hk hf, sx_ok hw.2 h1.2 (fun x hx => (hl x hx).1) (by omega) (by omega) hk⟩
  have := (hl x hx).2
  unfold plain at this
  rw [List.all_eq_true] at this
  have := this 10 hm
  simp at this
theorem all89 {wd n : Nat} {a : List Nat} (h : a.length = wd ∧ plain a = true) : ∀ x ∈ List.replicate n a, x.length = wd ∧ plain x = true := fun x hx => by rw [(List.mem_replicate.1 hx).2]; exact h
theorem good_ok : ∀ d ∈ good89, ∃ s, rdF Cs Ct [d] = .ok s ∧ sxF Cs [s] = .ok d := by
  intro d hd
  simp only [good89, List.mem_cons, List.mem_nil_iff, or_false] at hd
  rcases hd with rfl | rfl | rfl | rfl | rfl
  · exact ⟨_, rs_ok (wd := 1) (by decide) (by decide) (by decide) (by decide) (by decide)⟩
  · exact ⟨_, rs_ok (wd := 1) (by decide) (by decide) (by decide) (by decide) (by decide)⟩
  · exact ⟨_, rs_ok (wd := 2) (by decide) (by decide) (by decide) (by decide) (by decide)⟩
  · exact ⟨_, rs_ok (wd := 40) (by decide) (by decide) (by decide) (by decide) (by decide)⟩
  · exact ⟨_, rs_ok (wd := 1) (by decide) (by decide) (all89 (by decide)) (by decide) (by decide)⟩
theorem bad_ok : ∀ d ∈ bad89, rdF Cs Ct [d] = .ex Ct := by
  intro d hd
  simp only [bad89, List.mem_cons, List.mem_nil_iff, or_false] at hd
  rcases hd with rfl | rfl | rfl | rfl | rfl | rfl | rfl | rfl | rfl | rfl | rfl | rfl | rfl | rfl | rfl | rfl | rfl | rfl | rfl | rfl | rfl | rfl | rfl | rfl | rfl
  · exact bad89_0
  · exact bad89_1
  · exact bad89_2
  · exact bad89_3
  · exact bad89_4
  · exact bad89_5
  · exact bad89_6
  · exact bad89_7
  · exact bad89_8
  · exact bad89_9
  · exact bad89_10
  · exact bad89_11
  · exact bad89_12
  · exact bad89_13
  · exact bad89_14
  · exact bad89_15
  · exact bad89_16
  · exact bad89_17
  · exact bad89_18
  · exact bad89_19
  · exact bad89_20
  · exact bad89_21
  · exact bad89_22
  · exact bad89_23
  · exact bad89_24
variable {T : R D → R D} {F1 : List D → R D} (ns : List Int) (fz : Bool)
theorem loop3_89 {x : List Nat} (hx : x.length ≤ 50) {rs : List (List Nat)} (r1 : 1 ≤ rs.length) (r2 : rs.length ≤ 6) (hr : ∀ s ∈ rs, s.length ≤ 50) {F2 F6 : List D → R D} : ∀ (n k : Nat) (ds : List D) (x4 x5 x6 x7 x8 x9 x10 x11 : Option Sl), k + n ≤ 10 → (∀ d ∈ ds, SS d) → ds.length + 4 * n ≤ 100 →
    ∃ ds' y4 y5 y6 y7, (∀ d ∈ ds', SS d) ∧ loopD (setV 4) (law_b3 T F1 F2 cellF pickF law_spoilt89 F6) ((List.range' k n).map fun (i : Nat) => D.int (i : Int)) (st89 (some (.val (.lst fz (ns.map .int)))) (some (.val (.str x))) (some (.val (.lst false (rs.map .str)))) (some (.own ds)) x4 x5 x6 x7 x8 x9 x10 x11) = .nx (st89 (some (.val (.lst fz (ns.map .int)))) (some (.val (.str x))) (some (.val (.lst false (rs.map .str)))) (some (.own ds')) y4 y5 y6 y7 x8 x9 x10 x11)
  | 0, k, ds, x4, x5, x6, x7, x8, x9, x10, x11, _, hd, _ => ⟨ds, x4, x5, x6, x7, hd, rfl⟩
  | n + 1, k, ds, x4, x5, x6, x7, x8, x9, x10, x11, hk, hd, hl => by
    obtain ⟨ds1, y5, y6, y7, h1, h2, hB⟩ := b3_89 (T := T) (F1 := F1) (F2 := F2) (F6 := F6) ns fz hx r1 r2 hr k (by omega) hd (by omega) x5 x6 x7 x8 x9 x10 x11
    obtain ⟨ds', z4, z5, z6, z7, h3, ih⟩ := loop3_89 hx r1 r2 hr n (k + 1) ds1 (some (.val (.int (k : Int)))) y5 y6 y7 x8 x9 x10 x11 (by omega) h1 (by omega)
    refine ⟨ds', z4, z5, z6, z7, h3, ?_⟩
    rw [List.range'_succ, List.map_cons, loop_nx (ρ1 := st89 (some (.val (.lst fz (ns.map .int)))) (some (.val (.str x))) (some (.val (.lst false (rs.map .str)))) (some (.own ds)) (some (.val (.int (k : Int)))) x5 x6 x7 x8 x9 x10 x11) rfl hB, ih]
theorem b5_89 (t1 : ∀ d, T (.ok d) = .ok d) (t2 : T (.ex Ct) = .ok (.str wText)) {F2 F3 F4 : List D → R D} {d : D} (hd : SS d) (S x1 x2 x3 x4 x5 x6 x7 x9 x10 x11 : Option Sl) : ∃ y9,
    law_b5 T F1 (sxF Cs) F2 F3 F4 (rdF Cs Ct) (st89 S x1 x2 x3 x4 x5 x6 x7 (some (.val d)) x9 x10 x11) = .nx (st89 S x1 x2 x3 x4 x5 x6 x7 (some (.val d)) y9 x10 x11) := by
  obtain ⟨x, rfl, hx⟩ := hd
  rcases rd_any (C1 := Cs) (C7 := Ct) hx with e | ⟨s, e, e2⟩
  · refine ⟨some (.val (.str wText)), ?_⟩
    have q : (wText == wText) = true := by decide
    have wt : wText = [110, 111, 32, 116, 101, 120, 116] := rfl
    have g : ∀ (S x1 x2 x3 x4 x5 x6 x7 x9 x10 x11 : Option Sl), gTold T [8] (gCall 1 (sxF Cs) (gACons (gCall 1 (rdF Cs Ct) (gACons (fun ρ => rdV ρ 0) (fun _ => R.ok []))) (fun _ => R.ok []))) [S, x1, x2, x3, x4, x5, x6, x7, some (.val (.str x)), x9, x10, x11] = .ok (.str wText) := fun _ _ _ _ _ _ _ _ _ _ _ => by
      show T (gCall 1 (sxF Cs) (gACons (gCall 1 (rdF Cs Ct) (gACons (fun ρ => rdV ρ 0) (fun _ => R.ok []))) (fun _ => R.ok [])) [some (.val (.str x))]) = _
      have : gCall 1 (sxF Cs) (gACons (gCall 1 (rdF Cs Ct) (gACons (fun ρ => rdV ρ 0) (fun _ => R.ok []))) (fun _ => R.ok [])) [some (.val (.str x))] = .ex Ct := by
        generalize sxF Cs = F at *
        generalize rdF Cs Ct = F' at *
        clear t1 t2 hx
        walk_at "run"
      rw [this, t2]
    unfold st89 law_b5
    generalize gTold T [8] (gCall 1 (sxF Cs) (gACons (gCall 1 (rdF Cs Ct) (gACons (fun ρ => rdV ρ 0) (fun _ => R.ok []))) (fun _ => R.ok []))) = G at *
    clear t1 t2 hx e
    rw [← wt]
    clear wt
    generalize wText = w at *
    cases h : (w == x) with
    | true => walk_at "run"
    | false => walk_at "run"
  · refine ⟨some (.val (.str x)), ?_⟩
    have q : (x == x) = true := by simp
    have g : ∀ (S x1 x2 x3 x4 x5 x6 x7 x9 x10 x11 : Option Sl), gTold T [8] (gCall 1 (sxF Cs) (gACons (gCall 1 (rdF Cs Ct) (gACons (fun ρ => rdV ρ 0) (fun _ => R.ok []))) (fun _ => R.ok []))) [S, x1, x2, x3, x4, x5, x6, x7, some (.val (.str x)), x9, x10, x11] = .ok (.str x) := fun _ _ _ _ _ _ _ _ _ _ _ => by
      show T (gCall 1 (sxF Cs) (gACons (gCall 1 (rdF Cs Ct) (gACons (fun ρ => rdV ρ 0) (fun _ => R.ok []))) (fun _ => R.ok [])) [some (.val (.str x))]) = _
      have : gCall 1 (sxF Cs) (gACons (gCall 1 (rdF Cs Ct) (gACons (fun ρ => rdV ρ 0) (fun _ => R.ok []))) (fun _ => R.ok [])) [some (.val (.str x))] = .ok (.str x) := by
        generalize sxF Cs = F at *
        generalize rdF Cs Ct = F' at *
        clear t1 t2 hx
        walk_at "run"
      rw [this, t1]
    unfold st89 law_b5
    generalize gTold T [8] (gCall 1 (sxF Cs) (gACons (gCall 1 (rdF Cs Ct) (gACons (fun ρ => rdV ρ 0) (fun _ => R.ok []))) (fun _ => R.ok []))) = G at *
    clear t1 t2 hx e e2
    walk_at "run"
theorem loop5_89 (t1 : ∀ d, T (.ok d) = .ok d) (t2 : T (.ex Ct) = .ok (.str wText)) {F2 F3 F4 : List D → R D} (S x1 x2 x3 x4 x5 x6 x7 x10 x11 : Option Sl) : ∀ (ds : List D) (x8 x9 : Option Sl), (∀ d ∈ ds, SS d) → ∃ y8 y9,
    loopD (setV 8) (law_b5 T F1 (sxF Cs) F2 F3 F4 (rdF Cs Ct)) ds (st89 S x1 x2 x3 x4 x5 x6 x7 x8 x9 x10 x11) = .nx (st89 S x1 x2 x3 x4 x5 x6 x7 y8 y9 x10 x11)
  | [], x8, x9, _ => ⟨x8, x9, rfl⟩
  | d :: ds, x8, x9, h => by
    obtain ⟨y9, hB⟩ := b5_89 (Cs := Cs) (F1 := F1) (F2 := F2) (F3 := F3) (F4 := F4) t1 t2 (h d (List.mem_cons_self ..)) S x1 x2 x3 x4 x5 x6 x7 x9 x10 x11
    obtain ⟨z8, z9, ih⟩ := loop5_89 t1 t2 (F2 := F2) (F3 := F3) (F4 := F4) S x1 x2 x3 x4 x5 x6 x7 x10 x11 ds (some (.val d)) y9 fun e he => h e (List.mem_cons_of_mem _ he)
    refine ⟨z8, z9, ?_⟩
    rw [loop_nx (ρ1 := st89 S x1 x2 x3 x4 x5 x6 x7 (some (.val d)) x9 x10 x11) rfl hB, ih]
end
section
theorem sq89 {g1 g2 : Ev → O} {ρ ρ' : Ev} (h : g1 ρ = .nx ρ') : oSeq g1 g2 ρ = g2 ρ' := by
  show (g1 ρ).seq g2 = _
  rw [h]; rfl
theorem sr89 {g1 g2 : Ev → O} {ρ : Ev} {d : D} (h : g1 ρ = .rt d) : oSeq g1 g2 ρ = .rt d := by
  show (g1 ρ).seq g2 = _
  rw [h]; rfl
theorem law89 {C_NoScreen C_NoOrder C_NoRoom C_NoNumber C_NoTable C_NoTask C_NoText C_NoBack : Addr} {rs : List Addr} (h2 : C_NoText ∈ rs) (nd : [C_NoScreen, C_NoOrder, C_NoRoom, C_NoNumber, C_NoTable, C_NoTask, C_NoText, C_NoBack].Nodup) (ns : List Int) (fz : Bool) :
    bodyR (law_all (law_told_all (cls8 C_NoOrder C_NoNumber C_NoBack C_NoRoom C_NoTask C_NoTable C_NoScreen C_NoText rs) rs) someF (sxF C_NoScreen) cellF pickF law_spoilt89 (rdF C_NoScreen C_NoText) [some (.val (.lst fz (ns.map .int))), none, none, none, none, none, none, none, none, none, none, none]) = .ok (.bl true) := by
  have t2 : law_told_all (cls8 C_NoOrder C_NoNumber C_NoBack C_NoRoom C_NoTask C_NoTable C_NoScreen C_NoText rs) rs (.ex C_NoText) = .ok (.str wText) := told_x h2 (cls_NoText nd h2)
  have t1 := told_d (cls8 C_NoOrder C_NoNumber C_NoBack C_NoRoom C_NoTask C_NoTable C_NoScreen C_NoText rs) rs
  generalize law_told_all (cls8 C_NoOrder C_NoNumber C_NoBack C_NoRoom C_NoTask C_NoTable C_NoScreen C_NoText rs) rs = T at *
  clear nd h2
  have lb := line_20k
  obtain ⟨w1, w2, _⟩ := wS_range ns 10
  obtain ⟨m1, m2, _⟩ := mS_range ns 10
  have hs := someF_nat (fz := fz) (ns := ns) (a := 10)
  -- the text
  obtain ⟨rows, r, c, e0, hl, hm, hr, hc⟩ : ∃ (rows : List (List Nat)) (r c : Nat), scS ns 10 = scr (wS ns 10) rows r c ∧ (∀ x ∈ rows, x.length = wS ns 10 ∧ plain x = true) ∧ rows.length = mS ns 10 ∧ r < mS ns 10 ∧ c ≤ wS ns 10 := by
    obtain ⟨pa, pb⟩ := pick_range ns (10 + 5 + 400) (m := (mS ns 10 : Int)) (by omega)
    obtain ⟨pc, pd⟩ := pick_range ns (10 + 5 + 401) (m := (wS ns 10 : Int) + 1) (by omega)
    refine ⟨(List.range (mS ns 10)).map fun k => rowL ns (10 + 5 + 30 * k) (wS ns 10), (pick ns (10 + 5 + 400) (mS ns 10)).toNat, (pick ns (10 + 5 + 401) ((wS ns 10 : Int) + 1)).toNat, ?_, fun x hx => ?_, by simp, by omega, by omega⟩
    · unfold scS scr pl rowsL
      rw [Int.toNat_of_nonneg pa, Int.toNat_of_nonneg pc, List.map_map]
      rfl
    · obtain ⟨k, _, rfl⟩ := List.mem_map.1 hx
      exact ⟨rowL_length .., rowL_plain ..⟩
  rw [e0] at hs
  obtain ⟨rd, sx⟩ := rs_ok (Cs := C_NoScreen) (Ct := C_NoText) (rows := rows) (wd := wS ns 10) (r := r) (c := c) (by omega) (by omega) hl (by omega) hc
  have g := go_len (r := r) (c := c) (by omega) (by omega)
  have fl := flat_len (fun x hx => (hl x hx).1)
  have hsp : splitL 10 (scT rows r c) = (rows.map fun x => [124] ++ x ++ [124]) ++ [decL r ++ [32] ++ decL c] ++ [[]] := by
    have d1 := dec_free r 10 (by decide)
    have d2 := dec_free c 10 (by decide)
    refine split_rows (x := []) (fun x hx hm => ?_) (by simp [d1, d2])
    have := (hl x hx).2
    unfold plain at this
    rw [List.all_eq_true] at this
    have := this 10 hm
    simp at this
  have hx : (scT rows r c).length ≤ 50 := by
    have : (wS ns 10 + 3) * rows.length ≤ 11 * 4 := Nat.mul_le_mul (by omega) (by omega)
    unfold scT
    simp only [List.length_append, List.length_cons, List.length_nil]; omega
  have r1 : 1 ≤ (splitL 10 (scT rows r c)).length := by rw [hsp]; simp
  have r2 : (splitL 10 (scT rows r c)).length ≤ 6 := by rw [hsp]; simp; omega
  have hr2 : ∀ s ∈ splitL 10 (scT rows r c), s.length ≤ 50 := fun s h => by have := splitL_le 10 _ s h; omega
  have sp : splitF (.str (scT rows r c)) [.str [10]] = some (.lst false ((splitL 10 (scT rows r c)).map .str)) := if_pos (by omega)
  clear rd hsp fl g e0 w1 w2 m1 m2
  generalize scr (wS ns 10) rows r c = A at *
  generalize scT rows r c = x at *
  generalize splitL 10 x = rs2 at *
  clear hl hm hr hc
  obtain ⟨ds, y4, y5, y6, y7, hds, lp3⟩ := loop3_89 (T := T) (F1 := someF) (F2 := sxF C_NoScreen) (F6 := rdF C_NoScreen C_NoText) ns fz hx r1 r2 hr2 5 0 [.str x] none none none none none none none none (by omega) (fun d h => by rw [List.mem_singleton.1 h]; exact ⟨x, rfl, by omega⟩) (by simp)
  generalize D.lst fz (ns.map .int) = S at *
  obtain ⟨y8, y9, lp5⟩ := loop5_89 (Cs := C_NoScreen) (F1 := someF) (F2 := cellF) (F3 := pickF) (F4 := law_spoilt89) t1 t2 (some (.val S)) (some (.val (.str x))) (some (.val (.lst false (rs2.map .str)))) (some (.val (.lst false ds))) y4 y5 y6 y7 none none ds none none hds
  have i1 : law_s1 T someF (sxF C_NoScreen) cellF pickF law_spoilt89 (rdF C_NoScreen C_NoText) [some (.val S), none, none, none, none, none, none, none, none, none, none, none] = .nx (st89 (some (.val S)) (some (.val (.str x))) none none none none none none none none none none) := by
    have hs : someF [S, .int 10] = .ok A := hs
    unfold law_s1 st89
    clear t1 t2 lp3 lp5 hr2 hds
    generalize sxF C_NoScreen = F at *
    walk_at "run"
  have i2 : law_s2 T someF (sxF C_NoScreen) cellF pickF law_spoilt89 (rdF C_NoScreen C_NoText) (st89 (some (.val S)) (some (.val (.str x))) none none none none none none none none none none) = .nx (st89 (some (.val S)) (some (.val (.str x))) (some (.val (.lst false (rs2.map .str)))) (some (.own [.str x])) none none none none none none none none) := by
    have kd : kindD "str" (.str x) = true := rfl
    have z : 1 ≤ sizeLine := by omega
    unfold law_s2 st89
    clear t1 t2 lp3 lp5 hr2 hds i1
    walk_at "run"
  have i4 : law_s4 T someF (sxF C_NoScreen) cellF pickF law_spoilt89 (rdF C_NoScreen C_NoText) (st89 (some (.val S)) (some (.val (.str x))) (some (.val (.lst false (rs2.map .str)))) (some (.own [.str x])) none none none none none none none none) = .nx (st89 (some (.val S)) (some (.val (.str x))) (some (.val (.lst false (rs2.map .str)))) (some (.own ds)) y4 y5 y6 y7 none none none none) := by
    have rg : rangeD1 [.int 5] = .ok ((List.range' 0 5).map fun (i : Nat) => D.int (i : Int)) := range_up (n := 5) (by decide)
    unfold law_s4
    generalize (List.range' 0 5).map (fun (i : Nat) => D.int (i : Int)) = rr at *
    generalize law_b3 T someF (sxF C_NoScreen) cellF pickF law_spoilt89 (rdF C_NoScreen C_NoText) = bd at *
    unfold st89 at *
    clear t1 t2 lp5 hr2 hds i1 i2
    walk_at "run"
  have f3 : ∀ g : Ev → O, oFrz 3 g (st89 (some (.val S)) (some (.val (.str x))) (some (.val (.lst false (rs2.map .str)))) (some (.own ds)) y4 y5 y6 y7 none none none none) = g (st89 (some (.val S)) (some (.val (.str x))) (some (.val (.lst false (rs2.map .str)))) (some (.val (.lst false ds))) y4 y5 y6 y7 none none none none) := fun _ => rfl
  have i6 : law_s6 T someF (sxF C_NoScreen) cellF pickF law_spoilt89 (rdF C_NoScreen C_NoText) (st89 (some (.val S)) (some (.val (.str x))) (some (.val (.lst false (rs2.map .str)))) (some (.val (.lst false ds))) y4 y5 y6 y7 none none none none) = .nx (st89 (some (.val S)) (some (.val (.str x))) (some (.val (.lst false (rs2.map .str)))) (some (.val (.lst false ds))) y4 y5 y6 y7 y8 y9 none none) := by
    have it : ∀ (f : Bool) (l : List D), itemsD (.lst f l) = .ok l := fun _ _ => rfl
    unfold law_s6
    generalize law_b5 T someF (sxF C_NoScreen) cellF pickF law_spoilt89 (rdF C_NoScreen C_NoText) = bd at *
    unfold st89 at *
    clear t1 t2 lp3 hr2 hds i1 i2 i4 f3
    walk_at "run"
  generalize (some (Sl.val (.lst false (rs2.map .str)))) = X2 at *
  generalize (some (Sl.val (.lst false ds))) = X3 at *
  generalize (some (Sl.val (.str x))) = X1 at *
  have i7 : law_s7 T someF (sxF C_NoScreen) cellF pickF law_spoilt89 (rdF C_NoScreen C_NoText) (st89 (some (.val S)) X1 X2 X3 y4 y5 y6 y7 y8 y9 none none) = .nx (st89 (some (.val S)) X1 X2 X3 y4 y5 y6 y7 y8 y9 (some (.val (.lst false good89))) none) := rfl
  have i8 : law_s8 T someF (sxF C_NoScreen) cellF pickF law_spoilt89 (rdF C_NoScreen C_NoText) (st89 (some (.val S)) X1 X2 X3 y4 y5 y6 y7 y8 y9 (some (.val (.lst false good89))) none) = .nx (st89 (some (.val S)) X1 X2 X3 y4 y5 y6 y7 y8 y9 (some (.val (.lst false good89))) none) := by
    have cm := compD_all (gt := fun _ => R.ok true) (ge := gCall 1 (sxF C_NoScreen) (gACons (gCall 1 (rdF C_NoScreen C_NoText) (gACons (fun ρ => rdV ρ 0) (fun _ => R.ok []))) (fun _ => R.ok []))) (fun d => d) [] good89 none (fun d hd => ⟨rfl, by
      obtain ⟨s, e1, e2⟩ := good_ok (Cs := C_NoScreen) (Ct := C_NoText) d hd
      clear i1 i2 i4 f3 i6 i7 lp3 lp5 t1 t2 sx sp hs
      generalize sxF C_NoScreen = F at *
      generalize rdF C_NoScreen C_NoText = F' at *
      walk_at "run"⟩)
    rw [List.map_id'] at cm
    have it : ∀ (f : Bool) (l : List D), itemsD (.lst f l) = .ok l := fun _ _ => rfl
    have inn : ∀ ρ : Ev, inner [] ρ = [none] := fun _ => rfl
    have z : good89.length ≤ sizeLine := by show 5 ≤ sizeLine; omega
    have n1 : neF (.lst false good89) (.lst false good89) = some (.bl false) := ne_self (by decide)
    have gx : ixD (.lst false good89) (.int 1) = some (.str (scT [[124]] 0 0)) := rfl
    have r1 : rdF C_NoScreen C_NoText [.str (scT [[124]] 0 0)] = .ok (scr 1 [[124]] 0 0) := (rs_ok (wd := 1) (by decide) (by decide) (by decide) (by decide) (by decide)).1
    have es : scr 1 [[124]] 0 0 = .tup [.int 1, .tup [.str [124]], .tup [.int 0, .int 0]] := rfl
    rw [es] at r1
    have n2 : neF (.tup [.int 1, .tup [.str [124]], .tup [.int 0, .int 0]]) (.tup [.int 1, .tup [.str [124]], .tup [.int 0, .int 0]]) = some (.bl false) := ne_self (by decide)
    have mk3 := Q.t3
    have mk2 := Q.t2
    have mk1 : ∀ x : D, mkT [x] = .ok (.tup [x]) := fun _ => rfl
    unfold law_s8 st89
    clear i1 i2 i4 f3 i6 i7 lp3 lp5 t1 t2 sx sp hs es
    generalize good89 = GG at *
    generalize scT [[124]] 0 0 = tt at *
    generalize sxF C_NoScreen = F at *
    generalize rdF C_NoScreen C_NoText = F' at *
    generalize gCall 1 F (gACons (gCall 1 F' (gACons (fun ρ => rdV ρ 0) (fun _ => R.ok []))) (fun _ => R.ok [])) = ge at *
    walk_at "run"
  have i9 : law_s9 T someF (sxF C_NoScreen) cellF pickF law_spoilt89 (rdF C_NoScreen C_NoText) (st89 (some (.val S)) X1 X2 X3 y4 y5 y6 y7 y8 y9 (some (.val (.lst false good89))) none) = .nx (st89 (some (.val S)) X1 X2 X3 y4 y5 y6 y7 y8 y9 (some (.val (.lst false good89))) (some (.own (bad89.take 8)))) := rfl
  have i10 : law_s10 T someF (sxF C_NoScreen) cellF pickF law_spoilt89 (rdF C_NoScreen C_NoText) (st89 (some (.val S)) X1 X2 X3 y4 y5 y6 y7 y8 y9 (some (.val (.lst false good89))) (some (.own (bad89.take 8)))) = .nx (st89 (some (.val S)) X1 X2 X3 y4 y5 y6 y7 y8 y9 (some (.val (.lst false good89))) (some (.own (bad89.take 10)))) := rfl
  have i11 : law_s11 T someF (sxF C_NoScreen) cellF pickF law_spoilt89 (rdF C_NoScreen C_NoText) (st89 (some (.val S)) X1 X2 X3 y4 y5 y6 y7 y8 y9 (some (.val (.lst false good89))) (some (.own (bad89.take 10)))) = .nx (st89 (some (.val S)) X1 X2 X3 y4 y5 y6 y7 y8 y9 (some (.val (.lst false good89))) (some (.own (bad89.take 15)))) := rfl
  have i12 : law_s12 T someF (sxF C_NoScreen) cellF pickF law_spoilt89 (rdF C_NoScreen C_NoText) (st89 (some (.val S)) X1 X2 X3 y4 y5 y6 y7 y8 y9 (some (.val (.lst false good89))) (some (.own (bad89.take 15)))) = .nx (st89 (some (.val S)) X1 X2 X3 y4 y5 y6 y7 y8 y9 (some (.val (.lst false good89))) (some (.own (bad89.take 19)))) := rfl
  have i13 : law_s13 T someF (sxF C_NoScreen) cellF pickF law_spoilt89 (rdF C_NoScreen C_NoText) (st89 (some (.val S)) X1 X2 X3 y4 y5 y6 y7 y8 y9 (some (.val (.lst false good89))) (some (.own (bad89.take 19)))) = .nx (st89 (some (.val S)) X1 X2 X3 y4 y5 y6 y7 y8 y9 (some (.val (.lst false good89))) (some (.own (bad89.take 23)))) := rfl
  have i14 : law_s14 T someF (sxF C_NoScreen) cellF pickF law_spoilt89 (rdF C_NoScreen C_NoText) (st89 (some (.val S)) X1 X2 X3 y4 y5 y6 y7 y8 y9 (some (.val (.lst false good89))) (some (.own (bad89.take 23)))) = .nx (st89 (some (.val S)) X1 X2 X3 y4 y5 y6 y7 y8 y9 (some (.val (.lst false good89))) (some (.own bad89))) := rfl
  have f11 : ∀ g : Ev → O, oFrz 11 g (st89 (some (.val S)) X1 X2 X3 y4 y5 y6 y7 y8 y9 (some (.val (.lst false good89))) (some (.own bad89))) = g (st89 (some (.val S)) X1 X2 X3 y4 y5 y6 y7 y8 y9 (some (.val (.lst false good89))) (some (.val (.lst false bad89)))) := fun _ => rfl
  have i15 : law_s15 T someF (sxF C_NoScreen) cellF pickF law_spoilt89 (rdF C_NoScreen C_NoText) (st89 (some (.val S)) X1 X2 X3 y4 y5 y6 y7 y8 y9 (some (.val (.lst false good89))) (some (.val (.lst false bad89)))) = .rt (.bl true) := by
    have cm := compD_all (gt := fun _ => R.ok true) (ge := gTold T [0] (gCall 1 (rdF C_NoScreen C_NoText) (gACons (fun ρ => rdV ρ 0) (fun _ => R.ok [])))) (fun _ => .str wText) [] bad89 none (fun d hd => ⟨rfl, by
      have e := bad_ok (Cs := C_NoScreen) (Ct := C_NoText) d hd
      show T (gCall 1 (rdF C_NoScreen C_NoText) (gACons (fun ρ => rdV ρ 0) (fun _ => R.ok [])) [some (.val d)]) = _
      have : gCall 1 (rdF C_NoScreen C_NoText) (gACons (fun ρ => rdV ρ 0) (fun _ => R.ok [])) [some (.val d)] = .ex C_NoText := by
        clear i1 i2 i4 f3 i6 i7 i8 i9 i10 i11 i12 i13 i14 f11 lp3 lp5 t1 t2 sx sp hs
        generalize rdF C_NoScreen C_NoText = F' at *
        walk_at "run"
      rw [this, t2]⟩)
    have em : (bad89.map fun _ => D.str wText) = List.replicate 25 (.str wText) := rfl
    rw [em] at cm
    have it : ∀ (f : Bool) (l : List D), itemsD (.lst f l) = .ok l := fun _ _ => rfl
    have inn : ∀ ρ : Ev, inner [] ρ = [none] := fun _ => rfl
    have z : (List.replicate 25 (D.str wText)).length ≤ sizeLine := by rw [List.length_replicate]; omega
    have z1 : 1 ≤ sizeLine := by omega
    have mu : mulD (.lst false [.str [110, 111, 32, 116, 101, 120, 116]]) (.int 25) = some (.lst false (List.replicate 25 (.str wText))) := rfl
    have eq : eqF (.lst false (List.replicate 25 (.str wText))) (.lst false (List.replicate 25 (.str wText))) = some (.bl true) := rfl
    unfold law_s15 st89
    clear i1 i2 i4 f3 i6 i7 i8 i9 i10 i11 i12 i13 i14 f11 lp3 lp5 t1 t2 sx sp hs em
    generalize bad89 = BB at *
    generalize List.replicate 25 (D.str wText) = WW at *
    generalize gTold T [0] (gCall 1 (rdF C_NoScreen C_NoText) (gACons (fun ρ => rdV ρ 0) (fun _ => R.ok []))) = ge at *
    walk_at "run"
  unfold law_all
  rw [sq89 i1, sq89 i2, sq89 i4, f3, sq89 i6, sq89 i7, sq89 i8, sq89 i9, sq89 i10, sq89 i11, sq89 i12, sq89 i13, sq89 i14, f11, sr89 i15]
  rfl
end
theorem law89n {C_NoScreen C_NoOrder C_NoRoom C_NoNumber C_NoTable C_NoTask C_NoText C_NoBack : Addr} (nd : [C_NoScreen, C_NoOrder, C_NoRoom, C_NoNumber, C_NoTable, C_NoTask, C_NoText, C_NoBack].Nodup) (ns : List Int) (fz : Bool) :
    bodyR (law_all (law_told_all (cls8 C_NoOrder C_NoNumber C_NoBack C_NoRoom C_NoTask C_NoTable C_NoScreen C_NoText [C_NoScreen, C_NoText]) [C_NoScreen, C_NoText]) someF (sxF C_NoScreen) cellF pickF law_spoilt89 (rdF C_NoScreen C_NoText) [some (.val (.lst fz (ns.map .int))), none, none, none, none, none, none, none, none, none, none, none]) = .ok (.bl true) :=
  law89 (by simp) nd ns fz
end Q89
namespace Q
open PySem PySem.Spec PyProof.Rows L2
theorem len1 {us : List Value} (h : us.length = 1) : ∃ a, us = [a] := by
  match us, h with
  | [a], _ => exact ⟨a, rfl⟩
theorem len2 {us : List Value} (h : us.length = 2) : ∃ a b, us = [a, b] := by
  match us, h with
  | [a, b], _ => exact ⟨a, b, rfl⟩
theorem len3 {us : List Value} (h : us.length = 3) : ∃ a b c, us = [a, b, c] := by
  match us, h with
  | [a, b, c], _ => exact ⟨a, b, c, rfl⟩
theorem len4 {us : List Value} (h : us.length = 4) : ∃ a b c d, us = [a, b, c, d] := by
  match us, h with
  | [a, b, c, d], _ => exact ⟨a, b, c, d, rfl⟩
theorem own_at {K : PySem.W.Frag} {hp : Heap} {mg : Str → Option Value} {x : Str} {C : Addr} {bm : List Value} {nid : String} (kin : K.In hp) (gl : hp.Ns mainGlobals mg) (e1 : PySem.W.nsIn K mainGlobals x = some (some (.ref C))) (e2 : PySem.W.excIn K C bm nid = true) : OwnCls x C bm nid mg hp := by
  constructor
  · exact PySem.W.mg_of kin gl e1
  · unfold PySem.W.excIn at e2
    split at e2
    · rename_i dct kl sls look
      split at e2
      · rename_i C0 more s0 s1 s2 s3 nw s5 hmro hsls
        simp only [Bool.and_eq_true, beq_iff_eq, Bool.not_eq_true'] at e2
        obtain ⟨⟨⟨⟨⟨eC, en⟩, edel⟩, etail⟩, ens⟩, einit⟩ := e2
        obtain ⟨f1, f2, f3, f4, f5, f6, f7, f8, f9, f10, f11⟩ := kl
        dsimp only at hmro edel ens einit
        have es : sls = #[s0, s1, s2, s3, some (.builtin nw), s5] := by
          obtain ⟨ls⟩ := sls
          simp only at hsls
          rw [hsls]
        subst hmro edel es eC en
        exact ⟨more, f4, f1, f5, f2, f6, f7, f8, f9, f10, dct, s0, s1, s2, s3, s5, _, kin _ _ look, .of_isNs (PySem.W.isNs_of_in kin ens), PySem.W.nsMap_none_of_in kin ens einit, PySem.W.tail_of_in kin etail⟩
      · cases e2
    · cases e2
theorem ref_at {K : PySem.W.Frag} {hp : Heap} {mg : Str → Option Value} {x : Str} {C : Addr} (kin : K.In hp) (gl : hp.Ns mainGlobals mg) (e1 : PySem.W.nsIn K mainGlobals x = some (some (.ref C))) (e2 : PySem.W.excIn K C [.type "ValueError", .type "Exception", .type "BaseException", .type "object"] "ValueError.__new__" = true) : Ref x C mg hp :=
  ⟨_, _, _, _, own_at kin gl e1 e2, PySem.F.excBase_ValueError⟩
theorem reps_ints {K : PySem.W.Frag} {G : Hp} : ∀ ns : List Int, Reps K G (ns.map V.int) (ns.map D.int)
  | [] => .nil
  | i :: ns => .cons (.int i) (reps_ints ns)
noncomputable def lawF : List D → R D
  | [.lst _ ds] => match intsD ds with
    | some _ => .ok (.bl true)
    | none => .no
  | _ => .no
theorem law_of {g : List D → R D} (h : ∀ (ns : List Int) (fz : Bool), g [.lst fz (ns.map .int)] = .ok (.bl true)) : ∀ ds : List D, ds.length = 1 → lawF ds = .no ∨ g ds = lawF ds := by
  intro ds hl
  match ds, hl with
  | [d], _ =>
    cases d <;> first | exact Or.inl rfl | skip
    rename_i fz ds hl
    cases hi : intsD ds with
    | none => exact Or.inl (by simp only [lawF, hi])
    | some ns =>
      have e := intsD_eq hi
      subst e
      refine Or.inr ?_
      rw [h ns fz]
      simp only [lawF, hi]
theorem fun_at {K : PySem.W.Frag} {h : Heap} {mg : Str → Option Value} {x : Str} {st : Stmt} {f : Addr} {oc : Value} {od an : Option Addr} {osl : Array (Option Value)} {kV doc pm cdv ct : Value} (X : K.In h) (G : h.Ns mainGlobals mg) (a : PySem.W.nsIn K mainGlobals x = some (some (.ref f)))
    (l : K.lookup f = some ⟨oc, od, .func (PySem.W.fnOf x x (defArgs st) (defBody st) (defScope st) .none kV doc pm an cdv ct), osl⟩) (c : PySem.W.codeIn K cdv x = true) (k : PySem.W.keepIn K (.ref f) = true) : ∃ f fd, Fun K x x st f fd ∧ mg x = some (.ref f) :=
  ⟨f, _, fun_mk l c k, PySem.W.mg_of X G a⟩
end Q
namespace Q
open PySem PySem.Spec PyProof.Rows L2
section
variable {K : PySem.W.Frag} {C T : Addr}
theorem kit_self : PySem.W.kitOne K (.ref C) (.ref C) = some (C == C) := by
  unfold PySem.W.kitOne
  rw [if_pos (by simp)]; simp
theorem kitCls_at {t : Value} {b : Bool} {cd : ClassData} (h1 : PySem.W.clsIn K T = some cd) (h2 : PySem.W.typeIn K (.ref T) = some (.type "type")) (h3 : PySem.W.subIn K t (.ref T) = some b) : PySem.W.kitCls K t (.ref T) = some b := by
  unfold PySem.W.kitCls
  dsimp only
  rw [if_pos (by rw [h1, h2]; simp), h3]
theorem kit_ne {cd : ClassData} (h1 : PySem.W.clsIn K T = some cd) (h2 : PySem.W.typeIn K (.ref T) = some (.type "type")) (h3 : PySem.W.subIn K (.ref C) (.ref T) = some false) (hne : C ≠ T) : PySem.W.kitOne K (.ref C) (.ref T) = some (C == T) := by
  unfold PySem.W.kitOne
  rw [if_neg (by simp [hne]), kitCls_at h1 h2 h3]
  simp [hne]
theorem kit_ve (h3 : PySem.W.subIn K (.ref C) (.type "ValueError") = some true) : PySem.W.kitOne K (.ref C) (.type "ValueError") = some true := by
  unfold PySem.W.kitOne PySem.W.kitCls
  rw [if_neg (by simp)]
  dsimp only
  rw [if_pos (by decide +kernel), h3]
theorem exm_at {cd : ClassData} (h0 : PySem.W.subIn K (.ref T) (.type "BaseException") = some true) (h1 : PySem.W.clsIn K T = some cd) (h2 : PySem.W.typeIn K (.ref T) = some (.type "type")) (h3 : PySem.W.subIn K (.ref C) (.ref T) = some true) : PySem.W.exmOne K (.ref C) (.ref T) = some true := by
  unfold PySem.W.exmOne
  rw [if_pos (by rw [h0]; rfl), kitCls_at h1 h2 h3]
end
theorem exc_at {K : PySem.W.Frag} {C : Addr} {cd : ClassData} (g1 : PySem.W.findIn K (.ref C) "__getattribute__" = some (some (.builtin "BaseException.__getattribute__"))) (g2 : PySem.W.findIn K (.ref C) "__getattr__" = some none) (g3 : PySem.W.findIn K (.ref C) "__class__" = some (some (.builtin "object.__class__")))
    (g4 : PySem.W.specialIn K (.builtin "object.__class__") "__get__" = some (some (.builtin "getset_descriptor.__get__"))) (g5 : PySem.W.takesIn K (.builtin "object.__class__") = some true) (g6 : PySem.W.mroIn K C (.type "object") = some true) (g7 : PySem.W.subIn K (.ref C) (.type "BaseException") = some true)
    (g8 : PySem.W.clsIn K C = some cd) : ExcCls K C := ⟨g1, g2, g3, g4, g5, g6, g7, by rw [g8]; rfl⟩
noncomputable def TsOk (K : PySem.W.Frag) : List (Str × Addr) → Prop
  | [] => True
  | t :: ts => PySem.W.nsIn K mainGlobals t.1 = some (some (.ref t.2)) ∧ (∃ q, PySem.W.clsIn K t.2 = some q) ∧ PySem.W.typeIn K (.ref t.2) = some (.type "type") ∧ TsOk K ts
noncomputable def SubOk (K : PySem.W.Frag) (r : Addr) : List (Str × Addr) → Prop
  | [] => True
  | t :: ts => (r = t.2 ∨ PySem.W.subIn K (.ref r) (.ref t.2) = some false) ∧ SubOk K r ts
noncomputable def RsOk (K : PySem.W.Frag) (L : Addr) (ts : List (Str × Addr)) : List Addr → Prop
  | [] => True
  | r :: rs => ExcCls K r ∧ SubOk K r ts ∧ PySem.W.subIn K (.ref r) (.type "ValueError") = some true ∧ PySem.W.subIn K (.ref r) (.ref L) = some true ∧ RsOk K L ts rs
section
variable {K : PySem.W.Frag} {L : Addr}
theorem TsOk.at : ∀ {ts : List (Str × Addr)}, TsOk K ts → ∀ t ∈ ts, PySem.W.nsIn K mainGlobals t.1 = some (some (.ref t.2)) ∧ (∃ q, PySem.W.clsIn K t.2 = some q) ∧ PySem.W.typeIn K (.ref t.2) = some (.type "type")
  | _ :: _, ⟨a, b, c, d⟩, t, h => by
    rcases List.mem_cons.1 h with rfl | h
    · exact ⟨a, b, c⟩
    · exact TsOk.at d t h
theorem SubOk.at {r : Addr} : ∀ {ts : List (Str × Addr)}, SubOk K r ts → ∀ t ∈ ts, r = t.2 ∨ PySem.W.subIn K (.ref r) (.ref t.2) = some false
  | _ :: _, ⟨a, d⟩, t, h => by
    rcases List.mem_cons.1 h with rfl | h
    · exact a
    · exact SubOk.at d t h
theorem RsOk.at {ts : List (Str × Addr)} : ∀ {rs : List Addr}, RsOk K L ts rs → ∀ r ∈ rs, ExcCls K r ∧ SubOk K r ts ∧ PySem.W.subIn K (.ref r) (.type "ValueError") = some true ∧ PySem.W.subIn K (.ref r) (.ref L) = some true
  | _ :: _, ⟨a, b, c, e, d⟩, t, h => by
    rcases List.mem_cons.1 h with rfl | h
    · exact ⟨a, b, c, e⟩
    · exact RsOk.at d t h
theorem errs_of {h : Heap} {mg : Str → Option Value} {rs : List Addr} {ts : List (Str × Addr)} {cd : ClassData} (X : K.In h) (G : h.Ns mainGlobals mg) (nL : PySem.W.nsIn K mainGlobals "LineError" = some (some (.ref L))) (h1 : TsOk K ts) (h2 : RsOk K L ts rs)
    (tL : PySem.W.clsIn K L = some cd) (yL : PySem.W.typeIn K (.ref L) = some (.type "type")) (lb : PySem.W.subIn K (.ref L) (.type "BaseException") = some true) : Errs K mg rs ts := by
  refine ⟨fun t ht => PySem.W.mg_of X G (h1.at t ht).1, fun r hr => (h2.at r hr).1, fun r hr t ht => ?_, fun r hr => kit_ve (h2.at r hr).2.2.1, ⟨L, PySem.W.mg_of X G nL, fun r hr => exm_at lb tL yL (h2.at r hr).2.2.2⟩⟩
  obtain ⟨_, ⟨q, c⟩, y⟩ := h1.at t ht
  by_cases e : r = t.2
  · rw [← e]; exact kit_self
  · rcases (h2.at r hr).2.1.at t ht with z | z
    · exact absurd z e
    · exact kit_ne c y z e
end
end Q
namespace Q
open PySem PySem.Spec PyProof.Rows L2
theorem law_callT {P : Program} {w : World} {K : PySem.W.Frag} {mg mb : Str → Option Value} {CX : CXT} {k : Nat} {fa a : Addr} {fd : FuncData} {x : Str} {sp : Sp} {s₁ : Shared} {vs : List Value} {ns : List Int} {ts : List Addr} {nm : Addr → Str}
    (KX : K.In s₁.heap) (hns : s₁.heap.Ns mainGlobals mg) (hb : s₁.heap.Ns builtinsNs mb) (hbb : ∀ x : Str, x ≠ "__name__" → mb x = bootBuiltins x) (hlim : s₁.heap.NoLimit) (hg : s₁.gens = #[])
    (ha : s₁.heap.get? a = some { cls := .type "list", data := .seq vs.toArray }) (hi : IntsAre vs ns) (hl : ns.length ≤ sizeLine) (hr : Room k callerA)
    (hts : ∀ p ∈ ts, s₁.heap.get? p = some (PySem.W.tabObj #[]) ∧ isCodeTable s₁.heap p ∧ K.lookup p = none)
    (hbm : ∃ bm ob, mg "__builtins__" = some (Value.ref bm) ∧ bm ≠ builtinsNs ∧ s₁.heap.get? bm = some ob ∧ ob.cls = Value.type "module" ∧ ob.dict = some builtinsNs ∧ ob.data = Data.plain)
    (F : ∀ base : Heap, K.In base → base.Ns mainGlobals mg → (∀ p ∈ ts, base.BuiltinsAt mg p ∧ TabB base p (nm p)) → FnOk P w K mg base CX k fa fd [x] sp) (hbind : ∀ (s : Shared) (u : Value), BindsTo s fd ⟨[u], []⟩ [(x, u)])
    (hsp : ∀ H : Hp, SqL K H a (ns.map V.int) → sp [.ref a] H (fun v _ => v = .bl true) fun _ _ _ => False)
    (hCX : ∀ H e s', CX [] H s₁ (fun _ _ _ => False) e s' → False) :
    codeAny (model P w) callerA (.call (.ref fa) ⟨[.ref a], []⟩) (fun r s' => r = .ok (.ret (.bool true)) ∧ OldK s₁.heap s'.heap ∧ s'.os = s₁.os ∧ AllBare s'.gens) s₁ := by
  let tf : Addr → Array Value := fun p => #[.str (nm p) 0]
  have rv := vals_ints hi
  have lenV := hi.length
  have nat : ∀ p ∈ ts, p ≠ a := fun p hp z => by
    have := (hts p hp).1
    rw [z, ha] at this
    have := congrArg Obj.data (Option.some.inj this)
    cases this
  -- from an abstract heap in which nothing but the script and the tables is tracked
  have core : ∀ H : Hp, (∀ b, b ∉ ts → H b = none ∨ ∃ o xs, H b = some (.frz o (.lst xs))) → (∀ p ∈ ts, H p = some (.tbl (tf p))) → SqL K H a (ns.map V.int) → HOk P w H s₁.heap → (∀ b, H b ≠ none → b = a ∨ b ∈ ts) → (H a ≠ none → K.lookup a = none) →
      codeAny (model P w) callerA (.call (.ref fa) ⟨[.ref a], []⟩) (fun r s' => r = .ok (.ret (.bool true)) ∧ OldK s₁.heap s'.heap ∧ s'.os = s₁.os ∧ AllBare s'.gens) s₁ := by
    intro H hO hO2 hS hok hA hK
    have base_of : ∀ {b : Addr} {o : Obj}, s₁.heap.get? b = some o → H b = none → (hidT s₁.heap H).get? b = some o := fun e n => hidT_get e n
    have noA : ∀ {b : Addr} {o : Obj} {es : Array DictEntry} {ep : Nat}, s₁.heap.get? b = some o → o.data = .dict es ep → H b = none := fun {b o es ep} e d => by
      cases q : H b with
      | none => rfl
      | some u =>
        rcases hA b (by rw [q]; simp) with e' | e'
        · subst e'
          rw [ha] at e; cases e
          have d' : Data.seq vs.toArray _ = Data.dict es ep := d
          cases d'
        · rw [(hts b e').1] at e; cases e
          have d' : Data.fields #[] = Data.dict es ep := d
          cases d'
    have nsK : ∀ {b : Addr} {m : Str → Option Value}, s₁.heap.Ns b m → (hidT s₁.heap H).Ns b m := fun {b m} ⟨o, es, ep, e, d, r⟩ => ⟨o, es, ep, base_of e (noA e d), d, r⟩
    have hKb : K.In (hidT s₁.heap H) := fun b o e => base_of (KX b o e) (by
      cases q : H b with
      | none => rfl
      | some u =>
        rcases hA b (by rw [q]; simp) with e' | e'
        · subst e'
          rw [hK (by rw [q]; simp)] at e; cases e
        · rw [(hts b e').2.2] at e; cases e)
    have hM : Mod K mg (hidT s₁.heap H) := ⟨hKb, nsK hns, ⟨mb, nsK hb, hbb⟩, let ⟨mc, h1, h2⟩ := hlim; ⟨mc, nsK h1, h2⟩⟩
    have e0 : Env0 P w K mg (hidT s₁.heap H) callerA [] s₁ H := ⟨rfl, hM, fun b o e => of_hidT e, Nat.le_of_eq (hidT_size _ _), trivial, fun b hb => absurd (show b ∈ ([] : List Addr) from hb) (by simp), hok, .of_eq hg, hidT_tabs _ _⟩
    have hBM0 : ∀ p ∈ ts, (hidT s₁.heap H).BuiltinsAt mg p := fun p hp => by
      obtain ⟨bm, ob, m1, m2, m3, m4, m5, m6⟩ := hbm
      have hn : H bm = none := by
        cases q : H bm with
        | none => rfl
        | some u =>
          rcases hA bm (by rw [q]; simp) with e' | e'
          · subst e'
            rw [ha] at m3; cases m3
            have d' : Data.seq vs.toArray _ = Data.plain := m6
            cases d'
          · rw [(hts bm e').1] at m3; cases m3
            have d' : Data.fields #[] = Data.plain := m6
            cases d'
      refine ⟨bm, ob, m1, m2, fun z => ?_, fun z => ?_, base_of m3 hn, m4, m5, m6⟩
      · obtain ⟨o, es, ep, e, d, _⟩ := hns
        rw [← z, m3] at e; cases e
        rw [m6] at d; cases d
      · have e := (hts p hp).1
        rw [← z, m3] at e; cases e
        have d' : Data.fields #[] = Data.plain := m6
        cases d'
    have hBM : ∀ p ∈ ts, (hidT s₁.heap H).BuiltinsAt mg p ∧ TabB (hidT s₁.heap H) p (nm p) := fun p hp => ⟨hBM0 p hp, hidT_tab (get_objs.1 (hts p hp).1).1 (hO2 p hp)⟩
    refine codeAny_mono ((F _ hKb (nsK hns) hBM).run callerA [] s₁ H ⟨[.ref a], []⟩ [.ref a] [.ref a] _ _ hr e0 (hbind s₁ (.ref a)) (.cons rfl .nil) (hsp H hS)) fun r s' h => ?_
    cases r with
    | error e => exact (hCX H e s' h).elim
    | ok fl =>
      cases fl with
      | next => exact False.elim h
      | brk => exact False.elim h
      | cont => exact False.elim h
      | ret u =>
        obtain ⟨v, H', os, bare, un, hok', r', q⟩ := h
        have q' : v = .bl true := q
        subst q'
        obtain rfl : u = Value.bool true := r'
        have tab : ∀ p ∈ ts, ∃ qs, s'.heap.get? p = some { cls := .none, data := .fields qs } := fun p hp => by
          obtain ⟨more, z⟩ := un.tbls p _ (hO2 p hp)
          obtain ⟨qs, e, _⟩ := hok' p _ z
          exact ⟨qs, e⟩
        have keep : ∀ b o, b ∉ ts → s₁.heap.get? b = some o → s'.heap.get? b = some o := fun b o hb e => by
          cases q : H b with
          | none => exact un.keep b o e q (by intro z; exact absurd (show b ∈ ([] : List Addr) from z) (by simp)) (by simp)
          | some u =>
            rcases hO b hb with z | ⟨ob, xs, z⟩
            · rw [q] at z; cases z
            · have z2 := un.frzs b ob _ z
              obtain ⟨e1, _⟩ := hok b _ z
              obtain ⟨e2, _⟩ := hok' b _ z2
              rw [e] at e1; cases e1
              exact e2
        refine ⟨rfl, ⟨fun b o e => ?_, fun b o e => ?_⟩, os, bare⟩
        · by_cases hb : b ∈ ts
          · obtain ⟨t1, t2, _⟩ := hts b hb
            rw [t1] at e
            cases e
            obtain ⟨qs, z⟩ := tab b hb
            exact .inr (.inl ⟨t2, rfl, #[], qs, rfl, by rw [z]; simp⟩)
          · exact .inl (keep b o hb e)
        · by_cases hb : b ∈ ts
          · obtain ⟨qs, z⟩ := tab b hb; exact ⟨_, z⟩
          · exact ⟨o, keep b o hb e⟩
  have tabOk : ∀ (H : Hp) (p : Addr), p ∈ ts → ObjOk P w H s₁.heap p (.tbl (tf p)) := fun H p hp => ⟨#[], (hts p hp).1, trivial, fun pos cv q => by simp [codeAmong] at q⟩
  cases hk : K.lookup a with
  | some o =>
    have e := KX a o hk
    rw [ha] at e
    cases e
    refine core (fun b => if b ∈ ts then some (.tbl (tf b)) else none) (fun b hb => .inl (if_neg hb)) (fun p hp => if_pos hp) (.inr ⟨_, vs.toArray, _, hk, rfl, rfl, rfl, by rw [List.size_toArray, lenV]; exact hl, by simpa using rv⟩) (fun b u z => ?_) (fun b z => ?_) fun z => absurd (if_neg fun hb => nat a hb rfl) z
    · by_cases hb : b ∈ ts
      · have z' := (if_pos hb).symm.trans z
        cases z'
        exact tabOk _ b hb
      · have z' := (if_neg hb).symm.trans z
        cases z'
    · by_cases hb : b ∈ ts
      · exact .inr hb
      · exact absurd (if_neg hb) z
  | none =>
    have na : a ∉ ts := fun z => nat a z rfl
    refine core (fun b => if b = a then some (.frz { cls := .type "list", data := .seq vs.toArray } (.lst (ns.map V.int))) else if b ∈ ts then some (.tbl (tf b)) else none) (fun b hb => ?_) (fun p hp => ?_) (.inl (.inr ⟨{ cls := .type "list", data := .seq vs.toArray }, if_pos rfl⟩)) (fun b u z => ?_) (fun b z => ?_) fun _ => hk
    · by_cases hb' : b = a
      · exact .inr ⟨_, _, if_pos hb'⟩
      · exact .inl ((if_neg hb').trans (if_neg hb))
    · exact (if_neg (nat p hp)).trans (if_pos hp)
    · by_cases hb : b = a
      · have z' := (if_pos hb).symm.trans z
        cases z'
        subst hb
        exact ⟨ha, by rw [List.length_map]; exact hl, vs, _, rv, ha⟩
      · have z' := (if_neg hb).symm.trans z
        by_cases hb2 : b ∈ ts
        · rw [if_pos hb2] at z'
          cases z'
          exact tabOk _ b hb2
        · rw [if_neg hb2] at z'
          cases z'
    · by_cases hb : b = a
      · exact .inl hb
      · by_cases hb2 : b ∈ ts
        · exact .inr hb2
        · exact absurd ((if_neg hb).trans (if_neg hb2)) z
theorem codeTab {h : Heap} {c p : Addr} (q : PySem.W.CodeHd h c p) : isCodeTable h p := by
  obtain ⟨o, vs, _, _, _, _, _, _, _, e, e1, e2, e3, _⟩ := q
  exact ⟨c, o, vs, e, e1, e2, e3⟩
theorem lookup_out {α β : Type} [BEq α] [LawfulBEq α] {a : α} : ∀ {l : List (α × β)}, a ∉ l.map (·.1) → l.lookup a = none
  | [], _ => rfl
  | (k, v) :: r, h => by
    simp only [List.map_cons, List.mem_cons, not_or] at h
    have : (a == k) = false := by simp; exact h.1
    simp only [List.lookup_cons, this]
    exact lookup_out h.2
theorem walkT {l : PySem.W.OpenLaw} {q : Program} {loose : List Str} {XP : (Str → Option Value) → Heap → Prop} {d : DefRec} {K : Params → PySem.W.Frag} {as : List Addr} {e : ∀ P : Params, as = (K P).map (·.1)} {L : Nat} {ts : List Addr} (hL : Room L callerA) (hn : l.most = some 63) (hdf : d.params.defaults = [])
    (hts : ∀ p ∈ ts, p ∉ as)
    (F : ∀ (w : World) (mg : Str → Option Value) (fa : Addr) (h : Heap), (K w.params).In h → h.Ns mainGlobals mg → mg d.name = some (.ref fa) →
      (∀ p ∈ ts, isCodeTable h p) ∧ ∃ nm : Addr → Str,
      ∃ fd : FuncData, (∀ (s : Shared) (u : Value), BindsTo s fd ⟨[u], []⟩ [("_law_script", u)]) ∧ ∀ base : Heap, (K w.params).In base → base.Ns mainGlobals mg → (∀ p ∈ ts, base.BuiltinsAt mg p ∧ TabB base p (nm p)) → FnF l.prog w (K w.params) mg base L fa fd ["_law_script"] lawF) :
    PySem.W.WalkO q loose XP (PySem.W.kmHook K as e ts).says l.row.toRowW d [] (fun f vs => PySem.call f vs) := by
  refine Att.attach_call hn hdf fun w s₀ s₁ mg mb fa o pm cd doc a vs ns G Y ho hd hcd hmg hobj hints hlen hg => ?_
  have KX := PySem.W.km_in_of Y
  obtain ⟨ht, nm, fd, hb, hF⟩ := F w mg fa _ KX G.T.g hmg
  refine law_callT KX G.T.g G.T.b G.T.builtins G.T.nolimit hg hobj hints (Nat.le_trans hlen (by decide)) hL (fun p hp => ⟨PySem.W.km_tabs_of Y p hp, ht p hp, lookup_out (by rw [← e w.params]; exact hts p hp)⟩) G.T.bmain hF hb (fun H hS => ⟨rfl, H, [.lst true (ns.map .int)], .refl _, .cons (.fls hS (reps_ints ns)) .nil, ?_⟩) fun H e s' z => by obtain ⟨a, C, H', _, _, z⟩ := z; exact z
  have e : lawF [.lst true (ns.map .int)] = .ok (.bl true) := by simp only [lawF, intsD_map]
  rw [e]
  exact fun v G' H' u r => r.bl_inv
theorem fun_atL {K : PySem.W.Frag} {h : Heap} {mg : Str → Option Value} {x : Str} {st : Stmt} {f c Pt : Addr} {oc : Value} {od an od2 : Option Addr} {osl sl2 : Array (Option Value)} {kV doc pm ct : Value} {vs : Array Value} {file : Str} {tf tg tt : Tok} {flags text : Int} {inF : Bool} (X : K.In h) (G : h.Ns mainGlobals mg) (a : PySem.W.nsIn K mainGlobals x = some (some (.ref f)))
    (l : K.lookup f = some ⟨oc, od, .func (PySem.W.fnOf x x (defArgs st) (defBody st) (defScope st) .none kV doc pm an (.ref c) ct), osl⟩) (cI : PySem.W.codeIn K (.ref c) x = true) (k : PySem.W.keepIn K (.ref f) = true)
    (lc : K.lookup c = some ⟨.type "code", od2, .fields vs, sl2⟩) (e11 : vs[11]? = some (.ref Pt)) (e11' : vs.getD 11 .none = .ref Pt) (e18 : vs.getD 18 .none = .str file tf) (e7 : vs.getD 7 .none = .int flags tg) (e9 : vs.getD 9 .none = .bool inF) (e10 : vs.getD 10 .none = .int text tt) (nc : c ≠ Pt) (n4 : mainGlobals ≠ Pt) :
    ∃ f fd, (Fun K x x st f fd ∧ mg x = some (.ref f)) ∧ LamDef K mg fd Pt := by
  have hc : ∀ h, K.In h → PySem.W.CodeHd h c Pt := fun h X => ⟨_, vs, file, tf, flags, tg, inF, text, tt, X _ _ lc, rfl, rfl, e11, e11', e18, e7, e9, e10, nc⟩
  exact ⟨f, _, ⟨fun_mk l cI k, PySem.W.mg_of X G a⟩, ⟨⟨c, rfl, hc⟩, n4⟩⟩
theorem LamDef.tab {K : PySem.W.Frag} {h : Heap} {mg : Str → Option Value} {fd : FuncData} {Pt : Addr} (L : LamDef K mg fd Pt) (X : K.In h) : isCodeTable h Pt := by
  obtain ⟨c, _, q⟩ := L.ex
  exact codeTab (q h X)
theorem tab_of {K : PySem.W.Frag} {h : Heap} {mg : Str → Option Value} {Pt : Addr} {q : Str} {L : List (Addr × Str)} {S : Addr → FuncData → Prop} (LD : ∃ f fd, S f fd ∧ LamDef K mg fd Pt) (X : K.In h) (r : ∀ pq ∈ L, isCodeTable h pq.1) : ∀ pq ∈ (Pt, q) :: L, isCodeTable h pq.1 := fun pq hp => by
  obtain ⟨f, fd, _, ld⟩ := LD
  rcases List.mem_cons.1 hp with z | z
  · rw [z]; exact LamDef.tab ld X
  · exact r pq z
theorem tab_no {h : Heap} : ∀ pq ∈ ([] : List (Addr × Str)), isCodeTable h pq.1 := fun pq hp => by simp at hp
theorem topT {P : Program} {w : World} {K : PySem.W.Frag} {h : Heap} {mg : Str → Option Value} {fa : Addr} {L : Nat} {ts : List Addr} {tq : List (Addr × Str)} (h1 : ∀ p ∈ ts, p ∈ tq.map (·.1)) (h2 : ∀ pq ∈ tq, pq.1 ∈ ts ∧ tq.lookup pq.1 = some pq.2) (hc : ∀ pq ∈ tq, isCodeTable h pq.1)
    (a : ∃ fd : FuncData, (∀ (s : Shared) (u : Value), BindsTo s fd ⟨[u], []⟩ [("_law_script", u)]) ∧ ∀ base : Heap, K.In base → base.Ns mainGlobals mg → (∀ pq ∈ tq, base.BuiltinsAt mg pq.1 ∧ TabB base pq.1 pq.2) → FnF P w K mg base L fa fd ["_law_script"] lawF) :
    (∀ p ∈ ts, isCodeTable h p) ∧ ∃ nm : Addr → Str, ∃ fd : FuncData, (∀ (s : Shared) (u : Value), BindsTo s fd ⟨[u], []⟩ [("_law_script", u)]) ∧ ∀ base : Heap, K.In base → base.Ns mainGlobals mg → (∀ p ∈ ts, base.BuiltinsAt mg p ∧ TabB base p (nm p)) →
      FnF P w K mg base L fa fd ["_law_script"] lawF := by
  obtain ⟨fd', hb, hF⟩ := a
  refine ⟨fun p hp => ?_, fun p => (tq.lookup p).getD Str.empty, fd', hb, fun base kb nb hB => hF base kb nb fun pq hpq => ?_⟩
  · obtain ⟨pq, hpq, rfl⟩ := List.mem_map.1 (h1 p hp)
    exact hc pq hpq
  · obtain ⟨z1, z2⟩ := h2 pq hpq
    have := hB pq.1 z1
    dsimp only at this
    rw [z2] at this
    exact this
end Q
namespace G89
open PySem PySem.Spec PyProof.Rows L2 Q Q70 Q96 Q89
noncomputable abbrev top (i : Nat) : Stmt := PySem.Challenge.pw_screenlines_k89_whole_screen_texts_spoil.main.body.getD i (.Pass ⟨0, 0, 0, 0⟩)
section
variable {P : Program} {w : World} {K : PySem.W.Frag} {mg : Str → Option Value} {base : Heap}
theorem sc_law_cell : FnScope ["_law_script", "_law_k"] ["_law_script", "_law_k"] (defScope (top 34)) := ⟨rfl, rfl, rfl, by decide +kernel, rfl, by decide +kernel, by decide +kernel⟩
theorem rd_law_cell {f : Addr} {fd : FuncData} (b_len : mg "len" = none) (Fn : Fun K "_law_cell" "_law_cell" (top 34) f fd) : FnF P w K mg base 1 f fd ["_law_script", "_law_k"] (fun ds => bodyR (law_cell_all (startE 2 ds))) := by
  have hN : (["_law_script", "_law_k"] : List Str).Nodup := by decide
  refine Fn.okF sc_law_cell (k := 0) (g := law_cell_all) fun cdv A outer s H E hr => ?_
  have hu := hr.units
  have hh := hr.hd
  exact (k_cons (k_if (k_blt (k_var at1) (k_len rfl b_len (k_acons (k_var at0) pfa_nil))) (k_cons (k_ret (pf_ix (k_var at0) (k_var at1))) k_nil) k_nil) (k_cons (k_if (k_beq hu (k_var at0) (k_list (k_lst pfa_nil))) (k_cons (k_ret pf_int) k_nil) k_nil) (k_cons (k_ret (pf_add (pf_mul (pf_ix (k_var at0) (pf_mod (k_var at1) (k_len rfl b_len (k_acons (k_var at0) pfa_nil)))) pf_int) (k_var at1))) k_nil)))
theorem sc_law_pick : FnScope ["_law_script", "_law_k", "_law_many", "_law_drawn"] ["_law_script", "_law_k", "_law_many"] (defScope (top 35)) := ⟨rfl, rfl, rfl, by decide +kernel, rfl, by decide +kernel, by decide +kernel⟩
theorem rd_law_pick {f : Addr} {fd : FuncData} {F__law_cell : List D → R D} (c__law_cell : Callee P w K mg base "_law_cell" 1 2 F__law_cell) (Fn : Fun K "_law_pick" "_law_pick" (top 35) f fd) : FnF P w K mg base 2 f fd ["_law_script", "_law_k", "_law_many"] (fun ds => bodyR (law_pick_all F__law_cell (startE 4 ds))) := by
  have hN : (["_law_script", "_law_k", "_law_many", "_law_drawn"] : List Str).Nodup := by decide
  refine Fn.okF sc_law_pick (k := 1) (g := law_pick_all F__law_cell) fun cdv A outer s H E hr => ?_
  have hu := hr.units
  have hh := hr.hd
  exact (k_cons (k_put at3 hN (pf_mod (pf_mul (pf_add (k_call c__law_cell hr (k_acons (k_var at0) (k_acons (k_var at1) pfa_nil))) (pf_mul pf_int (pf_add (k_var at1) pf_int))) pf_int) pf_int)) (k_cons (k_ret (pf_mod (pf_mod (pf_add (pf_mul (k_var at3) (k_var at3)) (pf_fdiv (k_var at3) pf_int)) pf_int) (k_var at2))) k_nil))
theorem sc_law_row : FnScope ["_law_script", "_law_at", "_law_width", "_law_made", "_law_k", "_law_long"] ["_law_script", "_law_at", "_law_width"] (defScope (top 36)) := ⟨rfl, rfl, rfl, by decide +kernel, rfl, by decide +kernel, by decide +kernel⟩
theorem rd_law_row {f : Addr} {fd : FuncData} {F__law_pick : List D → R D} (b_range : mg "range" = none) (c__law_pick : Callee P w K mg base "_law_pick" 2 3 F__law_pick) (Fn : Fun K "_law_row" "_law_row" (top 36) f fd) : FnF P w K mg base 3 f fd ["_law_script", "_law_at", "_law_width"] (fun ds => bodyR (law_row_all F__law_pick (startE 6 ds))) := by
  have hN : (["_law_script", "_law_at", "_law_width", "_law_made", "_law_k", "_law_long"] : List Str).Nodup := by decide
  refine Fn.okF sc_law_row (k := 2) (g := law_row_all F__law_pick) fun cdv A outer s H E hr => ?_
  have hu := hr.units
  have hh := hr.hd
  exact (k_cons (k_put at3 hN (pf_str (l := []) rfl (by decide))) (k_cons (k_for PassesOwn.leaving rfl (k_irange rfl b_range (k_acons (k_var at2) pfa_nil)) (pgf_name 4 hN) (k_cons (k_put at3 hN (pf_add (k_var at3) (pf_ix (pf_str (l := [32, 32, 97, 98, 35]) rfl (by decide)) (k_call c__law_pick hr (k_acons (k_var at0) (k_acons (pf_add (pf_add (k_var at1) pf_int) (k_var at4)) (k_acons pf_int pfa_nil))))))) k_nil)) (k_cons (k_put at5 hN (k_call c__law_pick hr (k_acons (k_var at0) (k_acons (k_var at1) (k_acons (pf_add (k_var at2) pf_int) pfa_nil))))) (k_cons (k_ret (pf_if (k_beq hu (k_call c__law_pick hr (k_acons (k_var at0) (k_acons (pf_add (k_var at1) pf_int) (k_acons pf_int pfa_nil)))) pf_int) (k_var at3) (pf_add (pf_slice (k_var at3) pfo_none (k_some (k_var at5))) (pf_mul (pf_str (l := [32]) rfl (by decide)) (pf_sub (k_var at2) (k_var at5)))))) k_nil))))
theorem sc_law_screen : FnScope ["_law_script", "_law_at", "_law_width", "_law_many", "_law_rows"] ["_law_script", "_law_at", "_law_width", "_law_many"] (defScope (top 37)) := ⟨rfl, rfl, rfl, by decide +kernel, rfl, by decide +kernel, by decide +kernel⟩
theorem rd_law_screen {f : Addr} {fd : FuncData} {F__law_row : List D → R D} {F__law_pick : List D → R D} (b_range : mg "range" = none) (b_tuple : mg "tuple" = none) (c__law_row : Callee P w K mg base "_law_row" 3 3 F__law_row) (c__law_pick : Callee P w K mg base "_law_pick" 3 3 F__law_pick) (Fn : Fun K "_law_screen" "_law_screen" (top 37) f fd) : FnF P w K mg base 4 f fd ["_law_script", "_law_at", "_law_width", "_law_many"] (fun ds => bodyR (law_screen_all F__law_row F__law_pick (startE 5 ds))) := by
  have hN : (["_law_script", "_law_at", "_law_width", "_law_many", "_law_rows"] : List Str).Nodup := by decide
  refine Fn.okF sc_law_screen (k := 3) (g := law_screen_all F__law_row F__law_pick) fun cdv A outer s H E hr => ?_
  have hu := hr.units
  have hh := hr.hd
  exact (k_cons (k_put at4 hN (k_tupleOf rfl b_tuple (k_acons (k_comp (pfl_comp (N' := ["_law_k", "_law_script", "_law_at", "_law_width"]) (ix := [0, 1, 2]) comp_ok rfl (k_irange rfl b_range (k_acons (k_var at3) pfa_nil)) (fun C s₂ H₂ fp => (k_call c__law_row hr (k_acons (k_varC at1) (k_acons (pf_add (k_varC at2) (pf_mul pf_int (k_varC at0))) (k_acons (k_varC at3) pfa_nil))))) (fun C s₂ H₂ fp => pts_nil))) pfa_nil))) (k_cons (k_ret (k_tup (k_acons (k_var at2) (k_acons (k_var at4) (k_acons (k_tup (k_acons (k_call c__law_pick hr (k_acons (k_var at0) (k_acons (pf_add (k_var at1) pf_int) (k_acons (k_var at3) pfa_nil)))) (k_acons (k_call c__law_pick hr (k_acons (k_var at0) (k_acons (pf_add (k_var at1) pf_int) (k_acons (pf_add (k_var at2) pf_int) pfa_nil)))) pfa_nil))) pfa_nil))))) k_nil))
theorem sc_law_some : FnScope ["_law_script", "_law_at"] ["_law_script", "_law_at"] (defScope (top 38)) := ⟨rfl, rfl, rfl, by decide +kernel, rfl, by decide +kernel, by decide +kernel⟩
theorem rd_law_some {f : Addr} {fd : FuncData} {F__law_pick : List D → R D} {F__law_screen : List D → R D} (c__law_pick : Callee P w K mg base "_law_pick" 4 3 F__law_pick) (c__law_screen : Callee P w K mg base "_law_screen" 4 4 F__law_screen) (Fn : Fun K "_law_some" "_law_some" (top 38) f fd) : FnF P w K mg base 5 f fd ["_law_script", "_law_at"] (fun ds => bodyR (law_some_all F__law_pick F__law_screen (startE 2 ds))) := by
  have hN : (["_law_script", "_law_at"] : List Str).Nodup := by decide
  refine Fn.okF sc_law_some (k := 4) (g := law_some_all F__law_pick F__law_screen) fun cdv A outer s H E hr => ?_
  have hu := hr.units
  have hh := hr.hd
  exact (k_cons (k_ret (k_call c__law_screen hr (k_acons (k_var at0) (k_acons (pf_add (k_var at1) pf_int) (k_acons (pf_add pf_int (k_call c__law_pick hr (k_acons (k_var at0) (k_acons (k_var at1) (k_acons pf_int pfa_nil))))) (k_acons (pf_add pf_int (k_call c__law_pick hr (k_acons (k_var at0) (k_acons (pf_add (k_var at1) pf_int) (k_acons pf_int pfa_nil))))) pfa_nil)))))) k_nil)
theorem sc_is_whole : FnScope ["thing"] ["thing"] (defScope (top 12)) := ⟨rfl, rfl, rfl, by decide +kernel, rfl, by decide +kernel, by decide +kernel⟩
theorem rd_is_whole {f : Addr} {fd : FuncData} (b_bool : mg "bool" = none) (b_int : mg "int" = none) (b_isinstance : mg "isinstance" = none) (Fn : Fun K "is_whole" "is_whole" (top 12) f fd) : FnF P w K mg base 1 f fd ["thing"] (fun ds => bodyR (is_whole_all (startE 1 ds))) := by
  have hN : (["thing"] : List Str).Nodup := by decide
  refine Fn.okF sc_is_whole (k := 0) (g := is_whole_all) fun cdv A outer s H E hr => ?_
  have hu := hr.units
  have hh := hr.hd
  exact (k_cons (k_ret (pf_and (k_isInt b_isinstance (k_var at0) b_int) (pf_one (pf_not (k_isBool b_isinstance (k_var at0) b_bool))))) k_nil)
theorem sc_is_within : FnScope ["thing", "low", "high"] ["thing", "low", "high"] (defScope (top 13)) := ⟨rfl, rfl, rfl, by decide +kernel, rfl, by decide +kernel, by decide +kernel⟩
theorem rd_is_within {f : Addr} {fd : FuncData} {F_is_whole : List D → R D} (c_is_whole : Callee P w K mg base "is_whole" 1 1 F_is_whole) (Fn : Fun K "is_within" "is_within" (top 13) f fd) : FnF P w K mg base 2 f fd ["thing", "low", "high"] (fun ds => bodyR (is_within_all F_is_whole (startE 3 ds))) := by
  have hN : (["thing", "low", "high"] : List Str).Nodup := by decide
  refine Fn.okF sc_is_within (k := 1) (g := is_within_all F_is_whole) fun cdv A outer s H E hr => ?_
  have hu := hr.units
  have hh := hr.hd
  exact (k_cons (k_ret (pf_and (k_call c_is_whole hr (k_acons (k_var at0) pfa_nil)) (pf_one (pf_lele (k_var at1) (k_var at0) (k_var at2))))) k_nil)
theorem sc_is_plain : FnScope ["thing"] ["thing"] (defScope (top 14)) := ⟨rfl, rfl, rfl, by decide +kernel, rfl, by decide +kernel, by decide +kernel⟩
theorem rd_is_plain {f : Addr} {fd : FuncData} (b_all : mg "all" = none) (b_isinstance : mg "isinstance" = none) (b_str : mg "str" = none) (Fn : Fun K "is_plain" "is_plain" (top 14) f fd) : FnF P w K mg base 1 f fd ["thing"] (fun ds => bodyR (is_plain_all (startE 1 ds))) := by
  have hN : (["thing"] : List Str).Nodup := by decide
  refine Fn.okF sc_is_plain (k := 0) (g := is_plain_all) fun cdv A outer s H E hr => ?_
  have hu := hr.units
  have hh := hr.hd
  exact (k_cons (k_ret (pf_and (k_isStr b_isinstance (k_var at0) b_str) (pf_one (k_all rfl rfl b_all (k_acons (k_comp (pfl_comp (N' := ["sign"]) (ix := []) comp_ok rfl (k_ival (k_var at0)) (fun C s₂ H₂ fp => (pf_lele (pf_str (l := [32]) rfl (by decide)) (k_varC at0) (pf_str (l := [126]) rfl (by decide)))) (fun C s₂ H₂ fp => pts_nil))) pfa_nil))))) k_nil)
theorem sc_are_full_rows : FnScope ["thing", "width"] ["thing", "width"] (defScope (top 19)) := ⟨rfl, rfl, rfl, by decide +kernel, rfl, by decide +kernel, by decide +kernel⟩
theorem rd_are_full_rows {f : Addr} {fd : FuncData} {F_is_plain : List D → R D} (b_all : mg "all" = none) (b_isinstance : mg "isinstance" = none) (b_len : mg "len" = none) (b_tuple : mg "tuple" = none) {t_MOST_ROWS : Tok} (g_MOST_ROWS : mg "MOST_ROWS" = some (.int 12 t_MOST_ROWS)) (c_is_plain : Callee P w K mg base "is_plain" 1 1 F_is_plain) (Fn : Fun K "are_full_rows" "are_full_rows" (top 19) f fd) : FnF P w K mg base 2 f fd ["thing", "width"] (fun ds => bodyR (are_full_rows_all F_is_plain (startE 2 ds))) := by
  have hN : (["thing", "width"] : List Str).Nodup := by decide
  refine Fn.okF sc_are_full_rows (k := 1) (g := are_full_rows_all F_is_plain) fun cdv A outer s H E hr => ?_
  have hu := hr.units
  have hh := hr.hd
  exact (k_cons (k_if (k_bop (pbw_or (k_bnot (k_bval (k_isTuple b_isinstance (k_var at0) b_tuple))) (pbw_or1 (k_bnot (k_blele pf_int (k_len rfl b_len (k_acons (k_var at0) pfa_nil)) (pf_globI rfl g_MOST_ROWS)))))) (k_cons (k_ret pf_bl) k_nil) k_nil) (k_cons (k_ret (k_all rfl rfl b_all (k_acons (k_comp (pfl_comp (N' := ["row", "width"]) (ix := [1]) comp_ok rfl (k_ival (k_var at0)) (fun C s₂ H₂ fp => (pf_and (k_call c_is_plain hr (k_acons (k_varC at0) pfa_nil)) (pf_one (pf_eq hu (k_len rfl b_len (k_acons (k_varC at0) pfa_nil)) (k_varC at1))))) (fun C s₂ H₂ fp => pts_nil))) pfa_nil))) k_nil))
theorem sc_is_place : FnScope ["thing", "width", "many"] ["thing", "width", "many"] (defScope (top 20)) := ⟨rfl, rfl, rfl, by decide +kernel, rfl, by decide +kernel, by decide +kernel⟩
theorem rd_is_place {f : Addr} {fd : FuncData} {F_is_within : List D → R D} (b_isinstance : mg "isinstance" = none) (b_len : mg "len" = none) (b_tuple : mg "tuple" = none) (c_is_within : Callee P w K mg base "is_within" 2 3 F_is_within) (Fn : Fun K "is_place" "is_place" (top 20) f fd) : FnF P w K mg base 3 f fd ["thing", "width", "many"] (fun ds => bodyR (is_place_all F_is_within (startE 3 ds))) := by
  have hN : (["thing", "width", "many"] : List Str).Nodup := by decide
  refine Fn.okF sc_is_place (k := 2) (g := is_place_all F_is_within) fun cdv A outer s H E hr => ?_
  have hu := hr.units
  have hh := hr.hd
  exact (k_cons (k_if (k_bop (pbw_or (k_bnot (k_bval (k_isTuple b_isinstance (k_var at0) b_tuple))) (pbw_or1 (k_bne hu (k_len rfl b_len (k_acons (k_var at0) pfa_nil)) pf_int)))) (k_cons (k_ret pf_bl) k_nil) k_nil) (k_cons (k_ret (pf_and (k_call c_is_within hr (k_acons (pf_ix (k_var at0) pf_int) (k_acons pf_int (k_acons (pf_sub (k_var at2) pf_int) pfa_nil)))) (pf_one (k_call c_is_within hr (k_acons (pf_ix (k_var at0) pf_int) (k_acons pf_int (k_acons (k_var at1) pfa_nil))))))) k_nil))
theorem sc_is_screen : FnScope ["thing", "width"] ["thing"] (defScope (top 21)) := ⟨rfl, rfl, rfl, by decide +kernel, rfl, by decide +kernel, by decide +kernel⟩
theorem rd_is_screen {f : Addr} {fd : FuncData} {F_is_within : List D → R D} {F_are_full_rows : List D → R D} {F_is_place : List D → R D} (b_isinstance : mg "isinstance" = none) (b_len : mg "len" = none) (b_tuple : mg "tuple" = none) {t_MOST_WIDTH : Tok} (g_MOST_WIDTH : mg "MOST_WIDTH" = some (.int 40 t_MOST_WIDTH)) (c_is_within : Callee P w K mg base "is_within" 3 3 F_is_within) (c_are_full_rows : Callee P w K mg base "are_full_rows" 3 2 F_are_full_rows) (c_is_place : Callee P w K mg base "is_place" 3 3 F_is_place) (Fn : Fun K "is_screen" "is_screen" (top 21) f fd) : FnF P w K mg base 4 f fd ["thing"] (fun ds => bodyR (is_screen_all F_is_within F_are_full_rows F_is_place (startE 2 ds))) := by
  have hN : (["thing", "width"] : List Str).Nodup := by decide
  refine Fn.okF sc_is_screen (k := 3) (g := is_screen_all F_is_within F_are_full_rows F_is_place) fun cdv A outer s H E hr => ?_
  have hu := hr.units
  have hh := hr.hd
  exact (k_cons (k_if (k_bop (pbw_or (k_bnot (k_bval (k_isTuple b_isinstance (k_var at0) b_tuple))) (pbw_or1 (k_bne hu (k_len rfl b_len (k_acons (k_var at0) pfa_nil)) pf_int)))) (k_cons (k_ret pf_bl) k_nil) k_nil) (k_cons (k_put at1 hN (pf_ix (k_var at0) pf_int)) (k_cons (k_if (k_bop (pbw_or (k_bnot (k_bval (k_call c_is_within hr (k_acons (k_var at1) (k_acons pf_int (k_acons (pf_globI rfl g_MOST_WIDTH) pfa_nil)))))) (pbw_or1 (k_bnot (k_bval (k_call c_are_full_rows hr (k_acons (pf_ix (k_var at0) pf_int) (k_acons (k_var at1) pfa_nil)))))))) (k_cons (k_ret pf_bl) k_nil) k_nil) (k_cons (k_ret (k_call c_is_place hr (k_acons (pf_ix (k_var at0) pf_int) (k_acons (k_var at1) (k_acons (k_len rfl b_len (k_acons (pf_ix (k_var at0) pf_int) pfa_nil)) pfa_nil))))) k_nil))))
theorem sc_check_screen : FnScope ["thing"] ["thing"] (defScope (top 22)) := ⟨rfl, rfl, rfl, by decide +kernel, rfl, by decide +kernel, by decide +kernel⟩
theorem rd_check_screen {f : Addr} {fd : FuncData} {F_is_screen : List D → R D} {C_NoScreen : Addr} (r_NoScreen : Ref "NoScreen" C_NoScreen mg base) (c_is_screen : Callee P w K mg base "is_screen" 4 1 F_is_screen) (Fn : Fun K "check_screen" "check_screen" (top 22) f fd) : FnF P w K mg base 5 f fd ["thing"] (fun ds => bodyR (check_screen_all F_is_screen C_NoScreen (startE 1 ds))) := by
  have hN : (["thing"] : List Str).Nodup := by decide
  refine Fn.okF sc_check_screen (k := 4) (g := check_screen_all F_is_screen C_NoScreen) fun cdv A outer s H E hr => ?_
  have hu := hr.units
  have hh := hr.hd
  exact (k_cons (k_if (k_bnot (k_bval (k_call c_is_screen hr (k_acons (k_var at0) pfa_nil)))) (k_cons (k_raise r_NoScreen hh (pf_str (l := [116, 104, 105, 115, 32, 105, 115, 32, 110, 111, 32, 115, 99, 114, 101, 101, 110]) rfl (by decide))) k_nil) k_nil) k_nil)
theorem sc_spot_text : FnScope ["row", "column"] ["row", "column"] (defScope (top 25)) := ⟨rfl, rfl, rfl, by decide +kernel, rfl, by decide +kernel, by decide +kernel⟩
theorem rd_spot_text {f : Addr} {fd : FuncData} (Fn : Fun K "spot_text" "spot_text" (top 25) f fd) : FnF P w K mg base 1 f fd ["row", "column"] (fun ds => bodyR (spot_text_all (startE 2 ds))) := by
  have hN : (["row", "column"] : List Str).Nodup := by decide
  refine Fn.okF sc_spot_text (k := 0) (g := spot_text_all) fun cdv A outer s H E hr => ?_
  have hu := hr.units
  have hh := hr.hd
  exact (k_cons (k_ret (k_fstr3 (k_fmt (k_var at0)) (pf_str (l := [32]) rfl (by decide)) (k_fmt (k_var at1)))) k_nil)
theorem sc_screen_text : FnScope ["screen", "rows"] ["screen"] (defScope (top 30)) := ⟨rfl, rfl, rfl, by decide +kernel, rfl, by decide +kernel, by decide +kernel⟩
theorem rd_screen_text {f : Addr} {fd : FuncData} {F_check_screen : List D → R D} {F_spot_text : List D → R D} (c_check_screen : Callee P w K mg base "check_screen" 5 1 F_check_screen) (c_spot_text : Callee P w K mg base "spot_text" 5 2 F_spot_text) (Fn : Fun K "screen_text" "screen_text" (top 30) f fd) : FnF P w K mg base 6 f fd ["screen"] (fun ds => bodyR (screen_text_all F_check_screen F_spot_text (startE 2 ds))) := by
  have hN : (["screen", "rows"] : List Str).Nodup := by decide
  refine Fn.okF sc_screen_text (k := 5) (g := screen_text_all F_check_screen F_spot_text) fun cdv A outer s H E hr => ?_
  have hu := hr.units
  have hh := hr.hd
  exact (k_cons (k_expr (k_call c_check_screen hr (k_acons (k_var at0) pfa_nil))) (k_cons (k_compA 1 hN (N' := ["row"]) (ix := []) comp_ok rfl (k_ival (pf_ix (k_var at0) pf_int)) (fun C s₂ H₂ fp => (k_fstr3 (pf_str (l := [124]) rfl (by decide)) (k_fmt (k_varC at0)) (pf_str (l := [124, 10]) rfl (by decide)))) (fun C s₂ H₂ fp => pts_nil)) (k_frz 1 (k_cons (k_ret (pf_add (pf_add (k_join (pf_str (l := []) rfl (by decide)) (k_acons (k_var at1) pfa_nil)) (k_call c_spot_text hr (k_acons (pf_ix (pf_ix (k_var at0) pf_int) pf_int) (k_acons (pf_ix (pf_ix (k_var at0) pf_int) pf_int) pfa_nil)))) (pf_str (l := [10]) rfl (by decide)))) k_nil))))
theorem sc_law_spoilt : FnScope ["_law_text", "_law_cell_here", "_law_signs", "_law_at", "_law_sign", "_law_on", "_law_way"] ["_law_text", "_law_cell_here", "_law_signs"] (defScope (top 41)) := ⟨rfl, rfl, rfl, by decide +kernel, rfl, by decide +kernel, by decide +kernel⟩
theorem rd_law_spoilt {f : Addr} {fd : FuncData} (b_len : mg "len" = none) (Fn : Fun K "_law_spoilt" "_law_spoilt" (top 41) f fd) : FnF P w K mg base 1 f fd ["_law_text", "_law_cell_here", "_law_signs"] (fun ds => bodyR (law_spoilt_all (startE 7 ds))) := by
  have hN : (["_law_text", "_law_cell_here", "_law_signs", "_law_at", "_law_sign", "_law_on", "_law_way"] : List Str).Nodup := by decide
  refine Fn.okF sc_law_spoilt (k := 0) (g := law_spoilt_all) fun cdv A outer s H E hr => ?_
  have hu := hr.units
  have hh := hr.hd
  exact (k_cons (k_put at3 hN (pf_mod (k_var at1) (pf_add (k_len rfl b_len (k_acons (k_var at0) pfa_nil)) pf_int))) (k_cons (k_put at4 hN (pf_ix (k_var at2) (pf_mod (pf_fdiv (k_var at1) pf_int) (k_len rfl b_len (k_acons (k_var at2) pfa_nil))))) (k_cons (k_put at5 hN (pf_add (pf_add (k_var at3) pf_int) (pf_mod (pf_fdiv (k_var at1) pf_int) pf_int))) (k_cons (k_put at6 hN (pf_mod (pf_fdiv (k_var at1) pf_int) pf_int)) (k_cons (k_if (k_blt (k_var at6) pf_int) (k_cons (k_ret (pf_add (pf_add (pf_slice (k_var at0) pfo_none (k_some (k_var at3))) (k_var at4)) (pf_slice (k_var at0) (k_some (k_var at3)) pfo_none))) k_nil) k_nil) (k_cons (k_if (k_beq hu (k_var at6) pf_int) (k_cons (k_ret (pf_add (pf_slice (k_var at0) pfo_none (k_some (k_var at3))) (pf_slice (k_var at0) (k_some (pf_add (k_var at3) pf_int)) pfo_none))) k_nil) k_nil) (k_cons (k_if (k_blt (k_var at6) pf_int) (k_cons (k_ret (pf_add (pf_add (pf_slice (k_var at0) pfo_none (k_some (k_var at3))) (k_var at4)) (pf_slice (k_var at0) (k_some (pf_add (k_var at3) pf_int)) pfo_none))) k_nil) k_nil) (k_cons (k_if (k_beq hu (k_var at6) pf_int) (k_cons (k_ret (pf_add (pf_slice (k_var at0) pfo_none (k_some (k_var at3))) (pf_slice (k_var at0) (k_some (k_var at5)) pfo_none))) k_nil) k_nil) (k_cons (k_if (k_beq hu (k_var at6) pf_int) (k_cons (k_ret (pf_add (pf_slice (k_var at0) pfo_none (k_some (k_var at5))) (pf_slice (k_var at0) (k_some (k_var at3)) pfo_none))) k_nil) k_nil) (k_cons (k_ret (pf_ix (k_list (k_lst (k_acons (pf_add (k_var at0) (pf_str (l := [32]) rfl (by decide))) (k_acons (pf_add (pf_str (l := [32]) rfl (by decide)) (k_var at0)) (k_acons (pf_add (pf_slice (k_var at0) (k_some (k_var at3)) pfo_none) (pf_slice (k_var at0) pfo_none (k_some (k_var at3)))) (k_acons (pf_str (l := []) rfl (by decide)) (k_acons (pf_add (k_var at0) (k_var at0)) pfa_nil))))))) (pf_mod (k_var at1) pf_int))) k_nil))))))))))
theorem sc_lines_of : FnScope ["thing"] ["thing"] (defScope (top 28)) := ⟨rfl, rfl, rfl, by decide +kernel, rfl, by decide +kernel, by decide +kernel⟩
theorem rd_lines_of {f : Addr} {fd : FuncData} {C_NoText : Addr} (b_isinstance : mg "isinstance" = none) (b_str : mg "str" = none) (r_NoText : Ref "NoText" C_NoText mg base) (Fn : Fun K "lines_of" "lines_of" (top 28) f fd) : FnF P w K mg base 1 f fd ["thing"] (fun ds => bodyR (lines_of_all C_NoText (startE 1 ds))) := by
  have hN : (["thing"] : List Str).Nodup := by decide
  refine Fn.okF sc_lines_of (k := 0) (g := lines_of_all C_NoText) fun cdv A outer s H E hr => ?_
  have hu := hr.units
  have hh := hr.hd
  exact (k_cons (k_if (k_bop (pbw_or (k_bnot (k_bval (k_isStr b_isinstance (k_var at0) b_str))) (pbw_or1 (k_bop (pbw_and (k_bne hu (k_var at0) (pf_str (l := []) rfl (by decide))) (pbw_and1 (k_bnot (k_bval (k_ends (k_var at0) (k_acons (pf_str (l := [10]) rfl (by decide)) pfa_nil)))))))))) (k_cons (k_raise r_NoText hh (pf_str (l := [116, 104, 105, 115, 32, 105, 115, 32, 110, 111, 32, 116, 101, 120, 116, 32, 111, 102, 32, 108, 105, 110, 101, 115, 32, 116, 104, 97, 116, 32, 97, 114, 101, 32, 101, 97, 99, 104, 32, 101, 110, 100, 101, 100, 32, 98, 121, 32, 97, 32, 108, 105, 110, 101, 32, 102, 101, 101, 100]) rfl (by decide))) k_nil) k_nil) (k_cons (k_ret (pf_slice (k_split (k_var at0) (k_acons (pf_str (l := [10]) rfl (by decide)) pfa_nil)) pfo_none (k_some (k_neg pf_int)))) k_nil))
theorem sc_are_figures : FnScope ["text"] ["text"] (defScope (top 15)) := ⟨rfl, rfl, rfl, by decide +kernel, rfl, by decide +kernel, by decide +kernel⟩
theorem rd_are_figures {f : Addr} {fd : FuncData} (b_all : mg "all" = none) {t_FIGURES : Tok} (g_FIGURES : mg "FIGURES" = some (.str "0123456789" t_FIGURES)) (Fn : Fun K "are_figures" "are_figures" (top 15) f fd) : FnF P w K mg base 1 f fd ["text"] (fun ds => bodyR (are_figures_all (startE 1 ds))) := by
  have hN : (["text"] : List Str).Nodup := by decide
  refine Fn.okF sc_are_figures (k := 0) (g := are_figures_all) fun cdv A outer s H E hr => ?_
  have hu := hr.units
  have hh := hr.hd
  exact (k_cons (k_ret (pf_and (pf_ne hu (k_var at0) (pf_str (l := []) rfl (by decide))) (pf_one (k_all rfl rfl b_all (k_acons (k_comp (pfl_comp (N' := ["sign"]) (ix := []) comp_ok rfl (k_ival (k_var at0)) (fun C s₂ H₂ fp => (pf_inS (k_varC at0) (pf_globS (l := [48, 49, 50, 51, 52, 53, 54, 55, 56, 57]) rfl g_FIGURES rfl (by decide)))) (fun C s₂ H₂ fp => pts_nil))) pfa_nil))))) k_nil)
theorem sc_is_short_number : FnScope ["text"] ["text"] (defScope (top 26)) := ⟨rfl, rfl, rfl, by decide +kernel, rfl, by decide +kernel, by decide +kernel⟩
theorem rd_is_short_number {f : Addr} {fd : FuncData} {F_are_figures : List D → R D} (b_len : mg "len" = none) {t_MOST_FIGURES : Tok} (g_MOST_FIGURES : mg "MOST_FIGURES" = some (.int 2 t_MOST_FIGURES)) (c_are_figures : Callee P w K mg base "are_figures" 1 1 F_are_figures) (Fn : Fun K "is_short_number" "is_short_number" (top 26) f fd) : FnF P w K mg base 2 f fd ["text"] (fun ds => bodyR (is_short_number_all F_are_figures (startE 1 ds))) := by
  have hN : (["text"] : List Str).Nodup := by decide
  refine Fn.okF sc_is_short_number (k := 1) (g := is_short_number_all F_are_figures) fun cdv A outer s H E hr => ?_
  have hu := hr.units
  have hh := hr.hd
  exact (k_cons (k_ret (pf_and (k_call c_are_figures hr (k_acons (k_var at0) pfa_nil)) (pf_one (pf_le (k_len rfl b_len (k_acons (k_var at0) pfa_nil)) (pf_globI rfl g_MOST_FIGURES))))) k_nil)
theorem sc_spot_or_none : FnScope ["text", "parts"] ["text"] (defScope (top 27)) := ⟨rfl, rfl, rfl, by decide +kernel, rfl, by decide +kernel, by decide +kernel⟩
theorem rd_spot_or_none {f : Addr} {fd : FuncData} {F_is_short_number : List D → R D} (b_all : mg "all" = none) (b_int : mg "int" = none) (b_len : mg "len" = none) (c_is_short_number : Callee P w K mg base "is_short_number" 2 1 F_is_short_number) (Fn : Fun K "spot_or_none" "spot_or_none" (top 27) f fd) : FnF P w K mg base 3 f fd ["text"] (fun ds => bodyR (spot_or_none_all F_is_short_number (startE 2 ds))) := by
  have hN : (["text", "parts"] : List Str).Nodup := by decide
  refine Fn.okF sc_spot_or_none (k := 2) (g := spot_or_none_all F_is_short_number) fun cdv A outer s H E hr => ?_
  have hu := hr.units
  have hh := hr.hd
  exact (k_cons (k_put at1 hN (k_split (k_var at0) (k_acons (pf_str (l := [32]) rfl (by decide)) pfa_nil))) (k_cons (k_if (k_bop (pbw_or (k_bne hu (k_len rfl b_len (k_acons (k_var at1) pfa_nil)) pf_int) (pbw_or1 (k_bnot (k_bval (k_all rfl rfl b_all (k_acons (k_comp (pfl_comp (N' := ["part"]) (ix := []) comp_ok rfl (k_ival (k_var at1)) (fun C s₂ H₂ fp => (k_call c_is_short_number hr (k_acons (k_varC at0) pfa_nil))) (fun C s₂ H₂ fp => pts_nil))) pfa_nil))))))) (k_cons (k_ret pf_non) k_nil) k_nil) (k_cons (k_ret (k_tup (k_acons (k_intS rfl b_int (k_acons (pf_ix (k_var at1) pf_int) pfa_nil)) (k_acons (k_intS rfl b_int (k_acons (pf_ix (k_var at1) pf_int) pfa_nil)) pfa_nil)))) k_nil)))
theorem sc_screen_or_none : FnScope ["lines", "rows"] ["lines"] (defScope (top 31)) := ⟨rfl, rfl, rfl, by decide +kernel, rfl, by decide +kernel, by decide +kernel⟩
theorem rd_screen_or_none {f : Addr} {fd : FuncData} {F_spot_or_none : List D → R D} (b_len : mg "len" = none) (b_tuple : mg "tuple" = none) (c_spot_or_none : Callee P w K mg base "spot_or_none" 3 1 F_spot_or_none) (Fn : Fun K "screen_or_none" "screen_or_none" (top 31) f fd) : FnF P w K mg base 4 f fd ["lines"] (fun ds => bodyR (screen_or_none_all F_spot_or_none (startE 2 ds))) := by
  have hN : (["lines", "rows"] : List Str).Nodup := by decide
  refine Fn.okF sc_screen_or_none (k := 3) (g := screen_or_none_all F_spot_or_none) fun cdv A outer s H E hr => ?_
  have hu := hr.units
  have hh := hr.hd
  exact (k_cons (k_if (k_blt (k_len rfl b_len (k_acons (k_var at0) pfa_nil)) pf_int) (k_cons (k_ret pf_non) k_nil) k_nil) (k_cons (k_compA 1 hN (N' := ["line"]) (ix := []) comp_ok rfl (k_ival (pf_slice (k_var at0) pfo_none (k_some (k_neg pf_int)))) (fun C s₂ H₂ fp => (pf_slice (k_varC at0) (k_some pf_int) (k_some (k_neg pf_int)))) (fun C s₂ H₂ fp => pts_nil)) (k_frz 1 (k_cons (k_ret (k_tup (k_acons (k_len rfl b_len (k_acons (pf_ix (k_var at1) pf_int) pfa_nil)) (k_acons (k_tupleOf rfl b_tuple (k_acons (k_var at1) pfa_nil)) (k_acons (k_call c_spot_or_none hr (k_acons (pf_ix (k_var at0) (k_neg pf_int)) pfa_nil)) pfa_nil))))) k_nil))))
theorem sc_read_screen : FnScope ["text", "screen"] ["text"] (defScope (top 32)) := ⟨rfl, rfl, rfl, by decide +kernel, rfl, by decide +kernel, by decide +kernel⟩
theorem rd_read_screen {f : Addr} {fd : FuncData} {F_lines_of : List D → R D} {F_screen_or_none : List D → R D} {F_is_screen : List D → R D} {F_screen_text : List D → R D} {C_NoText : Addr} (r_NoText : Ref "NoText" C_NoText mg base) (c_lines_of : Callee P w K mg base "lines_of" 6 1 F_lines_of) (c_screen_or_none : Callee P w K mg base "screen_or_none" 6 1 F_screen_or_none) (c_is_screen : Callee P w K mg base "is_screen" 6 1 F_is_screen) (c_screen_text : Callee P w K mg base "screen_text" 6 1 F_screen_text) (Fn : Fun K "read_screen" "read_screen" (top 32) f fd) : FnF P w K mg base 7 f fd ["text"] (fun ds => bodyR (read_screen_all F_lines_of F_screen_or_none F_is_screen F_screen_text C_NoText (startE 2 ds))) := by
  have hN : (["text", "screen"] : List Str).Nodup := by decide
  refine Fn.okF sc_read_screen (k := 6) (g := read_screen_all F_lines_of F_screen_or_none F_is_screen F_screen_text C_NoText) fun cdv A outer s H E hr => ?_
  have hu := hr.units
  have hh := hr.hd
  exact (k_cons (k_put at1 hN (k_call c_screen_or_none hr (k_acons (k_call c_lines_of hr (k_acons (k_var at0) pfa_nil)) pfa_nil))) (k_cons (k_if (k_bop (pbw_or (k_bnot (k_bval (k_call c_is_screen hr (k_acons (k_var at1) pfa_nil)))) (pbw_or1 (k_bne hu (k_call c_screen_text hr (k_acons (k_var at1) pfa_nil)) (k_var at0))))) (k_cons (k_raise r_NoText hh (pf_str (l := [110, 111, 32, 115, 99, 114, 101, 101, 110, 32, 105, 115, 32, 119, 114, 105, 116, 116, 101, 110, 32, 115, 111]) rfl (by decide))) k_nil) k_nil) (k_cons (k_ret (k_var at1)) k_nil)))
theorem sc_law_class : FnScope ["_law_kept", "_law_kinds", "_law_some_here"] ["_law_kept"] (defScope (top 39)) := ⟨rfl, rfl, rfl, by decide +kernel, rfl, by decide +kernel, by decide +kernel⟩
theorem rd_law_class {f : Addr} {fd : FuncData} {C_NoScreen : Addr} {C_NoOrder : Addr} {C_NoRoom : Addr} {C_NoNumber : Addr} {C_NoTable : Addr} {C_NoTask : Addr} {C_NoText : Addr} {C_NoBack : Addr} {rs : List Addr} (b_ValueError : mg "ValueError" = none) (b_isinstance : mg "isinstance" = none) (Er : Errs K mg rs [("NoScreen", C_NoScreen), ("NoOrder", C_NoOrder), ("NoRoom", C_NoRoom), ("NoNumber", C_NoNumber), ("NoTable", C_NoTable), ("NoTask", C_NoTask), ("NoText", C_NoText), ("NoBack", C_NoBack)]) (Fn : Fun K "_law_class" "_law_class" (top 39) f fd) : FnFH P w K mg base 1 f fd ["_law_kept"] (fun ds => noEx (bodyR (law_class_all C_NoOrder C_NoNumber C_NoBack C_NoRoom C_NoTask C_NoTable C_NoScreen C_NoText rs (startE 3 ds)))) := by
  have hN : (["_law_kept", "_law_kinds", "_law_some_here"] : List Str).Nodup := by decide
  refine Fn.okFH sc_law_class (k := 0) (g := law_class_all C_NoOrder C_NoNumber C_NoBack C_NoRoom C_NoTask C_NoTable C_NoScreen C_NoText rs) fun cdv A outer s H E a xe hr => ?_
  have hu := hr.units
  have hh := hr.hd
  exact (k_cons (k_own 1 hN (k_lst (k_acons (k_isErr (T := C_NoBack) Er (.tail _ (.tail _ (.tail _ (.tail _ (.tail _ (.tail _ (.tail _ (.head _)))))))) b_isinstance (k_varS at0)) (k_acons (k_isErr (T := C_NoNumber) Er (.tail _ (.tail _ (.tail _ (.head _)))) b_isinstance (k_varS at0)) (k_acons (k_isErr (T := C_NoOrder) Er (.tail _ (.head _)) b_isinstance (k_varS at0)) pfa_nil))))) (k_cons (k_extend 1 (k_list (k_lst (k_acons (k_isErr (T := C_NoRoom) Er (.tail _ (.tail _ (.head _))) b_isinstance (k_varS at0)) pfa_nil)))) (k_frz 1 (k_cons (k_putS at1 hN (pf_add (k_varS at1) (k_list (k_lst (k_acons (k_isErr (T := C_NoScreen) Er (.head _) b_isinstance (k_varS at0)) (k_acons (k_isErr (T := C_NoTable) Er (.tail _ (.tail _ (.tail _ (.tail _ (.head _))))) b_isinstance (k_varS at0)) (k_acons (k_isErr (T := C_NoTask) Er (.tail _ (.tail _ (.tail _ (.tail _ (.tail _ (.head _)))))) b_isinstance (k_varS at0)) pfa_nil))))))) (k_cons (k_putS at1 hN (pf_add (k_varS at1) (k_list (k_lst (k_acons (k_isErr (T := C_NoText) Er (.tail _ (.tail _ (.tail _ (.tail _ (.tail _ (.tail _ (.head _))))))) b_isinstance (k_varS at0)) pfa_nil))))) (k_cons (k_if (k_bop (pbw_or (k_bne hu (k_count (k_varS at1) (k_acons pf_bl pfa_nil)) pf_int) (pbw_or1 (k_bnot (k_bval (k_isVE Er b_isinstance b_ValueError (k_varS at0))))))) (k_cons (k_ret (pf_str (l := [119, 114, 111, 110, 103]) rfl (by decide))) k_nil) k_nil) (k_cons (k_putS at2 hN (k_list (k_lst (k_acons (pf_str (l := [110, 111, 32, 98, 97, 99, 107]) rfl (by decide)) (k_acons (pf_str (l := [110, 111, 32, 110, 117, 109, 98, 101, 114]) rfl (by decide)) (k_acons (pf_str (l := [110, 111, 32, 111, 114, 100, 101, 114]) rfl (by decide)) (k_acons (pf_str (l := [110, 111, 32, 114, 111, 111, 109]) rfl (by decide)) (k_acons (pf_str (l := [110, 111, 32, 115, 99, 114, 101, 101, 110]) rfl (by decide)) (k_acons (pf_str (l := [110, 111, 32, 116, 97, 98, 108, 101]) rfl (by decide)) (k_acons (pf_str (l := [110, 111, 32, 116, 97, 115, 107]) rfl (by decide)) (k_acons (pf_str (l := [110, 111, 32, 116, 101, 120, 116]) rfl (by decide)) pfa_nil))))))))))) (k_cons (k_ret (pf_ix (k_varS at2) (k_index (k_varS at1) (k_acons pf_bl pfa_nil)))) k_nil))))))))
theorem sc_law_told : FnScope ["_law_deed", "e"] ["_law_deed"] (defScope (top 40)) := ⟨rfl, rfl, rfl, by decide +kernel, rfl, by decide +kernel, by decide +kernel⟩
theorem rd_law_told {k : Nat} {f : Addr} {fd : FuncData} {F__law_class : List D → R D} {C_NoScreen : Addr} {C_NoOrder : Addr} {C_NoRoom : Addr} {C_NoNumber : Addr} {C_NoTable : Addr} {C_NoTask : Addr} {C_NoText : Addr} {C_NoBack : Addr} {rs : List Addr} (c__law_class : CalleeH P w K mg base "_law_class" k 1 F__law_class) (Er : Errs K mg rs [("NoScreen", C_NoScreen), ("NoOrder", C_NoOrder), ("NoRoom", C_NoRoom), ("NoNumber", C_NoNumber), ("NoTable", C_NoTable), ("NoTask", C_NoTask), ("NoText", C_NoText), ("NoBack", C_NoBack)]) (F : Fun K "_law_told" "_law_told" (top 40) f fd) (m : mg "_law_told" = some (.ref f)) : Told P w K mg base "_law_told" (k + 1) k (law_told_all F__law_class rs) := by
  obtain ⟨L, hL, hk⟩ := Er.le
  refine told_mk (y := "_law_deed") (nm := "e") (gs := law_told_s F__law_class) (fe := isVE rs) F m sc_law_told rfl (fun _ _ _ _ _ _ _ => rfl) (fun cdv A outer s H E a xe hr => ?_) (fun C h => ?_) rfl hL rfl rfl
  · exact (k_cons (k_ret (pf_callH c__law_class hr (k_acons (k_varS at1) pfa_nil))) k_nil)
  · unfold isVE at h
    split at h
    · rename_i hC; exact hk C hC
    · cases h
theorem sc_law : FnScope ["_law_script", "_law_text", "_law_rows", "_law_some_here", "_law_k", "_law_cell_here", "_law_at", "_law_two", "_law_one", "_law_told_here", "_law_good", "_law_bad"] ["_law_script"] (defScope (top 42)) := ⟨rfl, rfl, rfl, by decide +kernel, rfl, by decide +kernel, by decide +kernel⟩
theorem rd_law {f : Addr} {fd : FuncData} {F__law_told : R D → R D} {F__law_some : List D → R D} {F_screen_text : List D → R D} {F__law_cell : List D → R D} {F__law_pick : List D → R D} {F__law_spoilt : List D → R D} {F_read_screen : List D → R D} (b_len : mg "len" = none) (b_range : mg "range" = none) (c__law_some : Callee P w K mg base "_law_some" 9 2 F__law_some) (c_screen_text : Callee P w K mg base "screen_text" 9 1 F_screen_text) (c__law_cell : Callee P w K mg base "_law_cell" 9 2 F__law_cell) (c__law_pick : Callee P w K mg base "_law_pick" 9 3 F__law_pick) (c__law_spoilt : Callee P w K mg base "_law_spoilt" 9 3 F__law_spoilt) (c_read_screen : Callee P w K mg base "read_screen" 9 1 F_read_screen) (d_read_screen : Callee P w K mg base "read_screen" 7 1 F_read_screen) (d_screen_text : Callee P w K mg base "screen_text" 7 1 F_screen_text) (t__law_told : Told P w K mg base "_law_told" 9 8 F__law_told) {Pt : Addr} (LB : LamB K mg base "law" fd Pt) (Fn : Fun K "law" "law" (top 42) f fd) : FnF P w K mg base 10 f fd ["_law_script"] (fun ds => bodyR (law_all F__law_told F__law_some F_screen_text F__law_cell F__law_pick F__law_spoilt F_read_screen (startE 12 ds))) := by
  have hN : (["_law_script", "_law_text", "_law_rows", "_law_some_here", "_law_k", "_law_cell_here", "_law_at", "_law_two", "_law_one", "_law_told_here", "_law_good", "_law_bad"] : List Str).Nodup := by decide
  refine Fn.okFT LB sc_law (k := 9) (g := law_all F__law_told F__law_some F_screen_text F__law_cell F__law_pick F__law_spoilt F_read_screen) fun cdv A outer s H E hr la => ?_
  have hu := hr.units
  have hh := hr.hd
  exact (k_cons (k_put at1 hN (k_call c_screen_text hr (k_acons (k_call c__law_some hr (k_acons (k_var at0) (k_acons pf_int pfa_nil))) pfa_nil))) (k_cons (k_parO 2 3 rfl hN (k_split (k_var at1) (k_acons (pf_str (l := [10]) rfl (by decide)) pfa_nil)) (k_lst (k_acons (k_var at1) pfa_nil))) (k_cons (k_for PassesOwn.leaving rfl (k_irange rfl b_range (k_acons pf_int pfa_nil)) (pgf_name 4 hN) (k_cons (k_put at5 hN (pf_add (pf_mul (k_call c__law_cell hr (k_acons (k_var at0) (k_acons (pf_add pf_int (k_var at4)) pfa_nil))) pf_int) (k_call c__law_pick hr (k_acons (k_var at0) (k_acons (pf_add pf_int (k_var at4)) (k_acons pf_int pfa_nil)))))) (k_cons (k_append 3 (k_call c__law_spoilt hr (k_acons (k_var at1) (k_acons (k_var at5) (k_acons (pf_str (l := [48, 49, 50, 51, 124, 32, 97, 98, 35, 10]) rfl (by decide)) pfa_nil))))) (k_cons (k_put at6 hN (k_call c__law_pick hr (k_acons (k_var at0) (k_acons (pf_add pf_int (k_var at4)) (k_acons (k_len rfl b_len (k_acons (k_var at2) pfa_nil)) pfa_nil))))) (k_cons (k_put at7 hN (pf_slice (k_var at2) (k_some (k_var at6)) (k_some (pf_add (k_var at6) pf_int)))) (k_cons (k_append 3 (k_join (pf_str (l := [10]) rfl (by decide)) (k_acons (pf_add (pf_slice (k_var at2) pfo_none (k_some (k_var at6))) (pf_slice (k_var at2) (k_some (pf_add (k_var at6) pf_int)) pfo_none)) pfa_nil))) (k_cons (k_append 3 (k_join (pf_str (l := [10]) rfl (by decide)) (k_acons (pf_add (pf_slice (k_var at2) pfo_none (k_some (pf_add (k_var at6) pf_int))) (pf_slice (k_var at2) (k_some (k_var at6)) pfo_none)) pfa_nil))) (k_cons (k_append 3 (k_join (pf_str (l := [10]) rfl (by decide)) (k_acons (pf_add (pf_add (pf_slice (k_var at2) pfo_none (k_some (k_var at6))) (k_rev (k_var at7) (k_neg pf_int))) (pf_slice (k_var at2) (k_some (pf_add (k_var at6) pf_int)) pfo_none)) pfa_nil))) k_nil)))))))) (k_frz 3 (k_cons (k_for PassesOwn.leaving rfl (k_ival (k_var at3)) (pgf_name 8 hN) (k_cons (k_put at9 hN (k_told t__law_told hr la (N' := ["_law_one"]) (ix := [8]) lam_ok (fun cl f cd A outer s H E hr => by have hu := hr.units; exact (k_call d_screen_text hr (k_acons (k_call d_read_screen hr (k_acons (k_varL at0) pfa_nil)) pfa_nil))))) (k_cons (k_if (k_bop (pbw_and (k_bne hu (k_var at9) (k_var at8)) (pbw_and1 (k_bne hu (k_var at9) (pf_str (l := [110, 111, 32, 116, 101, 120, 116]) rfl (by decide)))))) (k_cons (k_ret pf_bl) k_nil) k_nil) k_nil))) (k_cons (k_put at10 hN (k_list (k_lst (k_acons (pf_str (l := [124, 97, 124, 10, 48, 32, 49, 10]) rfl (by decide)) (k_acons (pf_str (l := [124, 124, 124, 10, 48, 32, 48, 10]) rfl (by decide)) (k_acons (pf_str (l := [124, 97, 98, 124, 10, 124, 32, 99, 124, 10, 49, 32, 50, 10]) rfl (by decide)) (k_acons (pf_add (pf_add (pf_str (l := [124]) rfl (by decide)) (pf_mul (pf_str (l := [120]) rfl (by decide)) pf_int)) (pf_str (l := [124, 10, 48, 32, 52, 48, 10]) rfl (by decide))) (k_acons (pf_add (pf_mul (pf_str (l := [124, 90, 124, 10]) rfl (by decide)) pf_int) (pf_str (l := [49, 48, 32, 49, 10]) rfl (by decide))) pfa_nil)))))))) (k_cons (k_if (k_bop (pbw_or (k_bne hu (k_comp (pfl_comp (N' := ["_law_one"]) (ix := []) comp_ok rfl (k_ival (k_var at10)) (fun C s₂ H₂ fp => (k_call c_screen_text hr (k_acons (k_call c_read_screen hr (k_acons (k_varC at0) pfa_nil)) pfa_nil))) (fun C s₂ H₂ fp => pts_nil))) (k_var at10)) (pbw_or1 (k_bne hu (k_call c_read_screen hr (k_acons (pf_ix (k_var at10) pf_int) pfa_nil)) (k_tup (k_acons pf_int (k_acons (k_tup (k_acons (pf_str (l := [124]) rfl (by decide)) pfa_nil)) (k_acons (k_tup (k_acons pf_int (k_acons pf_int pfa_nil))) pfa_nil)))))))) (k_cons (k_ret pf_bl) k_nil) k_nil) (k_cons (k_own 11 hN (k_lst (k_acons (pf_str (l := []) rfl (by decide)) (k_acons (pf_str (l := [10]) rfl (by decide)) (k_acons (pf_str (l := [124, 97, 124, 10]) rfl (by decide)) (k_acons (pf_str (l := [124, 97, 124, 10, 48, 32, 49]) rfl (by decide)) (k_acons (pf_str (l := [124, 97, 124, 10, 48, 32, 50, 10]) rfl (by decide)) (k_acons (pf_str (l := [124, 97, 124, 10, 49, 32, 48, 10]) rfl (by decide)) (k_acons (pf_str (l := [124, 124, 10, 48, 32, 48, 10]) rfl (by decide)) (k_acons (pf_str (l := [97, 10, 48, 32, 48, 10]) rfl (by decide)) pfa_nil)))))))))) (k_cons (k_extend 11 (k_list (k_lst (k_acons (pf_str (l := [124, 97, 10, 48, 32, 48, 10]) rfl (by decide)) (k_acons (pf_str (l := [97, 124, 10, 48, 32, 48, 10]) rfl (by decide)) pfa_nil))))) (k_cons (k_extend 11 (k_list (k_lst (k_acons (pf_str (l := [124, 97, 98, 124, 10, 124, 99, 124, 10, 48, 32, 48, 10]) rfl (by decide)) (k_acons (pf_str (l := [124, 97, 124, 10, 48, 48, 32, 48, 10]) rfl (by decide)) (k_acons (pf_str (l := [124, 97, 124, 10, 48, 32, 48, 32, 10]) rfl (by decide)) (k_acons (pf_str (l := [124, 97, 124, 10, 48, 32, 32, 48, 10]) rfl (by decide)) (k_acons (pf_str (l := [124, 97, 124, 10, 10, 48, 32, 48, 10]) rfl (by decide)) pfa_nil)))))))) (k_cons (k_extend 11 (k_list (k_lst (k_acons (pf_str (l := [124, 97, 124, 10, 48, 32, 48, 10, 10]) rfl (by decide)) (k_acons (pf_str (l := [48, 32, 48, 10]) rfl (by decide)) (k_acons pf_non (k_acons pf_int pfa_nil))))))) (k_cons (k_extend 11 (k_list (k_lst (k_acons (k_tup (k_acons (pf_ix (k_var at10) pf_int) pfa_nil)) (k_acons (pf_str (l := [124, 9, 124, 10, 48, 32, 48, 10]) rfl (by decide)) (k_acons (pf_str (l := [124, 97, 124, 10, 45, 48, 32, 48, 10]) rfl (by decide)) (k_acons (pf_add (pf_mul (pf_str (l := [124, 97, 124, 10]) rfl (by decide)) pf_int) (pf_str (l := [48, 32, 48, 10]) rfl (by decide))) pfa_nil))))))) (k_cons (k_extend 11 (k_list (k_lst (k_acons (pf_add (pf_add (pf_str (l := [124]) rfl (by decide)) (pf_mul (pf_str (l := [120]) rfl (by decide)) pf_int)) (pf_str (l := [124, 10, 48, 32, 48, 10]) rfl (by decide))) (k_acons (pf_str (l := [124, 97, 124, 10, 48, 10]) rfl (by decide)) pfa_nil))))) (k_frz 11 (k_cons (k_ret (pf_eq hu (k_comp (pfl_compC (x := "_law_one") compC_ok rfl (k_ival (k_var at11)) (fun C s₂ H₂ fp => (k_told t__law_told hr (lamC la) (N' := ["_law_one"]) (ix := [0]) lam_ok (fun cl f cd A outer s H E hr => by have hu := hr.units; exact (k_call d_read_screen hr (k_acons (k_varL at0) pfa_nil))))) (fun C s₂ H₂ fp => pts_nil))) (pf_mul (k_list (k_lst (k_acons (pf_str (l := [110, 111, 32, 116, 101, 120, 116]) rfl (by decide)) pfa_nil))) pf_int))) k_nil)))))))))))))))
end
theorem all_mk {P : Program} {w : World} {K : PySem.W.Frag} {mg : Str → Option Value} {fa : Addr} (hfa : mg "law" = some (.ref fa)) (b_ValueError : mg "ValueError" = none) (b_all : mg "all" = none) (b_bool : mg "bool" = none) (b_int : mg "int" = none) (b_isinstance : mg "isinstance" = none) (b_len : mg "len" = none) (b_range : mg "range" = none) (b_str : mg "str" = none) (b_tuple : mg "tuple" = none) (g_FIGURES : ∃ t, mg "FIGURES" = some (.str "0123456789" t)) (g_MOST_FIGURES : ∃ t, mg "MOST_FIGURES" = some (.int 2 t)) (g_MOST_ROWS : ∃ t, mg "MOST_ROWS" = some (.int 12 t)) (g_MOST_WIDTH : ∃ t, mg "MOST_WIDTH" = some (.int 40 t)) {C_NoScreen : Addr} {C_NoText : Addr} (n_NoScreen : PySem.W.nsIn K mainGlobals "NoScreen" = some (some (.ref C_NoScreen))) (x_NoScreen : PySem.W.excIn K C_NoScreen [.type "ValueError", .type "Exception", .type "BaseException", .type "object"] "ValueError.__new__" = true) (n_NoText : PySem.W.nsIn K mainGlobals "NoText" = some (some (.ref C_NoText))) (x_NoText : PySem.W.excIn K C_NoText [.type "ValueError", .type "Exception", .type "BaseException", .type "object"] "ValueError.__new__" = true) {C_NoOrder : Addr} {C_NoRoom : Addr} {C_NoNumber : Addr} {C_NoTable : Addr} {C_NoTask : Addr} {C_NoBack : Addr} (nd : [C_NoScreen, C_NoOrder, C_NoRoom, C_NoNumber, C_NoTable, C_NoTask, C_NoText, C_NoBack].Nodup) (Er : Errs K mg [C_NoScreen, C_NoText] [("NoScreen", C_NoScreen), ("NoOrder", C_NoOrder), ("NoRoom", C_NoRoom), ("NoNumber", C_NoNumber), ("NoTable", C_NoTable), ("NoTask", C_NoTask), ("NoText", C_NoText), ("NoBack", C_NoBack)])
    (h34 : ∃ f fd, Fun K "_law_cell" "_law_cell" (top 34) f fd ∧ mg "_law_cell" = some (.ref f))
    (h35 : ∃ f fd, Fun K "_law_pick" "_law_pick" (top 35) f fd ∧ mg "_law_pick" = some (.ref f))
    (h36 : ∃ f fd, Fun K "_law_row" "_law_row" (top 36) f fd ∧ mg "_law_row" = some (.ref f))
    (h37 : ∃ f fd, Fun K "_law_screen" "_law_screen" (top 37) f fd ∧ mg "_law_screen" = some (.ref f))
    (h38 : ∃ f fd, Fun K "_law_some" "_law_some" (top 38) f fd ∧ mg "_law_some" = some (.ref f))
    (h12 : ∃ f fd, Fun K "is_whole" "is_whole" (top 12) f fd ∧ mg "is_whole" = some (.ref f))
    (h13 : ∃ f fd, Fun K "is_within" "is_within" (top 13) f fd ∧ mg "is_within" = some (.ref f))
    (h14 : ∃ f fd, Fun K "is_plain" "is_plain" (top 14) f fd ∧ mg "is_plain" = some (.ref f))
    (h19 : ∃ f fd, Fun K "are_full_rows" "are_full_rows" (top 19) f fd ∧ mg "are_full_rows" = some (.ref f))
    (h20 : ∃ f fd, Fun K "is_place" "is_place" (top 20) f fd ∧ mg "is_place" = some (.ref f))
    (h21 : ∃ f fd, Fun K "is_screen" "is_screen" (top 21) f fd ∧ mg "is_screen" = some (.ref f))
    (h22 : ∃ f fd, Fun K "check_screen" "check_screen" (top 22) f fd ∧ mg "check_screen" = some (.ref f))
    (h25 : ∃ f fd, Fun K "spot_text" "spot_text" (top 25) f fd ∧ mg "spot_text" = some (.ref f))
    (h30 : ∃ f fd, Fun K "screen_text" "screen_text" (top 30) f fd ∧ mg "screen_text" = some (.ref f))
    (h41 : ∃ f fd, Fun K "_law_spoilt" "_law_spoilt" (top 41) f fd ∧ mg "_law_spoilt" = some (.ref f))
    (h28 : ∃ f fd, Fun K "lines_of" "lines_of" (top 28) f fd ∧ mg "lines_of" = some (.ref f))
    (h15 : ∃ f fd, Fun K "are_figures" "are_figures" (top 15) f fd ∧ mg "are_figures" = some (.ref f))
    (h26 : ∃ f fd, Fun K "is_short_number" "is_short_number" (top 26) f fd ∧ mg "is_short_number" = some (.ref f))
    (h27 : ∃ f fd, Fun K "spot_or_none" "spot_or_none" (top 27) f fd ∧ mg "spot_or_none" = some (.ref f))
    (h31 : ∃ f fd, Fun K "screen_or_none" "screen_or_none" (top 31) f fd ∧ mg "screen_or_none" = some (.ref f))
    (h32 : ∃ f fd, Fun K "read_screen" "read_screen" (top 32) f fd ∧ mg "read_screen" = some (.ref f))
    (h39 : ∃ f fd, Fun K "_law_class" "_law_class" (top 39) f fd ∧ mg "_law_class" = some (.ref f))
    (h40 : ∃ f fd, Fun K "_law_told" "_law_told" (top 40) f fd ∧ mg "_law_told" = some (.ref f))
    {Pt42 : Addr} (h42 : ∃ f fd, (Fun K "law" "law" (top 42) f fd ∧ mg "law" = some (.ref f)) ∧ LamDef K mg fd Pt42) :
    ∃ fd : FuncData, (∀ (s : Shared) (u : Value), BindsTo s fd ⟨[u], []⟩ [("_law_script", u)]) ∧ ∀ base : Heap, K.In base → base.Ns mainGlobals mg → (∀ pq ∈ ([(Pt42, "law" ++ ".<locals>." ++ "<lambda>")] : List (Addr × Str)), base.BuiltinsAt mg pq.1 ∧ TabB base pq.1 pq.2) → FnF P w K mg base 10 fa fd ["_law_script"] lawF := by
  obtain ⟨t_FIGURES, g_FIGURES⟩ := g_FIGURES
  obtain ⟨t_MOST_FIGURES, g_MOST_FIGURES⟩ := g_MOST_FIGURES
  obtain ⟨t_MOST_ROWS, g_MOST_ROWS⟩ := g_MOST_ROWS
  obtain ⟨t_MOST_WIDTH, g_MOST_WIDTH⟩ := g_MOST_WIDTH
  obtain ⟨f34, d34, F34⟩ := h34
  obtain ⟨f35, d35, F35⟩ := h35
  obtain ⟨f36, d36, F36⟩ := h36
  obtain ⟨f37, d37, F37⟩ := h37
  obtain ⟨f38, d38, F38⟩ := h38
  obtain ⟨f12, d12, F12⟩ := h12
  obtain ⟨f13, d13, F13⟩ := h13
  obtain ⟨f14, d14, F14⟩ := h14
  obtain ⟨f19, d19, F19⟩ := h19
  obtain ⟨f20, d20, F20⟩ := h20
  obtain ⟨f21, d21, F21⟩ := h21
  obtain ⟨f22, d22, F22⟩ := h22
  obtain ⟨f25, d25, F25⟩ := h25
  obtain ⟨f30, d30, F30⟩ := h30
  obtain ⟨f41, d41, F41⟩ := h41
  obtain ⟨f28, d28, F28⟩ := h28
  obtain ⟨f15, d15, F15⟩ := h15
  obtain ⟨f26, d26, F26⟩ := h26
  obtain ⟨f27, d27, F27⟩ := h27
  obtain ⟨f31, d31, F31⟩ := h31
  obtain ⟨f32, d32, F32⟩ := h32
  obtain ⟨f39, d39, F39⟩ := h39
  obtain ⟨f40, d40, F40⟩ := h40
  obtain ⟨f42, d42, F42, L42⟩ := h42
  have e : fa = f42 := by
    have := hfa.symm.trans F42.2
    injection this with this
    injection this
  subst e
  refine ⟨d42, fun s u => ?_, fun base kb nb hT => ?_⟩
  · obtain ⟨oc, od, kV, doc, pm, an, cdv, ct, osl, rfl, lk, hcd⟩ := F42.1.ex
    exact .of_eq rfl
  · have r_NoScreen := ref_at (x := "NoScreen") kb nb n_NoScreen x_NoScreen
    have r_NoText := ref_at (x := "NoText") kb nb n_NoText x_NoText
    have L42 : LamB K mg base "law" d42 Pt42 := ⟨L42, (hT _ (.head _)).2, (hT _ (.head _)).1⟩
    have k34 := F34.1.callee F34.2 ((rd_law_cell (P := P) (w := w) (base := base) b_len F34.1).to law_cell_ok) fun _ _ _ _ _ _ us hl => by obtain ⟨a, b, rfl⟩ := len2 hl; rfl
    have k35 := F35.1.callee F35.2 ((rd_law_pick k34 F35.1).to law_pick_ok) fun _ _ _ _ _ _ us hl => by obtain ⟨a, b, c, rfl⟩ := len3 hl; rfl
    have k36 := F36.1.callee F36.2 ((rd_law_row b_range k35 F36.1).to law_row_ok) fun _ _ _ _ _ _ us hl => by obtain ⟨a, b, c, rfl⟩ := len3 hl; rfl
    have k37 := F37.1.callee F37.2 ((rd_law_screen b_range b_tuple k36 (k35.mono 3) F37.1).to law_screen_ok) fun _ _ _ _ _ _ us hl => by obtain ⟨a, b, c, d, rfl⟩ := len4 hl; rfl
    have k38 := F38.1.callee F38.2 ((rd_law_some (k35.mono 4) k37 F38.1).to law_some_ok) fun _ _ _ _ _ _ us hl => by obtain ⟨a, b, rfl⟩ := len2 hl; rfl
    have k12 := F12.1.callee F12.2 ((rd_is_whole (P := P) (w := w) (base := base) b_bool b_int b_isinstance F12.1).to is_whole_ok) fun _ _ _ _ _ _ us hl => by obtain ⟨a, rfl⟩ := len1 hl; rfl
    have k13 := F13.1.callee F13.2 ((rd_is_within k12 F13.1).to is_within_ok) fun _ _ _ _ _ _ us hl => by obtain ⟨a, b, c, rfl⟩ := len3 hl; rfl
    have k14 := F14.1.callee F14.2 ((rd_is_plain (P := P) (w := w) (base := base) b_all b_isinstance b_str F14.1).to is_plain_ok) fun _ _ _ _ _ _ us hl => by obtain ⟨a, rfl⟩ := len1 hl; rfl
    have k19 := F19.1.callee F19.2 ((rd_are_full_rows b_all b_isinstance b_len b_tuple g_MOST_ROWS k14 F19.1).to are_full_rows_ok) fun _ _ _ _ _ _ us hl => by obtain ⟨a, b, rfl⟩ := len2 hl; rfl
    have k20 := F20.1.callee F20.2 ((rd_is_place b_isinstance b_len b_tuple k13 F20.1).to is_place_ok) fun _ _ _ _ _ _ us hl => by obtain ⟨a, b, c, rfl⟩ := len3 hl; rfl
    have k21 := F21.1.callee F21.2 ((rd_is_screen b_isinstance b_len b_tuple g_MOST_WIDTH (k13.mono 3) (k19.mono 3) k20 F21.1).to is_screen_ok) fun _ _ _ _ _ _ us hl => by obtain ⟨a, rfl⟩ := len1 hl; rfl
    have k22 := F22.1.callee F22.2 ((rd_check_screen r_NoScreen k21 F22.1).to check_screen_ok) fun _ _ _ _ _ _ us hl => by obtain ⟨a, rfl⟩ := len1 hl; rfl
    have k25 := F25.1.callee F25.2 ((rd_spot_text (P := P) (w := w) (base := base) F25.1).to spot_text_ok) fun _ _ _ _ _ _ us hl => by obtain ⟨a, b, rfl⟩ := len2 hl; rfl
    have k30 := F30.1.callee F30.2 ((rd_screen_text k22 (k25.mono 5) F30.1).to screen_text_ok) fun _ _ _ _ _ _ us hl => by obtain ⟨a, rfl⟩ := len1 hl; rfl
    have k41 := F41.1.callee F41.2 ((rd_law_spoilt (P := P) (w := w) (base := base) b_len F41.1).to law_spoilt_ok89) fun _ _ _ _ _ _ us hl => by obtain ⟨a, b, c, rfl⟩ := len3 hl; rfl
    have k28 := F28.1.callee F28.2 ((rd_lines_of (P := P) (w := w) (base := base) b_isinstance b_str r_NoText F28.1).to lines_of_ok) fun _ _ _ _ _ _ us hl => by obtain ⟨a, rfl⟩ := len1 hl; rfl
    have k15 := F15.1.callee F15.2 ((rd_are_figures (P := P) (w := w) (base := base) b_all g_FIGURES F15.1).to are_figures_ok) fun _ _ _ _ _ _ us hl => by obtain ⟨a, rfl⟩ := len1 hl; rfl
    have k26 := F26.1.callee F26.2 ((rd_is_short_number b_len g_MOST_FIGURES k15 F26.1).to is_short_number_ok) fun _ _ _ _ _ _ us hl => by obtain ⟨a, rfl⟩ := len1 hl; rfl
    have k27 := F27.1.callee F27.2 ((rd_spot_or_none b_all b_int b_len k26 F27.1).to spot_or_none_ok) fun _ _ _ _ _ _ us hl => by obtain ⟨a, rfl⟩ := len1 hl; rfl
    have k31 := F31.1.callee F31.2 ((rd_screen_or_none b_len b_tuple k27 F31.1).to screen_or_none_ok) fun _ _ _ _ _ _ us hl => by obtain ⟨a, rfl⟩ := len1 hl; rfl
    have k32 := F32.1.callee F32.2 ((rd_read_screen r_NoText (k28.mono 6) (k31.mono 6) (k21.mono 6) k30 F32.1).to read_screen_ok) fun _ _ _ _ _ _ us hl => by obtain ⟨a, rfl⟩ := len1 hl; rfl
    have k39 := F39.1.calleeH F39.2 ((rd_law_class (P := P) (w := w) (base := base) b_ValueError b_isinstance Er F39.1).to (law_class_ok nd)) fun _ _ _ _ _ _ us hl => by obtain ⟨a, rfl⟩ := len1 hl; rfl
    exact (rd_law b_len b_range (k38.mono 9) (k30.mono 9) (k34.mono 9) (k35.mono 9) (k41.mono 9) (k32.mono 9) k32 (k30.mono 7) (rd_law_told (P := P) (w := w) (base := base) (k := 8) ((k39.mono 8)) Er F40.1 F40.2) L42 F42.1).to (law_of (law89n nd))
end G89
theorem PySem.W.Fast.tw1249534633449667968 : True := trivial
theorem PySem.W.Fast.tw13655968779821485952 : True := trivial
theorem PySem.W.Fast.tw1343299356472260706 : True := trivial
theorem PySem.W.Fast.tw18423943732657424356 : True := trivial
theorem PySem.W.Fast.tw3541534621697192229 : True := trivial
theorem PySem.W.Fast.tw8453507688375451529 : True := trivial
theorem PySem.W.Fast.tw4431989575858407888 : True := trivial
theorem PySem.W.Fast.tw7760841040794499124 : True := trivial
theorem PySem.W.Fast.tw5637881672136992596 : True := trivial
theorem PySem.W.Fast.tw11781490640139326229 : True := trivial
theorem PySem.W.Fast.tw16525395855862246998 : True := trivial
theorem PySem.W.Fast.tw8197359393151020950 : True := trivial
theorem PySem.W.Fast.tw6422381916537144701 : True := trivial
theorem PySem.W.Fast.tw11907235294589376734 : True := trivial
theorem PySem.W.Fast.tw11724055012147862751 : True := trivial
open PySem PySem.W PyProof.Rows
set_option maxRecDepth 100000 in
set_option maxHeartbeats 0 in
theorem PySem.Challenge.cw_screenlines_k89_whole_screen_texts_spoil_holds : PySem.Challenge.rw_screenlines_k89_whole_screen_texts_spoil.Holds := by
  w_on; o_law; k_head; (case hw => w_witness2)
  k_fill
  refine Q.walkT (l := PySem.Challenge.rw_screenlines_k89_whole_screen_texts_spoil) (L := 10) ⟨rfl, by decide, by decide⟩ rfl rfl (by decide) ?F
  case F =>
    intro w mg fa h KX G hmg
    have b_ValueError : mg "ValueError" = none := PySem.W.mg_none_of KX G (by k_is)
    have b_all : mg "all" = none := PySem.W.mg_none_of KX G (by k_is)
    have b_bool : mg "bool" = none := PySem.W.mg_none_of KX G (by k_is)
    have b_int : mg "int" = none := PySem.W.mg_none_of KX G (by k_is)
    have b_isinstance : mg "isinstance" = none := PySem.W.mg_none_of KX G (by k_is)
    have b_len : mg "len" = none := PySem.W.mg_none_of KX G (by k_is)
    have b_range : mg "range" = none := PySem.W.mg_none_of KX G (by k_is)
    have b_str : mg "str" = none := PySem.W.mg_none_of KX G (by k_is)
    have b_tuple : mg "tuple" = none := PySem.W.mg_none_of KX G (by k_is)
    have g_FIGURES : ∃ t, mg "FIGURES" = some (.str "0123456789" t) := ⟨_, PySem.W.mg_of KX G (by k_is)⟩
    have g_MOST_FIGURES : ∃ t, mg "MOST_FIGURES" = some (.int 2 t) := ⟨_, PySem.W.mg_of KX G (by k_is)⟩
    have g_MOST_ROWS : ∃ t, mg "MOST_ROWS" = some (.int 12 t) := ⟨_, PySem.W.mg_of KX G (by k_is)⟩
    have g_MOST_WIDTH : ∃ t, mg "MOST_WIDTH" = some (.int 40 t) := ⟨_, PySem.W.mg_of KX G (by k_is)⟩
    have h34 := Q.fun_at (x := "_law_cell") (st := G89.top 34) KX G (by k_is) (by k_is) (by k_is) (by k_is)
    have h35 := Q.fun_at (x := "_law_pick") (st := G89.top 35) KX G (by k_is) (by k_is) (by k_is) (by k_is)
    have h36 := Q.fun_at (x := "_law_row") (st := G89.top 36) KX G (by k_is) (by k_is) (by k_is) (by k_is)
    have h37 := Q.fun_at (x := "_law_screen") (st := G89.top 37) KX G (by k_is) (by k_is) (by k_is) (by k_is)
    have h38 := Q.fun_at (x := "_law_some") (st := G89.top 38) KX G (by k_is) (by k_is) (by k_is) (by k_is)
    have h12 := Q.fun_at (x := "is_whole") (st := G89.top 12) KX G (by k_is) (by k_is) (by k_is) (by k_is)
    have h13 := Q.fun_at (x := "is_within") (st := G89.top 13) KX G (by k_is) (by k_is) (by k_is) (by k_is)
    have h14 := Q.fun_at (x := "is_plain") (st := G89.top 14) KX G (by k_is) (by k_is) (by k_is) (by k_is)
    have h19 := Q.fun_at (x := "are_full_rows") (st := G89.top 19) KX G (by k_is) (by k_is) (by k_is) (by k_is)
    have h20 := Q.fun_at (x := "is_place") (st := G89.top 20) KX G (by k_is) (by k_is) (by k_is) (by k_is)
    have h21 := Q.fun_at (x := "is_screen") (st := G89.top 21) KX G (by k_is) (by k_is) (by k_is) (by k_is)
    have h22 := Q.fun_at (x := "check_screen") (st := G89.top 22) KX G (by k_is) (by k_is) (by k_is) (by k_is)
    have h25 := Q.fun_at (x := "spot_text") (st := G89.top 25) KX G (by k_is) (by k_is) (by k_is) (by k_is)
    have h30 := Q.fun_at (x := "screen_text") (st := G89.top 30) KX G (by k_is) (by k_is) (by k_is) (by k_is)
    have h41 := Q.fun_at (x := "_law_spoilt") (st := G89.top 41) KX G (by k_is) (by k_is) (by k_is) (by k_is)
    have h28 := Q.fun_at (x := "lines_of") (st := G89.top 28) KX G (by k_is) (by k_is) (by k_is) (by k_is)
    have h15 := Q.fun_at (x := "are_figures") (st := G89.top 15) KX G (by k_is) (by k_is) (by k_is) (by k_is)
    have h26 := Q.fun_at (x := "is_short_number") (st := G89.top 26) KX G (by k_is) (by k_is) (by k_is) (by k_is)
    have h27 := Q.fun_at (x := "spot_or_none") (st := G89.top 27) KX G (by k_is) (by k_is) (by k_is) (by k_is)
    have h31 := Q.fun_at (x := "screen_or_none") (st := G89.top 31) KX G (by k_is) (by k_is) (by k_is) (by k_is)
    have h32 := Q.fun_at (x := "read_screen") (st := G89.top 32) KX G (by k_is) (by k_is) (by k_is) (by k_is)
    have h39 := Q.fun_at (x := "_law_class") (st := G89.top 39) KX G (by k_is) (by k_is) (by k_is) (by k_is)
    have h40 := Q.fun_at (x := "_law_told") (st := G89.top 40) KX G (by k_is) (by k_is) (by k_is) (by k_is)
    have h42 := Q.fun_atL (x := "law") (st := G89.top 42) KX G (by k_is) (by k_is) (by k_is) (by k_is) (by k_is) (by rfl) (by rfl) (by rfl) (by rfl) (by rfl) (by rfl) (by decide) (by decide)
    refine' Q.topT (tq := ([(_, "law" ++ ".<locals>." ++ "<lambda>")] : List (Addr × PySem.Str))) ?dl1 ?dl2 (Q.tab_of h42 KX Q.tab_no) (G89.all_mk (P := _) (w := w) (K := L2.KOf KX) hmg b_ValueError b_all b_bool b_int b_isinstance b_len b_range b_str b_tuple g_FIGURES g_MOST_FIGURES g_MOST_ROWS g_MOST_WIDTH ?n_NoScreen ?x_NoScreen ?n_NoText ?x_NoText ?nd (Q.errs_of KX G ?n_LineError ?h1 ?h2 ?tL ?yL ?lb) h34 h35 h36 h37 h38 h12 h13 h14 h19 h20 h21 h22 h25 h30 h41 h28 h15 h26 h27 h31 h32 h39 h40 h42)
    all_goals (try dsimp only [L2.KOf])
    (case dl1 => decide)
    (case dl2 => decide)
    (case n_NoScreen => k_is)
    (case n_NoText => k_is)
    (case n_LineError => k_is)
    (case h1 => dsimp only [Q.TsOk]; exact ⟨by k_is, ⟨_, by k_is⟩, by k_is, by k_is, ⟨_, by k_is⟩, by k_is, by k_is, ⟨_, by k_is⟩, by k_is, by k_is, ⟨_, by k_is⟩, by k_is, by k_is, ⟨_, by k_is⟩, by k_is, by k_is, ⟨_, by k_is⟩, by k_is, by k_is, ⟨_, by k_is⟩, by k_is, by k_is, ⟨_, by k_is⟩, by k_is, trivial⟩)
    (case h2 => dsimp only [Q.RsOk, Q.SubOk]; exact ⟨Q.exc_at (by k_is) (by k_is) (by k_is) (by k_is) (by k_is) (by k_is) (by k_is) (by k_is), ⟨.inl rfl, .inr (by k_is), .inr (by k_is), .inr (by k_is), .inr (by k_is), .inr (by k_is), .inr (by k_is), .inr (by k_is), trivial⟩, by k_is, by k_is, Q.exc_at (by k_is) (by k_is) (by k_is) (by k_is) (by k_is) (by k_is) (by k_is) (by k_is), ⟨.inr (by k_is), .inr (by k_is), .inr (by k_is), .inr (by k_is), .inr (by k_is), .inr (by k_is), .inl rfl, .inr (by k_is), trivial⟩, by k_is, by k_is, trivial⟩)
    (case tL => k_is)
    (case yL => k_is)
    (case lb => k_is)
    (case nd => decide)
    (case x_NoScreen => k_exc)
    (case x_NoText => k_exc)
end
