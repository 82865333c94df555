import PyProof.Rows.All
import Wide.All
import OpenK.AllK
import Wide.FinOn
import Lean
import PyProof.EqAt
import PyProof.EqKinds
import PyProof.TupleCall
import PySem.Challenge.RW_shapeorders_k06_all_without_an_order
set_option Elab.async false
set_option linter.all false
set_option maxRecDepth 100000
/-! THE HAND LAYER, for ints, bools, texts, own classes, LISTS and tuples (index, slices, in, append, pop ..), calls, loops. Paste it whole ahead of your own text; what your proof does not reach may be deleted. -/
namespace L2
open PySem PySem.Spec PyProof.Rows

/-- a key: an int or a str -/
noncomputable abbrev Key := Sum Int Str
noncomputable def keyIs : Key → Value → Bool
  | .inl k, v => Value.isInt k v
  | .inr x, v => Value.isStrOf x v
noncomputable def keyH (w : World) : Key → Int
  | .inl k => hashInt k
  | .inr x => hashStr w x
theorem keyIs_shape : ∀ {k : Key} {v : Value}, keyIs k v = true → (∃ i t, k = Sum.inl i ∧ v = Value.int i t) ∨ (∃ x t, k = Sum.inr x ∧ v = Value.str x t)
  | .inl i, v, h => by
    obtain ⟨t, e⟩ := Value.isInt_shape (k := i) (v := v) h
    exact .inl ⟨i, t, rfl, e⟩
  | .inr x, v, h => by
    obtain ⟨t, e⟩ := Value.isStrOf_shape (x := x) (v := v) h
    exact .inr ⟨x, t, rfl, e⟩
theorem key_ll (a b : Int) : decide ((Sum.inl a : Key) = Sum.inl b) = (a == b) := by
  by_cases e : a = b
  · subst e; simp
  · have h : ¬ (Sum.inl a : Key) = Sum.inl b := fun q => e (Sum.inl.inj q)
    rw [decide_eq_false h]
    exact (beq_eq_false_iff_ne.mpr e).symm
theorem key_rr (a b : Str) : decide ((Sum.inr a : Key) = Sum.inr b) = decide (a = b) := by
  by_cases e : a = b
  · subst e; simp
  · have h : ¬ (Sum.inr a : Key) = Sum.inr b := fun q => e (Sum.inr.inj q)
    rw [decide_eq_false h, decide_eq_false e]
theorem key_lr (a : Int) (b : Str) : decide ((Sum.inl a : Key) = Sum.inr b) = false := decide_eq_false (fun q => nomatch q)
theorem key_rl (a : Str) (b : Int) : decide ((Sum.inr a : Key) = Sum.inl b) = false := decide_eq_false (fun q => nomatch q)

noncomputable def mixKind (prog : Program) (w : World) : PySem.KeyKind prog w Key where
  is := keyIs
  hash := keyH w
  inj := fun v a b ha hb => by
    rcases keyIs_shape ha with ⟨i, t, rfl, rfl⟩ | ⟨x, t, rfl, rfl⟩
    · rcases keyIs_shape hb with ⟨j, u, rfl, e⟩ | ⟨y, u, rfl, e⟩
      · injection e with e1 _; rw [e1]
      · exact nomatch e
    · rcases keyIs_shape hb with ⟨j, u, rfl, e⟩ | ⟨y, u, rfl, e⟩
      · exact nomatch e
      · injection e with e1 _; rw [e1]
  byValue := fun k v h => by
    rcases keyIs_shape h with ⟨i, t, rfl, rfl⟩ | ⟨x, t, rfl, rfl⟩ <;> rfl
  pyHash := fun hv h => by
    rcases keyIs_shape hv with ⟨i, t, rfl, rfl⟩ | ⟨x, t, rfl, rfl⟩
    · exact wpAny_pyHash_int h
    · exact wpAny_pyHash_str h
  eqBool := fun hu hv h => by
    rcases keyIs_shape hu with ⟨i, t, rfl, rfl⟩ | ⟨x, t, rfl, rfl⟩
    · rcases keyIs_shape hv with ⟨j, u, rfl, rfl⟩ | ⟨y, u, rfl, rfl⟩
      · rw [key_ll] at h; exact wpAny_eqBool_int h
      · rw [key_lr] at h; exact SeqAt.EqAt.int_str i t y u _ _ _ _ h
    · rcases keyIs_shape hv with ⟨j, u, rfl, rfl⟩ | ⟨y, u, rfl, rfl⟩
      · rw [key_rl] at h; exact SeqAt.EqAt.str_int x t j u _ _ _ _ h
      · rw [key_rr] at h; exact wpAny_eqBool_str h
  «strs» := fun k x t v h => by
    rcases keyIs_shape h with ⟨i, u, rfl, e⟩ | ⟨y, u, rfl, e⟩
    · exact nomatch e
    · injection e with e1 _
      subst e1
      cases v <;> rfl

end L2

namespace L2
open PySem PySem.Spec PyProof.Rows

/-- a value, without the heap -/
inductive V where
  | non | bl (b : Bool) | int (i : Int) | str (x : Str) | byt (b : Array UInt8) | flt (b : UInt64) | ref (a : Addr) | ty (n : String)
  deriving DecidableEq

noncomputable def RelV : V → Value → Prop
  | .non, u => u = Value.none
  | .bl b, u => u = Value.bool b
  | .int i, u => ∃ t, u = Value.int i t
  | .str x, u => ∃ t, u = Value.str x t
  | .byt b, u => ∃ t, u = Value.bytes b t
  | .flt b, u => ∃ t, u = Value.float b t
  | .ref a, u => u = Value.ref a
  | .ty n, u => u = Value.type n

noncomputable abbrev Vals : List V → List Value → Prop := Paired RelV
theorem Vals.length {xs : List V} {us : List Value} (r : Vals xs us) : xs.length = us.length := Paired.length r
theorem Vals.get : ∀ {xs : List V} {us : List Value} {i : Nat} {x : V}, Vals xs us → xs[i]? = some x → ∃ u, us[i]? = some u ∧ RelV x u
  | _, _, _, _, .nil, e => by simp at e
  | _, _, 0, _, .cons r _, e => by simp at e; subst e; exact ⟨_, rfl, r⟩
  | _, _, i + 1, x, .cons _ t, e => by
    obtain ⟨u, h1, h2⟩ := Vals.get (i := i) (x := x) t (by simpa using e)
    exact ⟨u, by simpa using h1, h2⟩
theorem Vals.append : ∀ {xs ys : List V} {us ws : List Value}, Vals xs us → Vals ys ws → Vals (xs ++ ys) (us ++ ws)
  | _, _, _, _, .nil, s => s
  | _, _, _, _, .cons r t, s => .cons r (Vals.append t s)
theorem Vals.take : ∀ {xs : List V} {us : List Value} (n : Nat), Vals xs us → Vals (xs.take n) (us.take n)
  | _, _, 0, _ => .nil
  | _, _, _ + 1, .nil => .nil
  | _, _, n + 1, .cons r t => .cons r (Vals.take n t)
theorem Vals.drop : ∀ {xs : List V} {us : List Value} (n : Nat), Vals xs us → Vals (xs.drop n) (us.drop n)
  | _, _, 0, r => r
  | _, _, _ + 1, .nil => .nil
  | _, _, n + 1, .cons _ t => Vals.drop n t
noncomputable def RelO : Option V → Option Value → Prop
  | some v, some u => RelV v u
  | none, none => True
  | _, _ => False
noncomputable def KV {κ : Type} : List (κ × V) → List (κ × Value) → Prop := Paired fun (p : κ × V) (q : κ × Value) => p.1 = q.1 ∧ RelV p.2 q.2

/-- a key of a dict (00_mix): an int or a text -/
noncomputable def kV : Key → V
  | .inl i => .int i
  | .inr x => .str x

/-- what stands at a tracked address -/
inductive HO where
  /-- a list -/
  | lst (xs : List V)
  /-- a tuple (never changes) -/
  | tup (xs : List V)
  /-- a dict whose keys are ints and texts; one whose keys are tuples of ints and texts (the empty one is both) -/
  | dK (kvs : List (Key × V)) | dT (kvs : List (List Key × V))
  /-- a set of ints: its members, its size -/
  | set (S : Int → Bool) (n : Nat)
  /-- an instance of the class at C, its dict at dx, its attributes -/
  | ins (C dx : Addr) (fs : List (Str × V))
  /-- the dict of the instance at x -/
  | own (x : Addr)
  /-- the dict of an exception -/
  | xd (fs : List (Str × V))
  /-- a bound method, f of x -/
  | met (f x : Addr)
  /-- a range object lo, lo + 1, .. below hi -/
  | rng (lo hi : Int)
  /-- a thing that is known to the object (the script; a dict while a loop walks it): read, never written while it is so -/
  | frz (o : Obj) (u : HO)
  /-- a code object's table -/
  | tbl (ps : Array Value)
  /-- any other thing, by what is true of its one object (a def of one's own: SetO a S n := HO.ext fun h => ..) -/
  | ext (φ : Heap → Prop)

noncomputable abbrev Hp := Addr → Option HO
noncomputable def upd (H : Hp) (a : Addr) (o : HO) : Hp := fun b => if b = a then some o else H b
theorem upd_same {H : Hp} {a : Addr} {o : HO} : upd H a o a = some o := by unfold upd; rw [if_pos rfl]
theorem upd_ne {H : Hp} {a b : Addr} {o : HO} (h : b ≠ a) : upd H a o b = H b := by unfold upd; rw [if_neg h]
theorem ne_of_none {H : Hp} {a b : Addr} {o : HO} (h : H a = some o) (h' : H b = none) : a ≠ b := by
  intro e; subst e; rw [h] at h'; cases h'

section
variable (P : Program) (w : World)
noncomputable def ObjOk (H : Hp) (h : Heap) (a : Addr) : HO → Prop
  | .lst xs => xs.length ≤ sizeLine ∧ ∃ (its : List Value) (n : Nat), Vals xs its ∧ h.get? a = some { cls := .type "list", data := .seq its.toArray n }
  | .tup xs => xs.length ≤ sizeLine ∧ ∃ its : List Value, Vals xs its ∧ IsTup h a its.toArray
  | .dK kvs => kvs.length ≤ sizeLine ∧ (a == sysModules) = false ∧ ∃ vs, KV kvs vs ∧ h.DictOf (mixKind P w) a vs
  | .dT kvs => kvs.length ≤ sizeLine ∧ (a == sysModules) = false ∧ ∃ xs : List (List Key × Addr × Value),
      Paired (fun (p : List Key × V) (q : List Key × Addr × Value) => p.1 = q.1 ∧ H q.2.1 = some (.tup (p.1.map kV)) ∧ RelV p.2 q.2.2) kvs xs ∧
      ∃ o es ep, h.get? a = some o ∧ o.ExactDict ∧ o.data = .dict es ep ∧ es.toList = xs.map (entryOfKey (tupleKind (mixKind P w))) ∧ (xs.map (·.1)).Nodup
  | .set S n => h.SetOf (intKind P w) a S n
  | .ins C dx fs => H dx = some (.own a) ∧ fs.length ≤ 1000 ∧ dx ≠ a ∧ h.get? a = some (PySem.W.instObj C dx) ∧
      ∃ mA, h.Ns1 dx mA ∧ (∀ f, RelO (fs.lookup f) (mA f)) ∧ PySem.Within mA (fs.map (·.1))
  | .own _ => ∃ o, h.get? a = some o
  | .xd fs => ∃ mA, h.Ns1 a mA ∧ ∀ f, RelO (fs.lookup f) (mA f)
  | .rng lo hi => ∃ t u v, h.get? a = some { cls := .type "range", data := .fields #[.int lo t, .int hi u, .int 1 v] }
  | .frz o u => h.get? a = some o ∧ ObjOk H h a u
  | .tbl ps => h.get? a = some { cls := .none, data := .fields ps }
  | .met f x => h.get? a = some (PySem.W.methodObj (.ref f) (.ref x))
  | .ext φ => φ h ∧ (∃ o, h.get? a = some o) ∧ ∀ h1 h2 : Heap, φ h1 → (∀ o, h1.get? a = some o → h2.get? a = some o) → φ h2
/-- the abstract heap is held -/
noncomputable def HOk (H : Hp) (h : Heap) : Prop := ∀ a o, H a = some o → ObjOk P w H h a o
end

section
variable {P : Program} {w : World} {H H' : Hp} {h h' : Heap} {a : Addr} {o : HO}
theorem ObjOk.lt (x : ObjOk P w H h a o) : a < h.objs.size := by
  cases o with
  | lst xs => obtain ⟨_, _, _, _, e⟩ := x; exact Heap.lt_size e
  | tup xs => obtain ⟨_, _, _, p⟩ := x; exact p.lt
  | dK kvs => obtain ⟨_, _, _, _, o, _, _, e, _⟩ := x; exact Heap.lt_size e
  | dT kvs => obtain ⟨_, _, _, _, o, _, _, e, _⟩ := x; exact Heap.lt_size e
  | set S n => obtain ⟨o, _, _, _, e, _⟩ := x; exact Heap.lt_size e
  | ins C dx fs => obtain ⟨_, _, _, e, _⟩ := x; exact Heap.lt_size e
  | own y => obtain ⟨_, e⟩ := x; exact Heap.lt_size e
  | xd fs => obtain ⟨_, ⟨_, _, _, e, _⟩, _⟩ := x; exact Heap.lt_size e
  | rng lo hi => obtain ⟨_, _, _, e⟩ := x; exact Heap.lt_size e
  | frz ob u => obtain ⟨e, _⟩ := x; exact Heap.lt_size e
  | tbl ps => exact Heap.lt_size (show h.get? a = some _ from x)
  | met f y => exact Heap.lt_size (show h.get? a = some _ from x)
  | ext φ => obtain ⟨_, ⟨_, e⟩, _⟩ := x; exact Heap.lt_size e
theorem Paired.mapP {α β : Type} {F G : α → β → Prop} : ∀ {l₁ : List α} {l₂ : List β}, Paired F l₁ l₂ → (∀ a b, F a b → G a b) → Paired G l₁ l₂
  | _, _, .nil, _ => .nil
  | _, _, .cons r t, f => .cons (f _ _ r) (Paired.mapP t f)
/-- what an object's description leans on: its own object, its own dict, the tuples -/
theorem ObjOk.stay (x : ObjOk P w H h a o) (k : ∀ b u, (b = a ∨ H b = some (.own a)) → h.get? b = some u → h'.get? b = some u)
    (ho : ∀ b, H b = some (.own a) → H' b = some (.own a)) (ht : ∀ b xs, H b = some (.tup xs) → H' b = some (.tup xs)) : ObjOk P w H' h' a o := by
  induction o with
  | lst xs => obtain ⟨z, its, n, r, e⟩ := x; exact ⟨z, its, n, r, k _ _ (.inl rfl) e⟩
  | tup xs => obtain ⟨z, its, r, ob, e, c⟩ := x; exact ⟨z, its, r, ob, k _ _ (.inl rfl) e, c⟩
  | dK kvs => obtain ⟨z, y, vs, r, ob, es, ep, e, c⟩ := x; exact ⟨z, y, vs, r, ob, es, ep, k _ _ (.inl rfl) e, c⟩
  | dT kvs =>
    obtain ⟨z, y, xs, r, ob, es, ep, e, c⟩ := x
    exact ⟨z, y, xs, Paired.mapP r fun p q z => ⟨z.1, ht _ _ z.2.1, z.2.2⟩, ob, es, ep, k _ _ (.inl rfl) e, c⟩
  | set S n => obtain ⟨ob, es, ep, t, e, c⟩ := x; exact ⟨ob, es, ep, t, k _ _ (.inl rfl) e, c⟩
  | ins C dx fs =>
    obtain ⟨d, z, ne, e, mA, ⟨od, es, ep, e2, c⟩, r⟩ := x
    exact ⟨ho _ d, z, ne, k _ _ (.inl rfl) e, mA, ⟨od, es, ep, k _ _ (.inr d) e2, c⟩, r⟩
  | own y => obtain ⟨ob, e⟩ := x; exact ⟨ob, k _ _ (.inl rfl) e⟩
  | xd fs => obtain ⟨mA, ⟨od, es, ep, e, c⟩, r⟩ := x; exact ⟨mA, ⟨od, es, ep, k _ _ (.inl rfl) e, c⟩, r⟩
  | rng lo hi => obtain ⟨t, u, v, e⟩ := x; exact ⟨t, u, v, k _ _ (.inl rfl) e⟩
  | frz ob u ih => obtain ⟨e, q⟩ := x; exact ⟨k _ _ (.inl rfl) e, ih q⟩
  | tbl ps =>
    have e : h.get? a = some { cls := .none, data := .fields ps } := x
    show h'.get? a = some { cls := .none, data := .fields ps }
    exact k a _ (.inl rfl) e
  | met f y =>
    have e : h.get? a = some (PySem.W.methodObj (.ref f) (.ref y)) := x
    show h'.get? a = some (PySem.W.methodObj (.ref f) (.ref y))
    exact k a _ (.inl rfl) e
  | ext φ => obtain ⟨p, ⟨o, e⟩, st⟩ := x; exact ⟨st _ _ p fun o q => k _ _ (.inl rfl) q, ⟨o, k _ _ (.inl rfl) e⟩, st⟩
theorem HOk.lt (x : HOk P w H h) (e : H a = some o) : a < h.objs.size := (x a o e).lt
theorem HOk.fresh (x : HOk P w H h) (e : h.objs.size ≤ a) : H a = none := by
  cases q : H a with
  | none => rfl
  | some u => exact absurd (Nat.lt_of_lt_of_le (x.lt q) e) (Nat.lt_irrefl _)
/-- every object of the heap is kept -/
theorem HOk.kept (x : HOk P w H h) (k : ∀ b u, h.get? b = some u → h'.get? b = some u) : HOk P w H h' := fun a o e =>
  (x a o e).stay (fun b u _ q => k b u q) (fun _ q => q) fun _ _ q => q
/-- a new object is laid and tracked -/
theorem HOk.laid (x : HOk P w H h) (k : ∀ b u, h.get? b = some u → h'.get? b = some u) (hp : h.objs.size ≤ a) (new : ObjOk P w (upd H a o) h' a o) : HOk P w (upd H a o) h' := fun b u e => by
  have hn := x.fresh hp
  by_cases hb : b = a
  · subst hb; rw [upd_same] at e; cases e; exact new
  · rw [upd_ne hb] at e
    exact (x b u e).stay (fun c v _ q => k c v q) (fun c q => by rw [upd_ne (ne_of_none q hn)]; exact q) fun c xs q => by rw [upd_ne (ne_of_none q hn)]; exact q
end

/-- what may be read as u: it is u, or a known u -/
noncomputable def Rd (H : Hp) (a : Addr) (u : HO) : Prop := H a = some u ∨ ∃ o, H a = some (.frz o u)
theorem Rd.ok {P : Program} {w : World} {H : Hp} {h : Heap} {a : Addr} {u : HO} (r : Rd H a u) (x : HOk P w H h) : ObjOk P w H h a u := by
  rcases r with r | ⟨o, r⟩
  · exact x a u r
  · obtain ⟨_, q⟩ := x a _ r
    exact q
/-- what may be written -/
noncomputable def Mut : Option HO → Prop
  | some (.lst _) => True
  | some (.dK _) => True
  | some (.dT _) => True
  | some (.set _ _) => True
  | some (.ins _ _ _) => True
  | some (.ext _) => True
  | _ => False
section
variable {P : Program} {w : World} {H : Hp} {h h' : Heap} {x e : Addr} {o' : HO}
/-- the object at e is changed: x itself, or the dict of the instance x -/
theorem HOk.write (ok : HOk P w H h) (mu : Mut (H x)) (he : e = x ∨ H e = some (.own x)) (k : ∀ b u, b ≠ e → h.get? b = some u → h'.get? b = some u) (heo : ∃ u, h'.get? e = some u)
    (new : ObjOk P w (upd H x o') h' x o') : HOk P w (upd H x o') h' := fun b u q => by
  have nown : ∀ c y, H c = some (.own y) → c ≠ x := fun c y r z => by subst z; rw [r] at mu; exact mu
  have ntup : ∀ c xs, H c = some (.tup xs) → c ≠ x := fun c xs r z => by subst z; rw [r] at mu; exact mu
  by_cases hb : b = x
  · subst hb; rw [upd_same] at q; cases q; exact new
  · rw [upd_ne hb] at q
    by_cases hbe : b = e
    · have q' : H b = some (.own x) := by
        rcases he with z | z
        · exact absurd (hbe.trans z) hb
        · rw [hbe]; exact z
      rw [q] at q'; cases q'
      obtain ⟨v, hv⟩ := heo
      exact ⟨v, by rw [hbe]; exact hv⟩
    · refine (ok b u q).stay (fun c v hc r => k c v ?_ r) (fun c r => by rw [upd_ne (nown c b r)]; exact r) fun c xs r => by rw [upd_ne (ntup c xs r)]; exact r
      rcases hc with rfl | hc
      · exact hbe
      · rintro rfl
        rcases he with z | z
        · exact nown c b hc z
        · rw [hc] at z; cases z; exact hb rfl
end

/-! ### kept unless tracked; of the frames at fs (the callers') the slots may change (an exception that passes writes there); of the records at ex (iterators) nothing is said -/
structure Un (fs ex : List Addr) (H H' : Hp) (h h' : Heap) : Prop where
  keep : ∀ b o, h.get? b = some o → H b = none → b ∉ fs → b ∉ ex → h'.get? b = some o
  slot : ∀ b o, h.get? b = some o → H b = none → b ∈ fs → b ∉ ex → ∃ sl, h'.get? b = some { o with slots := sl }
  free : ∀ b o, h.get? b = some o → H b = none → b ∉ ex → H' b = none
  there : ∀ b o, h.get? b = some o → b ∉ ex → ∃ o', h'.get? b = some o'
  tups : ∀ b xs, H b = some (.tup xs) → H' b = some (.tup xs)
  frzs : ∀ b o u, H b = some (.frz o u) → H' b = some (.frz o u)
  tbls : ∀ b ps, H b = some (.tbl ps) → ∃ more, H' b = some (.tbl (ps ++ more))
section
variable {fs fs' ex ex' : List Addr} {H H1 H2 : Hp} {h h1 h2 h' : Heap} {a x e : Addr} {o : HO}
theorem Un.any (u : Un fs ex H H1 h h1) {b : Addr} {ob : Obj} (q : h.get? b = some ob) (n : H b = none) (hx : b ∉ ex) : ∃ sl, h1.get? b = some { ob with slots := sl } := by
  by_cases hb : b ∈ fs
  · exact u.slot b ob q n hb hx
  · exact ⟨ob.slots, u.keep b ob q n hb hx⟩
theorem Un.kept (k : ∀ b u, h.get? b = some u → h'.get? b = some u) : Un fs ex H H h h' :=
  ⟨fun b ob q _ _ _ => k b ob q, fun b ob q _ _ _ => ⟨ob.slots, k b ob q⟩, fun _ _ _ n _ => n, fun b ob q _ => ⟨ob, k b ob q⟩, fun _ _ q => q, fun _ _ _ q => q, fun _ ps q => ⟨#[], by rw [q]; simp⟩⟩
theorem Un.refl : Un fs ex H H h h := Un.kept fun _ _ q => q
theorem Un.laid (k : ∀ b u, h.get? b = some u → h'.get? b = some u) (hp : h.objs.size ≤ a) (hn : H a = none) : Un fs ex H (upd H a o) h h' where
  keep := fun b u q _ _ _ => k b u q
  slot := fun b u q _ _ _ => ⟨u.slots, k b u q⟩
  free := fun b u q n _ => by rw [upd_ne (Nat.ne_of_lt (Nat.lt_of_lt_of_le (Heap.lt_size q) hp))]; exact n
  there := fun b u q _ => ⟨u, k b u q⟩
  tups := fun b xs q => by rw [upd_ne (ne_of_none q hn)]; exact q
  frzs := fun b u xs q => by rw [upd_ne (ne_of_none q hn)]; exact q
  tbls := fun b ps q => ⟨#[], by rw [upd_ne (ne_of_none q hn), q]; simp⟩
theorem Un.write (mu : Mut (H x)) (he : e = x ∨ H e = some (.own x)) (k : ∀ b u, b ≠ e → h.get? b = some u → h'.get? b = some u) (heo : ∃ u, h'.get? e = some u) : Un fs ex H (upd H x o) h h' := by
  have hx : ∀ b, H b = none → b ≠ x := fun b n z => by subst z; rw [n] at mu; exact mu
  have hb : ∀ b, H b = none → b ≠ e := fun b n z => by
    subst z
    rcases he with r | r
    · exact hx b n r
    · rw [n] at r; cases r
  have hm : ∀ b u, H b = some u → ¬ Mut (some u) → b ≠ x := fun b u q nm z => by subst z; rw [q] at mu; exact nm mu
  refine ⟨fun b u q n _ _ => k b u (hb b n) q, fun b u q n _ _ => ⟨u.slots, k b u (hb b n) q⟩, fun b u q n _ => by rw [upd_ne (hx b n)]; exact n, fun b u q _ => ?_,
    fun b xs q => by rw [upd_ne (hm b _ q fun z => z)]; exact q, fun b u xs q => by rw [upd_ne (hm b _ q fun z => z)]; exact q, fun b ps q => ⟨#[], by rw [upd_ne (hm b _ q fun z => z), q]; simp⟩⟩
  by_cases hbe : b = e
  · subst hbe; exact heo
  · exact ⟨u, k b u hbe q⟩
end

/-! ### the heap without what is tracked -/
noncomputable def trk (h : Heap) (H : Hp) : List Addr := (List.range h.objs.size).filter fun a => (H a).isSome
noncomputable def hidT (h : Heap) (H : Hp) : Heap := PySem.W.hideAll h (trk h H)
theorem hidT_size (h : Heap) (H : Hp) : (hidT h H).objs.size = h.objs.size := PySem.W.hideAll_size _ _
theorem hidT_get {h : Heap} {H : Hp} {b : Addr} {o : Obj} (e : h.get? b = some o) (n : H b = none) : (hidT h H).get? b = some o :=
  PySem.W.hideAll_get _ e fun hm => by
    have q : (H b).isSome = true := (List.mem_filter.mp hm).2
    rw [n] at q; simp at q
theorem of_hidT {h : Heap} {H : Hp} {b : Addr} {o : Obj} (e : (hidT h H).get? b = some o) : h.get? b = some o ∧ H b = none := by
  have e' : h.get? b = some o := PySem.W.of_hideAll (trk h H) e
  refine ⟨e', ?_⟩
  cases q : H b with
  | none => rfl
  | some x =>
    have hm : b ∈ trk h H := List.mem_filter.mpr ⟨List.mem_range.mpr (Heap.lt_size e'), by simp [q]⟩
    have z : (hidT h H).get? b = none := PySem.W.hideAll_none (trk h H) hm
    rw [z] at e; cases e

/-! ### OpenK's ledger, filled with every new object but one -/
end L2

namespace L2
open PySem PySem.Spec PyProof.Rows

/-- the module's facts, over the base: the heap at the law's entry without what is tracked there -/
structure Mod (K : PySem.W.Frag) (mg : Str → Option Value) (base : Heap) : Prop where
  kin : K.In base
  glob : base.Ns mainGlobals mg
  blt : ∃ mb, base.Ns builtinsNs mb ∧ ∀ x : Str, x ≠ "__name__" → mb x = bootBuiltins x
  nolimit : base.NoLimit

/-- the context: a def's body (or a comprehension's block) running. base: fixed through the whole law; s₀, H₀: the entry; outer: the frames whose slots others may change (a def's callers); stack: all frames that run;
   ex: iterators that were made ahead of the entry and are walked here (a comprehension's); fn: the names whose cells were made at the entry (a def: all; a comprehension's block: its own); calm: not within an except suite; pn: pins that every state bears; xe: what is wanted of an exception that leaves the code -/
structure Cx where
  prog : Program
  w : World
  K : PySem.W.Frag
  mg : Str → Option Value
  base : Heap
  A : Around
  N : List Str
  s₀ : Shared
  H₀ : Hp
  env : Env
  outer : List Env
  stack : List Env
  ex : List Addr
  fn : Str → Bool
  calm : Bool
  pn : List (Addr × Obj)
  xe : Value → Shared → Prop
/-- the callers' frames -/
noncomputable def frs (l : List Env) : List Addr := l.filterMap (·.frame)
noncomputable abbrev Cx.fs (X : Cx) : List Addr := frs X.outer

noncomputable def Vis (sc : Scope) (x : Str) : Prop := sc.names.lookup x = some .local ∨ sc.names.lookup x = some .cell ∨ sc.names.lookup x = some .free
noncomputable def Loc (sc : Scope) (x : Str) : Prop := sc.names.lookup x = some .local ∨ sc.names.lookup x = some .cell
noncomputable def Look (env : Env) (h : Heap) (m : Str → Option Value) (x : Str) (u : Value) : Prop :=
  (env.kindOf x = some .local ∧ m x = some u) ∨ ((env.kindOf x = some .cell ∨ env.kindOf x = some .free) ∧ ∃ c, env.cells.lookup x = some c ∧ h.IsCell c (some u))

structure Cx.Ok (X : Cx) : Prop where
  mod : Mod X.K X.mg X.base
  kind : X.env.scope.kind = .function
  glob : X.env.globals = mainGlobals
  blt : X.env.builtins = builtinsNs
  above : X.s₀.heap.objs.size ≤ X.env.locals
  inj : ∀ x y c, X.env.cells.lookup x = some c → X.env.cells.lookup y = some c → x = y
  has : ∀ x, (X.env.kindOf x = some .cell ∨ X.env.kindOf x = some .free) → ∃ c, X.env.cells.lookup x = some c
  cab : ∀ x c, X.fn x = true → X.env.cells.lookup x = some c → X.s₀.heap.objs.size ≤ c
  hd : X.calm = true → X.A.handled = none
  frames : X.A.frames = some X.stack
  stk : X.stack = X.outer ∨ (X.stack = X.env :: X.outer ∧ X.env.frame = some X.env.locals)
  exf : ∀ b ∈ X.ex, b ≠ X.env.locals ∧ ∀ x c, X.env.cells.lookup x = some c → c ≠ b
  bs : ∀ b o, X.base.get? b = some o → X.s₀.heap.get? b = some o ∧ X.H₀ b = none
  bsz : X.base.objs.size ≤ X.s₀.heap.objs.size
  noex : ∀ b o, X.base.get? b = some o → b ∉ X.ex
  exfs : ∀ b ∈ X.ex, b ∉ X.fs
  funs : X.s₀.heap.FunFrames X.base X.outer
  frf : ∀ b ∈ X.fs, X.H₀ b = none

structure Inv (X : Cx) (pins : List (Addr × Obj)) (σ : List (Option V)) (H : Hp) (s : Shared) : Prop where
  ok : X.Ok
  os : s.os = X.s₀.os
  bare : AllBare s.gens
  base : Un X.fs X.ex X.H₀ H X.s₀.heap s.heap
  loc : ∃ m, s.heap.Ns X.env.locals m ∧ ∀ (i : Nat) (x : Str) (v : V), X.N[i]? = some x → σ[i]? = some (some v) → Vis X.env.scope x → ∃ u, RelV v u ∧ Look X.env s.heap m x u
  cell : ∀ x c, X.env.cells.lookup x = some c → ∃ v, s.heap.IsCell c v
  free : H X.env.locals = none
  freeC : ∀ x c, X.env.cells.lookup x = some c → H c = none
  pin : ∀ p ∈ X.pn ++ pins, s.heap.get? p.1 = some p.2 ∧ H p.1 = none ∧ p.1 ≠ X.env.locals ∧ p.1 ∉ X.fs ∧ ∀ v, p.2.data ≠ .cell v
  hok : HOk X.prog X.w H s.heap
  len : σ.length = X.N.length

section
variable {X : Cx} {pins : List (Addr × Obj)} {σ : List (Option V)} {H H' : Hp} {s : Shared} {h' : Heap}

theorem Cx.Ok.nofr (ok : X.Ok) {b : Addr} {o : Obj} (e : X.base.get? b = some o) : b ∉ X.fs := fun hb => by
  have := (ok.funs.mem hb).1
  rw [e] at this; cases this
theorem Inv.bs (I : Inv X pins σ H s) : ∀ b o, X.base.get? b = some o → s.heap.get? b = some o ∧ H b = none := fun b o e =>
  ⟨I.base.keep b o (I.ok.bs b o e).1 (I.ok.bs b o e).2 (I.ok.nofr e) (I.ok.noex b o e), I.base.free b o (I.ok.bs b o e).1 (I.ok.bs b o e).2 (I.ok.noex b o e)⟩
theorem Inv.bk (I : Inv X pins σ H s) : ∀ b o, X.base.get? b = some o → s.heap.get? b = some o := fun b o e => (I.bs b o e).1
theorem Inv.mod (I : Inv X pins σ H s) : Mod X.K X.mg X.base := I.ok.mod
theorem Inv.kIn (I : Inv X pins σ H s) : X.K.In s.heap := I.ok.mod.kin.keeps I.bk
theorem Inv.lt (I : Inv X pins σ H s) : X.env.locals < s.heap.objs.size := let ⟨_, hn, _⟩ := I.loc; hn.lt
theorem Inv.sz (I : Inv X pins σ H s) : X.s₀.heap.objs.size ≤ s.heap.objs.size := Nat.le_trans I.ok.above (Nat.le_of_lt I.lt)
theorem Inv.nofs (I : Inv X pins σ H s) {a : Addr} (h : s.heap.objs.size ≤ a) : a ∉ X.fs := fun hb => by
  obtain ⟨_, o, ho, _⟩ := I.ok.funs.mem hb
  exact absurd (Nat.lt_of_lt_of_le (Heap.lt_size ho) (Nat.le_trans I.sz h)) (Nat.lt_irrefl _)
theorem Inv.cne (I : Inv X pins σ H s) : ∀ x c, X.env.cells.lookup x = some c → c ≠ X.env.locals := fun x c e z => by
  obtain ⟨v, o, ho, hd⟩ := I.cell x c e
  obtain ⟨m, ⟨o', es, ep, ho', hd', _⟩, _⟩ := I.loc
  rw [z, ho'] at ho; cases ho; rw [hd'] at hd; cases hd
theorem Inv.funs (I : Inv X pins σ H s) : s.heap.FunFrames X.base X.outer := by
  have all : ∀ (l : List Env), (∀ b ∈ frs l, b ∈ X.fs) → X.s₀.heap.FunFrames X.base l → s.heap.FunFrames X.base l := by
    intro l
    induction l with
    | nil => intro _ _; trivial
    | cons env r ih =>
      intro hs hl
      obtain ⟨hk, ⟨L, o, hf, hn, ho, hd⟩, hr⟩ := hl
      have hL : L ∈ X.fs := hs L (by unfold frs; rw [List.filterMap_cons, hf]; exact List.mem_cons_self)
      obtain ⟨sl, e⟩ := I.base.slot L o ho (I.ok.frf L hL) hL fun z => I.ok.exfs L z hL
      exact ⟨hk, ⟨L, _, hf, hn, e, hd⟩, ih (fun b hb => hs b (by unfold frs; rw [List.filterMap_cons, hf]; exact List.mem_cons_of_mem _ hb)) hr⟩
  exact all X.outer (fun _ hb => hb) I.ok.funs

/-- the frames that run, for a call -/
theorem Inv.stack (I : Inv X pins σ H s) : s.heap.FunFrames X.base X.stack := by
  rcases I.ok.stk with e | ⟨e, hf⟩
  · rw [e]; exact I.funs
  · rw [e]
    obtain ⟨m, hn, _⟩ := I.loc
    refine .cons (by rw [I.ok.kind]; decide) hf hn ?_ I.funs
    exact Heap.get?_none_of_le (Nat.le_trans I.ok.bsz I.ok.above)
theorem Inv.stkSub (I : Inv X pins σ H s) : ∀ b ∈ frs X.stack, b ∈ X.env.locals :: X.fs := fun b hb => by
  rcases I.ok.stk with e | ⟨e, hf⟩
  · rw [e] at hb; exact List.mem_cons_of_mem _ hb
  · rw [e] at hb
    unfold frs at hb
    rw [List.filterMap_cons, hf] at hb
    exact hb
theorem Inv.stkFree (I : Inv X pins σ H s) : ∀ b ∈ frs X.stack, H b = none := fun b hb => by
  rcases List.mem_cons.mp (I.stkSub b hb) with e | hb
  · rw [e]; exact I.free
  · obtain ⟨_, o, ho, _⟩ := I.ok.funs.mem hb
    exact I.base.free b o ho (I.ok.frf b hb) fun z => I.ok.exfs b z hb

/-- THE STEP: the untracked objects but the frame and the records at ch are kept (the callers' frames up to slots), the frame's map is kept, the new abstract heap is held -/
theorem Inv.step {g' : Array GenState} {t' : Nat} {d' : Drawn} {ch : List Addr} (I : Inv X pins σ H s)
    (hch : ∀ b ∈ ch, (b ∈ X.ex ∨ X.s₀.heap.objs.size ≤ b) ∧ b ≠ X.env.locals ∧ (∀ x c, X.env.cells.lookup x = some c → c ≠ b) ∧ ∀ p ∈ X.pn ++ pins, p.1 ≠ b)
    (keep : ∀ b o, b ≠ X.env.locals → b ∉ X.fs → b ∉ ch → s.heap.get? b = some o → H b = none → h'.get? b = some o)
    (slot : ∀ b o, b ≠ X.env.locals → b ∈ X.fs → b ∉ ch → s.heap.get? b = some o → H b = none → ∃ sl, h'.get? b = some { o with slots := sl }) (free : ∀ b o, b ∉ ch → s.heap.get? b = some o → H b = none → H' b = none)
    (there : ∀ b o, b ∉ ch → s.heap.get? b = some o → ∃ o', h'.get? b = some o')
    (tups : ∀ b xs, H b = some (.tup xs) → H' b = some (.tup xs)) (frzs : ∀ b o u, H b = some (.frz o u) → H' b = some (.frz o u)) (tbls : ∀ b ps, H b = some (.tbl ps) → ∃ more, H' b = some (.tbl (ps ++ more)))
    (ns : ∀ m, s.heap.Ns X.env.locals m → h'.Ns X.env.locals m) (hok : HOk X.prog X.w H' h') (hg : AllBare g') :
    Inv X pins σ H' { s with heap := h', gens := g', drawn := d', toks := t' } := by
  have neL : ∀ b o, X.s₀.heap.get? b = some o → b ≠ X.env.locals := fun b o e => Nat.ne_of_lt (Nat.lt_of_lt_of_le (Heap.lt_size e) I.ok.above)
  have neC : ∀ b o, X.s₀.heap.get? b = some o → b ∉ X.ex → b ∉ ch := fun b o e hx hb => by
    rcases (hch b hb).1 with z | z
    · exact hx z
    · exact absurd (Nat.lt_of_lt_of_le (Heap.lt_size e) z) (Nat.lt_irrefl _)
  have cellK : ∀ x c, X.env.cells.lookup x = some c → ∀ v, s.heap.IsCell c v → h'.IsCell c v := fun x c e v ⟨o, ho, hd⟩ => by
    have nch : c ∉ ch := fun z => (hch c z).2.2.1 x c e rfl
    by_cases hc : c ∈ X.fs
    · obtain ⟨sl, q⟩ := slot c o (I.cne x c e) hc nch ho (I.freeC x c e)
      exact ⟨_, q, hd⟩
    · exact ⟨o, keep c o (I.cne x c e) hc nch ho (I.freeC x c e), hd⟩
  refine ⟨I.ok, I.os, hg, ⟨fun b o e n hb hx => ?_, fun b o e n hb hx => ?_, fun b o e n hx => ?_, fun b o e hx => ?_, fun b xs e => tups b xs (I.base.tups b xs e), fun b o xs e => frzs b o xs (I.base.frzs b o xs e), fun b ps e => ?_⟩, ?_, fun x c e => ?_, ?_, fun x c e => ?_, fun p hp => ?_, hok, I.len⟩
  · exact keep b o (neL b o e) hb (neC b o e hx) (I.base.keep b o e n hb hx) (I.base.free b o e n hx)
  · obtain ⟨sl, e1⟩ := I.base.slot b o e n hb hx
    obtain ⟨sl', e2⟩ := slot b _ (neL b o e) hb (neC b o e hx) e1 (I.base.free b o e n hx)
    exact ⟨sl', e2⟩
  · obtain ⟨o', e1⟩ := I.base.there b o e hx
    exact free b o' (neC b o e hx) e1 (I.base.free b o e n hx)
  · obtain ⟨o', e1⟩ := I.base.there b o e hx
    exact there b o' (neC b o e hx) e1
  · obtain ⟨m1, e1⟩ := I.base.tbls b ps e
    obtain ⟨m2, e2⟩ := tbls b _ e1
    exact ⟨m1 ++ m2, by rw [e2, Array.append_assoc]⟩
  · obtain ⟨m, hn, hl⟩ := I.loc
    refine ⟨m, ns m hn, fun i x v e1 e2 e3 => ?_⟩
    obtain ⟨u, r, l⟩ := hl i x v e1 e2 e3
    refine ⟨u, r, ?_⟩
    rcases l with l | ⟨k, c, e, z⟩
    · exact .inl l
    · exact .inr ⟨k, c, e, cellK x c e _ z⟩
  · obtain ⟨v, z⟩ := I.cell x c e
    exact ⟨v, cellK x c e v z⟩
  · obtain ⟨m, ⟨o, _, _, ho, _⟩, _⟩ := I.loc
    exact free _ o (fun z => (hch _ z).2.1 rfl) ho I.free
  · obtain ⟨v, o, ho, hd⟩ := I.cell x c e
    exact free c o (fun z => (hch c z).2.2.1 x c e rfl) ho (I.freeC x c e)
  · obtain ⟨e, n, ne, nf, d⟩ := I.pin p hp
    have nch : p.1 ∉ ch := fun z => (hch p.1 z).2.2.2 p hp rfl
    exact ⟨keep p.1 p.2 ne nf nch e n, free p.1 p.2 nch e n, ne, nf, d⟩
/-- .. where the frame's own object is kept too -/
theorem Inv.un {t' : Nat} (I : Inv X pins σ H s) (u : Un X.fs [] H H' s.heap h') (hok : HOk X.prog X.w H' h') : Inv X pins σ H' { s with heap := h', toks := t' } := by
  obtain ⟨m, ⟨o, es, ep, ho, r⟩, _⟩ := id I.loc
  obtain ⟨sl, hL⟩ := u.any ho I.free (by simp)
  exact I.step (g' := s.gens) (d' := s.drawn) (ch := []) (fun _ z => nomatch z) (fun b o _ hb _ e n => u.keep b o e n hb (by simp)) (fun b o _ hb _ e n => u.slot b o e n hb (by simp)) (fun b o _ e n => u.free b o e n (by simp)) (fun b o _ e => u.there b o e (by simp)) u.tups u.frzs u.tbls (fun m' hm => by
    obtain ⟨o', es', ep', ho', r'⟩ := hm
    rw [ho] at ho'; cases ho'
    exact ⟨_, es', ep', hL, r'⟩) hok I.bare
/-- behind a call (or a comprehension's block): the slots of this frame may have changed too, the records at ch may have turned -/
theorem Inv.call {g' : Array GenState} {t' : Nat} {d' : Drawn} {ch : List Addr} (I : Inv X pins σ H s) (u : Un (frs X.stack) ch H H' s.heap h') (hok : HOk X.prog X.w H' h') (hg : AllBare g')
    (hch : ∀ b ∈ ch, (b ∈ X.ex ∨ X.s₀.heap.objs.size ≤ b) ∧ b ≠ X.env.locals ∧ (∀ x c, X.env.cells.lookup x = some c → c ≠ b) ∧ ∀ p ∈ X.pn ++ pins, p.1 ≠ b) :
    Inv X pins σ H' { s with heap := h', gens := g', drawn := d', toks := t' } := by
  obtain ⟨m, ⟨o, es, ep, ho, r⟩, _⟩ := id I.loc
  obtain ⟨sl, hL⟩ := u.any ho I.free fun z => (hch _ z).2.1 rfl
  exact I.step (ch := ch) hch (fun b o hL hb hc e n => u.keep b o e n (fun z => (List.mem_cons.mp (I.stkSub b z)).elim hL hb) hc) (fun b o _ _ hc e n => u.any e n hc) (fun b o hc e n => u.free b o e n hc) (fun b o hc e => u.there b o e hc) u.tups u.frzs u.tbls (fun m' hm => by
    obtain ⟨o', es', ep', ho', r'⟩ := hm
    rw [ho] at ho'; cases ho'
    exact ⟨_, es', ep', hL, r'⟩) hok hg
/-- an untracked record of ours (an iterator) has turned -/
theorem Inv.turned {t' : Nat} {it : Addr} (I : Inv X pins σ H s) (k : ∀ b o, b ≠ it → s.heap.get? b = some o → h'.get? b = some o) (hn : H it = none) (hL : it ≠ X.env.locals)
    (h1 : it ∈ X.ex ∨ X.s₀.heap.objs.size ≤ it) (h2 : ∀ x c, X.env.cells.lookup x = some c → c ≠ it) (h3 : ∀ p ∈ X.pn ++ pins, p.1 ≠ it) : Inv X pins σ H { s with heap := h', toks := t' } := by
  have nit : ∀ b u, H b = some u → b ≠ it := fun b u e z => by rw [z, hn] at e; cases e
  refine I.step (g' := s.gens) (d' := s.drawn) (ch := [it]) (fun b hb => ?_) (fun b o _ _ hc e _ => k b o (fun z => hc (by simp [z])) e) (fun b o _ _ hc e _ => ⟨o.slots, k b o (fun z => hc (by simp [z])) e⟩) (fun _ _ _ _ n => n)
    (fun b o hc e => ⟨o, k b o (fun z => hc (by simp [z])) e⟩) (fun _ _ e => e) (fun _ _ _ e => e) (fun b ps e => ⟨#[], by rw [e]; simp⟩) (fun m hm => ?_) (fun b u e => ?_) I.bare
  · have e : b = it := by simpa using hb
    subst e
    exact ⟨h1, hL, h2, h3⟩
  · obtain ⟨o, es, ep, ho, r⟩ := hm
    exact ⟨o, es, ep, k _ o (Ne.symm hL) ho, r⟩
  · refine (I.hok b u e).stay (fun c v hc q => k c v ?_ q) (fun _ q => q) fun _ _ q => q
    rcases hc with z | z
    · rw [z]; exact nit b u e
    · exact nit c _ z
theorem Inv.tok (I : Inv X pins σ H s) (t : Nat) : Inv X pins σ H { s with toks := t } := I.un (h' := s.heap) (t' := t) Un.refl I.hok
/-- all objects kept -/
theorem Inv.kept {t' : Nat} (I : Inv X pins σ H s) (k : ∀ b u, s.heap.get? b = some u → h'.get? b = some u) : Inv X pins σ H { s with heap := h', toks := t' } := I.un (Un.kept k) (I.hok.kept k)
/-- a new object laid and tracked -/
theorem Inv.laid {a : Addr} {o : HO} {t' : Nat} (I : Inv X pins σ H s) (k : ∀ b u, s.heap.get? b = some u → h'.get? b = some u) (hp : s.heap.objs.size ≤ a) (new : ObjOk X.prog X.w (upd H a o) h' a o) :
    Inv X pins σ (upd H a o) { s with heap := h', toks := t' } := I.un (Un.laid k hp (I.hok.fresh hp)) (I.hok.laid k hp new)
/-- an object written -/
theorem Inv.write {x e : Addr} {o : HO} {t' : Nat} (I : Inv X pins σ H s) (mu : Mut (H x)) (he : e = x ∨ H e = some (.own x)) (k : ∀ b u, b ≠ e → s.heap.get? b = some u → h'.get? b = some u) (heo : ∃ u, h'.get? e = some u)
    (new : ObjOk X.prog X.w (upd H x o) h' x o) : Inv X pins σ (upd H x o) { s with heap := h', toks := t' } := I.un (Un.write mu he k heo) (I.hok.write mu he k heo new)
theorem Inv.pins_of {pins' : List (Addr × Obj)} (I : Inv X pins σ H s) (h : ∀ p ∈ pins', s.heap.get? p.1 = some p.2 ∧ H p.1 = none ∧ p.1 ≠ X.env.locals ∧ p.1 ∉ X.fs ∧ ∀ v, p.2.data ≠ .cell v) : Inv X pins' σ H s :=
  ⟨I.ok, I.os, I.bare, I.base, I.loc, I.cell, I.free, I.freeC, fun p hp => (List.mem_append.mp hp).elim (fun z => I.pin p (List.mem_append_left _ z)) (h p), I.hok, I.len⟩

theorem nodup_ix {N : List Str} (hN : N.Nodup) {i j : Nat} {x : Str} (a : N[i]? = some x) (b : N[j]? = some x) : i = j := by
  obtain ⟨h1, e1⟩ := List.getElem?_eq_some_iff.mp a
  obtain ⟨h2, e2⟩ := List.getElem?_eq_some_iff.mp b
  exact (List.getElem_inj hN).mp (e1.trans e2.symm)

/-- a name is stored; what changed -/
theorem store_ok2 {M : Model} {A : Around} {E : Value → Shared → Prop} {i : Nat} {x : Str} {v : V} {u : Value} {Q : Unit → Shared → Prop} (I : Inv X pins σ H s) (hN : X.N.Nodup) (hi : X.N[i]? = some x) (hx : Loc X.env.scope x) (r : RelV v u)
    (h : ∀ s', Inv X pins (σ.set i (some v)) H s' → (∃ a, Heap.SameBut a s.heap s'.heap ∧ (a = X.env.locals ∨ X.env.cells.lookup x = some a)) → Q () s') (hf : X.fn x = true ∨ X.env.scope.names.lookup x = some .local := by first | exact .inl rfl | exact .inr rfl | assumption) : wpAny M A (storeName X.env x u) Q E s := by
  obtain ⟨m, hn, hl⟩ := id I.loc
  have hcls : (X.env.scope.kind == .class || (X.env.scope.kind == .module && X.env.locals != X.env.globals)) = false := by rw [I.ok.kind]; rfl
  have hiσ : i < σ.length := by rw [I.len]; exact (List.getElem?_eq_some_iff.mp hi).1
  have cne := I.cne
  have tracked : ∀ {a : Addr} {h' : Heap}, (∃ o, s.heap.get? a = some o ∧ H a = none) → Heap.SameBut a s.heap h' → HOk X.prog X.w H h' := fun {a h'} ha hs b ob e => by
    obtain ⟨_, _, hfree⟩ := ha
    refine (I.hok b ob e).stay (fun c w' hc q => (hs.2 c ?_).trans q) (fun _ q => q) fun _ _ q => q
    rintro rfl
    rcases hc with rfl | hc
    · rw [hfree] at e; cases e
    · rw [hfree] at hc; cases hc
  rcases hx with hk | hk
  · refine wpAny_storeName_local hk hn (fun h' hn' hs => ?_) hcls
    obtain ⟨oL, _, _, hoL, _⟩ := id hn
    refine h _ ⟨I.ok, I.os, I.bare, ⟨fun b o e n hb hx => ?_, fun b o e n hb hx => ?_, I.base.free, fun b o e hx => ?_, I.base.tups, I.base.frzs, I.base.tbls⟩, ⟨_, hn', fun j y v' e1 e2 e3 => ?_⟩, fun y c e => ?_, I.free, I.freeC, fun p hp => ?_, tracked ⟨oL, hoL, I.free⟩ hs, by simpa using I.len⟩ ⟨_, hs, .inl rfl⟩
    · exact (hs.2 b (Nat.ne_of_lt (Nat.lt_of_lt_of_le (Heap.lt_size e) I.ok.above))).trans (I.base.keep b o e n hb hx)
    · obtain ⟨sl, e1⟩ := I.base.slot b o e n hb hx
      exact ⟨sl, (hs.2 b (Nat.ne_of_lt (Nat.lt_of_lt_of_le (Heap.lt_size e) I.ok.above))).trans e1⟩
    · obtain ⟨o', e1⟩ := I.base.there b o e hx
      exact ⟨o', (hs.2 b (Nat.ne_of_lt (Nat.lt_of_lt_of_le (Heap.lt_size e) I.ok.above))).trans e1⟩
    · by_cases hj : j = i
      · subst hj
        rw [hi] at e1; cases e1
        rw [List.getElem?_set_self hiσ] at e2
        cases e2
        exact ⟨u, r, .inl ⟨hk, by simp⟩⟩
      · rw [List.getElem?_set_ne (Ne.symm hj)] at e2
        obtain ⟨u', r', q⟩ := hl j y v' e1 e2 e3
        refine ⟨u', r', ?_⟩
        rcases q with ⟨k, e⟩ | ⟨k, c, e, z⟩
        · refine .inl ⟨k, ?_⟩
          have : y ≠ x := fun e => hj (nodup_ix hN e1 (e ▸ hi))
          simp [this, e]
        · exact .inr ⟨k, c, e, z.sameBut hs (cne y c e)⟩
    · obtain ⟨w', z⟩ := I.cell y c e
      exact ⟨w', z.sameBut hs (cne y c e)⟩
    · obtain ⟨e, n, ne, nf, d⟩ := I.pin p hp
      exact ⟨(hs.2 p.1 ne).trans e, n, ne, nf, d⟩
  · have hfn : X.fn x = true := by
      rcases hf with z | z
      · exact z
      · rw [z] at hk; cases hk
    obtain ⟨c, hc⟩ := I.ok.has x (.inl hk)
    obtain ⟨w', z⟩ := I.cell x c hc
    refine wpAny_storeName_cell I.ok.kind hk hc z (fun h' hc' hs => ?_)
    obtain ⟨oc, hoc, hocd⟩ := id z
    refine h { s with heap := h' } ⟨I.ok, I.os, I.bare, ⟨fun b o e n hb hx => ?_, fun b o e n hb hx => ?_, I.base.free, fun b o e hx => ?_, I.base.tups, I.base.frzs, I.base.tbls⟩, ⟨m, hn.sameBut hs (Ne.symm (cne x c hc)), fun j y v' e1 e2 e3 => ?_⟩, fun y c' e => ?_, I.free, I.freeC, fun p hp => ?_, tracked ⟨oc, hoc, I.freeC x c hc⟩ hs, by simpa using I.len⟩ ⟨c, hs, .inr hc⟩
    · exact (hs.2 b (Nat.ne_of_lt (Nat.lt_of_lt_of_le (Heap.lt_size e) (I.ok.cab x c hfn hc)))).trans (I.base.keep b o e n hb hx)
    · obtain ⟨sl, e1⟩ := I.base.slot b o e n hb hx
      exact ⟨sl, (hs.2 b (Nat.ne_of_lt (Nat.lt_of_lt_of_le (Heap.lt_size e) (I.ok.cab x c hfn hc)))).trans e1⟩
    · obtain ⟨o', e1⟩ := I.base.there b o e hx
      exact ⟨o', (hs.2 b (Nat.ne_of_lt (Nat.lt_of_lt_of_le (Heap.lt_size e) (I.ok.cab x c hfn hc)))).trans e1⟩
    · by_cases hj : j = i
      · subst hj
        rw [hi] at e1; cases e1
        rw [List.getElem?_set_self hiσ] at e2
        cases e2
        exact ⟨u, r, .inr ⟨.inl hk, c, hc, hc'⟩⟩
      · rw [List.getElem?_set_ne (Ne.symm hj)] at e2
        obtain ⟨u', r', q⟩ := hl j y v' e1 e2 e3
        refine ⟨u', r', ?_⟩
        rcases q with q | ⟨k, c', e, z'⟩
        · exact .inl q
        · refine .inr ⟨k, c', e, z'.sameBut hs ?_⟩
          rintro rfl
          exact hj (nodup_ix hN e1 (I.ok.inj _ _ _ e hc ▸ hi))
    · by_cases hcc : c' = c
      · subst hcc; exact ⟨_, hc'⟩
      · obtain ⟨w2, z2⟩ := I.cell y c' e
        exact ⟨w2, z2.sameBut hs hcc⟩
    · obtain ⟨e, n, ne, nf, d⟩ := I.pin p hp
      refine ⟨(hs.2 p.1 ?_).trans e, n, ne, nf, d⟩
      intro q
      rw [q, hoc] at e
      have q' : oc = p.2 := Option.some.inj e
      exact d w' (by rw [← q']; exact hocd)
theorem store_ok {M : Model} {A : Around} {E : Value → Shared → Prop} {i : Nat} {x : Str} {v : V} {u : Value} {Q : Unit → Shared → Prop} (I : Inv X pins σ H s) (hN : X.N.Nodup) (hi : X.N[i]? = some x) (hx : Loc X.env.scope x) (r : RelV v u)
    (h : ∀ s', Inv X pins (σ.set i (some v)) H s' → Q () s') (hf : X.fn x = true ∨ X.env.scope.names.lookup x = some .local := by first | exact .inl rfl | exact .inr rfl | assumption) : wpAny M A (storeName X.env x u) Q E s :=
  store_ok2 I hN hi hx r (fun s' I' _ => h s' I') hf
/-- behind a call or a block, the state as it is -/
theorem Inv.call' {s' : Shared} {ch : List Addr} (I : Inv X pins σ H s) (ho : s'.os = s.os) (u : Un (frs X.stack) ch H H' s.heap s'.heap) (hok : HOk X.prog X.w H' s'.heap) (hg : AllBare s'.gens)
    (hch : ∀ b ∈ ch, (b ∈ X.ex ∨ X.s₀.heap.objs.size ≤ b) ∧ b ≠ X.env.locals ∧ (∀ x c, X.env.cells.lookup x = some c → c ≠ b) ∧ ∀ p ∈ X.pn ++ pins, p.1 ≠ b) : Inv X pins σ H' s' := by
  obtain ⟨h', g', d', t', o'⟩ := s'
  have e : o' = s.os := ho
  subst e
  exact I.call (g' := g') (t' := t') (d' := d') u hok hg hch
end

/-! ### the judgements -/
/-- an exception: its class, its own dict's address (where it has one), the abstract heap behind it -/
noncomputable abbrev XK := Value → Option Addr → Hp → Prop
noncomputable abbrev St := List (Option V)
noncomputable abbrev VK := V → Hp → Prop
/-- an expression's reading; a test's; an argument list's -/
noncomputable abbrev TE := St → Hp → VK → Prop
noncomputable abbrev TT := St → Hp → (Bool → Hp → Prop) → Prop
noncomputable abbrev TA := St → Hp → (List V → Hp → Prop) → Prop
/-- what is wanted behind a statement -/
structure Ends where
  nx : St → Hp → Prop
  rt : VK
  bk : St → Hp → Prop := fun _ _ => False
  ct : St → Hp → Prop := fun _ _ => False
noncomputable abbrev TS := Ends → St → Hp → Prop

noncomputable def EP (X : Cx) (pins : List (Addr × Obj)) (σ : St) (Q : VK) (u : Value) (s' : Shared) : Prop := ∃ v H', Inv X pins σ H' s' ∧ RelV v u ∧ Q v H'
noncomputable def TP (X : Cx) (pins : List (Addr × Obj)) (σ : St) (Q : Bool → Hp → Prop) (b : Bool) (s' : Shared) : Prop := ∃ H', Inv X pins σ H' s' ∧ Q b H'
noncomputable def AP (X : Cx) (pins : List (Addr × Obj)) (σ : St) (Q : List V → Hp → Prop) (us : List Value) (s' : Shared) : Prop := ∃ vs H', Inv X pins σ H' s' ∧ Vals vs us ∧ Q vs H'
noncomputable def SP (X : Cx) (pins : List (Addr × Obj)) (D : Ends) (f : Flow) (s' : Shared) : Prop :=
  match f with
  | .next => ∃ σ' H', Inv X pins σ' H' s' ∧ D.nx σ' H'
  | .brk => ∃ σ' H', Inv X pins σ' H' s' ∧ D.bk σ' H'
  | .cont => ∃ σ' H', Inv X pins σ' H' s' ∧ D.ct σ' H'
  | .ret u => ∃ v σ' H', Inv X pins σ' H' s' ∧ RelV v u ∧ D.rt v H'

noncomputable def PE (X : Cx) (e : Expr) (t : TE) : Prop :=
  ∀ (pins : List (Addr × Obj)) (s : Shared) (σ : St) (H : Hp) (Q : VK), Inv X pins σ H s → t σ H Q → wpAny (model X.prog X.w) X.A (eval e X.env) (EP X pins σ Q) X.xe s
noncomputable def PT (X : Cx) (e : Expr) (t : TT) : Prop :=
  ∀ (pins : List (Addr × Obj)) (s : Shared) (σ : St) (H : Hp) (Q : Bool → Hp → Prop), Inv X pins σ H s → t σ H Q → wpAny (model X.prog X.w) X.A (isTrue e X.env (eval e X.env)) (TP X pins σ Q) X.xe s
/-- a test whatever its 'whole' is (and, or) -/
noncomputable def PW (X : Cx) (e : Expr) (t : TT) : Prop :=
  ∀ (whole : Sem Value) (pins : List (Addr × Obj)) (s : Shared) (σ : St) (H : Hp) (Q : Bool → Hp → Prop), Inv X pins σ H s → t σ H Q → wpAny (model X.prog X.w) X.A (isTrue e X.env whole) (TP X pins σ Q) X.xe s
theorem PW.pt {X : Cx} {e : Expr} {t : TT} (h : PW X e t) : PT X e t := h _
/-- an argument list (no star), from the left -/
noncomputable def PA (X : Cx) (es : List Expr) (t : TA) : Prop :=
  ∀ (pos : Pos) (pins : List (Addr × Obj)) (s : Shared) (σ : St) (H : Hp) (Q : List V → Hp → Prop), Inv X pins σ H s → t σ H Q → wpAny (model X.prog X.w) X.A (spliced (backTo pos (starEach es X.env))) (AP X pins σ Q) X.xe s
noncomputable def PS (X : Cx) (st : Stmt) (t : TS) : Prop :=
  ∀ (pins : List (Addr × Obj)) (s : Shared) (σ : St) (H : Hp) (D : Ends), Inv X pins σ H s → t D σ H → wpAny (model X.prog X.w) X.A (exec st X.env) (SP X pins D) X.xe s
noncomputable def PSs (X : Cx) (st : List Stmt) (t : TS) : Prop :=
  ∀ (pins : List (Addr × Obj)) (s : Shared) (σ : St) (H : Hp) (D : Ends), Inv X pins σ H s → t D σ H → wpAny (model X.prog X.w) X.A (execs st X.env) (SP X pins D) X.xe s
/-- weaken the end -/
theorem thn {α : Type} {t : Sem α} {Q Q' : α → Shared → Prop} {M : Model} {A : Around} {E : Value → Shared → Prop} {s : Shared} (h : wpAny M A t Q E s) (hQ : ∀ a s, Q a s → Q' a s) : wpAny M A t Q' E s := wpAny_mono h hQ fun _ _ x => x
end L2

namespace L2
open PySem PySem.Spec PyProof.Rows
section
variable {X : Cx}

/-! ### names and constants -/
noncomputable def tVar (i : Nat) : TE := fun σ H Q => ∃ v, σ[i]? = some (some v) ∧ Q v H
noncomputable def tC (v : V) : TE := fun _ H Q => Q v H
theorem pe_var {i : Nat} {x : Str} {pos : Pos} (hN : X.N[i]? = some x) (hv : Vis X.env.scope x) (hd : (x == ("__debug__" : Str)) = false := by decide) (hcd : (x == ("__classdict__" : Str)) = false := by decide) : PE X (.Name x pos) (tVar i) := by
  intro pins s σ H Q I h
  obtain ⟨v, e, h⟩ := h
  obtain ⟨m, hn, hl⟩ := I.loc
  obtain ⟨u, r, l⟩ := hl i x v hN e hv
  have fin : EP X pins σ Q u s := ⟨v, H, I, r, h⟩
  rcases l with ⟨hk, hm⟩ | ⟨hk, c, hc, hcell⟩
  · exact wpAny_Name (wpAny_loadName_local I.ok.kind hk hn hm fin) hd
  · rcases hk with hk | hk
    · exact wpAny_Name (wpAny_loadName_cell I.ok.kind hk hc hcell fin) hd
    · exact wpAny_Name (wpAny_loadName_free I.ok.kind hk hc hcell fin hcd) hd
theorem pe_int {i j pos} : PE X (.Constant (.int i) j pos) (tC (.int i)) := fun _ _ _ H _ I h => wpAny_Constant_int ⟨.int i, H, I.tok _, ⟨_, rfl⟩, h⟩
theorem pe_bl {b j pos} : PE X (.Constant (.bool b) j pos) (tC (.bl b)) := fun _ _ _ H _ I h => Constant_bool ⟨.bl b, H, I, rfl, h⟩
theorem pe_non {j pos} : PE X (.Constant .none j pos) (tC .non) := fun _ _ _ H _ I h => Constant_none ⟨.non, H, I, rfl, h⟩
/-- a global name of the def -/
noncomputable def Gl (X : Cx) (x : Str) : Prop := X.env.kindOf x = some .globalImplicit
theorem ld_glob {E : Value → Shared → Prop} {pins : List (Addr × Obj)} {s : Shared} {σ : St} {H : Hp} {x : Str} {u : Value} {pos : Pos} {Q : Value → Shared → Prop} (I : Inv X pins σ H s) (hg : Gl X x) (hm : X.mg x = some u) (h : Q u s)
    (hd : (x == ("__debug__" : Str)) = false := by decide) : wpAny (model X.prog X.w) X.A (eval (.Name x pos) X.env) Q E s :=
  Calls.Name_function_global I.ok.kind hg (Calls.loadGlobal_global (by rw [I.ok.glob]; exact I.mod.glob.keeps I.bk) hm h) hd
theorem ld_blt {E : Value → Shared → Prop} {pins : List (Addr × Obj)} {s : Shared} {σ : St} {H : Hp} {x : Str} {u : Value} {pos : Pos} {Q : Value → Shared → Prop} (I : Inv X pins σ H s) (hg : Gl X x) (hm : X.mg x = none) (hv : bootBuiltins x = some u) (h : Q u s)
    (hn : x ≠ "__name__" := by decide) (hd : (x == ("__debug__" : Str)) = false := by decide) : wpAny (model X.prog X.w) X.A (eval (.Name x pos) X.env) Q E s := by
  obtain ⟨mb, h1, h2⟩ := I.mod.blt
  exact Calls.Name_function_global I.ok.kind hg (Calls.loadGlobal_builtin (by rw [I.ok.glob]; exact I.mod.glob.keeps I.bk) hm (by rw [I.ok.blt]; exact h1.keeps I.bk) ((h2 x hn).trans hv) h) hd
/-- a module's constant, a class, a function, as a value -/
theorem pe_glob {x : Str} {v : V} {u : Value} {pos : Pos} (hg : Gl X x) (hm : X.mg x = some u) (r : RelV v u) (hd : (x == ("__debug__" : Str)) = false := by decide) : PE X (.Name x pos) (tC v) :=
  fun _ _ _ H _ I h => ld_glob I hg hm ⟨v, H, I, r, h⟩ hd
theorem pe_bltn {x : Str} {v : V} {u : Value} {pos : Pos} (hg : Gl X x) (hm : X.mg x = none) (hv : bootBuiltins x = some u) (r : RelV v u) (hn : x ≠ "__name__" := by decide) (hd : (x == ("__debug__" : Str)) = false := by decide) : PE X (.Name x pos) (tC v) :=
  fun _ _ _ H _ I h => ld_blt I hg hm hv ⟨v, H, I, r, h⟩ hn hd

/-! ### arithmetic -/
variable {a b : Expr} {ta tb : TE} {pos : Pos}
/-! ### comparisons -/
/-- a comparison as a value, as a test -/
noncomputable def tB (t : TE) : TT := fun σ H Q => t σ H fun x H1 => ∃ c, x = .bl c ∧ Q c H1
/-- an expression whose value is a bool, as a test -/
theorem pt_val {e : Expr} {t : TE} (h : PE X e t) (he : ∀ whole, isTrue e X.env whole = (do let v ← whole; standAt e.pos; holding [v] (truthy v)) := by intro _; rfl) : PT X e (tB t) := by
  intro pins s σ H Q I hw
  refine isTrue_plain (thn (h pins s σ H _ I hw) fun v s1 ⟨x, H1, I1, r1, q1⟩ => ?_) (he _)
  obtain ⟨d, rfl, q⟩ := q1
  cases r1
  exact wpAny_truthy_bool ⟨H1, I1, q⟩

/-! ### and, or, not -/
variable {tA tB' : TT} {rest : List Expr}
noncomputable def tAnd (t u : TT) : TT := fun σ H Q => t σ H fun c H1 => if c = true then u σ H1 Q else Q false H1
noncomputable def tOr (t u : TT) : TT := fun σ H Q => t σ H fun c H1 => if c = true then Q true H1 else u σ H1 Q
noncomputable def tNot (t : TT) : TT := fun σ H Q => t σ H fun c H1 => Q (!c) H1
theorem pw_and1 (ha : PT X a tA) : PW X (.BoolOp .And [a] pos) tA := by
  intro wh pins s σ H Q I h
  refine isTrue_and (thn (ha pins s σ H Q I h) fun c s1 e => ?_)
  cases c with
  | true => exact isTrue_and_nil e
  | false => exact e
theorem pw_or1 (ha : PT X a tA) : PW X (.BoolOp .Or [a] pos) tA := by
  intro wh pins s σ H Q I h
  refine isTrue_or (thn (ha pins s σ H Q I h) fun c s1 e => ?_)
  cases c with
  | false => exact isTrue_or_nil e
  | true => exact e
theorem pw_and (ha : PT X a tA) (hb : PW X (.BoolOp .And (b :: rest) pos) tB') : PW X (.BoolOp .And (a :: b :: rest) pos) (tAnd tA tB') := by
  intro wh pins s σ H Q I h
  refine isTrue_and (thn (ha pins s σ H _ I h) fun c s1 ⟨H1, I1, q1⟩ => ?_)
  cases c with
  | true => exact hb wh pins s1 σ H1 Q I1 q1
  | false => exact ⟨H1, I1, q1⟩
theorem pw_or (ha : PT X a tA) (hb : PW X (.BoolOp .Or (b :: rest) pos) tB') : PW X (.BoolOp .Or (a :: b :: rest) pos) (tOr tA tB') := by
  intro wh pins s σ H Q I h
  refine isTrue_or (thn (ha pins s σ H _ I h) fun c s1 ⟨H1, I1, q1⟩ => ?_)
  cases c with
  | true => exact ⟨H1, I1, q1⟩
  | false => exact hb wh pins s1 σ H1 Q I1 q1
theorem pt_not (ha : PT X a tA) : PT X (.UnaryOp .Not a pos) (tNot tA) := by
  intro pins s σ H Q I h
  exact isTrue_not (ha pins s σ H (fun c H1 => Q (!c) H1) I h)
/-- .. as values (bools) -/
noncomputable def tAndV (ta tb : TE) : TE := fun σ H Q => ta σ H fun x H1 => ∃ c, x = .bl c ∧ if c = true then tb σ H1 Q else Q (.bl false) H1
noncomputable def tNotV (ta : TE) : TE := fun σ H Q => ta σ H fun x H1 => ∃ c, x = .bl c ∧ Q (.bl (!c)) H1
theorem pe_one {op} {t : TE} (h : PE X a t) : PE X (.BoolOp op [a] pos) t := fun pins s σ H Q I hw => BoolOp_one (h pins s σ H Q I hw)
theorem pe_and (ha : PE X a ta) (hb : PE X (.BoolOp .And (b :: rest) pos) tb) : PE X (.BoolOp .And (a :: b :: rest) pos) (tAndV ta tb) := by
  intro pins s σ H Q I h
  refine BoolOp_and (thn (ha pins s σ H _ I h) fun v s1 ⟨x, H1, I1, r1, q1⟩ => ?_)
  obtain ⟨c, rfl, q1⟩ := q1
  cases r1
  refine wpAny_truthy_bool ?_
  cases c with
  | true => exact hb pins s1 σ H1 Q I1 q1
  | false => exact ⟨.bl false, H1, I1, rfl, q1⟩
theorem pe_not (ha : PE X a ta) : PE X (.UnaryOp .Not a pos) (tNotV ta) := by
  intro pins s σ H Q I h
  refine UnaryOp_ (thn (ha pins s σ H _ I h) fun v s1 ⟨x, H1, I1, r1, q1⟩ => ?_)
  obtain ⟨c, rfl, q1⟩ := q1
  cases r1
  exact not_of (wpAny_truthy_bool ⟨.bl (!c), H1, I1, rfl, q1⟩)
/-- a if t else b -/
noncomputable def tIf (t : TT) (ta tb : TE) : TE := fun σ H Q => t σ H fun c H1 => if c = true then ta σ H1 Q else tb σ H1 Q
theorem pe_ifExp {c : Expr} (hc : PT X c tA) (ha : PE X a ta) (hb : PE X b tb) : PE X (.IfExp c a b pos) (tIf tA ta tb) := by
  intro pins s σ H Q I h
  refine wpAny_IfExp (thn (hc pins s σ H _ I h) fun d s1 ⟨H1, I1, q1⟩ => ?_)
  cases d with
  | true => exact ha pins s1 σ H1 Q I1 q1
  | false => exact hb pins s1 σ H1 Q I1 q1
end
end L2

namespace L2
open PySem PySem.Spec PyProof.Rows

/-! ### a list, a tuple that is read: tracked, frozen, or an object of the module -/
noncomputable def SqL (K : PySem.W.Frag) (H : Hp) (a : Addr) (xs : List V) : Prop :=
  Rd H a (.lst xs) ∨
    ∃ (o : Obj) (its : Array Value) (n : Nat), K.lookup a = some o ∧ o.cls = .type "list" ∧ o.dict = none ∧ o.data = .seq its n ∧ its.size ≤ sizeLine ∧ Vals xs its.toList
noncomputable def SqT (K : PySem.W.Frag) (H : Hp) (a : Addr) (xs : List V) : Prop :=
  Rd H a (.tup xs) ∨
    ∃ (o : Obj) (its : Array Value) (n : Nat), K.lookup a = some o ∧ o.cls = .type "tuple" ∧ o.data = .seq its n ∧ its.size ≤ sizeLine ∧ Vals xs its.toList
noncomputable def absV : Value → Option V
  | .none => some .non
  | .bool b => some (.bl b)
  | .int i _ => some (.int i)
  | .str x _ => some (.str x)
  | .bytes b _ => some (.byt b)
  | .float b _ => some (.flt b)
  | .ref a => some (.ref a)
  | .type n => some (.ty n)
  | _ => none
theorem RelV.abs {x : V} {u : Value} (r : RelV x u) : absV u = some x := by
  cases x with
  | non => cases r; rfl
  | bl _ => cases r; rfl
  | int _ => obtain ⟨t, rfl⟩ := r; rfl
  | str _ => obtain ⟨t, rfl⟩ := r; rfl
  | byt _ => obtain ⟨t, rfl⟩ := r; rfl
  | flt _ => obtain ⟨t, rfl⟩ := r; rfl
  | ref _ => cases r; rfl
  | ty _ => cases r; rfl
theorem RelV.inj {x y : V} {u : Value} (r : RelV x u) (q : RelV y u) : x = y := Option.some.inj (r.abs.symm.trans q.abs)
theorem Vals.inj : ∀ {xs ys : List V} {us : List Value}, Vals xs us → Vals ys us → xs = ys
  | _, _, _, .nil, .nil => rfl
  | _, _, _, .cons r t, .cons r' t' => by rw [r.inj r', Vals.inj t t']
section
variable {X : Cx} {pins : List (Addr × Obj)} {σ : St} {H : Hp} {s : Shared} {a : Addr} {xs ys : List V}
theorem SqL.of {K : PySem.W.Frag} (h : H a = some (.lst xs)) : SqL K H a xs := .inl (.inl h)
theorem SqT.of {K : PySem.W.Frag} (h : H a = some (.tup xs)) : SqT K H a xs := .inl (.inl h)
theorem Inv.list (I : Inv X pins σ H s) (h : SqL X.K H a xs) : ∃ its : List Value, Vals xs its ∧ PlainL s.heap a its.toArray ∧ xs.length ≤ sizeLine := by
  rcases h with h | ⟨o, its, n, hk, hc, hd, hs, hz, r⟩
  · obtain ⟨z, its, n, r, e⟩ := h.ok I.hok
    exact ⟨its, r, ⟨_, n, e, rfl, rfl, rfl⟩, z⟩
  · refine ⟨its.toList, r, ⟨o, n, I.kIn a o hk, hc, hd, by simpa using hs⟩, ?_⟩
    have e := r.length
    simp only [Array.length_toList] at e
    omega
theorem Inv.tuple (I : Inv X pins σ H s) (h : SqT X.K H a xs) : ∃ its : List Value, Vals xs its ∧ IsTup s.heap a its.toArray ∧ xs.length ≤ sizeLine := by
  rcases h with h | ⟨o, its, n, hk, hc, hs, hz, r⟩
  · obtain ⟨z, its, r, p⟩ := h.ok I.hok
    exact ⟨its, r, p, z⟩
  · refine ⟨its.toList, r, ⟨o, I.kIn a o hk, hc, n, by simpa using hs⟩, ?_⟩
    have e := r.length
    simp only [Array.length_toList] at e
    omega
theorem Inv.list_inj (I : Inv X pins σ H s) (h : SqL X.K H a xs) (h' : SqL X.K H a ys) : xs = ys := by
  obtain ⟨its, r, ⟨o, n, e, _, _, d⟩, _⟩ := I.list h
  obtain ⟨its', r', ⟨o', n', e', _, _, d'⟩, _⟩ := I.list h'
  rw [e] at e'; cases e'
  rw [d] at d'
  injection d' with d1 _
  have : its = its' := by simpa using congrArg Array.toList d1
  subst this
  exact r.inj r'
end

/-! ### another wish about exceptions -/
noncomputable abbrev Cx.wish (X : Cx) (E : Value → Shared → Prop) : Cx := { X with xe := E }
/-- no exception leaves -/
noncomputable abbrev Cx.nox (X : Cx) : Cx := X.wish fun _ _ => False
theorem Cx.Ok.wish {X : Cx} (ok : X.Ok) (E : Value → Shared → Prop) : (X.wish E).Ok :=
  ⟨ok.mod, ok.kind, ok.glob, ok.blt, ok.above, ok.inj, ok.has, ok.cab, ok.hd, ok.frames, ok.stk, ok.exf, ok.bs, ok.bsz, ok.noex, ok.exfs, ok.funs, ok.frf⟩
theorem Cx.Ok.unwish {X : Cx} {E : Value → Shared → Prop} (ok : (X.wish E).Ok) : X.Ok :=
  ⟨ok.mod, ok.kind, ok.glob, ok.blt, ok.above, ok.inj, ok.has, ok.cab, ok.hd, ok.frames, ok.stk, ok.exf, ok.bs, ok.bsz, ok.noex, ok.exfs, ok.funs, ok.frf⟩
section
variable {X : Cx} {pins : List (Addr × Obj)} {σ : St} {H : Hp} {s : Shared} {E : Value → Shared → Prop}
theorem Inv.wish (I : Inv X pins σ H s) (E : Value → Shared → Prop) : Inv (X.wish E) pins σ H s := ⟨I.ok.wish E, I.os, I.bare, I.base, I.loc, I.cell, I.free, I.freeC, I.pin, I.hok, I.len⟩
theorem Inv.unwish (I : Inv (X.wish E) pins σ H s) : Inv X pins σ H s := ⟨I.ok.unwish, I.os, I.bare, I.base, I.loc, I.cell, I.free, I.freeC, I.pin, I.hok, I.len⟩
theorem SP.unwish {D : Ends} {f : Flow} {s' : Shared} (h : SP (X.wish E) pins D f s') : SP X pins D f s' := by
  cases f with
  | next => obtain ⟨σ', H', I, q⟩ := h; exact ⟨σ', H', I.unwish, q⟩
  | brk => obtain ⟨σ', H', I, q⟩ := h; exact ⟨σ', H', I.unwish, q⟩
  | cont => obtain ⟨σ', H', I, q⟩ := h; exact ⟨σ', H', I.unwish, q⟩
  | ret u => obtain ⟨v, σ', H', I, r, q⟩ := h; exact ⟨v, σ', H', I.unwish, r, q⟩
theorem PSs.nox {st : List Stmt} {t : TS} (h : PSs X.nox st t) : PSs X st t := fun pins s σ H D I hw =>
  wpAny_mono (h pins s σ H D (I.wish _) hw) (fun _ _ q => q.unwish) fun _ _ z => False.elim z
end

/-! ### blocks and small statements -/
section
variable {X : Cx} {st : Stmt} {rest : List Stmt} {t u : TS} {e : Expr} {te : TE} {pos : Pos}
noncomputable def tNext : TS := fun D σ H => D.nx σ H
noncomputable def tSeq (t u : TS) : TS := fun D σ H => t { D with nx := u D } σ H
theorem pss_nil : PSs X [] tNext := fun _ _ σ H _ I h => wpAny_execs_nil ⟨σ, H, I, h⟩
theorem pss_cons (h1 : PS X st t) (h2 : PSs X rest u) : PSs X (st :: rest) (tSeq t u) := by
  intro pins s σ H D I h
  refine wpAny_execs_cons (thn (h1 pins s σ H { D with nx := u D } I h) fun f s1 q => ?_)
  cases f with
  | next =>
    obtain ⟨σ', H', I', q⟩ := q
    exact h2 pins s1 σ' H' D I' q
  | ret v => exact q
  | brk => exact q
  | cont => exact q
theorem pss_one (h1 : PS X st t) : PSs X [st] t := by
  intro pins s σ H D I h
  refine wpAny_execs_cons (thn (h1 pins s σ H D I h) fun f s1 q => ?_)
  cases f with
  | next => exact wpAny_execs_nil q
  | ret v => exact q
  | brk => exact q
  | cont => exact q
/-- in a def's body nothing is shown -/
theorem Inv.quiet {pins : List (Addr × Obj)} {σ : St} {H : Hp} {s : Shared} (I : Inv X pins σ H s) : interactive X.env = false := by simp [interactive, I.ok.kind]
/-- an expression whose value is dropped -/
noncomputable def tDrop (te : TE) : TS := fun D σ H => te σ H fun _ H1 => D.nx σ H1
theorem ps_expr (he : PE X e te) (hs : swapsWith e none pos.line X.env = pure false := by rfl) : PS X (.Expr e pos) (tDrop te) := by
  intro pins s σ H D I h
  exact wpAny_Expr_any (thn (he pins s σ H _ I h) fun v s1 ⟨x, H1, I1, r1, q1⟩ => ⟨σ, H1, I1, q1⟩) I.quiet hs
noncomputable def tRet (te : TE) : TS := fun D σ H => te σ H D.rt
theorem ps_ret (he : PE X e te) : PS X (.Return (some e) pos) (tRet te) := by
  intro pins s σ H D I h
  exact wpAny_Return_some (thn (he pins s σ H _ I h) fun v s1 ⟨x, H1, I1, r1, q1⟩ => ⟨x, σ, H1, I1, r1, q1⟩)
noncomputable def tIfS (c : TT) (t u : TS) : TS := fun D σ H => c σ H fun b H1 => if b = true then t D σ H1 else u D σ H1
theorem ps_if {c : Expr} {a b : List Stmt} {tc : TT} (hc : PT X c tc) (ha : PSs X a t) (hb : PSs X b u) : PS X (.If c a b pos) (tIfS tc t u) := by
  intro pins s σ H D I h
  refine wpAny_If (thn (hc pins s σ H _ I h) fun d s1 ⟨H1, I1, q1⟩ => ?_)
  cases d with
  | true => exact ha pins s1 σ H1 D I1 q1
  | false => exact hb pins s1 σ H1 D I1 q1
/-- code that the proof never comes to -/
noncomputable def tNever : TS := fun _ _ _ => False
theorem pss_never {sts : List Stmt} : PSs X sts tNever := fun _ _ _ _ _ _ h => h.elim
end

/-! ### targets -/
noncomputable abbrev TG := V → St → Hp → (St → Hp → Prop) → Prop
noncomputable def PG (X : Cx) (target : Expr) (t : TG) : Prop :=
  ∀ (pins : List (Addr × Obj)) (s : Shared) (σ : St) (H : Hp) (v : V) (u : Value) (Q : St → Hp → Prop), Inv X pins σ H s → RelV v u → t v σ H Q →
    wpAny (model X.prog X.w) X.A (assign target X.env u) (fun _ s' => ∃ σ' H', Inv X pins σ' H' s' ∧ Q σ' H') X.xe s
/-- a op= b, by values -/
noncomputable abbrev TIp := V → V → Hp → VK → Prop
noncomputable def PIp (X : Cx) (op : Operator) (t : TIp) : Prop :=
  ∀ (pins : List (Addr × Obj)) (s : Shared) (σ : St) (H : Hp) (x y : V) (v u : Value) (Q : VK), Inv X pins σ H s → RelV x v → RelV y u → t x y H Q →
    wpAny (model X.prog X.w) X.A (inplaceOp op v u) (EP X pins σ Q) X.xe s
section
variable {X : Cx} {pos : Pos}
noncomputable def gName (i : Nat) : TG := fun v σ H Q => Q (σ.set i (some v)) H
theorem pg_name {i : Nat} {x : Str} (hN : X.N.Nodup) (hi : X.N[i]? = some x) (hx : Loc X.env.scope x) (hf : X.fn x = true ∨ X.env.scope.names.lookup x = some .local := by first | exact .inl rfl | exact .inr rfl | assumption) : PG X (.Name x pos) (gName i) := by
  intro pins s σ H v u Q I r h
  exact wpAny_assign_Name (store_ok I hN hi hx r (fun s' I' => ⟨_, H, I', h⟩) hf)
/-- target = value -/
noncomputable def tAsg (te : TE) (g : TG) : TS := fun D σ H => te σ H fun x H1 => g x σ H1 D.nx
/-- name = value -/
theorem ps_set {i : Nat} {x : Str} {e : Expr} {te : TE} {pos' : Pos} (hN : X.N.Nodup) (hi : X.N[i]? = some x) (hx : Loc X.env.scope x) (he : PE X e te) (hs : swapsWith e (some (.Name x pos')) pos.line X.env = pure false := by rfl) (hf : X.fn x = true ∨ X.env.scope.names.lookup x = some .local := by first | exact .inl rfl | exact .inr rfl | assumption) :
    PS X (.Assign [.Name x pos'] e pos) (tAsg te (gName i)) := by
  intro pins s σ H D I h
  refine wpAny_Assign_Name (thn (he pins s σ H _ I h) fun v s1 ⟨y, H1, I1, r1, q1⟩ => ?_) hs
  exact store_ok I1 hN hi hx r1 (fun s2 I2 => ⟨_, H1, I2, q1⟩) hf
/-- name op= e -/
noncomputable def tAug (i : Nat) (te : TE) (ti : TIp) : TS := fun D σ H => ∃ x, σ[i]? = some (some x) ∧ te σ H fun y H1 => ti x y H1 fun z H2 => D.nx (σ.set i (some z)) H2
theorem ps_aug {i : Nat} {x : Str} {e : Expr} {te : TE} {op : Operator} {ti : TIp} {pos' : Pos} (hN : X.N.Nodup) (hi : X.N[i]? = some x) (hx : Loc X.env.scope x) (he : PE X e te) (ho : PIp X op ti) (hf : X.fn x = true ∨ X.env.scope.names.lookup x = some .local := by first | exact .inl rfl | exact .inr rfl | assumption) :
    PS X (.AugAssign (.Name x pos') op e pos) (tAug i te ti) := by
  intro pins s σ H D I h
  obtain ⟨v, e1, h⟩ := h
  obtain ⟨m, hn, hl⟩ := I.loc
  have vis : Vis X.env.scope x := by rcases hx with k | k; exact .inl k; exact .inr (.inl k)
  obtain ⟨u, r, l⟩ := hl i x v hi e1 vis
  refine wpAny_AugAssign_Name ?_
  have go : wpAny (model X.prog X.w) X.A (eval e X.env) (fun w s₂ => wpAny (model X.prog X.w) X.A (inplaceOp op u w) (fun r s₃ => wpAny (model X.prog X.w) X.A (storeName X.env x r) (fun _ => SP X pins D .next) X.xe s₃) X.xe s₂) X.xe s := by
    refine thn (he pins s σ H _ I h) fun w s1 ⟨y, H1, I1, r1, q1⟩ => ?_
    refine thn (ho pins s1 σ H1 v y u w _ I1 r r1 q1) fun z s2 ⟨zv, H2, I2, r2, q2⟩ => ?_
    exact store_ok I2 hN hi hx r2 (fun s3 I3 => ⟨_, H2, I3, q2⟩) hf
  rcases l with ⟨hk, hm⟩ | ⟨hk, c, hc, hcell⟩
  · exact wpAny_loadName_local I.ok.kind hk hn hm go
  · rcases hk with hk | hk
    · exact wpAny_loadName_cell I.ok.kind hk hc hcell go
    · rcases hx with k | k
      · have : X.env.scope.names.lookup x = some .free := hk
        rw [k] at this; cases this
      · have : X.env.scope.names.lookup x = some .free := hk
        rw [k] at this; cases this
/-- ints -/
noncomputable def ipI (f : Int → Int → Int) : TIp := fun x y H Q => ∃ i j, x = .int i ∧ y = .int j ∧ Q (.int (f i j)) H
theorem ip_add : PIp X .Add (ipI fun i j => i + j) := by
  intro pins s σ H x y v u Q I r1 r2 h
  obtain ⟨i, j, e1, e2, q⟩ := h
  subst e1; subst e2
  obtain ⟨t, rfl⟩ := r1
  obtain ⟨t', rfl⟩ := r2
  exact iadd_int ⟨.int _, H, I.tok _, ⟨_, rfl⟩, q⟩
theorem ip_sub : PIp X .Sub (ipI fun i j => i - j) := by
  intro pins s σ H x y v u Q I r1 r2 h
  obtain ⟨i, j, e1, e2, q⟩ := h
  subst e1; subst e2
  obtain ⟨t, rfl⟩ := r1
  obtain ⟨t', rfl⟩ := r2
  exact isub_int ⟨.int _, H, I.tok _, ⟨_, rfl⟩, q⟩
end

/-! ### while -/
section
variable {X : Cx} {pos : Pos}
/-- the invariant W with its measure -/
noncomputable def tWhile (c : TT) (tb : TS) : TS := fun D σ H => ∃ W : Nat → St → Hp → Prop, (∃ m, W m σ H) ∧ ∀ m σ H, W m σ H →
  c σ H fun b H1 => if b = true then ∃ N : St → Hp → Prop, (∀ σ' H', N σ' H' → ∃ m', m' < m ∧ W m' σ' H') ∧ tb { D with nx := N, ct := N, bk := D.nx } σ H1 else D.nx σ H1
theorem ps_while {c : Expr} {body : List Stmt} {tc : TT} {tb : TS} (hp : PassesOwn (model X.prog X.w) X.A X.env X.xe) (hc : PT X c tc) (hb : PSs X body tb) : PS X (.While c body [] pos) (tWhile tc tb) := by
  intro pins s σ H D I h
  obtain ⟨W, ⟨m0, w0⟩, turn⟩ := h
  refine wpAny_While (codeAny_whileLoop (fun n s' => ∃ σ' H', Inv X pins σ' H' s' ∧ W n σ' H') ?_ m0 ⟨σ, H, I, w0⟩)
  rintro n s1 ⟨σ1, H1, I1, w1⟩
  refine wpAny_passesOwn hp (thn (hc pins s1 σ1 H1 _ I1 (turn n σ1 H1 w1)) fun b s2 ⟨H2, I2, q2⟩ => ?_)
  cases b with
  | true =>
    obtain ⟨N, hN, q2⟩ := q2
    rw [if_pos rfl]
    refine wpAny_passesOwn hp (thn (hb pins s2 σ1 H2 _ I2 q2) fun f s3 q3 => ?_)
    cases f with
    | next =>
      obtain ⟨σ3, H3, I3, n3⟩ := q3
      obtain ⟨m', hm, w3⟩ := hN σ3 H3 n3
      exact ⟨m', hm, σ3, H3, I3, w3⟩
    | cont =>
      obtain ⟨σ3, H3, I3, n3⟩ := q3
      obtain ⟨m', hm, w3⟩ := hN σ3 H3 n3
      exact ⟨m', hm, σ3, H3, I3, w3⟩
    | brk => exact q3
    | ret v => exact q3
  | false =>
    rw [if_neg Bool.false_ne_true]
    exact wpAny_execs_nil ⟨σ1, H2, I2, q2⟩
end

/-! ### what a loop or a comprehension walks -/
/-- at turn i: it yields x (the heap may grow), or it stops -/
structure It where
  go : Nat → Hp → Prop
  yld : Nat → Hp → V → Hp → Prop
  stop : Nat → Hp → Prop
/-- the iterator's own objects may turn: they are not the frame's, not pinned, younger than the entry (or a comprehension's own) -/
noncomputable def FpOk (X : Cx) (pins : List (Addr × Obj)) (H : Hp) (b : Addr) : Prop :=
  H b = none ∧ b ≠ X.env.locals ∧ b ∉ X.fs ∧ (b ∈ X.ex ∨ X.s₀.heap.objs.size ≤ b) ∧ (∀ x c, X.env.cells.lookup x = some c → c ≠ b) ∧ ∀ p ∈ X.pn ++ pins, p.1 ≠ b
theorem Inv.fpOk {X : Cx} {pins : List (Addr × Obj)} {σ : St} {H H' : Hp} {s : Shared} {b : Addr} (I : Inv X pins σ H s) (hb : s.heap.objs.size ≤ b) (hn : H' b = none) : FpOk X pins H' b := by
  refine ⟨hn, Nat.ne_of_gt (Nat.lt_of_lt_of_le I.lt hb), I.nofs hb, .inr (Nat.le_trans I.sz hb), fun x c e z => ?_, fun p hp z => ?_⟩
  · obtain ⟨v, q⟩ := I.cell x c e
    exact absurd (Nat.lt_of_lt_of_le q.lt (by rw [z]; exact hb)) (Nat.lt_irrefl _)
  · exact absurd (Nat.lt_of_lt_of_le (Heap.lt_size (I.pin p hp).1) (by rw [z]; exact hb)) (Nat.lt_irrefl _)
structure Turn (P : Program) (w : World) (K : PySem.W.Frag) (tg : Expr) (J : It) (fp : List Addr) (it : Addr) (tn : Nat → Heap → Prop) : Prop where
  mem : it ∈ fp
  obj : ∀ i h, tn i h → ∀ b ∈ fp, ∃ o, h.get? b = some o ∧ ∀ v, o.data ≠ .cell v
  keep : ∀ i h h', tn i h → (∀ b ∈ fp, ∀ o, h.get? b = some o → h'.get? b = some o) → tn i h'
  item : ∀ (X : Cx), X.prog = P → X.w = w → X.K = K → X.calm = true → ∀ (i : Nat) (pins : List (Addr × Obj)) (s : Shared) (σ : St) (H : Hp) (E : Value → Shared → Prop), Inv X pins σ H s → (∀ b ∈ fp, FpOk X pins H b) → tn i s.heap → J.go i H →
    wpAny (model P w) X.A (pyNext (.ref it)) (fun r s1 => ∃ u, r = some u ∧
      wpAny (model P w) X.A (letOwnedTupleGo tg (.ref it) u) (fun _ s2 => ∃ x H', Inv X pins σ H' s2 ∧ RelV x u ∧ J.yld i H x H' ∧ tn (i + 1) s2.heap ∧ ∀ b ∈ fp, H' b = none) E s1) E s
  done : ∀ (X : Cx), X.prog = P → X.w = w → X.K = K → X.calm = true → ∀ (i : Nat) (pins : List (Addr × Obj)) (s : Shared) (σ : St) (H : Hp) (E : Value → Shared → Prop), Inv X pins σ H s → (∀ b ∈ fp, FpOk X pins H b) → tn i s.heap → J.stop i H →
    wpAny (model P w) X.A (pyNext (.ref it)) (fun r s1 => r = none ∧ Inv X pins σ H s1) E s
  self : ∀ (A : Around) (i : Nat) (s : Shared) (Q : Value → Shared → Prop) (E : Value → Shared → Prop), tn i s.heap → Q (.ref it) s → wpAny (model P w) A (pyIter (.ref it)) Q E s
noncomputable abbrev TI := St → Hp → (It → Hp → Prop) → Prop
/-- an iterator has come -/
noncomputable def PIE (X : Cx) (pins : List (Addr × Obj)) (σ : St) (tg : Expr) (R : It → Hp → Prop) (itv : Value) (s2 : Shared) : Prop :=
  ∃ (it : Addr) (fp : List Addr) (tn : Nat → Heap → Prop) (J : It) (H' : Hp), itv = .ref it ∧ Inv X pins σ H' s2 ∧ Turn X.prog X.w X.K tg J fp it tn ∧ tn 0 s2.heap ∧ (∀ b ∈ fp, FpOk X pins H' b) ∧ R J H'
noncomputable def PI (X : Cx) (tg iter : Expr) (wi : TI) : Prop :=
  ∀ (pins : List (Addr × Obj)) (s : Shared) (σ : St) (H : Hp) (R : It → Hp → Prop), Inv X pins σ H s → wi σ H R →
    wpAny (model X.prog X.w) X.A (eval iter X.env) (fun v s1 => wpAny (model X.prog X.w) X.A (pyIter v) (PIE X pins σ tg R) X.xe s1) X.xe s

/-- the step ahead of the store is nothing for an iterator that keeps no tuple -/
theorem go_of {M : Model} {A : Around} {E : Value → Shared → Prop} {s : Shared} {tg : Expr} {it : Addr} {u : Value} {o : Obj} {n : String} {vs : Array Value} {Q : Unit → Shared → Prop} (ho : s.heap.get? it = some o) (hc : o.cls = .type n) (hd : o.data = .fields vs)
    (hn : ["enumerate", "zip", "dict_itemiterator", "dict_reverseitemiterator", "odict_iterator", "itertools.zip_longest", "itertools.pairwise"].contains n = false) (hQ : Q () s) : wpAny M A (letOwnedTupleGo tg (.ref it) u) Q E s := by
  unfold letOwnedTupleGo
  cases tg <;> first
    | exact wpAny_pure hQ
    | (cases u <;> first
        | exact wpAny_pure hQ
        | (refine wpAny_bind (wpAny_load ho ?_)
           rw [hc, hd]
           show wpAny M A (if (["enumerate", "zip", "dict_itemiterator", "dict_reverseitemiterator", "odict_iterator", "itertools.zip_longest", "itertools.pairwise"].contains n && vs[0]? == some (rawInt _)) = true then _ else _) Q E s
           rw [if_neg (by intro h; rw [hn, Bool.false_and] at h; cases h)]
           exact wpAny_pure hQ))

/-- the list at a, as it stands at each turn (a loop may append to it) -/
noncomputable def Itl (K : PySem.W.Frag) (a : Addr) : It :=
  ⟨fun i H => ∃ xs x, SqL K H a xs ∧ xs[i]? = some x, fun i H x H' => H' = H ∧ ∀ xs, SqL K H a xs → xs[i]? = some x, fun i H => ∃ xs, SqL K H a xs ∧ xs.length ≤ i⟩
/-- lo, lo + 1, .. (n of them) -/
noncomputable def Itr (lo : Int) (n : Nat) : It := ⟨fun i _ => i < n, fun i H x H' => H' = H ∧ x = .int (lo + i), fun i _ => n ≤ i⟩
theorem turn_list {P : Program} {w : World} {K : PySem.W.Frag} {tg : Expr} (a it : Addr) : Turn P w K tg (Itl K a) [it] it (fun i h => h.IsListIter it a i) where
  mem := by simp
  obj := fun i h st b hb => by
    have e : b = it := by simpa using hb
    subst e
    obtain ⟨o, e, c, d⟩ := st
    exact ⟨o, e, fun v z => by rw [d] at z; cases z⟩
  keep := fun i h h' st k => st.at fun o e => k it (by simp) o e
  item := by
    intro X hP hw hK hc i pins s σ H E I hf st hg
    subst hP hw hK
    obtain ⟨xs, x, hq, hx⟩ := hg
    obtain ⟨its, rv, p, hz⟩ := I.list hq
    obtain ⟨u, hu, ru⟩ := rv.get hx
    obtain ⟨f0, f1, f2, f3, f4, f5⟩ := hf it (by simp)
    refine wpAny_pyNext_list_item st p.isList (x := u) (by simpa using hu) fun h' st' sb => ?_
    have I1 : Inv X pins σ H { s with heap := h' } := I.turned (t' := s.toks) (fun b o hb e => (sb.2 b hb).trans e) f0 f1 f3 f4 f5
    obtain ⟨o, e, c, d⟩ := id st'
    exact ⟨u, rfl, go_of (s := { s with heap := h' }) e c d (by decide) ⟨x, H, I1, ru, ⟨rfl, fun ys hy => by rw [I.list_inj hy hq]; exact hx⟩, st', fun b hb => (hf b hb).1⟩⟩
  done := by
    intro X hP hw hK hc i pins s σ H E I hf st hg
    subst hP hw hK
    obtain ⟨xs, hq, hx⟩ := hg
    obtain ⟨its, rv, p, hz⟩ := I.list hq
    obtain ⟨f0, f1, f2, f3, f4, f5⟩ := hf it (by simp)
    have hl := rv.length
    exact wpAny_pyNext_list_end (I.ok.hd hc) st p.isList (by simp; omega) fun h' eb => ⟨rfl, I.turned (t' := s.toks) (fun b o hb e => eb b o hb e) f0 f1 f3 f4 f5⟩
  self := fun _ _ _ _ _ st h => wpAny_pyIter_listiter st h
theorem turn_range {P : Program} {w : World} {K : PySem.W.Frag} {tg : Expr} (it : Addr) (lo : Int) (n : Nat) : Turn P w K tg (Itr lo n) [it] it (fun i h => IsRangeIter h it (lo + (i : Nat) * 1) ((n : Int) - (i : Nat)) 1) where
  mem := by simp
  obj := fun i h st b hb => by
    have e : b = it := by simpa using hb
    subst e
    exact ⟨_, st, fun v z => by
      have z' : Data.fields _ = Data.cell v := z
      cases z'⟩
  keep := fun i h h' st k => k it (by simp) _ st
  item := by
    intro X hP hw hK hc i pins s σ H E I hf st hg
    subst hP hw hK
    obtain ⟨f0, f1, f2, f3, f4, f5⟩ := hf it (by simp)
    have W := Walks.range (prog := X.prog) (w := X.w) (I.ok.hd hc) it lo 1 n
    refine W.item i s _ _ hg st fun v h' tk hv st' kk => ?_
    obtain ⟨t, rfl⟩ := hv
    have I1 : Inv X pins σ H { s with heap := h', toks := tk } := I.turned (fun b o hb e => kk b o (by simpa using hb) e) f0 f1 f3 f4 f5
    refine ⟨_, rfl, go_of (s := { s with heap := h', toks := tk }) (n := "range_iterator") st' rfl rfl (by decide) ⟨.int (lo + i), H, I1, ⟨t, ?_⟩, ⟨rfl, rfl⟩, st', fun b hb => (hf b hb).1⟩⟩
    rw [Int.mul_one]
  done := by
    intro X hP hw hK hc i pins s σ H E I hf st hg
    subst hP hw hK
    obtain ⟨f0, f1, f2, f3, f4, f5⟩ := hf it (by simp)
    exact wpAny_pyNext_range_end (I.ok.hd hc) st (by have : n ≤ i := hg; omega) fun h' eb => ⟨rfl, I.turned (t' := s.toks) (fun b o hb e => eb b o hb e) f0 f1 f3 f4 f5⟩
  self := fun _ _ _ _ _ st h => wpAny_pyIter_rangeiter st h
end L2

namespace L2
open PySem PySem.Spec PyProof.Rows
section
variable {X : Cx} {tg : Expr}
noncomputable def iList (K : PySem.W.Frag) (tl : TE) : TI := fun σ H R => tl σ H fun x H1 => ∃ a, x = .ref a ∧ (∃ xs, SqL K H1 a xs) ∧ R (Itl K a) H1
theorem pi_list {l : Expr} {tl : TE} (hl : PE X l tl) : PI X tg l (iList X.K tl) := by
  intro pins s σ H R I h
  refine thn (hl pins s σ H _ I h) fun v s1 ⟨x, H1, I1, r1, q1⟩ => ?_
  obtain ⟨a, e, ⟨xs, hq⟩, q⟩ := q1
  subst e
  cases r1
  obtain ⟨its, rv, p, hz⟩ := I1.list hq
  refine wpAny_pyIter_list p.isList ?_
  refine ⟨s1.heap.objs.size, [s1.heap.objs.size], _, _, H1, rfl, I1.kept (t' := s1.toks) fun b o e => Heap.get?_push_of_some _ e, turn_list a _, ⟨_, Heap.get?_push_size _ rfl, rfl, rfl⟩, fun b hb => ?_, q⟩
  have e : b = s1.heap.objs.size := by simpa using hb
  subst e
  exact I1.fpOk (Nat.le_refl _) (I1.hok.fresh (Nat.le_refl _))
/-- a range object just made, walked -/
theorem range_it {pins : List (Addr × Obj)} {σ : St} {H : Hp} {s : Shared} {R : It → Hp → Prop} {E : Value → Shared → Prop} {lo hi : Int} {t u v : Tok} {tk : Nat} (I : Inv X pins σ H s) (h1 : -(2 ^ 62) ≤ lo) (h2 : lo < 2 ^ 62) (h3 : -(2 ^ 62) ≤ hi) (h4 : hi < 2 ^ 62)
    (q : R (Itr lo (hi - lo).toNat) H) : wpAny (model X.prog X.w) X.A (pyIter (.ref s.heap.objs.size)) (PIE X pins σ tg R) E { s with heap := s.heap.push { cls := .type "range", data := .fields #[.int lo t, .int hi u, .int 1 v] }, toks := tk } := by
  refine wpAny_pyIter_range (IsRange.new ..) (small_one h1 h2 h3 h4) ?_
  have I1 : Inv X pins σ H { s with heap := s.heap.push { cls := .type "range", data := .fields #[.int lo t, .int hi u, .int 1 v] }, toks := tk } := I.kept fun b o e => Heap.get?_push_of_some _ e
  refine ⟨(s.heap.push { cls := .type "range", data := .fields #[.int lo t, .int hi u, .int 1 v] }).objs.size, [(s.heap.push { cls := .type "range", data := .fields #[.int lo t, .int hi u, .int 1 v] }).objs.size], _, _, H, rfl,
    I1.kept (t' := tk) fun b o e => Heap.get?_push_of_some _ e, turn_range _ lo (hi - lo).toNat, ?_, fun b hb => ?_, q⟩
  · have e1 : lo + ((0 : Nat) : Int) * 1 = lo := by simp
    have e2 : (((hi - lo).toNat : Nat) : Int) - ((0 : Nat) : Int) = Builtin.Range.rangeSize lo hi 1 := by rw [rangeSize_one]; split <;> omega
    show IsRangeIter _ _ (lo + ((0 : Nat) : Int) * 1) ((((hi - lo).toNat : Nat) : Int) - ((0 : Nat) : Int)) 1
    rw [e1, e2]
    exact Heap.get?_push_size _ rfl
  · have e : b = (s.heap.push { cls := .type "range", data := .fields #[.int lo t, .int hi u, .int 1 v] }).objs.size := by simpa using hb
    subst e
    exact I1.fpOk (Nat.le_refl _) (I1.hok.fresh (Nat.le_refl _))
noncomputable def iRng1 (ta : TA) : TI := fun σ H R => ta σ H fun vs H1 => ∃ j : Int, vs = [.int j] ∧ -(2 ^ 62) ≤ j ∧ j < 2 ^ 62 ∧ R (Itr 0 j.toNat) H1
noncomputable def iRng2 (ta : TA) : TI := fun σ H R => ta σ H fun vs H1 => ∃ i j : Int, vs = [.int i, .int j] ∧ (-(2 ^ 62) ≤ i ∧ i < 2 ^ 62 ∧ -(2 ^ 62) ≤ j ∧ j < 2 ^ 62) ∧ R (Itr i (j - i).toNat) H1
theorem pi_range1 {a : Expr} {ta : TA} {p pos : Pos} (hg : Gl X "range") (hm : X.mg "range" = none) (ha : PA X [a] ta) (hs : starEach [a] X.env = [(false, eval a X.env)] := by rfl) : PI X tg (.Call (.Name "range" p) [a] [] pos) (iRng1 ta) := by
  intro pins s σ H R I h
  refine Call_ (ld_blt I hg hm boot_range (PyProof.Rows.callWith_type1 (thn (ha pos pins s σ H _ I h) fun us s1 ⟨vs, H1, I1, r1, q1⟩ => ?_) hs rfl))
  obtain ⟨j, e, q1, q2, q⟩ := q1
  subst e
  cases r1 with
  | cons r rr =>
    cases rr
    obtain ⟨t, rfl⟩ := r
    exact call_range_1 (range_it I1 (by omega) (by omega) q1 q2 (by simpa using q))
theorem pi_range2 {a b : Expr} {ta : TA} {p pos : Pos} (hg : Gl X "range") (hm : X.mg "range" = none) (ha : PA X [a, b] ta) (hs : starEach [a, b] X.env = [(false, eval a X.env), (false, eval b X.env)] := by rfl) (hs2 : starEach [b] X.env = [(false, eval b X.env)] := by rfl) :
    PI X tg (.Call (.Name "range" p) [a, b] [] pos) (iRng2 ta) := by
  intro pins s σ H R I h
  refine Call_ (ld_blt I hg hm boot_range (PyProof.Rows.callWith_type1 (thn (ha pos pins s σ H _ I h) fun us s1 ⟨vs, H1, I1, r1, q1⟩ => ?_) (by rw [hs, hs2]) (by rw [hs2]; rfl)))
  obtain ⟨i, j, e, ⟨q1, q2, q3, q4⟩, q⟩ := q1
  subst e
  cases r1 with
  | cons r rr =>
    cases rr with
    | cons r' rr =>
      cases rr
      obtain ⟨t, rfl⟩ := r
      obtain ⟨t', rfl⟩ := r'
      exact call_range_2 (range_it I1 q1 q2 q3 q4 q)

/-! ### for -/
/-- W: the invariant by the turn and a measure; N: what the body is to reach -/
noncomputable def tFor (wi : TI) (g : TG) (tb : TS) : TS := fun D σ H => wi σ H fun J H1 => ∃ W : Nat → Nat → St → Hp → Prop, (∃ m, W 0 m σ H1) ∧ ∀ i m σ H, W i m σ H →
  (J.stop i H ∧ D.nx σ H) ∨ (J.go i H ∧ ∃ N : St → Hp → Prop, (∀ σ' H', N σ' H' → ∃ m', m' < m ∧ W (i + 1) m' σ' H') ∧ ∀ x H', J.yld i H x H' → g x σ H' fun σ2 H2 => tb { D with nx := N, ct := N, bk := D.nx } σ2 H2)
/-- the records at fp as they stand -/
noncomputable def pinsAt (fp : List Addr) (h : Heap) : List (Addr × Obj) := fp.filterMap fun b => (h.get? b).map fun o => (b, o)
theorem mem_pinsAt {fp : List Addr} {h : Heap} {b : Addr} {o : Obj} (hb : b ∈ fp) (e : h.get? b = some o) : (b, o) ∈ pinsAt fp h := List.mem_filterMap.mpr ⟨b, hb, by rw [e]; rfl⟩
theorem of_pinsAt {fp : List Addr} {h : Heap} {p : Addr × Obj} (hp : p ∈ pinsAt fp h) : p.1 ∈ fp ∧ h.get? p.1 = some p.2 := by
  obtain ⟨b, hb, e⟩ := List.mem_filterMap.mp hp
  cases q : h.get? b with
  | none => rw [q] at e; cases e
  | some o =>
    rw [q] at e
    have e' : (b, o) = p := Option.some.inj e
    subst e'
    exact ⟨hb, q⟩
theorem Inv.pinned {pins : List (Addr × Obj)} {σ : St} {H : Hp} {s : Shared} {fp : List Addr} (I : Inv X pins σ H s) (hf : ∀ b ∈ fp, FpOk X pins H b) (ho : ∀ b ∈ fp, ∃ o, s.heap.get? b = some o ∧ ∀ v, o.data ≠ .cell v) : Inv X (pins ++ pinsAt fp s.heap) σ H s :=
  I.pins_of fun p hp => (List.mem_append.mp hp).elim (fun z => I.pin p (List.mem_append_right _ z)) fun z => by
    obtain ⟨hb, e⟩ := of_pinsAt z
    obtain ⟨f0, f1, f2, _⟩ := hf p.1 hb
    obtain ⟨o, e', d⟩ := ho p.1 hb
    rw [e] at e'; cases e'
    exact ⟨e, f0, f1, f2, d⟩
theorem Inv.unpinned {pins pl : List (Addr × Obj)} {σ : St} {H : Hp} {s : Shared} (I : Inv X (pins ++ pl) σ H s) : Inv X pins σ H s := I.pins_of fun p hp => I.pin p (List.mem_append_right _ (List.mem_append_left _ hp))
theorem ps_for {iter : Expr} {body : List Stmt} {wi : TI} {g : TG} {tb : TS} {pos : Pos} (hp : PassesOwn (model X.prog X.w) X.A X.env X.xe) (hc : X.calm = true) (hi : PI X tg iter wi) (hg : PG X tg g) (hb : PSs X body tb)
    (hs : ∀ x, foldedSetIterable iter X.env x = pure x := by intro _; rfl) : PS X (.For tg iter body [] pos) (tFor wi g tb) := by
  intro pins s σ H D I h
  refine wpAny_For (thn (hi pins s σ H _ I h) fun v s1 h1 => thn h1 fun itv s2 h2 => ?_) hs
  obtain ⟨it, fp, tn, J, H2, e, I2, T, st2, f2, W, ⟨m0, w0⟩, turn⟩ := h2
  subst e
  -- what stays true of the iterator's objects through the loop
  have stat : ∀ {H' : Hp}, (∀ b ∈ fp, H' b = none) → ∀ b ∈ fp, FpOk X pins H' b := fun hn b hb => ⟨hn b hb, (f2 b hb).2⟩
  refine codeAny_forLoop_any (fun n s' => ∃ i σ' H', Inv X pins σ' H' s' ∧ tn i s'.heap ∧ (∀ b ∈ fp, H' b = none) ∧ W i n σ' H') ?_ m0 ⟨0, σ, H2, I2, st2, fun b hb => (f2 b hb).1, w0⟩
  rintro n s3 ⟨i, σ3, H3, I3, st3, fr3, w3⟩
  rcases turn i n σ3 H3 w3 with ⟨stop, qn⟩ | ⟨go, N, hN, step⟩
  · refine wpAny_passesOwn hp (thn (T.done X rfl rfl rfl hc i pins s3 σ3 H3 X.xe I3 (stat fr3) st3 stop) fun r s4 ⟨hr, I4⟩ => ?_)
    subst hr
    exact wpAny_execs_nil ⟨σ3, H3, I4, qn⟩
  · refine wpAny_passesOwn hp (thn (T.item X rfl rfl rfl hc i pins s3 σ3 H3 X.xe I3 (stat fr3) st3 go) fun r s4 ⟨u, hr, h4⟩ => ?_)
    subst hr
    refine wpAny_passesOwn hp (thn h4 fun _ s5 ⟨x, H5, I5, r5, y5, st5, fr5⟩ => ?_)
    have I5' := I5.pinned (stat fr5) (T.obj _ _ st5)
    refine wpAny_passesOwn hp (thn (hg _ s5 σ3 H5 x u _ I5' r5 (step x H5 y5)) fun _ s6 ⟨σ6, H6, I6, q6⟩ => ?_)
    refine wpAny_passesOwn hp (thn (hb _ s6 σ6 H6 _ I6 q6) fun f s7 q7 => ?_)
    have again : ∀ {σ7 : St} {H7 : Hp}, Inv X (pins ++ pinsAt fp s5.heap) σ7 H7 s7 → N σ7 H7 → ∃ m, m < n ∧ ∃ i σ' H', Inv X pins σ' H' s7 ∧ tn i s7.heap ∧ (∀ b ∈ fp, H' b = none) ∧ W i m σ' H' := fun {σ7 H7} I7 n7 => by
      obtain ⟨m', hm, w7⟩ := hN σ7 H7 n7
      refine ⟨m', hm, i + 1, σ7, H7, I7.unpinned, T.keep _ _ _ st5 fun b hb o e => (I7.pin (b, o) (List.mem_append_right _ (List.mem_append_right _ (mem_pinsAt hb e)))).1, fun b hb => ?_, w7⟩
      obtain ⟨o, e, d⟩ := T.obj _ _ st5 b hb
      exact (I7.pin (b, o) (List.mem_append_right _ (List.mem_append_right _ (mem_pinsAt hb e)))).2.1
    cases f with
    | next => obtain ⟨σ7, H7, I7, n7⟩ := q7; exact again I7 n7
    | cont => obtain ⟨σ7, H7, I7, n7⟩ := q7; exact again I7 n7
    | brk => obtain ⟨σ7, H7, I7, q7⟩ := q7; exact ⟨σ7, H7, I7.unpinned, q7⟩
    | ret v => obtain ⟨x7, σ7, H7, I7, r7, q7⟩ := q7; exact ⟨x7, σ7, H7, I7.unpinned, r7, q7⟩
end

/-! ### the forms one uses -/
/-- over a list that the body leaves as it is -/
theorem for_list {K : PySem.W.Frag} {a : Addr} {xs : List V} {g : TG} {tb : TS} {D : Ends} {σ : St} {H : Hp} (Pv : Nat → St → Hp → Prop) (h0 : Pv 0 σ H) (hl : ∀ i σ H, i ≤ xs.length → Pv i σ H → SqL K H a xs)
    (hs : ∀ i x σ H, xs[i]? = some x → Pv i σ H → g x σ H fun σ2 H2 => tb { D with nx := Pv (i + 1), ct := Pv (i + 1), bk := D.nx } σ2 H2) (hd : ∀ σ H, Pv xs.length σ H → D.nx σ H) :
    ∃ W : Nat → Nat → St → Hp → Prop, (∃ m, W 0 m σ H) ∧ ∀ i m σ H, W i m σ H →
      ((Itl K a).stop i H ∧ D.nx σ H) ∨ ((Itl K a).go i H ∧ ∃ N : St → Hp → Prop, (∀ σ' H', N σ' H' → ∃ m', m' < m ∧ W (i + 1) m' σ' H') ∧ ∀ x H', (Itl K a).yld i H x H' → g x σ H' fun σ2 H2 => tb { D with nx := N, ct := N, bk := D.nx } σ2 H2) := by
  refine ⟨fun i m σ H => m = xs.length - i ∧ i ≤ xs.length ∧ Pv i σ H, ⟨xs.length, by simp, Nat.zero_le _, h0⟩, ?_⟩
  rintro i m σ H ⟨rfl, hi, p⟩
  have q := hl i σ H hi p
  by_cases hlt : i < xs.length
  · refine .inr ⟨⟨xs, xs[i], q, by simp [hlt]⟩, Pv (i + 1), fun σ' H' p' => ⟨xs.length - (i + 1), by omega, rfl, hlt, p'⟩, fun x H' y => ?_⟩
    obtain ⟨e, y⟩ := y
    subst e
    exact hs i x σ _ (y xs q) p
  · have e : i = xs.length := by omega
    subst e
    exact .inl ⟨⟨xs, q, Nat.le_refl _⟩, hd σ H p⟩
theorem for_range {lo : Int} {n : Nat} {g : TG} {tb : TS} {D : Ends} {σ : St} {H : Hp} (Pv : Nat → St → Hp → Prop) (h0 : Pv 0 σ H)
    (hs : ∀ i σ H, i < n → Pv i σ H → g (.int (lo + i)) σ H fun σ2 H2 => tb { D with nx := Pv (i + 1), ct := Pv (i + 1), bk := D.nx } σ2 H2) (hd : ∀ σ H, Pv n σ H → D.nx σ H) :
    ∃ W : Nat → Nat → St → Hp → Prop, (∃ m, W 0 m σ H) ∧ ∀ i m σ H, W i m σ H →
      ((Itr lo n).stop i H ∧ D.nx σ H) ∨ ((Itr lo n).go i H ∧ ∃ N : St → Hp → Prop, (∀ σ' H', N σ' H' → ∃ m', m' < m ∧ W (i + 1) m' σ' H') ∧ ∀ x H', (Itr lo n).yld i H x H' → g x σ H' fun σ2 H2 => tb { D with nx := N, ct := N, bk := D.nx } σ2 H2) := by
  refine ⟨fun i m σ H => m = n - i ∧ i ≤ n ∧ Pv i σ H, ⟨n, by simp, Nat.zero_le _, h0⟩, ?_⟩
  rintro i m σ H ⟨rfl, hi, p⟩
  by_cases hlt : i < n
  · refine .inr ⟨hlt, Pv (i + 1), fun σ' H' p' => ⟨n - (i + 1), by omega, rfl, hlt, p'⟩, fun x H' y => ?_⟩
    obtain ⟨e, y⟩ := y
    subst e y
    exact hs i σ _ hlt p
  · have e : i = n := by omega
    subst e
    exact .inl ⟨Nat.le_refl _, hd σ H p⟩
/-- while, by a word and a measure of the state -/
theorem while_by {c : TT} {tb : TS} {D : Ends} {σ : St} {H : Hp} (Pv : St → Hp → Prop) (μ : St → Hp → Nat) (h0 : Pv σ H)
    (hs : ∀ σ H, Pv σ H → c σ H fun b H1 => if b = true then tb { D with nx := fun σ' H' => Pv σ' H' ∧ μ σ' H' < μ σ H, ct := fun σ' H' => Pv σ' H' ∧ μ σ' H' < μ σ H, bk := D.nx } σ H1 else D.nx σ H1)
    (mono : ∀ σ H Q Q', (∀ b H1, Q b H1 → Q' b H1) → c σ H Q → c σ H Q') : tWhile c tb D σ H := by
  refine ⟨fun m σ H => m = μ σ H ∧ Pv σ H, ⟨_, rfl, h0⟩, ?_⟩
  rintro m σ H ⟨rfl, p⟩
  refine mono σ H _ _ (fun b H1 q => ?_) (hs σ H p)
  cases b with
  | true => exact ⟨_, fun σ' H' ⟨p', l⟩ => ⟨_, l, rfl, p'⟩, q⟩
  | false => exact q
end L2

namespace L2
open PySem PySem.Spec PyProof.Rows

noncomputable abbrev R2 := V → V → Hp → VK → Prop
/-- a two-place operation on values: f is binaryOp op, inplaceOp op or compareOp op -/
noncomputable def OpR (X : Cx) (f : Value → Value → Sem Value) (r : R2) : Prop :=
  ∀ (pins : List (Addr × Obj)) (s : Shared) (σ : St) (H : Hp) (x y : V) (v u : Value) (Q : VK), Inv X pins σ H s → RelV x v → RelV y u → r x y H Q →
    wpAny (model X.prog X.w) X.A (f v u) (EP X pins σ Q) X.xe s
/-- a one-place operation -/
noncomputable def UnR (X : Cx) (f : Value → Sem Value) (r : V → Hp → VK → Prop) : Prop :=
  ∀ (pins : List (Addr × Obj)) (s : Shared) (σ : St) (H : Hp) (x : V) (v : Value) (Q : VK), Inv X pins σ H s → RelV x v → r x H Q →
    wpAny (model X.prog X.w) X.A (f v) (EP X pins σ Q) X.xe s
/-- a call of a value that is known (a builtin, a type) with values -/
noncomputable def CallR (X : Cx) (f : Value) (r : List V → Hp → VK → Prop) : Prop :=
  ∀ (pins : List (Addr × Obj)) (s : Shared) (σ : St) (H : Hp) (xs : List V) (us : List Value) (Q : VK), Inv X pins σ H s → Vals xs us → r xs H Q →
    wpAny (model X.prog X.w) X.A (call f us) (EP X pins σ Q) X.xe s
noncomputable def tOp (r : R2) (ta tb : TE) : TE := fun σ H Q => ta σ H fun x H1 => tb σ H1 fun y H2 => r x y H2 Q
noncomputable def tUn (r : V → Hp → VK → Prop) (ta : TE) : TE := fun σ H Q => ta σ H fun x H1 => r x H1 Q
/-- ints in, under C, and a value out -/
noncomputable def rI (C : Int → Int → Prop) (g : Int → Int → V) : R2 := fun x y H Q => ∃ i j, x = .int i ∧ y = .int j ∧ C i j ∧ Q (g i j) H
noncomputable def rI0 (g : Int → Int → V) : R2 := fun x y H Q => ∃ i j, x = .int i ∧ y = .int j ∧ Q (g i j) H
noncomputable def rU (g : Int → V) : V → Hp → VK → Prop := fun x H Q => ∃ i, x = .int i ∧ Q (g i) H

section
variable {X : Cx} {a b c : Expr} {ta tb tc : TE} {pos : Pos}

theorem binT (ha : PE X a ta) (hb : PE X b tb) {pins : List (Addr × Obj)} {s : Shared} {σ : St} {H : Hp} {R : V → V → Hp → Prop} (I : Inv X pins σ H s)
    (h : ta σ H fun x H1 => tb σ H1 fun y H2 => R x y H2) {Q : Value → Shared → Prop} {f : Value → Value → Sem Value}
    (hf : ∀ v u s2 x y H2, Inv X pins σ H2 s2 → RelV x v → RelV y u → R x y H2 → wpAny (model X.prog X.w) X.A (f v u) Q X.xe s2) :
    wpAny (model X.prog X.w) X.A (eval a X.env) (fun v s₁ => wpAny (model X.prog X.w) X.A (eval b X.env) (fun u s₂ => wpAny (model X.prog X.w) X.A (f v u) Q X.xe s₂) X.xe s₁) X.xe s := by
  refine thn (ha pins s σ H _ I h) fun v s1 ⟨x, H1, I1, r1, q1⟩ => ?_
  refine thn (hb pins s1 σ H1 _ I1 q1) fun u s2 ⟨y, H2, I2, r2, q2⟩ => ?_
  exact hf v u s2 x y H2 I2 r1 r2 q2

theorem pe_op {op : Operator} {r : R2} (ho : OpR X (binaryOp op) r) (ha : PE X a ta) (hb : PE X b tb) : PE X (.BinOp a op b pos) (tOp r ta tb) := by
  intro pins s σ H Q I h
  exact wpAny_BinOp (binT ha hb I h fun v u s2 x y H2 I2 rx ry q => ho pins s2 σ H2 x y v u Q I2 rx ry q)
theorem pe_un {op : UnaryOp} {r : V → Hp → VK → Prop} (ho : UnR X (unaryOp op) r) (ha : PE X a ta) : PE X (.UnaryOp op a pos) (tUn r ta) := by
  intro pins s σ H Q I h
  exact UnaryOp_ (thn (ha pins s σ H _ I h) fun v s1 ⟨x, H1, I1, r1, q1⟩ => ho pins s1 σ H1 x v Q I1 r1 q1)
/-! ### ints -/
theorem opI {f : Value → Value → Sem Value} {C : Int → Int → Prop} {g : Int → Int → Int}
    (rule : ∀ (i j : Int) (t u : Tok) (s : Shared) (Q : Value → Shared → Prop) (E : Value → Shared → Prop), C i j → Q (.int (g i j) s.toks) { s with toks := s.toks + 1 } → wpAny (model X.prog X.w) X.A (f (.int i t) (.int j u)) Q E s) :
    OpR X f (rI C fun i j => .int (g i j)) := by
  intro pins s σ H x y v u Q I rx ry h
  obtain ⟨i, j, rfl, rfl, hc, q⟩ := h
  obtain ⟨t, rfl⟩ := rx
  obtain ⟨t', rfl⟩ := ry
  exact rule i j t t' s _ _ hc ⟨.int (g i j), H, I.tok _, ⟨_, rfl⟩, q⟩
theorem opI0 {f : Value → Value → Sem Value} {g : Int → Int → Int}
    (rule : ∀ (i j : Int) (t u : Tok) (s : Shared) (Q : Value → Shared → Prop) (E : Value → Shared → Prop), Q (.int (g i j) s.toks) { s with toks := s.toks + 1 } → wpAny (model X.prog X.w) X.A (f (.int i t) (.int j u)) Q E s) :
    OpR X f (rI0 fun i j => .int (g i j)) := by
  intro pins s σ H x y v u Q I rx ry h
  obtain ⟨i, j, rfl, rfl, q⟩ := h
  obtain ⟨t, rfl⟩ := rx
  obtain ⟨t', rfl⟩ := ry
  exact rule i j t t' s _ _ ⟨.int (g i j), H, I.tok _, ⟨_, rfl⟩, q⟩
theorem opB0 {f : Value → Value → Sem Value} {g : Int → Int → Bool}
    (rule : ∀ (i j : Int) (t u : Tok) (s : Shared) (Q : Value → Shared → Prop) (E : Value → Shared → Prop), Q (.bool (g i j)) s → wpAny (model X.prog X.w) X.A (f (.int i t) (.int j u)) Q E s) :
    OpR X f (rI0 fun i j => .bl (g i j)) := by
  intro pins s σ H x y v u Q I rx ry h
  obtain ⟨i, j, rfl, rfl, q⟩ := h
  obtain ⟨t, rfl⟩ := rx
  obtain ⟨t', rfl⟩ := ry
  exact rule i j t t' s _ _ ⟨.bl (g i j), H, I, rfl, q⟩

theorem op_add : OpR X (binaryOp .Add) (rI0 fun i j => .int (i + j)) := opI0 fun _ _ _ _ _ _ _ q => add_int q
theorem op_sub : OpR X (binaryOp .Sub) (rI0 fun i j => .int (i - j)) := opI0 fun _ _ _ _ _ _ _ q => sub_int q
/-- % by a positive divisor of any size -/
theorem op_mod : OpR X (binaryOp .Mod) (rI (fun _ j => 0 < j) fun i j => .int (i % j)) := opI fun i j _ _ _ _ _ hc q => by
  have h1 : (0 : Int) < j := hc
  exact mod_int' (by omega) (by rw [Int.fmod_eq_emod_of_nonneg i (by omega)]; exact q)
theorem unI {f : Value → Sem Value} {g : Int → Int}
    (rule : ∀ (i : Int) (t : Tok) (s : Shared) (Q : Value → Shared → Prop) (E : Value → Shared → Prop), Q (.int (g i) s.toks) { s with toks := s.toks + 1 } → wpAny (model X.prog X.w) X.A (f (.int i t)) Q E s) :
    UnR X f (rU fun i => .int (g i)) := by
  intro pins s σ H x v Q I rx h
  obtain ⟨i, rfl, q⟩ := h
  obtain ⟨t, rfl⟩ := rx
  exact rule i t s _ _ ⟨.int (g i), H, I.tok _, ⟨_, rfl⟩, q⟩
theorem un_neg : UnR X (unaryOp .USub) (rU fun i => .int (-i)) := unI fun _ _ _ _ _ q => neg_int q
/-! ### bools among ints: n += (a < b) -/
end

/-! ### comparisons -/
/-- the scalars that == tells apart as data does -/
noncomputable def scal : V → V → Bool
  | .non, .non => true | .non, .int _ => true | .int _, .non => true | .non, .bl _ => true | .bl _, .non => true | .non, .str _ => true | .str _, .non => true
  | .int _, .int _ => true | .bl _, .bl _ => true | .str _, .str _ => true | .byt _, .byt _ => true
  | .int _, .str _ => true | .str _, .int _ => true | .bl _, .str _ => true | .str _, .bl _ => true
  | _, _ => false
noncomputable def rEq : R2 := fun x y H Q => scal x y = true ∧ Q (.bl (decide (x = y))) H
noncomputable def rNe : R2 := fun x y H Q => scal x y = true ∧ Q (.bl (!decide (x = y))) H

theorem dec_int {i j : Int} : decide (V.int i = V.int j) = (i == j) := by
  rw [Bool.eq_iff_iff]
  simp
theorem dec_bl {i j : Bool} : decide (V.bl i = V.bl j) = (i == j) := by
  rw [Bool.eq_iff_iff]
  simp
theorem dec_str {i j : Str} : decide (V.str i = V.str j) = (i == j) := by
  rw [Bool.eq_iff_iff]
  simp
theorem dec_byt {i j : Array UInt8} : decide (V.byt i = V.byt j) = (i.toList == j.toList) := by
  rw [Bool.eq_iff_iff]
  cases i
  cases j
  simp

section
variable {X : Cx} {a b c : Expr} {ta tb tc : TE} {pos : Pos}
theorem fin_bl {pins : List (Addr × Obj)} {σ : St} {H : Hp} {s : Shared} {Q : VK} {k k' : Bool} (I : Inv X pins σ H s) (q : Q (.bl k) H) (e : k = k') : EP X pins σ Q (.bool k') s := by
  subst e
  exact ⟨.bl k, H, I, rfl, q⟩
theorem op_eq : OpR X (compareOp .Eq) rEq := by
  intro pins s σ H x y v u Q I rx ry h
  obtain ⟨hs, q⟩ := h
  cases x with
  | non =>
    cases rx
    cases y with
    | non => cases ry; exact PySem.EqNone.eq_none_none (fin_bl I q (by simp))
    | bl j => cases ry; exact PySem.EqNone.eq_none_bool (fin_bl I q (by simp))
    | int j => obtain ⟨t', rfl⟩ := ry; exact PySem.EqNone.eq_none_int (fin_bl I q (by simp))
    | str j => obtain ⟨t', rfl⟩ := ry; exact PySem.EqNone.eq_none_str (fin_bl I q (by simp))
    | _ => exact absurd (show false = true from hs) Bool.false_ne_true
  | bl i =>
    cases rx
    cases y with
    | non => cases ry; exact PySem.EqNone.eq_bool_none (fin_bl I q (by simp))
    | bl j => cases ry; exact eq_bool (fin_bl I q dec_bl)
    | str j => obtain ⟨t', rfl⟩ := ry; exact PySem.EqMixed.eq_bool_str (fin_bl I q (by simp))
    | _ => exact absurd (show false = true from hs) Bool.false_ne_true
  | int i =>
    obtain ⟨t, rfl⟩ := rx
    cases y with
    | non => cases ry; exact PySem.EqNone.eq_int_none (fin_bl I q (by simp))
    | int j => obtain ⟨t', rfl⟩ := ry; exact eq_int (fin_bl I q dec_int)
    | str j => obtain ⟨t', rfl⟩ := ry; exact PySem.EqMixed.eq_int_str (fin_bl I q (by simp))
    | _ => exact absurd (show false = true from hs) Bool.false_ne_true
  | str i =>
    obtain ⟨t, rfl⟩ := rx
    cases y with
    | non => cases ry; exact PySem.EqNone.eq_str_none (fin_bl I q (by simp))
    | bl j => cases ry; exact PySem.EqMixed.eq_str_bool (fin_bl I q (by simp))
    | int j => obtain ⟨t', rfl⟩ := ry; exact PySem.EqMixed.eq_str_int (fin_bl I q (by simp))
    | str j => obtain ⟨t', rfl⟩ := ry; exact eq_str (fin_bl I q dec_str)
    | _ => exact absurd (show false = true from hs) Bool.false_ne_true
  | byt i =>
    obtain ⟨t, rfl⟩ := rx
    cases y with
    | byt j => obtain ⟨t', rfl⟩ := ry; exact PySem.W.eq_bytes (fin_bl I q dec_byt)
    | _ => exact absurd (show false = true from hs) Bool.false_ne_true
  | _ => cases y <;> exact absurd (show false = true from hs) Bool.false_ne_true
theorem op_ne : OpR X (compareOp .NotEq) rNe := by
  intro pins s σ H x y v u Q I rx ry h
  obtain ⟨hs, q⟩ := h
  cases x with
  | non =>
    cases rx
    cases y with
    | non => cases ry; exact PySem.EqNone.ne_none_none (fin_bl I q (by simp))
    | bl j => cases ry; exact PySem.EqNone.ne_none_bool (fin_bl I q (by simp))
    | int j => obtain ⟨t', rfl⟩ := ry; exact PySem.EqNone.ne_none_int (fin_bl I q (by simp))
    | str j => obtain ⟨t', rfl⟩ := ry; exact PySem.EqNone.ne_none_str (fin_bl I q (by simp))
    | _ => exact absurd (show false = true from hs) Bool.false_ne_true
  | bl i =>
    cases rx
    cases y with
    | non => cases ry; exact PySem.EqNone.ne_bool_none (fin_bl I q (by simp))
    | bl j => cases ry; exact ne_bool (fin_bl I q (congrArg not dec_bl))
    | str j => obtain ⟨t', rfl⟩ := ry; exact PySem.EqMixed.ne_bool_str (fin_bl I q (by simp))
    | _ => exact absurd (show false = true from hs) Bool.false_ne_true
  | int i =>
    obtain ⟨t, rfl⟩ := rx
    cases y with
    | non => cases ry; exact PySem.EqNone.ne_int_none (fin_bl I q (by simp))
    | int j => obtain ⟨t', rfl⟩ := ry; exact ne_int (fin_bl I q (congrArg not dec_int))
    | str j => obtain ⟨t', rfl⟩ := ry; exact PySem.EqMixed.ne_int_str (fin_bl I q (by simp))
    | _ => exact absurd (show false = true from hs) Bool.false_ne_true
  | str i =>
    obtain ⟨t, rfl⟩ := rx
    cases y with
    | non => cases ry; exact PySem.EqNone.ne_str_none (fin_bl I q (by simp))
    | bl j => cases ry; exact PySem.EqMixed.ne_str_bool (fin_bl I q (by simp))
    | int j => obtain ⟨t', rfl⟩ := ry; exact PySem.EqMixed.ne_str_int (fin_bl I q (by simp))
    | str j => obtain ⟨t', rfl⟩ := ry; exact ne_str (fin_bl I q (congrArg not dec_str))
    | _ => exact absurd (show false = true from hs) Bool.false_ne_true
  | byt i =>
    obtain ⟨t, rfl⟩ := rx
    cases y with
    | byt j => obtain ⟨t', rfl⟩ := ry; exact PySem.W.ne_bytes (fin_bl I q (congrArg not dec_byt))
    | _ => exact absurd (show false = true from hs) Bool.false_ne_true
  | _ => cases y <;> exact absurd (show false = true from hs) Bool.false_ne_true

theorem op_lt : OpR X (compareOp .Lt) (rI0 fun i j => .bl (decide (i < j))) := opB0 fun _ _ _ _ _ _ _ q => lt_int q
theorem op_le : OpR X (compareOp .LtE) (rI0 fun i j => .bl (decide (i ≤ j))) := opB0 fun _ _ _ _ _ _ _ q => le_int q
theorem op_gt : OpR X (compareOp .Gt) (rI0 fun i j => .bl (decide (j < i))) := opB0 fun _ _ _ _ _ _ _ q => gt_int q
theorem op_ge : OpR X (compareOp .GtE) (rI0 fun i j => .bl (decide (j ≤ i))) := opB0 fun _ _ _ _ _ _ _ q => ge_int q
theorem op_notN : OpR X (compareOp .IsNot) (fun x y H Q => y = .non ∧ Q (.bl (!decide (x = .non))) H) := by
  intro pins s σ H x y v u Q I rx ry h
  obtain ⟨rfl, q⟩ := h
  cases ry
  refine isnot_none_gen (fin_bl I q ?_)
  cases x <;> first
    | (cases rx; rfl)
    | (obtain ⟨t, rfl⟩ := rx; rfl)

theorem nomark (b : Expr) {op : CmpOp} (h : op ≠ .In := by decide) (h2 : op ≠ .NotIn := by decide) : behindInMarks op b = false := by
  have e1 : (op == CmpOp.In) = false := by cases op <;> first | rfl | exact absurd rfl h
  have e2 : (op == CmpOp.NotIn) = false := by cases op <;> first | rfl | exact absurd rfl h2
  cases b <;> simp [behindInMarks, e1, e2]
/-- a comparison as a value; hm: nomark b, or (for in, not in) by with_unfolding_all rfl -/
theorem pe_cmpR {op : CmpOp} {r : R2} (ho : OpR X (compareOp op) r) (ha : PE X a ta) (hb : PE X b tb) (hm : behindInMarks op b = false) : PE X (.Compare a [op] [b] pos) (tOp r ta tb) := by
  intro pins s σ H Q I h
  exact wpAny_Compare1 (binT ha hb I h fun v u s2 x y H2 I2 rx ry q => ho pins s2 σ H2 x y v u Q I2 rx ry q) hm
/-- a reading of a value as a test -/
noncomputable def tTest (t : TE) : TT := fun σ H Q => t σ H fun x H' => ∃ k, x = .bl k ∧ Q k H'
theorem pt_cmpR {op : CmpOp} {r : R2} (ho : OpR X (compareOp op) r) (ha : PE X a ta) (hb : PE X b tb) (hm : behindInMarks op b = false) : PT X (.Compare a [op] [b] pos) (tTest (tOp r ta tb)) := by
  intro pins s σ H Q I h
  refine wpAny_isTrue_Compare1 (thn (ha pins s σ H _ I h) fun v s1 ⟨x, H1, I1, r1, q1⟩ => thn (hb pins s1 σ H1 _ I1 q1) fun u s2 ⟨y, H2, I2, r2, q2⟩ =>
    thn (ho pins s2 σ H2 x y v u _ I2 r1 r2 q2) fun c s3 ⟨z, H3, I3, r3, k, e, q3⟩ => ?_) hm
  subst e
  cases r3
  exact wpAny_truthy_bool ⟨H3, I3, q3⟩
/-! ### truth -/
theorem line63 : (sizeLine : Nat) < 2 ^ 63 := by rw [sizeLine_eq]; decide
/-! ### strs and bytes -/
/-! ### scalar builtins, by CallR -/
theorem vals1 {x : V} {us : List Value} (r : Vals [x] us) : ∃ u, us = [u] ∧ RelV x u := by
  cases r with
  | cons r1 r2 => cases r2; exact ⟨_, rfl, r1⟩
theorem vals2 {x y : V} {us : List Value} (r : Vals [x, y] us) : ∃ u w', us = [u, w'] ∧ RelV x u ∧ RelV y w' := by
  cases r with
  | cons r1 r2 =>
    cases r2 with
    | cons r3 r4 => cases r4; exact ⟨_, _, rfl, r1, r3⟩
theorem call_min2 (hc : X.calm = true) : CallR X (.builtin "min") (fun xs H Q => ∃ i j, xs = [.int i, .int j] ∧ Q (.int (if j < i then j else i)) H) := by
  intro pins s σ H xs us Q I r h
  obtain ⟨i, j, rfl, q⟩ := h
  obtain ⟨u, w', rfl, ⟨t, rfl⟩, ⟨t', rfl⟩⟩ := vals2 r
  refine min_two_ints (I.ok.hd hc) fun h' tk k => ⟨_, H, I.kept k, ?_, q⟩
  by_cases hj : j < i
  · rw [if_pos hj, if_pos hj]; exact ⟨_, rfl⟩
  · rw [if_neg hj, if_neg hj]; exact ⟨_, rfl⟩
end
end L2

namespace L2
open PySem PySem.Spec PyProof.Rows

/-! ### an instance, its attributes a map -/
structure ObjM (h : Heap) (x dx C : Addr) (mA : Str → Option Value) : Prop where
  obj : h.get? x = some (PySem.W.instObj C dx)
  ns : h.Ns1 dx mA
  ne : dx ≠ x

theorem lookIn_ns {h : Heap} {dx : Addr} {mA : Str → Option Value} (n : h.Ns1 dx mA) : ∃ od, h.get? dx = some od ∧ ∀ name, PySem.W.lookIn name od = some (mA name) := by
  obtain ⟨o, es, ep, ho, hd, hk, _, hm⟩ := n
  refine ⟨o, ho, fun name => ?_⟩
  have e := hm name
  unfold nsFind findBy at e
  rw [← Array.find?_toList] at e
  unfold PySem.W.lookIn
  rw [hd]
  dsimp only
  split
  · rename_i y q
    rw [q] at e
    exact congrArg some e
  · rename_i q
    rw [q] at e
    have a : es.toList.any (·.refKey) = false := by
      rw [List.any_eq_false]
      intro y hy
      obtain ⟨z, t, hkey⟩ := hk y (Array.mem_toList_iff.mp hy)
      simp [DictEntry.refKey, hkey]
    have a' : ¬ es.toList.any (·.refKey) = true := by rw [a]; exact Bool.false_ne_true
    rw [if_neg a']
    exact congrArg some e

theorem ObjM.look {h : Heap} {x dx C : Addr} {mA : Str → Option Value} (I : ObjM h x dx C mA) : ∃ od, PySem.W.InstAt h x (PySem.W.instObj C dx) C (some od) ∧ ∀ name, PySem.W.lookIn name od = some (mA name) :=
  let ⟨od, ho, hl⟩ := lookIn_ns I.ns
  ⟨od, ⟨I.obj, rfl, rfl, ho⟩, hl⟩

section
variable {prog : Program} {w : World} {A : Around} {E : Value → Shared → Prop} {s : Shared} {K : PySem.W.Frag} {x dx C f : Addr} {mA : Str → Option Value} {name : Str} {v : Value}

end

/-! ### the attributes as a list of pairs -/
section
variable {P : Program} {w : World} {H H' : Hp} {h h' : Heap} {a C dx : Addr} {fs fs' : List (Str × V)}
theorem ins_get (hok : HOk P w H h) (e : H a = some (.ins C dx fs)) : ∃ mA, ObjM h a dx C mA ∧ (∀ f, RelO (fs.lookup f) (mA f)) ∧ PySem.Within mA (fs.map (·.1)) ∧ fs.length ≤ 1000 ∧ H dx = some (.own a) := by
  obtain ⟨d, z, ne, ob, mA, n, r, q⟩ := (show ObjOk P w H h a (.ins C dx fs) from hok a _ e)
  exact ⟨mA, ⟨ob, n, ne⟩, r, q, z, d⟩
end

/-! ### what of the text a class must have -/
structure Cls (K : PySem.W.Frag) (C : Addr) : Prop where
  pg : PySem.W.plainGet K C Str.empty = true
  hd : PySem.W.hasDictIn K C = true
  po : PySem.W.plainOver K C = true
  sa : PySem.W.findIn K (.ref C) "__setattr__" = some (some (.builtin "object.__setattr__"))
theorem Cls.get {K : PySem.W.Frag} {C : Addr} (c : Cls K C) (f : Str) : PySem.W.plainGet K C f = true := c.pg
section
variable {X : Cx} {pins : List (Addr × Obj)} {σ : St} {H : Hp} {s : Shared} {a C dx : Addr} {fs : List (Str × V)} {f : Str} {v : V} {A : Around} {E : Value → Shared → Prop}

end

/-! ### readings and rules -/
section
variable {X : Cx} {o e value : Expr} {f : Str} {pos pos' tpos : Pos} {ta tv : TE}
end

/-! ### isinstance -/
section
variable {X : Cx} {pins : List (Addr × Obj)} {σ : St} {H : Hp} {s : Shared} {A : Around} {E : Value → Shared → Prop} {Q : Value → Shared → Prop} {c : Value} {b : Bool}
/-- the type of a value, as the fragment's deciders take it; for an instance its class -/
inductive TyOf (K : PySem.W.Frag) (H : Hp) : V → Value → Prop where
  | non : TyOf K H .non (.type "NoneType")
  | bl (x : Bool) : TyOf K H (.bl x) (.type "bool")
  | int (i : Int) : TyOf K H (.int i) (.type "int")
  | str (x : Str) : TyOf K H (.str x) (.type "str")
  | flt (x : UInt64) : TyOf K H (.flt x) (.type "float")
  | lst {a : Addr} {xs : List V} (e : H a = some (.lst xs)) : TyOf K H (.ref a) (.type "list")
  | frz {a : Addr} {o : Obj} {xs : List V} (e : H a = some (.frz o (.lst xs))) : TyOf K H (.ref a) (.type "list")
  | tup {a : Addr} {xs : List V} (e : H a = some (.tup xs)) : TyOf K H (.ref a) (.type "tuple")
  | dK {a : Addr} {kvs : List (Key × V)} (e : H a = some (.dK kvs)) : TyOf K H (.ref a) (.type "dict")
  | dT {a : Addr} {kvs : List (List Key × V)} (e : H a = some (.dT kvs)) : TyOf K H (.ref a) (.type "dict")
  | ins {a C dx : Addr} {fs : List (Str × V)} (e : H a = some (.ins C dx fs)) (cl : Cls K C) (ha : PySem.W.findIn K (.ref C) "__class__" = some (some (.builtin "object.__class__")))
      (hn : PySem.W.specialIn K (.builtin "object.__class__") "__get__" = some (some (.builtin "getset_descriptor.__get__"))) (htk : PySem.W.takesIn K (.builtin "object.__class__") = some true)
      (hm : PySem.W.mroIn K C (.type "object") = some true) : TyOf K H (.ref a) (.ref C)
/-- isinstance(x, c) for one class c, a built-in or an own one: kitOne's answer -/
theorem isinst_ok {x : V} {u t : Value} (I : Inv X pins σ H s) (rx : RelV x u) (ty : TyOf X.K H x t) (e : PySem.W.kitOne X.K t c = some b) (h : ∀ tk, Q (.bool b) { s with toks := tk }) :
    wpAny (model X.prog X.w) A (call (.builtin "isinstance") [u, c]) Q E s := by
  cases ty with
  | non => cases (show u = Value.none from rx); exact PySem.W.kia_one PySem.W.kitx_none I.kIn True.intro e (fun z => nomatch z) h
  | bl y => cases (show u = Value.bool y from rx); exact PySem.W.kia_one PySem.W.kitx_bool I.kIn True.intro e (fun z => nomatch z) h
  | int i => obtain ⟨t, q⟩ := (show ∃ t, u = Value.int i t from rx); cases q; exact PySem.W.kia_one PySem.W.kitx_int I.kIn True.intro e (fun z => nomatch z) h
  | str y => obtain ⟨t, q⟩ := (show ∃ t, u = Value.str y t from rx); cases q; exact PySem.W.kia_one PySem.W.kitx_str I.kIn True.intro e (fun z => nomatch z) h
  | flt y => obtain ⟨t, q⟩ := (show ∃ t, u = Value.float y t from rx); cases q; exact PySem.W.kia_one PySem.W.kitx_float I.kIn True.intro e (fun z => nomatch z) h
  | @lst a xs ea =>
    cases (show u = Value.ref a from rx)
    obtain ⟨_, _, n, _, h1⟩ := (show ObjOk X.prog X.w H s.heap a (.lst xs) from I.hok a _ ea)
    exact PySem.W.kia_one PySem.W.kitx_list I.kIn ⟨_, h1, rfl⟩ e (fun z => nomatch z) h
  | @frz a ob xs ea =>
    cases (show u = Value.ref a from rx)
    obtain ⟨_, _, _, n, _, h1⟩ := (show ObjOk X.prog X.w H s.heap a (.frz ob (.lst xs)) from I.hok a _ ea)
    exact PySem.W.kia_one PySem.W.kitx_list I.kIn ⟨_, h1, rfl⟩ e (fun z => nomatch z) h
  | @tup a xs ea =>
    cases (show u = Value.ref a from rx)
    obtain ⟨_, _, _, p⟩ := (show ObjOk X.prog X.w H s.heap a (.tup xs) from I.hok a _ ea)
    obtain ⟨o, h1, h2, _⟩ := p
    exact PySem.W.kia_one PySem.W.kitx_tuple I.kIn ⟨o, h1, h2⟩ e (fun z => nomatch z) h
  | @dK a kvs ea =>
    cases (show u = Value.ref a from rx)
    obtain ⟨_, _, vs, _, p⟩ := (show ObjOk X.prog X.w H s.heap a (.dK kvs) from I.hok a _ ea)
    obtain ⟨o, es, ep, h1, h2, _⟩ := p
    exact PySem.W.kia_one PySem.W.kitx_dict I.kIn ⟨o, h1, h2.1⟩ e (fun z => nomatch z) h
  | @dT a kvs ea =>
    cases (show u = Value.ref a from rx)
    obtain ⟨_, _, xs, _, o, es, ep, h1, h2, _⟩ := (show ObjOk X.prog X.w H s.heap a (.dT kvs) from I.hok a _ ea)
    exact PySem.W.kia_one PySem.W.kitx_dict I.kIn ⟨o, h1, h2.1⟩ e (fun z => nomatch z) h
  | @ins a C dx fs ea cl ha hn htk hm =>
    cases (show u = Value.ref a from rx)
    obtain ⟨mA, O, _⟩ := ins_get I.hok ea
    obtain ⟨od, J, _⟩ := O.look
    exact PySem.W.kia_one (PySem.W.kitx_own (cl.get _) cl.hd ha hn htk hm) I.kIn J e (fun z => nomatch z) h
end
end L2

namespace L2
open PySem PySem.Spec PyProof.Rows

/-! ### room -/
structure Room (k : Nat) (A : Around) : Prop where
  hd : A.handled = none
  dp : A.depth + 3 * k + 5 < recursionLimit
  un : A.units + 16 * k + 200 < cLine
theorem Room.mono {j k : Nat} {A : Around} (r : Room k A) (h : j ≤ k) : Room j A := ⟨r.hd, by have := r.dp; omega, by have := r.un; omega⟩
theorem Room.deeper {k : Nat} {A : Around} (r : Room (k + 1) A) (env : Env) : Room k (A.deeper env) :=
  ⟨r.hd, by have := r.dp; show A.depth + 1 + 3 * k + 5 < _; omega, by have := r.un; show A.units + 3 + 16 * k + 200 < _; omega⟩
theorem Room.depth {k : Nat} {A : Around} (r : Room k A) : A.depth < recursionLimit := by have := r.dp; omega
theorem Room.units {k : Nat} {A : Around} (r : Room k A) : A.units + 64 < cLine := by have := r.un; omega
/-! ### argument lists and displays -/
noncomputable def tNil : TA := fun _ H Q => Q [] H
noncomputable def tCons (ta : TE) (tr : TA) : TA := fun σ H Q => ta σ H fun x H1 => tr σ H1 fun xs H2 => Q (x :: xs) H2
section
variable {X : Cx} {e : Expr} {es : List Expr} {te : TE} {t : TA} {pos : Pos}
theorem pa_nil : PA X [] tNil := fun _ _ _ _ H Q I h => Calls.spliced_nil ⟨[], H, I, .nil, h⟩
theorem pa_cons (ha : PE X e te) (hr : PA X es t) (hs : starEach (e :: es) X.env = (false, eval e X.env) :: starEach es X.env := by rfl) : PA X (e :: es) (tCons te t) := by
  intro pos pins s σ H Q I h
  rw [hs]
  show wpAny _ _ (spliced ((false, eval e X.env) :: backTo pos (starEach es X.env))) _ _ s
  refine Calls.spliced_cons (thn (ha pins s σ H _ I h) fun u s1 ⟨x, H1, I1, r1, q1⟩ => ?_)
  exact thn (hr pos pins s1 σ H1 _ I1 q1) fun us s2 ⟨xs, H2, I2, r2, q2⟩ => ⟨x :: xs, H2, I2, .cons r1 r2, q2⟩

/-- a tuple, a list of written items -/
noncomputable def tTup (t : TA) : TE := fun σ H Q => t σ H fun xs H1 => xs.length ≤ sizeLine ∧ ∀ p, H1 p = none → Q (.ref p) (upd H1 p (.tup xs))
noncomputable def tLst (t : TA) : TE := fun σ H Q => t σ H fun xs H1 => xs.length ≤ sizeLine ∧ ∀ p, H1 p = none → Q (.ref p) (upd H1 p (.lst xs))
theorem pe_tup {x1} (h : PA X es t) : PE X (.Tuple es x1 pos) (tTup t) := by
  intro pins s σ H Q I hq
  refine wpAny_Tuple_spliced (thn (h pos pins s σ H _ I hq) fun us s1 ⟨xs, H1, I1, r, z, q⟩ => ⟨by rw [← r.length]; exact z, ?_⟩)
  have hf : H1 s1.heap.objs.size = none := I1.hok.fresh (Nat.le_refl _)
  refine ⟨.ref s1.heap.objs.size, upd H1 s1.heap.objs.size (.tup xs), I1.laid (t' := s1.toks) (fun b u e => Heap.get?_push_of_some _ e) (Nat.le_refl _) ?_, rfl, q _ hf⟩
  exact ⟨z, us, r, ⟨_, Heap.get?_push_size _ rfl, rfl, _, rfl⟩⟩
theorem pe_lst (h : PA X es t) : PE X (.List es pos) (tLst t) := by
  intro pins s σ H Q I hq
  refine wpAny_List_spliced (thn (h pos pins s σ H _ I hq) fun us s1 ⟨xs, H1, I1, r, z, q⟩ => ⟨by rw [← r.length]; exact z, ?_⟩)
  have hf : H1 s1.heap.objs.size = none := I1.hok.fresh (Nat.le_refl _)
  refine ⟨.ref s1.heap.objs.size, upd H1 s1.heap.objs.size (.lst xs), I1.laid (t' := s1.toks) (fun b u e => Heap.get?_push_of_some _ e) (Nat.le_refl _) ?_, rfl, q _ hf⟩
  exact ⟨z, us, 0, r, Heap.get?_push_size _ rfl⟩
end

/-! ### what a def promises -/
/-- a def's promise: the bound arguments in the parameters' order, the heap, the wanted end, the wanted exception -/
noncomputable abbrev Sp := List V → Hp → VK → XK → Prop
/-- how an exception lies behind a call (file 08 gives it): the callers' frames, abstract heap and state ahead of the call, the wish, the exception, the state -/
noncomputable abbrev CXT := List Env → Hp → Shared → XK → Value → Shared → Prop

/-- the state at a call -/
structure Env0 (P : Program) (w : World) (K : PySem.W.Frag) (mg : Str → Option Value) (base : Heap) (A : Around) (outer : List Env) (s : Shared) (H : Hp) : Prop where
  frames : A.frames = some outer
  mod : Mod K mg base
  bs : ∀ b o, base.get? b = some o → s.heap.get? b = some o ∧ H b = none
  bsz : base.objs.size ≤ s.heap.objs.size
  funs : s.heap.FunFrames base outer
  frf : ∀ b ∈ frs outer, H b = none
  hok : HOk P w H s.heap
  bare : AllBare s.gens
/-- a call's end -/
noncomputable def CE (outer : List Env) (P : Program) (w : World) (H : Hp) (s : Shared) (Q : VK) (u : Value) (s' : Shared) : Prop :=
  ∃ v H', s'.os = s.os ∧ AllBare s'.gens ∧ Un (frs outer) [] H H' s.heap s'.heap ∧ HOk P w H' s'.heap ∧ RelV v u ∧ Q v H'
noncomputable def CR (CX : CXT) (outer : List Env) (P : Program) (w : World) (H : Hp) (s : Shared) (Q : VK) (E : XK) (r : Result) (s' : Shared) : Prop :=
  match r with
  | .ok (.ret u) => CE outer P w H s Q u s'
  | .ok _ => False
  | .error e => CX outer H s E e s'
structure FnOk (P : Program) (w : World) (K : PySem.W.Frag) (mg : Str → Option Value) (base : Heap) (CX : CXT) (k : Nat) (f : Addr) (fd : FuncData) (ps : List Str) (sp : Sp) : Prop where
  len : ∀ vs H Q E, sp vs H Q E → vs.length = ps.length
  run : ∀ (A : Around) (outer : List Env) (s : Shared) (H : Hp) (args : Args) (us : List Value) (vs : List V) (Q : VK) (E : XK), Room k A → Env0 P w K mg base A outer s H → BindsTo s fd args (ps.zip us) → Vals vs us → sp vs H Q E →
    codeAny (model P w) A (.call (.ref f) args) (CR CX outer P w H s Q E) s
theorem FnOk.mono {P : Program} {w : World} {K : PySem.W.Frag} {mg : Str → Option Value} {base : Heap} {CX : CXT} {j k : Nat} {f : Addr} {fd : FuncData} {ps : List Str} {sp : Sp} (F : FnOk P w K mg base CX j f fd ps sp) (h : j ≤ k) :
    FnOk P w K mg base CX k f fd ps sp := ⟨F.len, fun A outer s H args us vs Q E hr => F.run A outer s H args us vs Q E (hr.mono h)⟩
section
variable {X : Cx} {pins : List (Addr × Obj)} {σ : St} {H : Hp} {s s' : Shared}
/-- from a body: what a callee wants -/
theorem Inv.env0 (I : Inv X pins σ H s) : Env0 X.prog X.w X.K X.mg X.base X.A X.stack s H :=
  ⟨I.ok.frames, I.ok.mod, I.bs, Nat.le_trans I.ok.bsz I.sz, I.stack, I.stkFree, I.hok, I.bare⟩
/-- behind a call -/
theorem Inv.after {Q : VK} {u : Value} (I : Inv X pins σ H s) (h : CE X.stack X.prog X.w H s Q u s') : EP X pins σ Q u s' := by
  obtain ⟨v, H', os, bare, un, hok, r, q⟩ := h
  obtain ⟨hh, g, d, t, os'⟩ := s'
  obtain rfl : os' = s.os := os
  exact ⟨v, H', I.call (h' := hh) (g' := g) (d' := d) (t' := t) (ch := []) un hok bare (fun b z => absurd z (by simp)), r, q⟩
end

/-! ### calls -/
/-- f(..): the written arguments, then the defaults dvs; E: what is wanted of an exception -/
noncomputable def tCall (sp : Sp) (dvs : List V) (E : XK) (t : TA) : TE := fun σ H Q => t σ H fun vs H1 => sp (vs ++ dvs) H1 Q E
/-- how the parameters are bound: us the positional arguments, kw the keywords' values by name, ds the defaults that fill up -/
noncomputable def Binds (K : PySem.W.Frag) (fd : FuncData) (ps : List Str) (ds : List Value) : Prop :=
  ∀ (s : Shared) (us : List Value), K.In s.heap → (us ++ ds).length = ps.length → BindsTo s fd ⟨us, []⟩ (ps.zip (us ++ ds))
/-- every parameter is given -/
theorem Binds.all {K : PySem.W.Frag} {fd : FuncData} {ps : List Str} (h : ∀ us : List Value, us.length = ps.length → bindArgs fd ⟨us, []⟩ = pure (ps.zip us)) : Binds K fd ps [] := fun s us _ hl => by
  rw [List.append_nil] at hl ⊢
  exact .of_eq (h us hl)

/-- an exception of a callee reaches what this body wants of exceptions -/
noncomputable def Passes (CX : CXT) (X : Cx) (E : XK) : Prop := ∀ (pins : List (Addr × Obj)) (σ : St) (H : Hp) (s : Shared) (e : Value) (s' : Shared), Inv X pins σ H s → CX X.stack H s E e s' → X.xe e s'

section
variable {X : Cx} {CX : CXT} {k : Nat} {f C : Addr} {fd : FuncData} {ps : List Str} {sp : Sp} {dvs : List V} {ds : List Value} {E : XK} {x m : Str} {p pos apos : Pos} {e o : Expr} {es : List Expr} {ta : TE} {t : TA}

/-- the callee runs -/
theorem run_fn {pins : List (Addr × Obj)} {σ : St} {H : Hp} {s : Shared} {Q : VK} {us : List Value} {vs : List V} (F : FnOk X.prog X.w X.K X.mg X.base CX k f fd ps sp) (hr : Room k X.A) (hb : Binds X.K fd ps ds) (hd : Vals dvs ds) (hx : Passes CX X E)
    (I : Inv X pins σ H s) (r : Vals vs us) (h : sp (vs ++ dvs) H Q E) : wpAny (model X.prog X.w) X.A (call (.ref f) us) (EP X pins σ Q) X.xe s := by
  have r2 : Vals (vs ++ dvs) (us ++ ds) := r.append hd
  have hl : (us ++ ds).length = ps.length := by rw [← r2.length]; exact F.len _ _ _ _ h
  refine wpAny_call (codeAny_mono (F.run X.A X.stack s H ⟨us, []⟩ (us ++ ds) (vs ++ dvs) Q E hr I.env0 (hb s us I.kIn hl) r2 h) fun r s' hq => ?_)
  cases r with
  | error e => exact hx pins σ H s e s' I hq
  | ok fl =>
    cases fl with
    | ret u => exact I.after hq
    | next => exact False.elim hq
    | brk => exact False.elim hq
    | cont => exact False.elim hq

theorem pe_call (F : FnOk X.prog X.w X.K X.mg X.base CX k f fd ps sp) (hr : Room k X.A) (hg : Gl X x) (hm : X.mg x = some (.ref f)) (hk : PySem.W.keepIn X.K (.ref f) = true) (hb : Binds X.K fd ps ds) (hd : Vals dvs ds) (hx : Passes CX X E)
    (ha : PA X (e :: es) t) (hdb : (x == ("__debug__" : Str)) = false := by decide) (he : starEach (e :: es) X.env = (false, eval e X.env) :: starEach es X.env := by rfl) (hpl : (backTo pos (starEach es X.env)).any (·.1) = false := by rfl) :
    PE X (.Call (.Name x p) (e :: es) [] pos) (tCall sp dvs E t) := by
  intro pins s σ H Q I h
  refine wpAny_Call_Name_kw (ld_glob I hg hm ?_ hdb)
  refine PySem.W.callWith_K (h₀ := X.base) I.ok.mod.kin hk (thn (ha pos pins s σ H _ I h) fun us s1 ⟨vs, H1, I1, r, q⟩ => ⟨I1.kIn, ?_⟩) he hpl
  exact run_fn F hr hb hd hx I1 r q
end

/-! ### keywords -/
section
variable {X : Cx} {CX : CXT} {k : Nat} {f C : Addr} {fd : FuncData} {ps ks : List Str} {sp : Sp} {E : XK} {x m : Str} {p pos apos kpos : Pos} {e o : Expr} {es : List Expr} {kws : List Keyword} {te ta : TE} {t tk : TA} {nm : Option Str}
variable {g : List Value → List Value → List Value} {gV : List V → List V → List V}
end

/-! ### a def's body keeps its promise -/
/-- names: the parameters first -/
structure FnScope (N P : List Str) (sc : Scope) : Prop where
  kind : sc.kind = .function
  co : sc.isCoroutine = false
  gen : sc.isGenerator = false
  nd : N.Nodup
  pre : N.take P.length = P
  par : ∀ x ∈ P, sc.names.lookup x = some .local ∨ sc.names.lookup x = some .cell
  nofree : ∀ y ∈ sc.names, y.2 ≠ .free

theorem bindL_out {kindOf : Str → Option NameKind} {x : Str} : ∀ {binds : List (Str × Value)} {m : Str → Option Value}, (∀ v, (x, v) ∉ binds) → bindL kindOf binds m x = m x
  | [], _, _ => rfl
  | (n, v) :: r, m, h => by
    unfold bindL
    rw [bindL_out fun w hw => h w (List.mem_cons_of_mem _ hw)]
    split
    · have : x ≠ n := by rintro rfl; exact h v List.mem_cons_self
      simp [this]
    · rfl
theorem bindC_out {kindOf : Str → Option NameKind} {x : Str} : ∀ {binds : List (Str × Value)} {m : Str → Option Value}, (∀ v, (x, v) ∉ binds) → bindC kindOf binds m x = m x
  | [], _, _ => rfl
  | (n, v) :: r, m, h => by
    unfold bindC
    rw [bindC_out fun w hw => h w (List.mem_cons_of_mem _ hw)]
    split
    · rfl
    · have : x ≠ n := by rintro rfl; exact h v List.mem_cons_self
      simp [this]
theorem bindL_get {kindOf : Str → Option NameKind} {x : Str} {v : Value} : ∀ {P : List Str} {vs : List Value} {i : Nat} {m : Str → Option Value}, P.Nodup → P[i]? = some x → vs[i]? = some v → kindOf x = some .local →
    bindL kindOf (P.zip vs) m x = some v
  | [], _, _, _, _, h, _, _ => by simp at h
  | _ :: _, [], _, _, _, _, h, _ => by simp at h
  | p :: P, w :: vs, 0, m, nd, h1, h2, hk => by
    simp at h1 h2; subst h1; subst h2
    show bindL kindOf ((p, w) :: P.zip vs) m p = _
    unfold bindL
    rw [bindL_out fun v hv => (List.nodup_cons.mp nd).1 (List.of_mem_zip hv).1, if_pos hk]
    simp
  | p :: P, w :: vs, i + 1, m, nd, h1, h2, hk => by
    show bindL kindOf ((p, w) :: P.zip vs) m x = _
    unfold bindL
    exact bindL_get (i := i) (List.nodup_cons.mp nd).2 (by simpa using h1) (by simpa using h2) hk
theorem bindC_get {kindOf : Str → Option NameKind} {x : Str} {v : Value} : ∀ {P : List Str} {vs : List Value} {i : Nat} {m : Str → Option Value}, P.Nodup → P[i]? = some x → vs[i]? = some v → kindOf x ≠ some .local →
    bindC kindOf (P.zip vs) m x = some v
  | [], _, _, _, _, h, _, _ => by simp at h
  | _ :: _, [], _, _, _, _, h, _ => by simp at h
  | p :: P, w :: vs, 0, m, nd, h1, h2, hk => by
    simp at h1 h2; subst h1; subst h2
    show bindC kindOf ((p, w) :: P.zip vs) m p = _
    unfold bindC
    rw [bindC_out fun v hv => (List.nodup_cons.mp nd).1 (List.of_mem_zip hv).1, if_neg hk]
    simp
  | p :: P, w :: vs, i + 1, m, nd, h1, h2, hk => by
    show bindC kindOf ((p, w) :: P.zip vs) m x = _
    unfold bindC
    exact bindC_get (i := i) (List.nodup_cons.mp nd).2 (by simpa using h1) (by simpa using h2) hk

/-- the names' values at the entry -/
noncomputable def start (N : List Str) (vs : List V) : St := vs.map some ++ List.replicate (N.length - vs.length) none

/-- the context of a def's body, at its entry; an exception leaves the frame, then lies as CX says -/
noncomputable def cxOf (CX : CXT) (P : Program) (w : World) (K : PySem.W.Frag) (mg : Str → Option Value) (base : Heap) (N : List Str) (qual : Str) (scope : Scope) (f : Addr) (cd : Value) (A : Around) (outer : List Env) (s : Shared) (H : Hp) (E : XK) : Cx where
  prog := P
  w := w
  K := K
  mg := mg
  base := base
  A := A.deeper (envOfC qual scope s.heap.objs.size f cd)
  N := N
  s₀ := s
  H₀ := H
  env := envOfC qual scope s.heap.objs.size f cd
  outer := outer
  stack := envOfC qual scope s.heap.objs.size f cd :: outer
  ex := []
  calm := true
  fn := fun _ => true
  pn := []
  xe := fun e s' => wpAny (model P w) (A.deeper (envOfC qual scope s.heap.objs.size f cd)) (leaving (envOfC qual scope s.heap.objs.size f cd) e) (fun _ s'' => CX outer H s E e s'') (fun e' s'' => CX outer H s E e' s'') s'

theorem cell_has {sc : Scope} {n : Nat} {x : Str} (h : sc.names.lookup x = some .cell) : ∃ c, (cellsFrom n sc.names []).lookup x = some c := by
  have q := PySem.W.cellsFrom_some sc.names n [] (.inl h)
  exact Option.isSome_iff_exists.mp q

theorem inv_start {CX : CXT} {P : Program} {w : World} {K : PySem.W.Frag} {mg : Str → Option Value} {base : Heap} {N ps : List Str} {qual : Str} {scope : Scope} {f : Addr} {cd : Value} {A : Around} {outer : List Env} {s s1 : Shared} {H : Hp} {E : XK} {us : List Value} {vs : List V}
    (S : FnScope N ps scope) (hd : A.handled = none) (e0 : Env0 P w K mg base A outer s H) (hl : vs.length = ps.length) (r : Vals vs us)
    (x : InCallC s s.heap.objs.size (bindL (envOfC qual scope s.heap.objs.size f cd).kindOf (ps.zip us) fun _ => none) (cellsFrom (s.heap.objs.size + 1) scope.names []) (bindC (envOfC qual scope s.heap.objs.size f cd).kindOf (ps.zip us) fun _ => none) s1) :
    Inv (cxOf CX P w K mg base N qual scope f cd A outer s H E) [] (start N vs) H s1 := by
  have hpl : ps.length ≤ N.length := by have := congrArg List.length S.pre; rw [List.length_take] at this; omega
  obtain ⟨h1, tk, rfl, hk⟩ := x.done
  have noA : ∀ b : Addr, b ∉ (cxOf CX P w K mg base N qual scope f cd A outer s H E).ex := fun b z => absurd (show b ∈ ([] : List Addr) from z) (by simp)
  refine ⟨⟨e0.mod, S.kind, rfl, rfl, Nat.le_refl _, fun y z c h1 h2 => ?_, fun y hy => ?_, fun y c _ h => ?_, fun _ => hd, Around.frames_deeper e0.frames, .inr ⟨rfl, rfl⟩, fun b z => absurd z (noA b), e0.bs, e0.bsz, fun b _ _ => noA b, fun b z => absurd z (noA b), e0.funs, e0.frf⟩,
    rfl, e0.bare, Un.kept hk, ⟨_, x.toInCall.ns, fun i y v h1 h2 h3 => ?_⟩, fun y c h => ⟨_, x.cell y c h⟩, e0.hok.fresh (Nat.le_refl _), fun y c h => ?_, fun p hp => absurd (show p ∈ ([] : List (Addr × Obj)) from hp) (by simp), e0.hok.kept hk, ?_⟩
  · exact name_of_addr x.apart (PySem.mem_of_lookup h1) (PySem.mem_of_lookup h2)
  · have hy : scope.names.lookup y = some .cell ∨ scope.names.lookup y = some .free := hy
    rcases hy with hy | hy
    · exact cell_has hy
    · exact absurd rfl (S.nofree _ (PySem.mem_of_lookup hy))
  · exact Nat.le_of_lt (x.above y c (PySem.mem_of_lookup h))
  · have hi : i < vs.length := by
      unfold start at h2
      by_cases hi : i < vs.length
      · exact hi
      · rw [List.getElem?_append_right (by simpa using hi)] at h2
        rw [List.getElem?_replicate] at h2
        split at h2 <;> cases h2
    have ha : vs[i]? = some v := by
      unfold start at h2
      rw [List.getElem?_append_left (by simpa using hi), List.getElem?_map] at h2
      cases e : vs[i]? with
      | none => rw [e] at h2; cases h2
      | some a => rw [e] at h2; cases h2; rfl
    obtain ⟨u, hu, rv⟩ := r.get ha
    have hp : ps[i]? = some y := by
      rw [← S.pre, List.getElem?_take_of_lt (by omega)]; exact h1
    have ndP : ps.Nodup := by rw [← S.pre]; exact S.nd.sublist (List.take_sublist _ _)
    refine ⟨u, rv, ?_⟩
    rcases S.par y (List.mem_of_getElem? hp) with k | k
    · exact .inl ⟨k, bindL_get ndP hp hu k⟩
    · obtain ⟨c, e⟩ := cell_has (n := s.heap.objs.size + 1) k
      refine .inr ⟨.inl k, c, e, ?_⟩
      have q := x.cell y c e
      rw [bindC_get ndP hp hu (by show scope.names.lookup y ≠ _; rw [k]; decide)] at q
      exact q
  · exact e0.hok.fresh (Nat.le_of_lt (x.above y c (PySem.mem_of_lookup h)))
  · unfold start
    show _ = N.length
    rw [List.length_append, List.length_map, List.length_replicate]
    omega

/-- THE RULE: a def (or a method) of the text, by its body. The body's reading t is chosen for each entry; it is run at the parameters' values -/
theorem fn_of {CX : CXT} {P : Program} {w : World} {K : PySem.W.Frag} {mg : Str → Option Value} {base : Heap} {k : Nat} {f : Addr} {name qual : Str} {params : Arguments} {body : List Stmt} {scope : Scope} {dV kV doc pm cdv ct oc : Value} {an od : Option Addr}
    {osl : Array (Option Value)} {N ps : List Str} {sp : Sp} (lk : K.lookup f = some ⟨oc, od, .func (PySem.W.fnOf name qual params body scope dV kV doc pm an cdv ct), osl⟩) (hcd : PySem.W.codeIn K cdv qual = true) (S : FnScope N ps scope)
    (len : ∀ vs H Q E, sp vs H Q E → vs.length = ps.length)
    (hbody : ∀ (A : Around) (outer : List Env) (s : Shared) (H : Hp) (vs : List V) (Q : VK) (E : XK), Room k (A.deeper (envOfC qual scope s.heap.objs.size f cdv)) → sp vs H Q E →
      ∃ t, PSs (cxOf CX P w K mg base N qual scope f cdv A outer s H E) body t ∧ t { nx := fun _ H' => Q .non H', rt := Q } (start N vs) H) :
    FnOk P w K mg base CX (k + 1) f (PySem.W.fnOf name qual params body scope dV kV doc pm an cdv ct) ps sp := by
  refine ⟨len, fun A outer s H args us vs Q E hr e0 hb r hsp => ?_⟩
  have hl := len _ _ _ _ hsp
  have KX : K.In s.heap := e0.mod.kin.keeps fun b o e => (e0.bs b o e).1
  have lim : s.heap.NoLimit := e0.mod.nolimit.keeps fun b o e => (e0.bs b o e).1
  have hkind : ∀ y ∈ ps.zip us, scope.names.lookup y.1 = some .local ∨ (scope.names.lookup y.1 = some .cell ∧ ((cellsFrom (s.heap.objs.size + 1) scope.names []).lookup y.1).isSome = true) := fun ⟨n, v⟩ hy => by
    rcases S.par n (List.of_mem_zip hy).1 with q | q
    · exact .inl q
    · exact .inr ⟨q, PySem.W.cellsFrom_some _ _ _ (.inl q)⟩
  refine codeAny_call_function hr.depth (KX _ _ lk) rfl S.co S.gen rfl (PySem.W.codeRec_of KX hcd) (hb _ _ _ _ ?_)
  refine wpAny_newFunctionEnv_cells S.kind hkind fun env he s1 x => ?_
  subst he
  refine ⟨lim.keeps x.toInCall.keep, codeAny_func ?_⟩
  obtain ⟨t, ht, hq⟩ := hbody A outer s H vs Q E (hr.deeper _) hsp
  have I : Inv (cxOf CX P w K mg base N qual scope f cdv A outer s H E) [] (start N vs) H s1 := inv_start S hr.hd e0 hl r x
  refine wpAny_mono (ht [] s1 (start N vs) H _ I hq) (fun fl s' hs => ?_) fun e s' hs => hs
  have fin : ∀ {σ' : St} {H' : Hp} {v : V} {u : Value}, Inv (cxOf CX P w K mg base N qual scope f cdv A outer s H E) [] σ' H' s' → RelV v u → Q v H' → CE outer P w H s Q u s' :=
    fun {σ' H' v u} J rv q => ⟨v, H', J.os, J.bare, J.base, J.hok, rv, q⟩
  cases fl with
  | ret u =>
    obtain ⟨v, σ', H', J, rv, q⟩ := hs
    exact fin J rv q
  | next =>
    obtain ⟨σ', H', J, q⟩ := hs
    exact fin (v := V.non) (u := Value.none) J rfl q
  | brk =>
    obtain ⟨_, _, _, q⟩ := hs
    exact False.elim q
  | cont =>
    obtain ⟨_, _, _, q⟩ := hs
    exact False.elim q
end L2

namespace L2
open PySem PySem.Spec PyProof.Rows
section
variable {X : Cx} {x : Str} {p pos : Pos} {e : Expr} {es : List Expr} {t : TA} {id T : String} {r : List V → Hp → VK → Prop}

noncomputable def tCB (r : List V → Hp → VK → Prop) (t : TA) : TE := fun σ H Q => t σ H fun vs H1 => r vs H1 Q
/-- f(e, ..), f a built-in function -/
theorem pe_callB (hc : CallR X (.builtin id) r) (hg : Gl X x) (hm : X.mg x = none) (hv : bootBuiltins x = some (.builtin id)) (ha : PA X (e :: es) t) (hn : x ≠ "__name__" := by decide) (hdb : (x == ("__debug__" : Str)) = false := by decide)
    (he : starEach (e :: es) X.env = (false, eval e X.env) :: starEach es X.env := by rfl) (hpl : (backTo pos (starEach es X.env)).any (·.1) = false := by rfl) : PE X (.Call (.Name x p) (e :: es) [] pos) (tCB r t) := by
  intro pins s σ H Q I h
  refine wpAny_Call_Name_kw (ld_blt I hg hm hv ?_ hn hdb)
  exact PyProof.Rows.callWith_builtin1 (thn (ha pos pins s σ H _ I h) fun us s1 ⟨vs, H1, I1, r1, q1⟩ => hc pins s1 σ H1 vs us Q I1 r1 q1) he hpl
/-- T(e, ..), T a built-in type -/
theorem pe_callTy (hc : CallR X (.type T) r) (hg : Gl X x) (hm : X.mg x = none) (hv : bootBuiltins x = some (.type T)) (ha : PA X (e :: es) t) (hn : x ≠ "__name__" := by decide) (hdb : (x == ("__debug__" : Str)) = false := by decide)
    (he : starEach (e :: es) X.env = (false, eval e X.env) :: starEach es X.env := by rfl) (hpl : (backTo pos (starEach es X.env)).any (·.1) = false := by rfl) : PE X (.Call (.Name x p) (e :: es) [] pos) (tCB r t) := by
  intro pins s σ H Q I h
  refine wpAny_Call_Name_kw (ld_blt I hg hm hv ?_ hn hdb)
  exact PyProof.Rows.callWith_type1 (thn (ha pos pins s σ H _ I h) fun us s1 ⟨vs, H1, I1, r1, q1⟩ => hc pins s1 σ H1 vs us Q I1 r1 q1) he hpl
end
end L2

namespace HT
open PySem PyProof.Rows

/-- t < u of tuples of ints -/
noncomputable def lexLt : List Int → List Int → Bool
  | [], [] => false
  | [], _ :: _ => true
  | _ :: _, [] => false
  | x :: xs, y :: ys => if x = y then lexLt xs ys else decide (x < y)
theorem lexLt_cons (x y : Int) (xs ys : List Int) : lexLt (x :: xs) (y :: ys) = if x = y then lexLt xs ys else decide (x < y) := rfl
theorem lexLt_nil_cons (y : Int) (ys : List Int) : lexLt [] (y :: ys) = true := rfl
theorem rcLt_int (A : Around) (s : Shared) (a : Int) (t : Tok) (c : Int) (u : Tok) (prog : Program) (w : World) (E : Value → Shared → Prop) (Q : Value → Shared → Prop) (h : Q (.bool (decide (a < c))) s) :
    wpAny (model prog w) A (richCompare .Lt (.int a t) (.int c u)) Q E s :=
  (PyProof.Rows.lt_int h : wpAny (model prog w) A (compareOp .Lt (.int a t) (.int c u)) Q E s)

section
open PySem.SeqAt
open PySem.AutoSeq1 (wpAny_loadPart')
open PySem.MeetsSeq PySem.MeetsSeq2 PySem.MeetsSeq3

end

section
variable {prog : Program} {w : World} {A : Around} {E : Value → Shared → Prop} {s : Shared}

/-- t + u, t not empty -/
theorem cat_tup {t b : Addr} {vs ws : List Value} {Q : Value → Shared → Prop} (ht : IsTup s.heap t vs.toArray) (hb : IsTup s.heap b ws.toArray) (hv : vs ≠ [])
    (h1 : ws = [] → Q (.ref t) s) (h2 : ws ≠ [] → Q (.ref s.heap.objs.size) { s with heap := s.heap.push { cls := .type "tuple", data := .seq (vs ++ ws).toArray } })
    (hsz : vs.length + ws.length ≤ sizeLine) : wpAny (model prog w) A (binaryOp .Add (.ref t) (.ref b)) Q E s := by
  obtain ⟨⟨cls, dd, data, sl⟩, ho, hc, n, hd⟩ := id ht
  obtain ⟨⟨cls2, dd2, data2, sl2⟩, ho2, hc2, n2, hd2⟩ := id hb
  simp only at hc hd hc2 hd2
  subst hc hd hc2 hd2
  have e : vs.toArray ++ ws.toArray = (vs ++ ws).toArray := by simp
  by_cases hw : ws = []
  · exact concat_meets ⟨_, ho, rfl⟩ ⟨_, ho2, rfl⟩ noFill_tuple_add seq_tuple_add PySem.F.slot_tuple_add PySem.F.entry_tuple_add (PySem.F.args_tuple_add_2 _ _)
      (tuple_addW1 t b vs.toArray ws.toArray n n2 dd dd2 sl sl2 (by simpa using hv) (by simp [hw])) ⟨ho, ho2, h1 hw⟩
  · refine concat_meets ⟨_, ho, rfl⟩ ⟨_, ho2, rfl⟩ noFill_tuple_add seq_tuple_add PySem.F.slot_tuple_add PySem.F.entry_tuple_add (PySem.F.args_tuple_add_2 _ _)
      (tuple_addW2 t b vs.toArray ws.toArray n n2 dd dd2 sl sl2 (by simpa using hv) (by simpa using hw) (by rw [List.size_toArray, List.size_toArray]; exact hsz)) ⟨ho, ho2, ?_⟩
    rw [e]
    exact h2 hw

/-! ### t[a:b], not the whole -/
/-- a slice's bound as a place among n (d where it is left out) -/
noncomputable def sIx (n d : Nat) : Option Int → Nat
  | none => d
  | some v => if v < 0 then (v + (n : Int)).toNat else min v.toNat n
theorem sIx_none (n d : Nat) : sIx n d none = d := rfl
theorem sIx_nat (n d k : Nat) : sIx n d (some (k : Int)) = min k n := by
  show (if (k : Int) < 0 then ((k : Int) + (n : Int)).toNat else min (k : Int).toNat n) = min k n
  rw [if_neg (by omega), Int.toNat_natCast]
end
end HT

namespace L2
open PySem PySem.Spec PyProof.Rows

/-! ### the parts of a slice -/
noncomputable abbrev TO := St → Hp → (Option Int → Hp → Prop) → Prop
/-- a slice's part (left out, or an int) -/
noncomputable def PO (X : Cx) (e : Option Expr) (t : TO) : Prop :=
  ∀ (pins : List (Addr × Obj)) (s : Shared) (σ : St) (H : Hp) (Q : Option Int → Hp → Prop), Inv X pins σ H s → t σ H Q →
    wpAny (model X.prog X.w) X.A (evalPart e X.env) (fun u s' => ∃ o H', Inv X pins σ H' s' ∧ IsPart u o ∧ Q o H') X.xe s
noncomputable def tNoPart : TO := fun _ H Q => Q none H
noncomputable def tPart (t : TE) : TO := fun σ H Q => t σ H fun x H1 => ∃ i, x = .int i ∧ Q (some i) H1

theorem intsAre_of {ns : List Int} : ∀ {us : List Value}, Vals (ns.map V.int) us → IntsAre us ns := by
  induction ns with
  | nil => intro us r; rw [List.map_nil] at r; cases r; exact .nil
  | cons n ns ih =>
    intro us r
    rw [List.map_cons] at r
    cases r with
    | cons r1 r2 =>
      obtain ⟨t, e⟩ := r1
      subst e
      exact .cons n t (ih r2)

section
variable {X : Cx} {e : Expr} {te : TE} {lo hi : Option Expr} {tl th : TO} {pos p2 : Pos}

theorem po_none : PO X none tNoPart := by
  intro pins s σ H Q I h
  rw [evalPart_none]
  exact wpAny_pure ⟨none, H, I, .none, h⟩
theorem po_some (h : PE X e te) : PO X (some e) (tPart te) := by
  intro pins s σ H Q I hw
  rw [evalPart_some]
  refine thn (h pins s σ H _ I hw) fun u s1 ⟨x, H1, I1, r1, q1⟩ => ?_
  obtain ⟨i, rfl, q⟩ := q1
  obtain ⟨t, rfl⟩ := r1
  exact ⟨some i, H1, I1, .int i t, q⟩

/-- what a slice of a value is, by values: the slice object stands at sl -/
noncomputable def SlR (X : Cx) (r : V → Option Int → Option Int → Hp → VK → Prop) : Prop :=
  ∀ (pins : List (Addr × Obj)) (s : Shared) (σ : St) (H : Hp) (x : V) (v vl vu : Value) (lo hi : Option Int) (sl : Addr) (Q : VK), Inv X pins σ H s → RelV x v → s.heap.IsSliceOf sl vl vu .none → IsPart vl lo → IsPart vu hi → r x lo hi H Q →
    ∃ T id, typeLookup (.type T) "__getitem__" = pure (some (.builtin id)) ∧ s.TypeIs v T ∧ wpAny (model X.prog X.w) X.A (getItem v (.ref sl)) (EP X pins σ Q) X.xe s
noncomputable def tSl (r : V → Option Int → Option Int → Hp → VK → Prop) (te : TE) (tl th : TO) : TE := fun σ H Q => te σ H fun x H1 => tl σ H1 fun l H2 => th σ H2 fun u H3 => r x l u H3 Q
/-- a[lo:hi], any a -/
theorem pe_slice {r : V → Option Int → Option Int → Hp → VK → Prop} (hr : SlR X r) (he : PE X e te) (hl : PO X lo tl) (hu : PO X hi th) : PE X (.Subscript e (.Slice lo hi none p2) pos) (tSl r te tl th) := by
  intro pins s σ H Q I h
  refine Subscript_ (thn (he pins s σ H _ I h) fun v s1 ⟨x, H1, I1, r1, q1⟩ => ?_)
  refine wpAny_Slice (thn (hl pins s1 σ H1 _ I1 q1) fun vl s2 ⟨l, H2, I2, pl, q2⟩ => thn (hu pins s2 σ H2 _ I2 q2) fun vu s3 ⟨u, H3, I3, pu, q3⟩ => ?_)
  rw [evalPart_none]
  refine wpAny_pure ?_
  have I4 : Inv X pins σ H3 { s3 with heap := s3.heap.push { cls := .type "slice", data := .fields #[vl, vu, .none] } } := I3.kept (t' := s3.toks) fun b ob q => Heap.get?_push_of_some _ q
  obtain ⟨T, id, hT, ht, hg⟩ := hr pins { s3 with heap := s3.heap.push { cls := .type "slice", data := .fields #[vl, vu, .none] } } σ H3 x v vl vu l u s3.heap.objs.size Q I4 r1 (Heap.IsSliceOf.new ..) pl pu q3
  show wpAny (model X.prog X.w) X.A (subscriptTail e (.Slice lo hi none p2) v (.ref s3.heap.objs.size)) (EP X pins σ Q) X.xe { s3 with heap := s3.heap.push { cls := .type "slice", data := .fields #[vl, vu, .none] } }
  exact tail_any (ops := [.ref s3.heap.objs.size, v]) ht hT hg (by with_unfolding_all rfl)

/-- the items of xs[lo:hi] -/
noncomputable def cutV (xs : List V) (lo hi : Option Int) : List V := (xs.drop (HT.sIx xs.length 0 lo)).take (HT.sIx xs.length xs.length hi - HT.sIx xs.length 0 lo)
theorem cutV_length (xs : List V) (lo hi : Option Int) : (cutV xs lo hi).length ≤ xs.length := by
  unfold cutV
  rw [List.length_take, List.length_drop]
  omega
/-! ### t < u, t + u -/
/-- t + u, t not empty: u empty gives t itself -/
noncomputable def rCatT (K : PySem.W.Frag) : R2 := fun x y H Q => ∃ a b xs ys, x = .ref a ∧ y = .ref b ∧ SqT K H a xs ∧ SqT K H b ys ∧ xs ≠ [] ∧ xs.length + ys.length ≤ sizeLine ∧
  (ys = [] → Q (.ref a) H) ∧ (ys ≠ [] → ∀ p, H p = none → Q (.ref p) (upd H p (.tup (xs ++ ys))))
theorem Vals.nil_iff {xs : List V} {us : List Value} (r : Vals xs us) : us = [] ↔ xs = [] := by
  cases r with
  | nil => simp
  | cons _ _ => simp
theorem op_catT : OpR X (binaryOp .Add) (rCatT X.K) := by
  intro pins s σ H x y v u Q I rx ry h
  obtain ⟨a, b, xs, ys, rfl, rfl, ha, hb, hx, hz, q1, q2⟩ := h
  cases rx
  cases ry
  obtain ⟨its, r1, p1, _⟩ := I.tuple ha
  obtain ⟨its2, r2, p2, _⟩ := I.tuple hb
  refine HT.cat_tup p1 p2 (fun z => hx (r1.nil_iff.mp z)) (fun z => ⟨.ref a, H, I, rfl, q1 (r2.nil_iff.mp z)⟩) (fun z => ?_) (by rw [← r1.length, ← r2.length]; exact hz)
  refine ⟨.ref s.heap.objs.size, _, I.laid (t' := s.toks) (o := .tup (xs ++ ys)) (fun b ob q => Heap.get?_push_of_some _ q) (Nat.le_refl _) ?_, rfl, q2 (fun w => z (r2.nil_iff.mpr w)) _ (I.hok.fresh (Nat.le_refl _))⟩
  exact ⟨by rw [List.length_append]; exact hz, _, r1.append r2, IsTup.new _ _⟩
end
end L2

namespace L2
open PySem PySem.Spec PyProof.Rows

/-! ### places -/
/-- the place that an index of any sign means -/
noncomputable def ixN (n : Nat) (i : Int) : Option Nat := if 0 ≤ i then (if i < n then some i.toNat else none) else if -(n : Int) ≤ i then some (i + n).toNat else none
noncomputable def atI {α : Type} (xs : List α) (i : Int) : Option α := (ixN xs.length i).bind fun j => xs[j]?
theorem ixN_seq {n : Nat} {i : Int} {j : Nat} (h : ixN n i = some j) : seqIndex? i n = some j ∧ j < n ∧ -(n : Int) ≤ i ∧ i < n := by
  unfold ixN at h
  by_cases h0 : 0 ≤ i
  · rw [if_pos h0] at h
    by_cases h1 : i < n
    · rw [if_pos h1] at h
      have e : i.toNat = j := Option.some.inj h
      exact ⟨by rw [seqIndex_of h0 h1, e], by omega, by omega, h1⟩
    · rw [if_neg h1] at h; cases h
  · rw [if_neg h0] at h
    by_cases h1 : -(n : Int) ≤ i
    · rw [if_pos h1] at h
      have e : (i + n).toNat = j := Option.some.inj h
      exact ⟨by rw [seqIndex_neg (by omega) h1, e], by omega, h1, by omega⟩
    · rw [if_neg h1] at h; cases h
theorem atI_get {α : Type} {xs : List α} {i : Int} {v : α} (h : atI xs i = some v) : ∃ j, seqIndex? i xs.length = some j ∧ xs[j]? = some v ∧ j < xs.length ∧ -(xs.length : Int) ≤ i ∧ i < xs.length := by
  unfold atI at h
  cases e : ixN xs.length i with
  | none => rw [e] at h; cases h
  | some j =>
    rw [e] at h
    obtain ⟨h1, h2, h3, h4⟩ := ixN_seq e
    exact ⟨j, h1, h, h2, h3, h4⟩
theorem atI_nat {α : Type} {xs : List α} {j : Nat} {v : α} (h : xs[j]? = some v) : atI xs (j : Int) = some v := by
  have hj : j < xs.length := (List.getElem?_eq_some_iff.mp h).1
  have e : ixN xs.length (j : Int) = some j := by
    unfold ixN
    rw [if_pos (by omega), if_pos (by omega)]; simp
  unfold atI; rw [e]; exact h
theorem atI_last {α : Type} (xs : List α) (v : α) : atI (xs ++ [v]) (-1) = some v := by
  have hl : (xs ++ [v]).length = xs.length + 1 := by simp
  have e : ixN (xs ++ [v]).length (-1) = some xs.length := by
    unfold ixN
    rw [hl, if_neg (by decide), if_pos (by omega)]
    congr 1
    omega
  unfold atI
  rw [e]
  show (xs ++ [v])[xs.length]? = some v
  simp

/-! ### what may be subscripted -/
/-- what stands as an index of a plain subscript -/
noncomputable def PlainIx (b : Expr) : Prop := ∀ o i, subscripted b false o i = operate [o, i] (getItem o i)
/-- a subscript by values -/
noncomputable def IxR (X : Cx) (r : R2) : Prop :=
  ∀ (value slice : Expr) (pins : List (Addr × Obj)) (s : Shared) (σ : St) (H : Hp) (x y : V) (v u : Value) (Q : VK), Inv X pins σ H s → RelV x v → RelV y u → r x y H Q →
    subscripted slice false v u = operate [v, u] (getItem v u) → wpAny (model X.prog X.w) X.A (subscriptTail value slice v u) (EP X pins σ Q) X.xe s
/-- a call of a builtin's method by values: the receiver, the arguments -/
noncomputable def MtR (X : Cx) (id : String) (r : V → List V → Hp → VK → Prop) : Prop :=
  ∀ (pins : List (Addr × Obj)) (s : Shared) (σ : St) (H : Hp) (x : V) (xs : List V) (v : Value) (us : List Value) (Q : VK), Inv X pins σ H s → RelV x v → Vals xs us → r x xs H Q →
    wpAny (model X.prog X.w) X.A (call (.builtin id) (v :: us)) (EP X pins σ Q) X.xe s
section
variable {X : Cx} {a b : Expr} {ta tb : TE} {pos : Pos}
/-- a[b] -/
theorem pe_ix {r : R2} (hr : IxR X r) (ha : PE X a ta) (hb : PE X b tb) (hs : PlainIx b) : PE X (.Subscript a b pos) (tOp r ta tb) := by
  intro pins s σ H Q I h
  exact Subscript_ (binT ha hb I h fun v u s2 x y H2 I2 rx ry q => hr a b pins s2 σ H2 x y v u Q I2 rx ry q (hs _ _))

noncomputable def rIxL (K : PySem.W.Frag) : R2 := fun x y H Q => ∃ p xs i v, x = .ref p ∧ y = .int i ∧ SqL K H p xs ∧ atI xs i = some v ∧ Q v H
noncomputable def rIxT (K : PySem.W.Frag) : R2 := fun x y H Q => ∃ p xs i v, x = .ref p ∧ y = .int i ∧ SqT K H p xs ∧ atI xs i = some v ∧ Q v H
theorem ix_list : IxR X (rIxL X.K) := by
  intro value slice pins s σ H x y v u Q I rx ry h hs
  obtain ⟨p, xs, i, z, rfl, rfl, hq, he, q⟩ := h
  cases rx
  obtain ⟨t, rfl⟩ := ry
  obtain ⟨its, r, pl, hz⟩ := I.list hq
  obtain ⟨j, h1, h2, h3, h4, h5⟩ := atI_get he
  obtain ⟨w, ew, rw'⟩ := r.get h2
  have hl := r.length
  have hn := line63
  have fin : EP X pins σ Q w s := ⟨z, H, I, rw', q⟩
  by_cases h0 : 0 ≤ i
  · have hj : i.toNat = j := by
      rw [seqIndex_of h0 h5] at h1
      exact Option.some.inj h1
    exact item_listR pl.isList h0 (by omega) (by rw [hj]; simpa using ew) fin hs
  · have hj : (i + (its.toArray.size : Int)).toNat = j := by
      rw [seqIndex_neg (by omega) h4] at h1
      rw [List.size_toArray, ← hl]
      exact Option.some.inj h1
    exact subscriptTail_builtinR (x := w) pl.isList.typeIs slot_list_getitem.lookup
      (wpAny_getItem_list_neg (Q := fun r s' => r = w ∧ EP X pins σ Q r s') pl.isList (by omega) (by rw [List.size_toArray] <;> omega) (by omega) (by rw [hj]; simpa using ew) ⟨rfl, fin⟩) hs
theorem ix_tup : IxR X (rIxT X.K) := by
  intro value slice pins s σ H x y v u Q I rx ry h hs
  obtain ⟨p, xs, i, z, rfl, rfl, hq, he, q⟩ := h
  cases rx
  obtain ⟨t, rfl⟩ := ry
  obtain ⟨its, r, pl, hz⟩ := I.tuple hq
  obtain ⟨j, h1, h2, h3, h4, h5⟩ := atI_get he
  obtain ⟨w, ew, rw'⟩ := r.get h2
  have hl := r.length
  have hn := line63
  have fin : EP X pins σ Q w s := ⟨z, H, I, rw', q⟩
  exact subscriptTail_builtinR (x := w) pl.typeIs slot_tuple_getitem.lookup
    (getItem_tuple (j := j) (Q := fun r s' => r = w ∧ EP X pins σ Q r s') pl (by omega) (by omega) (by rw [List.size_toArray, ← hl]; exact h1) (by simpa using ew) ⟨rfl, fin⟩) hs
/-! ### xs[i] = v, any sign -/
/-! ### slices -/
theorem slice_bounds (lo hi : Option Int) (n : Nat) : (sliceBounds lo hi none n).1 = ((HT.sIx n 0 lo : Nat) : Int) ∧ (sliceBounds lo hi none n).2.1 = ((HT.sIx n n hi : Nat) : Int) ∧ (sliceBounds lo hi none n).2.2 = 1 := by
  refine ⟨?_, ?_, rfl⟩
  · cases lo with
    | none => simp [sliceBounds, HT.sIx]
    | some i =>
      simp only [sliceBounds, HT.sIx, Option.getD_none, show (1 : Int) > 0 by decide, if_true]
      by_cases h : i < 0
      · simp only [h, if_true] <;> omega
      · simp only [h, if_false] <;> omega
  · cases hi with
    | none => simp [sliceBounds, HT.sIx]
    | some i =>
      simp only [sliceBounds, HT.sIx, Option.getD_none, show (1 : Int) > 0 by decide, if_true]
      by_cases h : i < 0
      · simp only [h, if_true] <;> omega
      · simp only [h, if_false] <;> omega
theorem slicePick_cut (its : List Value) (lo hi : Option Int) : slicePick its.toArray lo hi none = ((its.drop (HT.sIx its.length 0 lo)).take (HT.sIx its.length its.length hi - HT.sIx its.length 0 lo)).toArray := by
  obtain ⟨h1, h2, h3⟩ := slice_bounds lo hi its.toArray.size
  unfold slicePick
  rw [h1, h2, h3]
  simp only [sliceRange_one, pick_run, List.size_toArray] <;> rfl
/-- xs[lo:hi] of a list: a new list -/
noncomputable def rSlL (K : PySem.W.Frag) : V → Option Int → Option Int → Hp → VK → Prop := fun x lo hi H Q => ∃ a xs, x = .ref a ∧ SqL K H a xs ∧ ∀ p, H p = none → Q (.ref p) (upd H p (.lst (cutV xs lo hi)))
theorem sl_list : SlR X (rSlL X.K) := by
  intro pins s σ H x v vl vu lo hi sl Q I rx hs pl pu h
  obtain ⟨a, xs, rfl, hx, q⟩ := h
  cases rx
  obtain ⟨its, r, ht, hz⟩ := I.list hx
  have hlen := r.length
  refine ⟨"list", _, slot_list_getitem.lookup, ht.isList.typeIs, ?_⟩
  refine wpAny_getItem_list_slice ht.isList hs pl pu .none (by simp) ?_ (by rw [List.size_toArray] <;> omega)
  rw [slicePick_cut, ← hlen]
  refine ⟨.ref s.heap.objs.size, _, I.laid (t' := s.toks) (o := .lst (cutV xs lo hi)) (fun b ob q => Heap.get?_push_of_some _ q) (Nat.le_refl _) ?_, rfl, q _ (I.hok.fresh (Nat.le_refl _))⟩
  exact ⟨Nat.le_trans (cutV_length xs lo hi) hz, _, 0, (r.drop (HT.sIx xs.length 0 lo)).take (HT.sIx xs.length xs.length hi - HT.sIx xs.length 0 lo), Heap.get?_push_size _ rfl⟩

/-! ### in, not in: flat items -/
noncomputable def flatV : V → Bool
  | .non => true
  | .bl _ => true
  | .int _ => true
  | .str _ => true
  | _ => false
/-- == of flat values -/
noncomputable def eqV : V → V → Bool
  | .non, .non => true
  | .bl a, .bl b => a == b
  | .bl a, .int b => (if a then 1 else 0) == b
  | .int a, .bl b => a == (if b then 1 else 0)
  | .int a, .int b => a == b
  | .str a, .str b => a == b
  | _, _ => false
theorem eqAt_V {A : Around} {s : Shared} {y x : V} {u v : Value} (ry : RelV y u) (rx : RelV x v) (fy : flatV y = true) (fx : flatV x = true) : SeqAt.EqAt A s u v (eqV y x) := by
  cases y with
  | non =>
    cases ry
    cases x with
    | non => cases rx; exact SeqAt.EqAt.same _
    | bl b => cases rx; exact SeqAt.EqAt.none_bool b
    | int b => obtain ⟨t, rfl⟩ := rx; exact SeqAt.EqAt.none_int b t
    | str b => obtain ⟨t, rfl⟩ := rx; exact SeqAt.EqAt.none_str b t
    | _ => exact absurd (show false = true from fx) Bool.false_ne_true
  | bl a =>
    cases ry
    cases x with
    | non => cases rx; exact SeqAt.EqAt.bool_none a
    | bl b => cases rx; exact SeqAt.EqAt.bool_bool a b
    | int b => obtain ⟨t, rfl⟩ := rx; exact SeqAt.EqAt.bool_int a b t
    | str b => obtain ⟨t, rfl⟩ := rx; exact SeqAt.EqAt.bool_str a b t
    | _ => exact absurd (show false = true from fx) Bool.false_ne_true
  | int a =>
    obtain ⟨t', rfl⟩ := ry
    cases x with
    | non => cases rx; exact SeqAt.EqAt.int_none a t'
    | bl b => cases rx; exact SeqAt.EqAt.int_bool a t' b
    | int b => obtain ⟨t, rfl⟩ := rx; exact SeqAt.EqAt.int_int a t' b t
    | str b => obtain ⟨t, rfl⟩ := rx; exact SeqAt.EqAt.int_str a t' b t
    | _ => exact absurd (show false = true from fx) Bool.false_ne_true
  | str a =>
    obtain ⟨t', rfl⟩ := ry
    cases x with
    | non => cases rx; exact SeqAt.EqAt.str_none a t'
    | bl b => cases rx; exact SeqAt.EqAt.str_bool a t' b
    | int b => obtain ⟨t, rfl⟩ := rx; exact SeqAt.EqAt.str_int a t' b t
    | str b => obtain ⟨t, rfl⟩ := rx; exact SeqAt.EqAt.str_str a t' b t
    | _ => exact absurd (show false = true from fx) Bool.false_ne_true
  | _ => exact absurd (show false = true from fy) Bool.false_ne_true
/-- the items' answers, read off the values (a value's own answer does not lean on its token) -/
noncomputable def eqU (x : V) (u : Value) : Bool := match u with
  | .none => eqV .non x
  | .bool b => eqV (.bl b) x
  | .int i _ => eqV (.int i) x
  | .str z _ => eqV (.str z) x
  | _ => false
theorem eqU_of {x y : V} {u : Value} (r : RelV y u) (f : flatV y = true) : eqU x u = eqV y x := by
  cases y with
  | non => cases r; rfl
  | bl b => cases r; rfl
  | int i => obtain ⟨t, rfl⟩ := r; rfl
  | str z => obtain ⟨t, rfl⟩ := r; rfl
  | _ => exact absurd (show false = true from f) Bool.false_ne_true
theorem any_eqU {x : V} : ∀ {xs : List V} {us : List Value}, Vals xs us → xs.all flatV = true → us.any (eqU x) = xs.any fun y => eqV y x
  | _, _, .nil, _ => rfl
  | y :: xs, u :: us, .cons r t, f => by
    rw [List.all_cons, Bool.and_eq_true] at f
    rw [List.any_cons, List.any_cons, eqU_of r f.1, any_eqU t f.2]
theorem mem_eqAt {A : Around} {s : Shared} {x : V} {v : Value} (rx : RelV x v) (fx : flatV x = true) : ∀ {xs : List V} {us : List Value}, Vals xs us → xs.all flatV = true → ∀ u ∈ us, SeqAt.EqAt A s u v (eqU x u)
  | _, _, .nil, _ => fun u hu => by cases hu
  | y :: xs, u :: us, .cons r t, f => fun u' hu => by
    rw [List.all_cons, Bool.and_eq_true] at f
    rcases List.mem_cons.mp hu with rfl | hu
    · rw [eqU_of r f.1]; exact eqAt_V r rx f.1 fx
    · exact mem_eqAt rx fx t f.2 u' hu
noncomputable def inV (x : V) (xs : List V) : Bool := xs.any fun y => eqV y x
/-- x in a list or tuple of flat items -/
noncomputable def rIn (K : PySem.W.Frag) (neg : Bool) : R2 := fun x y H Q => ∃ p xs, y = .ref p ∧ (SqL K H p xs ∨ SqT K H p xs) ∧ flatV x = true ∧ xs.all flatV = true ∧ Q (.bl (if neg then !inV x xs else inV x xs)) H
theorem op_notIn_seq : OpR X (compareOp .NotIn) (rIn X.K true) := by
  intro pins s σ H x y v u Q I rx ry h
  obtain ⟨p, xs, rfl, hq, fx, fs, q⟩ := h
  cases ry
  rcases hq with hq | hq
  · obtain ⟨its, r, pl, hz⟩ := I.list hq
    refine SeqAt.notIn_listAt (eqU x) pl.isList (fun w hw => mem_eqAt rx fx r fs w (by simpa using hw)) ⟨.bl _, H, I, rfl, ?_⟩
    rw [show its.toArray.any (eqU x) = its.any (eqU x) by simp, any_eqU r fs]
    exact q
  · obtain ⟨its, r, pl, hz⟩ := I.tuple hq
    refine SeqAt.notIn_tupleAt (eqU x) pl (fun w hw => mem_eqAt rx fx r fs w (by simpa using hw)) ⟨.bl _, H, I, rfl, ?_⟩
    rw [show its.toArray.any (eqU x) = its.any (eqU x) by simp, any_eqU r fs]
    exact q
/-! ### len, list(x), tuple(x) of any list or tuple that is read -/
theorem call_len_seq : CallR X (.builtin "len") (fun xs H Q => ∃ p ys, xs = [.ref p] ∧ (SqL X.K H p ys ∨ SqT X.K H p ys) ∧ Q (.int ys.length) H) := by
  intro pins s σ H xs us Q I r h
  obtain ⟨p, ys, rfl, hq, q⟩ := h
  obtain ⟨u, rfl, rx⟩ := vals1 r
  cases rx
  have hn := line63
  rcases hq with hq | hq
  · obtain ⟨its, r', pl, hz⟩ := I.list hq
    have hlen := r'.length
    exact Calls.call_len_list pl.isList (by simp only [List.size_toArray] <;> omega) ⟨.int ys.length, H, I.tok _, ⟨s.toks + 1, by rw [List.size_toArray, hlen]⟩, q⟩
  · obtain ⟨its, r', pl, hz⟩ := I.tuple hq
    have hlen := r'.length
    exact len_tuple pl (by simp only [List.size_toArray] <;> omega) ⟨.int ys.length, H, I.tok _, ⟨s.toks + 1, by rw [List.size_toArray, hlen]⟩, q⟩
theorem call_list_of : CallR X (.type "list") (fun xs H Q => ∃ p ys, xs = [.ref p] ∧ (SqL X.K H p ys ∨ SqT X.K H p ys) ∧ ∀ l, H l = none → Q (.ref l) (upd H l (.lst ys))) := by
  intro pins s σ H xs us Q I r h
  obtain ⟨p, ys, rfl, hq, q⟩ := h
  obtain ⟨u, rfl, rx⟩ := vals1 r
  cases rx
  have fin : ∀ (its : List Value), Vals ys its → ys.length ≤ sizeLine → ∀ (h' : Heap) (c' : Nat), (∀ b o', s.heap.get? b = some o' → h'.get? b = some o') →
      h'.get? s.heap.objs.size = some { cls := .type "list", dict := none, data := .seq its.toArray c', slots := #[] } → EP X pins σ Q (.ref s.heap.objs.size) { s with heap := h' } := fun its r' hz h' c' kp e =>
    ⟨.ref s.heap.objs.size, _, I.laid (t' := s.toks) kp (Nat.le_refl _) (show ObjOk X.prog X.w _ h' _ (.lst ys) from ⟨hz, its, c', r', e⟩), rfl, q _ (I.hok.fresh (Nat.le_refl _))⟩
  rcases hq with hq | hq
  · obtain ⟨its, r', pl, hz⟩ := I.list hq
    have hlen := r'.length
    obtain ⟨o, ho, hc, n, hd⟩ := pl.isList
    exact call_list_seq p (.inl rfl) ho hc hd (fun h' c' kp e => fin its r' hz h' c' kp e) (by simp only [List.size_toArray] <;> omega)
  · obtain ⟨its, r', pl, hz⟩ := I.tuple hq
    have hlen := r'.length
    obtain ⟨o, ho, hc, n, hd⟩ := pl
    exact call_list_seq p (.inr rfl) ho hc hd (fun h' c' kp e => fin its r' hz h' c' kp e) (by simp only [List.size_toArray] <;> omega)
theorem call_tuple_of : CallR X (.type "tuple") (fun xs H Q => ∃ p ys, xs = [.ref p] ∧ ((SqL X.K H p ys ∧ ∀ l, H l = none → Q (.ref l) (upd H l (.tup ys))) ∨ (SqT X.K H p ys ∧ Q (.ref p) H))) := by
  intro pins s σ H xs us Q I r h
  obtain ⟨p, ys, rfl, h⟩ := h
  obtain ⟨u, rfl, rx⟩ := vals1 r
  cases rx
  rcases h with ⟨hq, q⟩ | ⟨hq, q⟩
  · obtain ⟨its, r', pl, hz⟩ := I.list hq
    have hlen := r'.length
    refine call_tuple_list pl.isList (fun h' kp => ?_) (by simp only [List.size_toArray] <;> omega)
    have I1 : Inv X pins σ H { s with heap := h' } := I.kept (t' := s.toks) kp
    have I2 : Inv X pins σ (upd H h'.objs.size (.tup ys)) { s with heap := h'.push { cls := .type "tuple", data := .seq its.toArray } } :=
      I1.laid (t' := s.toks) (fun b o e => Heap.get?_push_of_some _ e) (Nat.le_refl _) (show ObjOk X.prog X.w _ _ _ (.tup ys) from ⟨hz, its, r', IsTup.new _ _⟩)
    exact ⟨.ref h'.objs.size, _, I2, rfl, q _ (I1.hok.fresh (Nat.le_refl _))⟩
  · obtain ⟨its, r', pl, hz⟩ := I.tuple hq
    exact call_tuple_same pl ⟨.ref p, H, I, rfl, q⟩

/-! ### the call of a builtin's method: o.m(..) -/
/-- the value is of that builtin type -/
noncomputable def tyV (K : PySem.W.Frag) (T : String) (x : V) (H : Hp) : Prop := match x with
  | .str _ => T = "str"
  | .int _ => T = "int"
  | .ref p => (T = "list" ∧ ∃ xs, SqL K H p xs) ∨ (T = "tuple" ∧ ∃ o, K.lookup p = some o ∧ o.cls = .type "tuple" ∧ o.dict = none) ∨
      (T = "dict" ∧ ((∃ kvs, H p = some (.dK kvs)) ∨ ∃ kvs, H p = some (.dT kvs))) ∨ (T = "set" ∧ ∃ S n, H p = some (.set S n))
  | _ => False
theorem tyV_is {pins : List (Addr × Obj)} {σ : St} {H : Hp} {s : Shared} {T : String} {x : V} {v : Value} (I : Inv X pins σ H s) (r : RelV x v) (ty : tyV X.K T x H) :
    s.TypeIs v T ∧ ∀ a, v = .ref a → ∃ ob, s.heap.get? a = some ob ∧ ob.dict = none := by
  cases x with
  | str z =>
    obtain ⟨t, rfl⟩ := r
    cases (show T = "str" from ty)
    exact ⟨typeIs_str s z t, fun _ e => nomatch e⟩
  | int i =>
    obtain ⟨t, rfl⟩ := r
    cases (show T = "int" from ty)
    exact ⟨typeIs_int s i t, fun _ e => nomatch e⟩
  | ref p =>
    cases r
    rcases ty with ⟨rfl, xs, hq⟩ | ⟨rfl, o, hk, hc, hd⟩ | ⟨rfl, hk⟩ | ⟨rfl, S, n, hk⟩
    · obtain ⟨its, _, pl, _⟩ := I.list hq
      refine ⟨pl.isList.typeIs, fun a e => ?_⟩
      cases e
      obtain ⟨o, n, e, c, hd, _⟩ := pl
      exact ⟨o, e, hd⟩
    · refine ⟨⟨o, I.kIn p o hk, hc⟩, fun a e => ?_⟩
      cases e
      exact ⟨o, I.kIn _ o hk, hd⟩
    · have z : ∃ o, s.heap.get? p = some o ∧ o.ExactDict := by
        rcases hk with ⟨kvs, hk⟩ | ⟨kvs, hk⟩
        · obtain ⟨_, _, _, _, o, _, _, e, ex, _⟩ := I.hok p _ hk
          exact ⟨o, e, ex⟩
        · obtain ⟨_, _, _, _, o, _, _, e, ex, _⟩ := I.hok p _ hk
          exact ⟨o, e, ex⟩
      obtain ⟨o, e, ex⟩ := z
      refine ⟨⟨o, e, ex.1⟩, fun a e2 => ?_⟩
      cases e2
      exact ⟨o, e, ex.2.1⟩
    · obtain ⟨o, _, _, _, e, ex, _⟩ := I.hok p _ hk
      refine ⟨⟨o, e, ex.1⟩, fun a e2 => ?_⟩
      cases e2
      exact ⟨o, e, ex.2.1⟩
  | _ => exact False.elim ty
noncomputable def tBM (K : PySem.W.Frag) (T : String) (r : V → List V → Hp → VK → Prop) (to : TE) (t : TA) : TE := fun σ H Q => to σ H fun x H1 => tyV K T x H1 ∧ t σ H1 fun xs H2 => r x xs H2 Q
variable {o e : Expr} {es : List Expr} {to : TE} {t : TA} {name : Str} {apos cpos : Pos} {T id : String} {r : V → List V → Hp → VK → Prop}
theorem pe_bm (pa : PlainAttrs T) (slot : Slot T name id) (hty : typeOf (.builtin id) = pure (.type "method_descriptor")) (hm : MtR X id r) (ho : PE X o to) (ha : PA X (e :: es) t)
    (hbase : attributeBase o name X.env (eval o X.env) = eval o X.env := by rfl)
    (hfew : ((backTo cpos (starEach (e :: es) X.env)).all (fun x => !x.1) && (backToKw cpos (keywordEach [] X.env)).all (fun x => x.1.isSome)
      && decide ((e :: es).length + ([] : List Keyword).length + (if ([] : List Keyword).isEmpty then 0 else 1) < 30)) = true := by rfl)
    (hline : (apos.endLine == cpos.line) = true := by rfl) (hs : starEach (e :: es) X.env = (false, eval e X.env) :: starEach es X.env := by rfl) (hplain : (backTo cpos (starEach es X.env)).any (·.1) = false := by rfl) :
    PE X (.Call (.Attribute o name apos) (e :: es) [] cpos) (tBM X.K T r to t) := by
  intro pins s σ H Q I h
  refine wpAny_Call_method_late hbase hfew hline rfl (thn (ho pins s σ H _ I h) fun v s1 ⟨x, H1, I1, r1, ty, q1⟩ => ?_)
  obtain ⟨h1, h2⟩ := tyV_is I1 r1 ty
  refine ⟨T, id, pa, slot, hty, h1, h2, ?_⟩
  have hA := ha cpos pins s1 σ H1 _ I1 q1
  rw [hs] at hA ⊢
  refine Calls.callWith_builtin (by show (false || (backTo cpos (starEach es X.env)).any (·.1)) = false; rw [hplain] <;> rfl) (Calls.evalArgs_plain ?_)
  exact thn hA fun us s2 ⟨vs, H2, I2, r2, q2⟩ => hm pins s2 σ H2 x vs v us Q I2 r1 r2 q2
/- xs.append(e), list.index on a module's tuple .. are MtR facts of 06m -/
end
end L2

namespace L2
open PySem PySem.Spec PyProof.Rows

noncomputable def MtM (X : Cx) (id : String) (r : V → List V → Hp → VK → Prop) : Prop :=
  ∀ (pins : List (Addr × Obj)) (s : Shared) (σ : St) (H : Hp) (x : V) (xs : List V) (v : Value) (us : List Value) (Q : VK), Inv X pins σ H s → RelV x v → Vals xs us → r x xs H Q →
    wpAny (model X.prog X.w) X.A (call (.builtin id) (v :: us)) (EP X pins σ Q) X.xe s

/-! ### lists of values -/
theorem Vals.one : ∀ {x : V} {us : List Value}, Vals [x] us → ∃ u, us = [u] ∧ RelV x u
  | _, _, .cons r .nil => ⟨_, rfl, r⟩
theorem Vals.eraseIdx : ∀ {xs : List V} {us : List Value} (i : Nat), Vals xs us → Vals (xs.eraseIdx i) (us.eraseIdx i)
  | _, _, _, .nil => .nil
  | _, _, 0, .cons _ t => t
  | _, _, i + 1, .cons r t => .cons r (Vals.eraseIdx i t)
theorem Vals.rep {xs : List V} {us : List Value} (h : Vals xs us) : ∀ k : Nat, Vals (List.replicate k xs).flatten (List.replicate k us).flatten
  | 0 => .nil
  | k + 1 => by
    rw [List.replicate_succ, List.replicate_succ, List.flatten_cons, List.flatten_cons]
    exact Vals.append h (Vals.rep h k)
theorem len_erase {α : Type} : ∀ (l : List α) (i : Nat), (l.eraseIdx i).length ≤ l.length
  | [], _ => Nat.le_refl _
  | _ :: _, 0 => Nat.le_succ _
  | _ :: r, i + 1 => Nat.succ_le_succ (len_erase r i)
theorem foldl_rep (its : List Value) : ∀ (k : Nat) (acc : List Value),
    List.foldl (fun x1 x2 => x1 ++ x2) acc.toArray (List.replicate k its.toArray) = (acc ++ (List.replicate k its).flatten).toArray
  | 0, acc => by simp
  | k + 1, acc => by
    have e : acc.toArray ++ its.toArray = (acc ++ its).toArray := by simp
    have e2 : (acc ++ its) ++ (List.replicate k its).flatten = acc ++ (List.replicate (k + 1) its).flatten := by
      rw [List.replicate_succ, List.flatten_cons, List.append_assoc]
    rw [← e2, ← foldl_rep its k (acc ++ its), ← e, List.replicate_succ, List.foldl_cons]

section
variable {X : Cx} {pins : List (Addr × Obj)} {σ : St} {H : Hp} {s : Shared} {l b : Addr} {xs ys zs : List V}

/-! ### the two steps: a tracked list is rewritten, a new list is laid -/
theorem Inv.lset {its its' : List Value} {n : Nat} {f : Array Value → Array Value} {t' : Nat} (I : Inv X pins σ H s) (hH : H l = some (.lst xs))
    (e : s.heap.get? l = some { cls := .type "list", data := .seq its.toArray n }) (hf : f its.toArray = its'.toArray) (hv : Vals ys its') (hz : ys.length ≤ sizeLine) :
    Inv X pins σ (upd H l (.lst ys)) { s with heap := s.heap.update l (Obj.mapSeq f), toks := t' } := by
  have q := PySem.IsL.update e f
  rw [hf] at q
  refine I.write (x := l) (e := l) (by rw [hH]; exact trivial) (.inl rfl) (fun b' u hb hu => (Heap.get?_update_other s.heap (Obj.mapSeq f) (Ne.symm hb)).trans hu) ⟨_, q⟩ ?_
  exact ⟨hz, its', _, hv, q⟩
theorem Inv.lnew {its : List Value} {t' : Nat} (I : Inv X pins σ H s) (hv : Vals ys its) (hz : ys.length ≤ sizeLine) :
    Inv X pins σ (upd H s.heap.objs.size (.lst ys)) { s with heap := s.heap.push { cls := .type "list", data := .seq its.toArray }, toks := t' } :=
  I.laid (fun _ _ q => Heap.get?_push_of_some _ q) (Nat.le_refl _) ⟨hz, its, 0, hv, Heap.get?_push_size _ rfl⟩
theorem Inv.fresh (I : Inv X pins σ H s) : H s.heap.objs.size = none := I.hok.fresh (Nat.le_refl _)
theorem Inv.lstM (I : Inv X pins σ H s) (hH : H l = some (.lst xs)) : xs.length ≤ sizeLine ∧ ∃ (its : List Value) (n : Nat), Vals xs its ∧ xs.length = its.length ∧ s.heap.get? l = some { cls := .type "list", data := .seq its.toArray n } := by
  obtain ⟨z, its, n, r, e⟩ := I.hok l _ hH
  exact ⟨z, its, n, r, r.length, e⟩

theorem notLongL {n : Nat} (h : n ≤ sizeLine) : Builtin.List.listTooLong n = false := by
  unfold Builtin.List.listTooLong
  exact decide_eq_false (by omega)
end

section
variable {X : Cx}

/-! ### methods -/
noncomputable def rAppend : V → List V → Hp → VK → Prop := fun x vs H Q => ∃ l xs y, x = .ref l ∧ vs = [y] ∧ H l = some (.lst xs) ∧ xs.length < sizeLine ∧ Q .non (upd H l (.lst (xs ++ [y])))
theorem mt_append : MtM X "list.append" rAppend := by
  intro pins s σ H x vs v us Q I rx rv h
  obtain ⟨l, xs, y, rfl, rfl, hH, hz, q⟩ := h
  cases rx
  obtain ⟨u, rfl, ru⟩ := rv.one
  obtain ⟨z, its, n, r, hl, e⟩ := I.lstM hH
  refine call_meets F.slot_list_append ⟨_, e, rfl⟩ F.entry_list_append (F.args_list_append_2 _ _) (PySem.list_append l its.toArray n u (by rw [List.size_toArray]; omega)) ⟨e, ?_⟩
  refine ⟨.non, _, I.lset (its' := its ++ [u]) hH e (by simp) (r.append (.cons ru .nil)) ?_, rfl, q⟩
  rw [List.length_append, List.length_singleton]
  omega

/-! ### list + list, list += list, list * int -/
noncomputable def rCat : R2 := fun x y H Q => ∃ l b xs zs, x = .ref l ∧ y = .ref b ∧ H l = some (.lst xs) ∧ H b = some (.lst zs) ∧ xs.length + zs.length ≤ sizeLine ∧ ∀ p, H p = none → Q (.ref p) (upd H p (.lst (xs ++ zs)))
theorem op_cat : OpR X (binaryOp .Add) rCat := by
  intro pins s σ H x y v u Q I rx ry h
  obtain ⟨l, b, xs, zs, rfl, rfl, hH, hB, hz, q⟩ := h
  cases rx
  cases ry
  obtain ⟨z, its, n, r, hl, e⟩ := I.lstM hH
  obtain ⟨z2, its2, n2, r2, hl2, e2⟩ := I.lstM hB
  refine PySem.P.add_list e e2 ?_ (by rw [List.size_toArray, List.size_toArray]; omega)
  have ea : its.toArray ++ its2.toArray = (its ++ its2).toArray := by simp
  rw [ea]
  exact ⟨.ref _, _, I.lnew (t' := s.toks) (r.append r2) (by rw [List.length_append]; omega), rfl, q _ I.fresh⟩
/-- a list times an int (a negative one is nothing) -/
noncomputable def rRep : R2 := fun x y H Q => ∃ l k xs, x = .ref l ∧ y = .int k ∧ H l = some (.lst xs) ∧ -(2 ^ 63) ≤ k ∧ k < 2 ^ 63 ∧ xs.length * k.toNat ≤ sizeLine ∧
  ∀ p, H p = none → Q (.ref p) (upd H p (.lst (List.replicate k.toNat xs).flatten))
theorem len_rep {α : Type} (xs : List α) (k : Nat) : (List.replicate k xs).flatten.length = k * xs.length := by
  induction k with
  | zero => simp
  | succ k ih => rw [List.replicate_succ, List.flatten_cons, List.length_append, ih, Nat.succ_mul, Nat.add_comm]
theorem op_rep : OpR X (binaryOp .Mult) rRep := by
  intro pins s σ H x y v u Q I rx ry h
  obtain ⟨l, k, xs, rfl, rfl, hH, h1, h2, hz, q⟩ := h
  cases rx
  obtain ⟨t, rfl⟩ := ry
  obtain ⟨z, its, n, r, hl, e⟩ := I.lstM hH
  have hlen : its.toArray.size * k.toNat ≤ sizeLine := by rw [List.size_toArray, ← hl]; exact hz
  have hcap : ¬ its.toArray.size * k.toNat > (2 ^ 63 - 1) / 8 := by
    have : (sizeLine : Nat) ≤ (2 ^ 63 - 1) / 8 := by decide
    omega
  have hfit : ¬ (!Builtin.List.listFitsIndex k) = true := by
    rw [fitsIndex_both h1 h2]
    exact Bool.false_ne_true
  have hlong : ¬ Builtin.List.listTooLong (its.toArray.size * k.toNat) = true := by
    rw [notLongL hlen]
    exact Bool.false_ne_true
  have hnew : List.foldl (fun x1 x2 => x1 ++ x2) #[] (List.replicate (if its.toArray.isEmpty = true then 0 else k.toNat) its.toArray) = (List.replicate k.toNat its).flatten.toArray := by
    have f0 : ∀ m : Nat, List.foldl (fun x1 x2 => x1 ++ x2) #[] (List.replicate m its.toArray) = (List.replicate m its).flatten.toArray := fun m => by
      have := foldl_rep its m []
      rw [List.nil_append] at this
      exact this
    rw [f0]
    cases its with
    | nil => simp
    | cons a r' => rw [if_neg (by simp)]
  refine wpAny_binaryOp_repeat_ref (T := "list") (U := "int") (by decide) ⟨_, e, rfl⟩ (fun s' => typeIs_int s' k t) noFill_list_mul F.fills_int_mul F.slot_int_rmul repeat_list F.slot_int_index.lookup
    (call_meets F.slot_int_rmul (typeIs_int s k t) F.entry_int_rmul (F.args_int_rmul_2 _ _) (int___rmul___int_list k t l its.toArray n)
      ⟨e, rfl, ⟨_, e, rfl⟩, call_meets F.slot_list_mul ⟨_, e, rfl⟩ F.entry_list_mul (F.args_list_mul_2 _ _) (AutoListH.list___mul___list_int_3 l its.toArray n k t hfit hcap hlong) ⟨e, ?_⟩⟩)
  rw [hnew]
  exact ⟨.ref _, _, I.lnew (t' := s.toks) (r.rep k.toNat) (by rw [len_rep, Nat.mul_comm]; exact hz), rfl, q _ I.fresh⟩

/-! ### del xs[i] -/
end

/-! ### xs[a:b] = ys -/
section
variable {prog : Program} {w : World} {A : Around} {E : Value → Shared → Prop} {s : Shared}
end

section
variable {X : Cx}
end
end L2

namespace Att
open PySem PySem.W PySem.Calls PyProof.Rows

/-! ### the script -/
theorem ints_of_wellAll {P : Params} {h : Heap} : ∀ (ns : List Int) (vs : List Value), WellAll P h vs (ns.map WData.int) → IntsAre vs ns := by
  intro ns
  induction ns with
  | nil =>
    intro vs w
    rw [List.map_nil] at w
    cases w
    exact .nil
  | cons n ns ih =>
    intro vs w
    rw [List.map_cons] at w
    cases w with
    | cons a b =>
      cases a
      exact .cons _ _ (ih _ b)

theorem script_of {l : OpenLaw} {n : Nat} (hn : l.most = some n) {P : Params} {h : Heap} {args : List WData} {vals : List Value}
    (hpre : l.row.toRowW.claim.pre args = true) (hwl : WellAll P h vals args) :
    ∃ a vs ns, vals = [Value.ref a] ∧ args = [WData.list (ns.map WData.int)] ∧ h.get? a = some { cls := .type "list", data := .seq vs.toArray } ∧ IntsAre vs ns ∧ ns.length ≤ n := by
  have hsh : WShape.hasAll [] args [.list .int] = true := (pre_splitW hpre).1
  have hc : l.pre.holds [] { args := args } = true := (pre_splitW hpre).2
  obtain ⟨d, r, rfl, h1, h2⟩ := hasAllW_cons hsh
  obtain rfl := hasAllW_nil h2
  obtain ⟨xs, rfl, h3⟩ := hasW_list h1
  obtain ⟨ns, rfl⟩ := items_int h3
  have hlen : ns.length ≤ n := by
    unfold OpenLaw.pre at hc
    have h4 : (WTm.not (.lt (.lit (.int (n : Int))) (.len (.arg 0)))).holds [] { args := [.list (ns.map .int)] } = true := by
      have h4 := (holds_andW hc).1
      rw [hn] at h4
      exact h4
    have h5 := condW_of h4 (w_not (w_lt w_lit (w_len_list (w_arg rfl))))
    rw [List.length_map] at h5
    refine Nat.le_of_not_lt fun q => ?_
    have q' : (n : Int) < ((ns.length : Nat) : Int) := by omega
    first
      | (rw [decide_eq_true q'] at h5; exact absurd h5 (by decide))
      | (simp at h5; omega)
  cases hwl with
  | cons w1 w2 =>
    cases w2
    cases w1 with
    | list ho hall => exact ⟨_, _, ns, rfl, rfl, ho, ints_of_wellAll ns _ hall, hlen⟩

theorem post_true (l : OpenLaw) (args : List WData) : l.row.toRowW.claim.post args (.bool true) args = true :=
  postW_of (r := l.row.toRowW) (X := (true == true))
    (show WShape.has [] (.bool true) .bool = true by first | rfl | decide | simp [WShape.has, WShape.arms, WShape.armsAll])
    (show (WTm.eq .res (.lit (.bool true))).value [] { args := args, res := some (.bool true), after := args } = some (.bool (true == true)) from w_eq_bool (w_res rfl) w_lit) rfl

/-! ### the attachment: holds_open's last premise (the goal 'hc' behind k_head) from a wpAny of the law's body -/
/-- the same from a codeAny of the CALL (for a layer whose function contracts speak of calls) -/
theorem attach_call {l : OpenLaw} {n : Nat} {q : Program} {loose : List Str} {XP : (Str → Option Value) → Heap → Prop} {YP : World → Heap → Prop} {d : DefRec}
    (hn : l.most = some n) (hdf : d.params.defaults = [])
    (call : ∀ (w : World) (s₀ s₁ : Shared) (mg mb : Str → Option Value) (fa : Addr) (o : Obj) (pm cd doc : Value) (a : Addr) (vs : List Value) (ns : List Int),
      Ground q loose [] XP w s₀ mg mb s₁.heap → YP w s₁.heap →
      s₁.heap.get? fa = some o → o.data = .func (docDef d.name d.params d.body d.scope pm cd doc) → s₁.heap.CodeRec cd d.name → mg d.name = some (.ref fa) →
      s₁.heap.get? a = some { cls := .type "list", data := .seq vs.toArray } → IntsAre vs ns → ns.length ≤ n → s₁.gens = #[] →
      codeAny (model l.prog w) callerA (.call (.ref fa) ⟨[.ref a], []⟩) (fun r s' => r = .ok (.ret (.bool true)) ∧ OldK s₁.heap s'.heap ∧ s'.os = s₁.os ∧ AllBare s'.gens) s₁) :
    WalkO q loose XP YP l.row.toRowW d [] (fun f vs => PySem.call f vs) := by
  intro w s₀ s₁ mg mb G Y fa o pm cd doc dV kV ho hd hcd hD hmg hg args vals as hpre hlay hrd hwl hlo
  obtain rfl : dV = .none := Dflts.none hD hdf
  obtain rfl : kV = .none := Dflts.noKw hD
  obtain ⟨a, vs, ns, rfl, rfl, hobj, hints, hlen⟩ := script_of hn hpre hwl
  refine enter_call (codeAny_mono (call w s₀ s₁ mg mb fa o pm cd doc a vs ns G Y ho (fd_plain hd) hcd hmg hobj hints hlen hg) fun r s' hq => ?_)
  obtain ⟨rfl, h2, h3, h4⟩ := hq
  exact ⟨.inl ⟨.bool true, .bool true, [], rfl, fun _ => rfl, .bool true, post_true l _, fun _ => ⟨List.Pairwise.nil, fun _ hm => (nomatch hm)⟩⟩, h2, h3, h4⟩

/-! ### rules over ANY heap (no ledger) from facts about the written part K: the library's own take a ledger (News) for what they write -/
section
variable {prog : Program} {w : World} {A : Around} {E : Value → Shared → Prop} {s : Shared} {K : Frag}

/-! the whole heap as the ledger: makes every rule that writes through a ledger a rule over any heap -/
end
end Att

namespace L2
open PySem PySem.Spec PyProof.Rows

theorem vals_ints : ∀ {vs : List Value} {ns : List Int}, IntsAre vs ns → Vals (ns.map V.int) vs
  | _, _, .nil => .nil
  | _, _, .cons n t h => .cons ⟨t, rfl⟩ (vals_ints h)

/-- nothing is tracked but the script, known to the object (or it is an object of the module) -/
noncomputable def Only (H : Hp) : Prop := ∀ b, H b = none ∨ ∃ o xs, H b = some (.frz o (.lst xs))

/-- THE HEAD: the law's promise, at the heap behind the top. F, the promise of the law's def, may use that base is part of the heap (so K.In base, base.Ns mainGlobals mg stand in Mod) -/
theorem law_call {P : Program} {w : World} {K : PySem.W.Frag} {mg mb : Str → Option Value} {CX : CXT} {k : Nat} {fa a : Addr} {fd : FuncData} {x : Str} {sp : Sp} {s₁ : Shared} {vs : List Value} {ns : List Int}
    (KX : K.In s₁.heap) (hns : s₁.heap.Ns mainGlobals mg) (hb : s₁.heap.Ns builtinsNs mb) (hbb : ∀ x : Str, x ≠ "__name__" → mb x = bootBuiltins x) (hlim : s₁.heap.NoLimit) (hg : s₁.gens = #[])
    (ha : s₁.heap.get? a = some { cls := .type "list", data := .seq vs.toArray }) (hi : IntsAre vs ns) (hl : ns.length ≤ sizeLine) (hr : Room k callerA)
    (F : ∀ base : Heap, K.In base → base.Ns mainGlobals mg → FnOk P w K mg base CX k fa fd [x] sp) (hbind : ∀ (s : Shared) (u : Value), BindsTo s fd ⟨[u], []⟩ [(x, u)])
    (hsp : ∀ H : Hp, Only H → SqL K H a (ns.map V.int) → sp [.ref a] H (fun v _ => v = .bl true) fun _ _ _ => False)
    (hCX : ∀ H e s', CX [] H s₁ (fun _ _ _ => False) e s' → False) :
    codeAny (model P w) callerA (.call (.ref fa) ⟨[.ref a], []⟩) (fun r s' => r = .ok (.ret (.bool true)) ∧ OldK s₁.heap s'.heap ∧ s'.os = s₁.os ∧ AllBare s'.gens) s₁ := by
  have rv := vals_ints hi
  have lenV := hi.length
  -- from an abstract heap in which nothing but the script may be tracked
  have core : ∀ H : Hp, Only H → SqL K H a (ns.map V.int) → HOk P w H s₁.heap → (∀ b, H b ≠ none → b = a) → (H a ≠ none → K.lookup a = none) →
      codeAny (model P w) callerA (.call (.ref fa) ⟨[.ref a], []⟩) (fun r s' => r = .ok (.ret (.bool true)) ∧ OldK s₁.heap s'.heap ∧ s'.os = s₁.os ∧ AllBare s'.gens) s₁ := by
    intro H hO hS hok hA hK
    have base_of : ∀ {b : Addr} {o : Obj}, s₁.heap.get? b = some o → H b = none → (hidT s₁.heap H).get? b = some o := fun e n => hidT_get e n
    have noA : ∀ {b : Addr} {o : Obj} {es : Array DictEntry} {ep : Nat}, s₁.heap.get? b = some o → o.data = .dict es ep → H b = none := fun {b o es ep} e d => by
      cases q : H b with
      | none => rfl
      | some u =>
        have e' : b = a := hA b (by rw [q]; simp)
        subst e'
        rw [ha] at e; cases e
        have d' : Data.seq vs.toArray _ = Data.dict es ep := d
        cases d'
    have nsK : ∀ {b : Addr} {m : Str → Option Value}, s₁.heap.Ns b m → (hidT s₁.heap H).Ns b m := fun {b m} ⟨o, es, ep, e, d, r⟩ => ⟨o, es, ep, base_of e (noA e d), d, r⟩
    have hKb : K.In (hidT s₁.heap H) := fun b o e => base_of (KX b o e) (by
      cases q : H b with
      | none => rfl
      | some u =>
        have e' : b = a := hA b (by rw [q]; simp)
        subst e'
        rw [hK (by rw [q]; simp)] at e; cases e)
    have hM : Mod K mg (hidT s₁.heap H) := ⟨hKb, nsK hns, ⟨mb, nsK hb, hbb⟩, let ⟨mc, h1, h2⟩ := hlim; ⟨mc, nsK h1, h2⟩⟩
    have e0 : Env0 P w K mg (hidT s₁.heap H) callerA [] s₁ H := ⟨rfl, hM, fun b o e => of_hidT e, Nat.le_of_eq (hidT_size _ _), trivial, fun b hb => absurd (show b ∈ ([] : List Addr) from hb) (by simp), hok, .of_eq hg⟩
    refine codeAny_mono ((F _ hKb (nsK hns)).run callerA [] s₁ H ⟨[.ref a], []⟩ [.ref a] [.ref a] _ _ hr e0 (hbind s₁ (.ref a)) (.cons rfl .nil) (hsp H hO hS)) fun r s' h => ?_
    cases r with
    | error e => exact (hCX H e s' h).elim
    | ok fl =>
      cases fl with
      | next => exact False.elim h
      | brk => exact False.elim h
      | cont => exact False.elim h
      | ret u =>
        obtain ⟨v, H', os, bare, un, hok', r', q⟩ := h
        have q' : v = .bl true := q
        subst q'
        obtain rfl : u = Value.bool true := r'
        refine ⟨rfl, OldK.of_keep fun b o e => ?_, os, bare⟩
        cases q : H b with
        | none => exact un.keep b o e q (by intro z; exact absurd (show b ∈ ([] : List Addr) from z) (by simp)) (by simp)
        | some u =>
          rcases hO b with z | ⟨ob, xs, z⟩
          · rw [q] at z; cases z
          · have z2 := un.frzs b ob _ z
            obtain ⟨e1, _⟩ := hok b _ z
            obtain ⟨e2, _⟩ := hok' b _ z2
            rw [e] at e1; cases e1
            exact e2
  cases hk : K.lookup a with
  | some o =>
    -- the script is one of the module's own objects
    have e := KX a o hk
    rw [ha] at e
    cases e
    refine core (fun _ => none) (fun _ => .inl rfl) (.inr ⟨_, vs.toArray, _, hk, rfl, rfl, rfl, by rw [List.size_toArray, lenV]; exact hl, by simpa using rv⟩) (fun b u z => by have z' : (none : Option HO) = some u := z; cases z') (fun b z => absurd rfl z) fun z => absurd rfl z
  | none =>
    refine core (fun b => if b = a then some (.frz { cls := .type "list", data := .seq vs.toArray } (.lst (ns.map V.int))) else none) (fun b => ?_) (.inl (.inr ⟨{ cls := .type "list", data := .seq vs.toArray }, if_pos rfl⟩)) (fun b u z => ?_) (fun b z => ?_) fun _ => hk
    · by_cases hb : b = a
      · exact .inr ⟨_, _, if_pos hb⟩
      · exact .inl (if_neg hb)
    · by_cases hb : b = a
      · have z' := (if_pos hb).symm.trans z
        cases z'
        subst hb
        exact ⟨ha, by rw [List.length_map]; exact hl, vs, _, rv, ha⟩
      · have z' := (if_neg hb).symm.trans z
        cases z'
    · by_cases hb : b = a
      · exact hb
      · exact absurd (if_neg hb) z
end L2

namespace L2
open PySem PySem.Spec PyProof.Rows

/-- the goal that k_head leaves (case hc), from the law's promise. F gives the function object fd (K's own) once, then the promise over every base -/
theorem walk_of {l : PySem.W.OpenLaw} {n k : Nat} {q : Program} {loose : List Str} {XP : (Str → Option Value) → Heap → Prop} {YP : World → Heap → Prop} {d : DefRec} {K : Params → PySem.W.Frag} {CX : World → CXT} {sp : World → Sp} {x : Str}
    (hn : l.most = some n) (hn2 : n ≤ sizeLine) (hdf : d.params.defaults = []) (hr : Room k callerA)
    (hY : ∀ (w : World) (h : Heap), YP w h → (K w.params).In h)
    (F : ∀ (w : World) (mg : Str → Option Value) (fa : Addr) (h : Heap), (K w.params).In h → h.Ns mainGlobals mg → mg d.name = some (.ref fa) →
      ∃ fd : FuncData, (∀ (s : Shared) (u : Value), BindsTo s fd ⟨[u], []⟩ [(x, u)]) ∧
        ∀ base : Heap, (K w.params).In base → base.Ns mainGlobals mg → FnOk l.prog w (K w.params) mg base (CX w) k fa fd [x] (sp w))
    (hsp : ∀ (w : World) (H : Hp) (a : Addr) (ns : List Int), ns.length ≤ n → Only H → SqL (K w.params) H a (ns.map V.int) → sp w [.ref a] H (fun v _ => v = .bl true) fun _ _ _ => False)
    (hCX : ∀ (w : World) (H : Hp) (s : Shared) (e : Value) (s' : Shared), CX w [] H s (fun _ _ _ => False) e s' → False) :
    PySem.W.WalkO q loose XP YP l.row.toRowW d [] (fun f vs => PySem.call f vs) := by
  refine Att.attach_call hn hdf fun w s₀ s₁ mg mb fa o pm cd doc a vs ns G Y ho hd hcd hmg hobj hints hlen hg => ?_
  have KX := hY w _ Y
  obtain ⟨fd, hb, hF⟩ := F w mg fa _ KX G.T.g hmg
  exact law_call KX G.T.g G.T.b G.T.builtins G.T.nolimit hg hobj hints (Nat.le_trans hlen hn2) hr hF hb (fun H hO hS => hsp w H a ns hlen hO hS) fun H e s' => hCX w H s₁ e s'
end L2

/- THE LAST THEOREM (shape; LID, My.* are yours):
   My.Adr: a structure of the addresses that your layer names (classes, functions); My.Txt K t: a structure (Prop) of the equations over K;
   My.txt_mk : {K} {implicit addresses ..} (e1 : nsIn K mainGlobals "law" = some (some (.ref f))) (e2 : K.lookup f = some ⟨oc, od, .func (fnOf "law" "law" params body scope dV kV doc pm an cdv ct), sl⟩) (e3 : codeIn K cdv "law" = true) .. : ∃ t, My.Txt K t

set_option maxRecDepth 100000 in
set_option maxHeartbeats 0 in
theorem PySem.Challenge.cw_LID_holds : PySem.Challenge.rw_LID.Holds := by
  w_on; o_law; k_head; (case hw => w_witness2)
  k_fill
  refine L2.walk_of (l := PySem.Challenge.rw_LID) (n := 63) (k := 40) (x := "script") (CX := fun w => ..) (sp := fun _ => My.sp_law) rfl (by decide) rfl ⟨rfl, by decide, by decide⟩ (fun w h Y => PySem.W.kIn_of Y) ?F ?S ?C
  case F =>
    intro w mg fa h KX G hmg
    have T : ∃ t, My.Txt (L2.KOf KX) t := by
      dsimp only [L2.KOf]                          -- K must stand as «<heap const> w.params» for k_is
      refine' My.txt_mk ?e1 ?e2 ?e3 ..
      (case e1 => PySem.W.k_is)                    -- in the order: a name -> its address -> its object -> its parts
      (case e2 => PySem.W.k_is)
      ..
    obtain ⟨t, T⟩ := T
    have e0 := hmg.symm.trans (PySem.W.mg_of KX G T.law)
    cases e0                                       -- fa is the law's own address
    exact ⟨_, fun s u => .of_eq rfl, fun base kb nb => My.law_fn T kb nb⟩     -- if «.of_eq rfl» comes too early: refine' ⟨_, ?b, fun base kb nb => My.law_fn T kb nb⟩; exact fun s u => .of_eq rfl
  case S => exact fun w H a ns hl hO hS => ..
  case C => exact ..
(the tactic k_is has no namespace: write k_is) -/

/-! SHORT WORDS over the layer: a def of the text, its body, what a loop and a test want. -/
namespace L2
open PySem PySem.Spec PyProof.Rows

/-! ### the text by places -/
noncomputable def defArgs (s : Stmt) : Arguments := match s with
  | .FunctionDef _ a _ _ _ _ _ _ _ _ => a
  | _ => { posonlyargs := [], args := [], vararg := none, kwonlyargs := [], kw_defaults := [], kwarg := none, defaults := [] }
noncomputable def defBody (s : Stmt) : List Stmt := match s with
  | .FunctionDef _ _ b _ _ _ _ _ _ _ => b
  | _ => []
noncomputable def defScope (s : Stmt) : Scope := match s with
  | .FunctionDef _ _ _ _ _ _ sc _ _ _ => sc
  | _ => { kind := .function, names := [], isGenerator := false, isCoroutine := false }

/-! ### no exception leaves a def -/
noncomputable abbrev CX0 : CXT := fun _ _ _ _ _ _ => False
noncomputable abbrev E0 : XK := fun _ _ _ => False
theorem pass0 {X : Cx} : Passes CX0 X E0 := fun _ _ _ _ _ _ _ h => h.elim

/-! ### a def (or method) of the text as it stands behind the top -/
structure Fun (K : PySem.W.Frag) (x qual : Str) (st : Stmt) (f : Addr) (fd : FuncData) : Prop where
  ex : ∃ (oc : Value) (od : Option Addr) (kV doc pm : Value) (an : Option Addr) (cdv ct : Value) (osl : Array (Option Value)),
    fd = PySem.W.fnOf x qual (defArgs st) (defBody st) (defScope st) .none kV doc pm an cdv ct ∧ K.lookup f = some ⟨oc, od, .func fd, osl⟩ ∧ PySem.W.codeIn K cdv qual = true
  kp : PySem.W.keepIn K (.ref f) = true
section
variable {P : Program} {w : World} {K : PySem.W.Frag} {mg : Str → Option Value} {base : Heap}
/-- THE RULE for a def: its body as a term of rules, and the reading of that term -/
theorem Fun.ok {x qual : Str} {st : Stmt} {f : Addr} {fd : FuncData} {N ps : List Str} {k : Nat} {sp : Sp} (F : Fun K x qual st f fd) (S : FnScope N ps (defScope st)) (len : ∀ vs H Q E, sp vs H Q E → vs.length = ps.length)
    (hbody : ∀ (cdv : Value) (A : Around) (outer : List Env) (s : Shared) (H : Hp) (vs : List V) (Q : VK) (E : XK), Room k (A.deeper (envOfC qual (defScope st) s.heap.objs.size f cdv)) → sp vs H Q E →
      ∃ t, PSs (cxOf CX0 P w K mg base N qual (defScope st) f cdv A outer s H E).nox (defBody st) t ∧ t { nx := fun _ H' => Q .non H', rt := Q } (start N vs) H) : FnOk P w K mg base CX0 (k + 1) f fd ps sp := by
  obtain ⟨oc, od, kV, doc, pm, an, cdv, ct, osl, rfl, lk, hcd⟩ := F.ex
  refine fn_of lk hcd S len fun A outer s H vs Q E hr hsp => ?_
  obtain ⟨t, h, q⟩ := hbody cdv A outer s H vs Q E hr hsp
  exact ⟨t, h.nox, q⟩
/-- how its arguments bind (no defaults): h is «fun _ _ _ _ _ _ us hl => match us, hl with | [_, _], _ => rfl», one _ a parameter -/
theorem Fun.binds {x qual : Str} {st : Stmt} {f : Addr} {fd : FuncData} {ps : List Str} (F : Fun K x qual st f fd)
    (h : ∀ (kV doc pm : Value) (an : Option Addr) (cdv ct : Value) (us : List Value), us.length = ps.length → bindArgs (PySem.W.fnOf x qual (defArgs st) (defBody st) (defScope st) .none kV doc pm an cdv ct) ⟨us, []⟩ = pure (ps.zip us)) : Binds K fd ps [] := by
  obtain ⟨oc, od, kV, doc, pm, an, cdv, ct, osl, rfl, lk, hcd⟩ := F.ex
  exact .all (h kV doc pm an cdv ct)
theorem fun_mk {x qual : Str} {st : Stmt} {f : Addr} {oc : Value} {od an : Option Addr} {osl : Array (Option Value)} {kV doc pm cdv ct : Value} (l : K.lookup f = some ⟨oc, od, .func (PySem.W.fnOf x qual (defArgs st) (defBody st) (defScope st) .none kV doc pm an cdv ct), osl⟩)
    (c : PySem.W.codeIn K cdv qual = true) (k : PySem.W.keepIn K (.ref f) = true) : Fun K x qual st f (PySem.W.fnOf x qual (defArgs st) (defBody st) (defScope st) .none kV doc pm an cdv ct) := ⟨⟨oc, od, kV, doc, pm, an, cdv, ct, osl, rfl, l, c⟩, k⟩
end
theorem small1000 {n : Nat} (h : n ≤ 1000) : n < sizeLine := Nat.lt_of_le_of_lt h (by decide)

/-! ### expressions in short: the name that stands in the i-th slot -/
section
variable {X : Cx}
theorem pv (i : Nat) {x : Str} {pos : Pos} (hN : X.N[i]? = some x := by rfl) (hv : Vis X.env.scope x := by first | exact Or.inl rfl | exact Or.inr (Or.inl rfl) | exact Or.inr (Or.inr rfl)) (hd : (x == ("__debug__" : Str)) = false := by decide)
    (hcd : (x == ("__classdict__" : Str)) = false := by decide) : PE X (.Name x pos) (tVar i) := pe_var hN hv hd hcd
end

/-! ### tests -/
theorem iteF {A B : Prop} (h : B) : if false = true then A else B := by
  rw [if_neg Bool.false_ne_true]
  exact h
theorem iteT {A B : Prop} (h : A) : if true = true then A else B := by
  rw [if_pos rfl]
  exact h
theorem ite2 {c A B : Prop} [Decidable c] (h1 : c → A) (h2 : ¬ c → B) : if c then A else B := by
  by_cases h : c
  · rw [if_pos h]
    exact h1 h
  · rw [if_neg h]
    exact h2 h
theorem iteNS {c A B : Prop} [Decidable c] (hc : c) (h : B) : if (!decide c) = true then A else B := by
  rw [decide_eq_true hc]
  exact iteF h

/-! ### heaps -/
/-- all that was tracked is as it was -/
noncomputable def Same (H H' : Hp) : Prop := ∀ b o, H b = some o → H' b = some o
theorem Same.refl (H : Hp) : Same H H := fun _ _ h => h
theorem Same.trans {H H1 H2 : Hp} (a : Same H H1) (b : Same H1 H2) : Same H H2 := fun c o h => b c o (a c o h)
theorem Same.free {H H' : Hp} (e : Same H H') {l : Addr} (h : H' l = Option.none) : H l = Option.none := by
  cases q : H l with
  | none => rfl
  | some o =>
    rw [e l o q] at h
    cases h
theorem Same.seq {K : PySem.W.Frag} {H H' : Hp} {a : Addr} {xs : List V} (e : Same H H') (h : SqL K H a xs) : SqL K H' a xs := by
  rcases h with (h | ⟨o, h⟩) | h
  · exact .inl (.inl (e _ _ h))
  · exact .inl (.inr ⟨o, e _ _ h⟩)
  · exact .inr h

end L2

namespace SO
/-! the mathematics: shapes -/
theorem all_true {α : Type} (l : List α) : l.filter (fun _ => true) = l := List.filter_eq_self.mpr fun _ _ => rfl
theorem no_dec {p : Prop} [Decidable p] (h : ¬ p) : decide p = false := decide_eq_false h
noncomputable def rk (row : List Int) (x : Int) : Int := ((row.filter (fun y => decide (y < x))).length : Nat)
noncomputable def ranks (row : List Int) : List Int := row.map (rk row)
noncomputable def upto (n : Nat) : List Int := (List.range n).map (fun (k : Nat) => (k : Int))
noncomputable def Sh (xs : List Int) : Prop := xs.Perm (upto xs.length)
noncomputable instance (xs : List Int) : Decidable (Sh xs) := inferInstanceAs (Decidable (xs.Perm _))

theorem upto_length (n : Nat) : (upto n).length = n := by simp [upto]
theorem mem_upto {n : Nat} {x : Int} : x ∈ upto n ↔ 0 ≤ x ∧ x < n := by
  unfold upto
  rw [List.mem_map]
  simp only [List.mem_range]
  constructor
  · rintro ⟨k, hk, rfl⟩; omega
  · intro h; exact ⟨x.toNat, by omega, by omega⟩
theorem nodup_map_of_inj {α β : Type} (f : α → β) : ∀ {l : List α}, (∀ x ∈ l, ∀ y ∈ l, f x = f y → x = y) → l.Nodup → (l.map f).Nodup
  | [], _, _ => by simp
  | a :: r, hi, hn => by
    rw [List.nodup_cons] at hn
    refine List.nodup_cons.mpr ⟨fun hm => ?_, nodup_map_of_inj f (fun x hx y hy => hi x (List.mem_cons_of_mem _ hx) y (List.mem_cons_of_mem _ hy)) hn.2⟩
    have ⟨b, hb, e⟩ := List.mem_map.mp hm
    have := hi b (List.mem_cons_of_mem _ hb) a List.mem_cons_self e
    subst this
    exact hn.1 hb
theorem upto_nodup (n : Nat) : (upto n).Nodup := nodup_map_of_inj _ (fun x _ y _ h => by omega) List.nodup_range
theorem upto_sorted (n : Nat) : (upto n).Pairwise (· ≤ ·) := by
  unfold upto
  rw [List.pairwise_map]
  exact List.pairwise_lt_range.imp (fun h => by omega)
theorem upto_get {n k : Nat} (h : k < n) : (upto n)[k]? = some (k : Int) := by
  unfold upto
  rw [List.getElem?_map, List.getElem?_range h]; rfl
theorem pigeon : ∀ (n : Nat) (l : List Int), l.Nodup → (∀ x ∈ l, 0 ≤ x ∧ x < n) → l.length ≤ n
  | 0, l, _, h => by
    cases l with
    | nil => simp
    | cons a r => have := h a List.mem_cons_self; omega
  | n + 1, l, hn, h => by
    have h1 : (l.erase (n : Int)).length ≤ n := pigeon n _ (hn.erase _) (fun x hx => by
      have hx' := (List.Nodup.mem_erase_iff hn).mp hx
      have := h x hx'.2
      have hne := hx'.1
      omega)
    have h2 := List.length_erase (a := (n : Int)) (l := l)
    split at h2 <;> omega
theorem perm_upto : ∀ (n : Nat) (l : List Int), l.Nodup → (∀ x ∈ l, 0 ≤ x ∧ x < n) → l.length = n → l.Perm (upto n)
  | 0, l, _, _, hl => by
    have : l = [] := List.length_eq_zero_iff.mp hl
    subst this
    exact List.Perm.refl _
  | n + 1, l, hn, h, hl => by
    have hm : (n : Int) ∈ l := by
      refine Classical.byContradiction fun hc => ?_
      have := pigeon n l hn (fun x hx => by
        have hx' := h x hx
        have : x ≠ n := fun e => hc (e ▸ hx)
        omega)
      omega
    have h2 := List.length_erase_of_mem hm
    have ih := perm_upto n (l.erase (n : Int)) (hn.erase _) (fun x hx => by
      have hx' := (List.Nodup.mem_erase_iff hn).mp hx
      have := h x hx'.2
      have hne := hx'.1
      omega) (by omega)
    have e : upto (n + 1) = upto n ++ [(n : Int)] := by
      unfold upto; rw [List.range_succ, List.map_append]; rfl
    rw [e]
    refine (List.perm_cons_erase hm).trans ?_
    refine (List.Perm.cons _ ih).trans ?_
    exact (List.perm_append_singleton _ _).symm
theorem Sh.nodup {xs : List Int} (h : Sh xs) : xs.Nodup := h.nodup_iff.mpr (upto_nodup _)
theorem Sh.mem {xs : List Int} (h : Sh xs) {x : Int} : x ∈ xs ↔ 0 ≤ x ∧ x < xs.length := (h.mem_iff).trans mem_upto
theorem sh_of {xs : List Int} (hn : xs.Nodup) (h : ∀ x ∈ xs, 0 ≤ x ∧ x < xs.length) : Sh xs := perm_upto _ xs hn h rfl

theorem rk_nonneg (row : List Int) (x : Int) : 0 ≤ rk row x := by unfold rk; omega
theorem filter_length_mono {p q : Int → Bool} (h : ∀ x, p x = true → q x = true) : ∀ l : List Int, (l.filter p).length ≤ (l.filter q).length
  | [] => by simp
  | a :: r => by
    have ih := filter_length_mono h r
    simp only [List.filter_cons]
    by_cases hp : p a = true
    · rw [if_pos hp, if_pos (h a hp)]; simp; exact ih
    · rw [if_neg hp]
      split
      · simp; omega
      · exact ih
theorem filter_length_lt {p q : Int → Bool} (h : ∀ x, p x = true → q x = true) {z : Int} (hz : p z = false) (hz' : q z = true) : ∀ l : List Int, z ∈ l → (l.filter p).length < (l.filter q).length
  | [], hm => by cases hm
  | a :: r, hm => by
    simp only [List.filter_cons]
    by_cases e : a = z
    · subst e
      have := filter_length_mono h r
      rw [if_neg (by rw [hz]; simp), if_pos hz']
      simp; omega
    · have hm' : z ∈ r := by
        rcases List.mem_cons.mp hm with h1 | h1
        · exact absurd h1.symm e
        · exact h1
      have ih := filter_length_lt h hz hz' r hm'
      by_cases hp : p a = true
      · rw [if_pos hp, if_pos (h a hp)]; simp; exact ih
      · rw [if_neg hp]
        split
        · simp; omega
        · exact ih
theorem rk_lt {row : List Int} {x y : Int} (hx : x ∈ row) (h : x < y) : rk row x < rk row y := by
  unfold rk
  have := filter_length_lt (p := fun z => decide (z < x)) (q := fun z => decide (z < y)) (fun z hz => by
    have : z < x := of_decide_eq_true hz
    exact decide_eq_true (by omega)) (z := x) (by simp) (by simpa using h) row hx
  omega
theorem rk_inj {row : List Int} {x y : Int} (hx : x ∈ row) (hy : y ∈ row) (h : rk row x = rk row y) : x = y := by
  rcases Int.lt_trichotomy x y with h1 | h1 | h1
  · have := rk_lt hx h1; omega
  · exact h1
  · have := rk_lt hy h1; omega
theorem rk_bound {row : List Int} {x : Int} (hx : x ∈ row) : rk row x < row.length := by
  unfold rk
  have := filter_length_lt (p := fun z => decide (z < x)) (q := fun _ => true) (fun _ _ => rfl) (z := x) (by simp) rfl row hx
  rw [List.filter_eq_self.mpr (fun _ _ => rfl)] at this
  omega
theorem ranks_length (row : List Int) : (ranks row).length = row.length := by simp [ranks]
theorem ranks_sh {row : List Int} (hn : row.Nodup) : Sh (ranks row) := by
  refine sh_of (nodup_map_of_inj _ (fun x hx y hy h => rk_inj hx hy h) hn) (fun v hv => ?_)
  obtain ⟨x, hx, rfl⟩ := List.mem_map.mp hv
  rw [ranks_length]
  exact ⟨rk_nonneg _ _, rk_bound hx⟩
theorem rk_upto {n : Nat} : ∀ {k : Nat}, k ≤ n → rk (upto n) (k : Int) = k := by
  intro k hk
  unfold rk upto
  rw [List.filter_map, List.length_map]
  have : ((fun y : Int => decide (y < (k : Int))) ∘ fun (j : Nat) => (j : Int)) = fun j : Nat => decide (j < k) := by
    funext j
    simp
  rw [this]
  have : (List.range n).filter (fun j => decide (j < k)) = List.range k := by
    have e : n = k + (n - k) := by omega
    rw [e, List.range_add, List.filter_append]
    have h1 : (List.range k).filter (fun j => decide (j < k)) = List.range k := List.filter_eq_self.mpr (fun j hj => by simpa using hj)
    have h2 : ((List.range (n - k)).map (k + ·)).filter (fun j => decide (j < k)) = [] := by
      rw [List.filter_eq_nil_iff]
      intro j hj
      obtain ⟨i, _, rfl⟩ := List.mem_map.mp hj
      simp
    rw [h1, h2, List.append_nil]
  rw [this, List.length_range]
theorem rk_perm {a b : List Int} (h : a.Perm b) (x : Int) : rk a x = rk b x := by
  unfold rk
  rw [(h.filter _).length_eq]
theorem ranks_self {xs : List Int} (h : Sh xs) : ranks xs = xs := by
  unfold ranks
  conv => rhs; rw [← List.map_id xs]
  refine List.map_congr_left fun x hx => ?_
  have hb := h.mem.mp hx
  rw [rk_perm h]
  have e : x = ((x.toNat : Nat) : Int) := by omega
  rw [e, rk_upto (by omega)]; rfl
theorem sorted_eq_upto {s xs : List Int} (hp : s.Perm xs) (hs : s.Pairwise (· ≤ ·)) {n : Nat} : (s = upto n) ↔ xs.Perm (upto n) := by
  constructor
  · intro e; rw [← e]; exact hp.symm
  · intro h
    have h2 : s.Perm (upto n) := hp.trans h
    exact h2.eq_of_pairwise (fun a b _ _ h1 h2 => Int.le_antisymm h1 h2) hs (upto_sorted n)

/-! backward, contrary, turned over -/
theorem sh_reverse {xs : List Int} (h : Sh xs) : Sh xs.reverse := by
  unfold Sh; rw [List.length_reverse]; exact (List.reverse_perm xs).trans h
noncomputable def contr (xs : List Int) : List Int := xs.map (fun v => (xs.length : Int) - 1 - v)
theorem contr_length (xs : List Int) : (contr xs).length = xs.length := by simp [contr]
theorem sh_contr {xs : List Int} (h : Sh xs) : Sh (contr xs) := by
  refine sh_of (nodup_map_of_inj _ (fun x _ y _ e => by omega) h.nodup) (fun v hv => ?_)
  rw [contr_length]
  obtain ⟨x, hx, rfl⟩ := List.mem_map.mp hv
  have := h.mem.mp hx
  omega
theorem contr_contr (xs : List Int) : contr (contr xs) = xs := by
  unfold contr
  rw [List.map_map, List.length_map]
  conv => rhs; rw [← List.map_id xs]
  exact List.map_congr_left fun x _ => by show (xs.length : Int) - 1 - ((xs.length : Int) - 1 - x) = x; omega
end SO

namespace SO
/-! orders within rows -/
noncomputable def vAt (row : List Int) (k : Nat) : Int := row.getD k 0
theorem vAt_get {row : List Int} {k : Nat} (h : k < row.length) : row[k]? = some (vAt row k) := by
  unfold vAt
  simp [List.getD_eq_getElem?_getD, List.getElem?_eq_getElem h]
theorem vAt_of {row : List Int} {k : Nat} {v : Int} (h : row[k]? = some v) : vAt row k = v := by
  unfold vAt
  rw [List.getD_eq_getElem?_getD, h]; rfl
theorem vAt_mem {row : List Int} {k : Nat} (h : k < row.length) : vAt row k ∈ row := List.mem_of_getElem? (vAt_get h)
theorem vAt_inj {row : List Int} (hn : row.Nodup) {i j : Nat} (hi : i < row.length) (hj : j < row.length) (h : vAt row i = vAt row j) : i = j := by
  have h1 := vAt_get hi
  rw [h, ← vAt_get hj] at h1
  exact (List.getElem?_inj hi hn).mp h1
noncomputable def startOf (t : List Nat) : Nat := match t.getLast? with
  | none => 0
  | some l => l + 1
noncomputable def agr (row order : List Int) (t : List Nat) (p : Nat) : Bool :=
  (List.range t.length).all fun k => decide (decide (vAt row (t.getD k 0) < vAt row p) = decide (vAt order k < vAt order t.length))
noncomputable def froms (n : Nat) (t : List Nat) : List Nat := List.range' (startOf t) (n - startOf t)
theorem mem_froms {n : Nat} {t : List Nat} {p : Nat} : p ∈ froms n t ↔ startOf t ≤ p ∧ p < n := by
  unfold froms
  rw [List.mem_range'_1]
  omega
noncomputable def nextP (row order : List Int) (t : List Nat) : List Nat := (froms row.length t).filter (agr row order t)
noncomputable def allF (row order : List Int) : Nat → List Nat → List (List Nat)
  | 0, t => [t]
  | d + 1, t => (nextP row order t).flatMap fun p => allF row order d (t ++ [p])
noncomputable def firstF (row order : List Int) : Nat → List Nat → Option (List Nat)
  | 0, t => some t
  | d + 1, t => (nextP row order t).findSome? fun p => firstF row order d (t ++ [p])
theorem firstF_head (row order : List Int) : ∀ (d : Nat) (t : List Nat), firstF row order d t = (allF row order d t).head?
  | 0, t => rfl
  | d + 1, t => by
    show (nextP row order t).findSome? _ = ((nextP row order t).flatMap _).head?
    rw [List.head?_flatMap]
    congr 1
    funext p
    exact firstF_head row order d (t ++ [p])
noncomputable def comb (n : Nat) : Nat → List Nat → List (List Nat)
  | 0, t => [t]
  | d + 1, t => (froms n t).flatMap fun p => comb n d (t ++ [p])
noncomputable def okP (row order : List Int) (t : List Nat) : Bool := decide (ranks (t.map (vAt row)) = order)
/-- all pairs of t stand as in the order -/
noncomputable def Agree (row order : List Int) (t : List Nat) : Prop := ∀ i j, i < j → j < t.length → (vAt row (t.getD i 0) < vAt row (t.getD j 0) ↔ vAt order i < vAt order j)
/-- rising, below n -/
noncomputable def Rises (n : Nat) (t : List Nat) : Prop := t.Pairwise (· < ·) ∧ ∀ p ∈ t, p < n
theorem Rises.nil (n : Nat) : Rises n [] := ⟨List.Pairwise.nil, fun _ h => nomatch h⟩
theorem Rises.snoc {n : Nat} {t : List Nat} {p : Nat} (h : Rises n t) (hp : startOf t ≤ p) (hn : p < n) : Rises n (t ++ [p]) := by
  refine ⟨?_, fun q hq => ?_⟩
  · rw [List.pairwise_append]
    refine ⟨h.1, by simp, fun a ha b hb => ?_⟩
    have hb' : b = p := by simpa using hb
    subst hb'
    unfold startOf at hp
    cases e : t.getLast? with
    | none =>
      have : t = [] := List.getLast?_eq_none_iff.mp e
      subst this; cases ha
    | some l =>
      rw [e] at hp
      have hp' : l + 1 ≤ b := hp
      obtain ⟨u, hu⟩ := List.getLast?_eq_some_iff.mp e
      subst hu
      obtain ha | ha := List.mem_append.mp ha
      · have := (List.pairwise_append.mp h.1).2.2 a ha l (by simp)
        omega
      · have : a = l := by simpa using ha
        omega
  · obtain hq | hq := List.mem_append.mp hq
    · exact h.2 q hq
    · have : q = p := by simpa using hq
      omega
theorem getD_snoc_lt {t : List Nat} {p k : Nat} (h : k < t.length) : (t ++ [p]).getD k 0 = t.getD k 0 := by
  rw [List.getD_eq_getElem?_getD, List.getD_eq_getElem?_getD, List.getElem?_append_left h]
theorem getD_snoc_eq {t : List Nat} {p : Nat} : (t ++ [p]).getD t.length 0 = p := by
  rw [List.getD_eq_getElem?_getD, List.getElem?_append_right (Nat.le_refl _)]; simp
theorem agree_snoc {row order : List Int} {t : List Nat} {p : Nat} : Agree row order (t ++ [p]) ↔ Agree row order t ∧ agr row order t p = true := by
  unfold agr
  rw [List.all_eq_true]
  constructor
  · intro h
    refine ⟨fun i j hij hj => ?_, fun k hk => ?_⟩
    · have := h i j hij (by rw [List.length_append]; omega)
      rw [getD_snoc_lt (by omega), getD_snoc_lt (by omega)] at this
      exact this
    · have hk' : k < t.length := List.mem_range.mp hk
      have := h k t.length hk' (by rw [List.length_append]; simp)
      rw [getD_snoc_lt hk', getD_snoc_eq] at this
      exact decide_eq_true (decide_eq_decide.mpr this)
  · rintro ⟨h1, h2⟩ i j hij hj
    rw [List.length_append, List.length_singleton] at hj
    by_cases hjt : j < t.length
    · rw [getD_snoc_lt (by omega), getD_snoc_lt (by omega)]
      exact h1 i j hij hjt
    · have e : j = t.length := by omega
      subst e
      rw [getD_snoc_lt hij, getD_snoc_eq]
      exact decide_eq_decide.mp (of_decide_eq_true (h2 i (List.mem_range.mpr hij)))
/-- ranks are the order just where all pairs agree -/
theorem filter_count {α : Type} (p : α → Bool) : ∀ l : List α, (l.filter p).length = ((List.range l.length).filter fun k => match l[k]? with | some x => p x | none => false).length
  | [] => rfl
  | a :: r => by
    rw [List.length_cons, List.range_succ_eq_map, List.filter_cons, List.filter_cons]
    have ih := filter_count p r
    have e : ((List.range r.length).map Nat.succ).filter (fun k => match (a :: r)[k]? with | some x => p x | none => false) =
        ((List.range r.length).filter fun k => match r[k]? with | some x => p x | none => false).map Nat.succ := by
      rw [List.filter_map]; congr 1
    rw [e]
    by_cases hp : p a = true
    · rw [if_pos hp, if_pos (show (match (a :: r)[0]? with | some x => p x | none => false) = true from hp), List.length_cons, List.length_cons, List.length_map, ih]
    · rw [if_neg hp, if_neg (show ¬ (match (a :: r)[0]? with | some x => p x | none => false) = true from hp), List.length_map, ih]
theorem rk_range (vs : List Int) (x : Int) : rk vs x = (((List.range vs.length).filter fun k => decide (vAt vs k < x)).length : Nat) := by
  unfold rk
  rw [filter_count]
  congr 2
  apply List.filter_congr
  intro k hk
  rw [vAt_get (List.mem_range.mp hk)]
theorem ranks_get {vs : List Int} {k : Nat} (h : k < vs.length) : (ranks vs)[k]? = some (rk vs (vAt vs k)) := by
  unfold ranks
  rw [List.getElem?_map, vAt_get h]; rfl
theorem rk_lt_iff {vs : List Int} {i j : Nat} (hi : i < vs.length) (hj : j < vs.length) : rk vs (vAt vs i) < rk vs (vAt vs j) ↔ vAt vs i < vAt vs j := by
  constructor
  · intro h
    rcases Int.lt_trichotomy (vAt vs i) (vAt vs j) with h1 | h1 | h1
    · exact h1
    · rw [h1] at h; omega
    · have := rk_lt (vAt_mem hj) h1; omega
  · exact rk_lt (vAt_mem hi)
/-- two rows that stand alike have one shape -/
theorem ranks_congr {us vs : List Int} (hl : us.length = vs.length) (h : ∀ i j, i < us.length → j < us.length → (vAt us i < vAt us j ↔ vAt vs i < vAt vs j)) : ranks us = ranks vs := by
  apply List.ext_getElem?
  intro k
  by_cases hk : k < us.length
  · rw [ranks_get hk, ranks_get (by omega), rk_range, rk_range, ← hl]
    congr 3
    apply List.filter_congr
    intro i hi
    exact decide_eq_decide.mpr (h i k (List.mem_range.mp hi) hk)
  · rw [List.getElem?_eq_none (by rw [ranks_length]; omega), List.getElem?_eq_none (by rw [ranks_length]; omega)]
theorem ranks_iff {vs order : List Int} (hn : vs.Nodup) (ho : Sh order) (hl : vs.length = order.length) : ranks vs = order ↔ ∀ i j, i < j → j < vs.length → (vAt vs i < vAt vs j ↔ vAt order i < vAt order j) := by
  constructor
  · intro e i j hij hj
    have hr : ∀ k, k < vs.length → vAt order k = rk vs (vAt vs k) := fun k hk => by
      have := ranks_get hk
      rw [e] at this
      exact vAt_of this
    rw [hr i (by omega), hr j hj]
    exact (rk_lt_iff (by omega) hj).symm
  · intro h
    rw [← ranks_self ho]
    refine ranks_congr hl fun i j hi hj => ?_
    rcases Nat.lt_trichotomy i j with q | q | q
    · exact h i j q hj
    · subst q; simp
    · have h1 := h j i q hi
      have n1 : vAt vs i ≠ vAt vs j := fun e => by have := vAt_inj hn hi hj e; omega
      have n2 : vAt order i ≠ vAt order j := fun e => by have := vAt_inj ho.nodup (by omega) (by omega) e; omega
      omega
theorem vals_get {row : List Int} {t : List Nat} {k : Nat} (h : k < t.length) : vAt (t.map (vAt row)) k = vAt row (t.getD k 0) := by
  apply vAt_of
  rw [List.getElem?_map, List.getD_eq_getElem?_getD, List.getElem?_eq_getElem h]; rfl
theorem Rises.nodup {n : Nat} {t : List Nat} (h : Rises n t) : t.Nodup := h.1.imp (fun q => Nat.ne_of_lt q)
theorem vals_nodup {row : List Int} (hn : row.Nodup) {t : List Nat} (h : Rises row.length t) : (t.map (vAt row)).Nodup :=
  nodup_map_of_inj' hn h
where nodup_map_of_inj' {row : List Int} (hn : row.Nodup) {t : List Nat} (h : Rises row.length t) : (t.map (vAt row)).Nodup :=
  nodup_map_of_inj _ (fun _ hx _ hy e => vAt_inj hn (h.2 _ hx) (h.2 _ hy) e) h.nodup
theorem okP_iff {row order : List Int} (hn : row.Nodup) (ho : Sh order) {t : List Nat} (hr : Rises row.length t) (hl : t.length = order.length) : okP row order t = true ↔ Agree row order t := by
  unfold okP
  rw [decide_eq_true_iff, ranks_iff (vals_nodup hn hr) ho (by rw [List.length_map]; exact hl)]
  rw [List.length_map]
  constructor
  · intro h i j hij hj
    have := h i j hij hj
    rw [vals_get (by omega), vals_get hj] at this
    exact this
  · intro h i j hij hj
    rw [vals_get (by omega), vals_get hj]
    exact h i j hij hj
theorem comb_prefix {n : Nat} : ∀ (d : Nat) (t u : List Nat), u ∈ comb n d t → ∃ v, u = t ++ v ∧ v.length = d
  | 0, t, u, h => by
    have : u = t := by simpa [comb] using h
    exact ⟨[], by rw [this, List.append_nil], rfl⟩
  | d + 1, t, u, h => by
    have h' : u ∈ (froms n t).flatMap fun p => comb n d (t ++ [p]) := h
    obtain ⟨p, _, hp⟩ := List.mem_flatMap.mp h'
    obtain ⟨v, e, hv⟩ := comb_prefix d (t ++ [p]) u hp
    exact ⟨p :: v, by rw [e, List.append_assoc]; rfl, by rw [List.length_cons, hv]⟩
theorem comb_rises {n : Nat} : ∀ (d : Nat) (t u : List Nat), Rises n t → u ∈ comb n d t → Rises n u
  | 0, t, u, ht, h => by
    have : u = t := by simpa [comb] using h
    rw [this]; exact ht
  | d + 1, t, u, ht, h => by
    have h' : u ∈ (froms n t).flatMap fun p => comb n d (t ++ [p]) := h
    obtain ⟨p, hp0, hp⟩ := List.mem_flatMap.mp h'
    have hf := mem_froms.mp hp0
    exact comb_rises d (t ++ [p]) u (ht.snoc hf.1 hf.2) hp
theorem agree_prefix {row order : List Int} {t v : List Nat} (h : Agree row order (t ++ v)) : Agree row order t := fun i j hij hj => by
  have := h i j hij (by rw [List.length_append]; omega)
  rw [List.getD_eq_getElem?_getD, List.getD_eq_getElem?_getD, List.getElem?_append_left (by omega), List.getElem?_append_left (by omega)] at this
  rw [List.getD_eq_getElem?_getD, List.getD_eq_getElem?_getD]
  exact this
theorem filter_flatMap' {α β : Type} (p : β → Bool) (f : α → List β) : ∀ l : List α, (l.flatMap f).filter p = l.flatMap fun x => (f x).filter p
  | [] => rfl
  | a :: r => by rw [List.flatMap_cons, List.flatMap_cons, List.filter_append, filter_flatMap' p f r]
theorem flatMap_filter_drop {α β : Type} (q : α → Bool) (f : α → List β) : ∀ l : List α, (∀ x ∈ l, q x = false → f x = []) → l.flatMap f = (l.filter q).flatMap f
  | [], _ => rfl
  | a :: r, h => by
    have ih := flatMap_filter_drop q f r fun x hx => h x (List.mem_cons_of_mem _ hx)
    rw [List.flatMap_cons, List.filter_cons]
    by_cases hq : q a = true
    · rw [if_pos hq, List.flatMap_cons, ih]
    · rw [if_neg hq, h a List.mem_cons_self (by simpa using hq), List.nil_append, ih]
theorem flatMap_congr' {α β : Type} {f g : α → List β} : ∀ {l : List α}, (∀ x ∈ l, f x = g x) → l.flatMap f = l.flatMap g
  | [], _ => rfl
  | a :: r, h => by rw [List.flatMap_cons, List.flatMap_cons, h a List.mem_cons_self, flatMap_congr' fun x hx => h x (List.mem_cons_of_mem _ hx)]
/-- the search gives just the places at which the order stands, in order -/
theorem allF_eq {row order : List Int} (hn : row.Nodup) (ho : Sh order) : ∀ (d : Nat) (t : List Nat), Rises row.length t → Agree row order t → t.length + d = order.length → allF row order d t = (comb row.length d t).filter (okP row order)
  | 0, t, hr, ha, hl => by
    show [t] = [t].filter (okP row order)
    rw [List.filter_cons, if_pos ((okP_iff hn ho hr (by omega)).mpr ha)]; rfl
  | d + 1, t, hr, ha, hl => by
    show (nextP row order t).flatMap _ = ((froms row.length t).flatMap _).filter _
    rw [filter_flatMap', flatMap_filter_drop (agr row order t) (fun x => (comb row.length d (t ++ [x])).filter (okP row order)) (froms row.length t)]
    · refine flatMap_congr' fun p hp => ?_
      obtain ⟨hp1, hp2⟩ := List.mem_filter.mp hp
      have hf := mem_froms.mp hp1
      exact allF_eq hn ho d (t ++ [p]) (hr.snoc hf.1 hf.2) (agree_snoc.mpr ⟨ha, hp2⟩) (by rw [List.length_append, List.length_singleton]; omega)
    · intro p hp hq
      have hf := mem_froms.mp hp
      rw [List.filter_eq_nil_iff]
      intro u hu hok
      have hru := comb_rises d (t ++ [p]) u (hr.snoc hf.1 hf.2) hu
      obtain ⟨v, e, hv⟩ := comb_prefix d (t ++ [p]) u hu
      have := (okP_iff hn ho hru (by rw [e, List.length_append, List.length_append, List.length_singleton, hv]; omega)).mp hok
      rw [e] at this
      have := (agree_snoc.mp (agree_prefix this)).2
      rw [this] at hq; cases hq
theorem allF_all {row order : List Int} (hn : row.Nodup) (ho : Sh order) : allF row order order.length [] = (comb row.length order.length []).filter (okP row order) :=
  allF_eq hn ho _ [] (Rises.nil _) (fun _ _ _ h => absurd h (Nat.not_lt_zero _)) (by simp)
/-! level by level -/
end SO

namespace SO
/-! how often an order stands, from each side -/
noncomputable def cnt (row order : List Int) : Nat := ((comb row.length order.length []).filter (okP row order)).length
theorem nodup_flatMap' {α β : Type} (f : α → List β) : ∀ {l : List α}, l.Nodup → (∀ x ∈ l, (f x).Nodup) → (∀ x ∈ l, ∀ y ∈ l, x ≠ y → ∀ z, z ∈ f x → z ∉ f y) → (l.flatMap f).Nodup
  | [], _, _, _ => List.nodup_nil
  | a :: r, hn, h1, h2 => by
    rw [List.nodup_cons] at hn
    rw [List.flatMap_cons, List.nodup_append]
    refine ⟨h1 a List.mem_cons_self, nodup_flatMap' f hn.2 (fun x hx => h1 x (List.mem_cons_of_mem _ hx)) (fun x hx y hy => h2 x (List.mem_cons_of_mem _ hx) y (List.mem_cons_of_mem _ hy)), fun z hz w hw e => ?_⟩
    subst e
    obtain ⟨y, hy, hz'⟩ := List.mem_flatMap.mp hw
    exact h2 a List.mem_cons_self y (List.mem_cons_of_mem _ hy) (fun e => hn.1 (e ▸ hy)) z hz hz'
theorem comb_nodup (n : Nat) : ∀ (d : Nat) (t : List Nat), (comb n d t).Nodup
  | 0, t => by show [t].Nodup; simp
  | d + 1, t => by
    show ((froms n t).flatMap fun p => comb n d (t ++ [p])).Nodup
    refine nodup_flatMap' _ (by unfold froms; exact List.nodup_range') (fun p _ => comb_nodup n d (t ++ [p])) (fun p _ q _ hpq u hu hu' => hpq ?_)
    obtain ⟨v, e, _⟩ := comb_prefix d (t ++ [p]) u hu
    obtain ⟨w, e', _⟩ := comb_prefix d (t ++ [q]) u hu'
    rw [e, List.append_assoc, List.append_assoc] at e'
    have := List.append_cancel_left e'
    injection this
theorem startOf_le {n : Nat} {t : List Nat} {p : Nat} (h : Rises n (t ++ [p])) : startOf t ≤ p := by
  unfold startOf
  cases e : t.getLast? with
  | none => exact Nat.zero_le _
  | some l =>
    obtain ⟨u, hu⟩ := List.getLast?_eq_some_iff.mp e
    subst hu
    exact (List.pairwise_append.mp h.1).2.2 l (by simp) p (by simp)
theorem mem_comb_of {n : Nat} : ∀ (d : Nat) (t v : List Nat), v.length = d → Rises n (t ++ v) → t ++ v ∈ comb n d t
  | 0, t, v, hl, h => by
    have : v = [] := List.length_eq_zero_iff.mp hl
    subst this
    show t ++ [] ∈ [t]
    simp
  | d + 1, t, [], hl, _ => by simp at hl
  | d + 1, t, p :: v, hl, h => by
    show t ++ p :: v ∈ (froms n t).flatMap fun q => comb n d (t ++ [q])
    have e : t ++ p :: v = (t ++ [p]) ++ v := by rw [List.append_assoc]; rfl
    rw [e] at h ⊢
    refine List.mem_flatMap.mpr ⟨p, mem_froms.mpr ?_, mem_comb_of d (t ++ [p]) v (by simpa using hl) h⟩
    have h1 : Rises n (t ++ [p]) := ⟨(List.pairwise_append.mp h.1).1, fun q hq => h.2 q (List.mem_append_left _ hq)⟩
    exact ⟨startOf_le h1, h1.2 p (by simp)⟩
theorem mem_comb {n m : Nat} {u : List Nat} : u ∈ comb n m [] ↔ Rises n u ∧ u.length = m := by
  constructor
  · intro h
    obtain ⟨v, e, hv⟩ := comb_prefix m [] u h
    exact ⟨comb_rises m [] u (Rises.nil n) h, by rw [e]; simpa using hv⟩
  · rintro ⟨h1, h2⟩
    exact mem_comb_of m [] u h2 (by simpa using h1)
theorem length_le_of {α : Type} [DecidableEq α] : ∀ {l m : List α}, l.Nodup → (∀ x ∈ l, x ∈ m) → l.length ≤ m.length
  | [], _, _, _ => Nat.zero_le _
  | a :: r, m, hn, h => by
    rw [List.nodup_cons] at hn
    have ha := h a List.mem_cons_self
    have := length_le_of (l := r) (m := m.erase a) hn.2 (fun x hx => (List.mem_erase_of_ne (fun e => by subst e; exact hn.1 hx)).mpr (h x (List.mem_cons_of_mem _ hx)))
    rw [List.length_erase_of_mem ha] at this
    have hp : 0 < m.length := List.length_pos_of_mem ha
    rw [List.length_cons]; omega
/-- a map of the places that keeps standing, one to one -/
theorem cnt_le {row order row' order' : List Int} (f : List Nat → List Nat) (hf : ∀ t, Rises row.length t → t.length = order.length → okP row order t = true → Rises row'.length (f t) ∧ (f t).length = order'.length ∧ okP row' order' (f t) = true)
    (inj : ∀ t u, Rises row.length t → t.length = order.length → okP row order t = true → Rises row.length u → u.length = order.length → okP row order u = true → f t = f u → t = u) : cnt row order ≤ cnt row' order' := by
  unfold cnt
  rw [← List.length_map (f := f)]
  refine length_le_of (nodup_map_of_inj f (fun t ht u hu e => ?_) ((comb_nodup _ _ _).filter _)) (fun v hv => ?_)
  · obtain ⟨h1, h2⟩ := List.mem_filter.mp ht
    obtain ⟨g1, g2⟩ := List.mem_filter.mp hu
    obtain ⟨a1, a2⟩ := mem_comb.mp h1
    obtain ⟨b1, b2⟩ := mem_comb.mp g1
    exact inj t u a1 a2 h2 b1 b2 g2 e
  · obtain ⟨t, ht, rfl⟩ := List.mem_map.mp hv
    obtain ⟨h1, h2⟩ := List.mem_filter.mp ht
    obtain ⟨a1, a2⟩ := mem_comb.mp h1
    obtain ⟨c1, c2, c3⟩ := hf t a1 a2 h2
    exact List.mem_filter.mpr ⟨mem_comb.mpr ⟨c1, c2⟩, c3⟩
/-! backward -/
theorem ranks_reverse (vs : List Int) : ranks vs.reverse = (ranks vs).reverse := by
  unfold ranks
  rw [← List.map_reverse]
  refine List.map_congr_left fun x _ => rk_perm (List.reverse_perm vs) x
noncomputable def flip (n : Nat) (t : List Nat) : List Nat := (t.map fun p => n - 1 - p).reverse
theorem flip_rises {n : Nat} {t : List Nat} (h : Rises n t) : Rises n (flip n t) := by
  unfold flip
  refine ⟨?_, fun p hp => ?_⟩
  · rw [List.pairwise_reverse, List.pairwise_map]
    refine h.1.imp_of_mem fun {a b} ha hb hab => ?_
    have := h.2 a ha
    have := h.2 b hb
    omega
  · obtain ⟨q, hq, rfl⟩ := List.mem_map.mp (List.mem_reverse.mp hp)
    have := h.2 q hq
    omega
theorem vAt_reverse {row : List Int} {p : Nat} (h : p < row.length) : vAt row.reverse (row.length - 1 - p) = vAt row p := by
  apply vAt_of
  rw [List.getElem?_reverse (by omega)]
  rw [show row.length - 1 - (row.length - 1 - p) = p by omega]
  exact vAt_get h
theorem flip_vals {row : List Int} {t : List Nat} (h : Rises row.length t) : (flip row.length t).map (vAt row.reverse) = (t.map (vAt row)).reverse := by
  unfold flip
  rw [List.map_reverse, List.map_map]
  congr 1
  exact List.map_congr_left fun p hp => vAt_reverse (h.2 p hp)
theorem flip_flip {n : Nat} {t : List Nat} (h : Rises n t) : flip n (flip n t) = t := by
  unfold flip
  rw [List.map_reverse, List.reverse_reverse, List.map_map]
  conv => rhs; rw [← List.map_id t]
  refine List.map_congr_left fun p hp => ?_
  have := h.2 p hp
  show n - 1 - (n - 1 - p) = p
  omega
theorem cnt_back_le (row order : List Int) : cnt row order ≤ cnt row.reverse order.reverse := by
  refine cnt_le (flip row.length) (fun t hr hl hok => ⟨?_, ?_, ?_⟩) (fun t u hr _ _ hu _ _ e => ?_)
  · rw [List.length_reverse]; exact flip_rises hr
  · rw [List.length_reverse]; unfold flip; simpa using hl
  · unfold okP at hok ⊢
    rw [flip_vals hr, ranks_reverse, of_decide_eq_true hok]; simp
  · rw [← flip_flip hr, e, flip_flip hu]
theorem cnt_back (row order : List Int) : cnt row.reverse order.reverse = cnt row order := by
  have h1 := cnt_back_le row order
  have h2 := cnt_back_le row.reverse order.reverse
  rw [List.reverse_reverse, List.reverse_reverse] at h2
  omega
/-! contrary -/
theorem ranks_contr {vs : List Int} (hn : vs.Nodup) (c : Int) : ranks (vs.map fun v => c - v) = contr (ranks vs) := by
  have hn2 : (vs.map fun v => c - v).Nodup := nodup_map_of_inj _ (fun x _ y _ e => by omega) hn
  have hl : (vs.map fun v => c - v).length = vs.length := List.length_map _
  refine (ranks_iff hn2 (sh_contr (ranks_sh hn)) (by rw [hl, contr_length, ranks_length])).mpr fun i j hij hj => ?_
  rw [hl] at hj
  have g : ∀ k, k < vs.length → vAt (vs.map fun v => c - v) k = c - vAt vs k := fun k hk => vAt_of (by rw [List.getElem?_map, vAt_get hk]; rfl)
  have g2 : ∀ k, k < vs.length → vAt (contr (ranks vs)) k = ((ranks vs).length : Int) - 1 - rk vs (vAt vs k) := fun k hk => vAt_of (by
    unfold contr
    rw [List.getElem?_map, ranks_get hk]; rfl)
  rw [g i (by omega), g j hj, g2 i (by omega), g2 j hj]
  have := rk_lt_iff (vs := vs) hj (show i < vs.length by omega)
  omega
theorem cnt_contr_le {row order : List Int} (hn : row.Nodup) : cnt row order ≤ cnt (contr row) (contr order) := by
  refine cnt_le id (fun t hr hl hok => ⟨by rw [contr_length]; exact hr, by rw [contr_length]; exact hl, ?_⟩) (fun t u _ _ _ _ _ _ e => e)
  unfold okP at hok ⊢
  have e : (id t).map (vAt (contr row)) = (t.map (vAt row)).map fun v => ((row.length : Int) - 1) - v := by
    rw [List.map_map]
    refine List.map_congr_left fun p hp => vAt_of ?_
    unfold contr
    rw [List.getElem?_map, vAt_get (hr.2 p hp)]; rfl
  rw [e, ranks_contr (vals_nodup hn hr), of_decide_eq_true hok]; simp
theorem cnt_contr {row order : List Int} (hr : Sh row) : cnt (contr row) (contr order) = cnt row order := by
  have h1 := cnt_contr_le (order := order) hr.nodup
  have h2 := cnt_contr_le (order := contr order) (sh_contr hr).nodup
  rw [contr_contr, contr_contr] at h2
  omega
/-! turned over -/
/-! the six orders of three -/
noncomputable def sixes : List (List Int) := [[0, 1, 2], [0, 2, 1], [1, 0, 2], [1, 2, 0], [2, 0, 1], [2, 1, 0]]
end SO

namespace SO
/-! shapes by putting in; lengths; levels -/
theorem upto_succ (n : Nat) : upto (n + 1) = upto n ++ [(n : Int)] := by
  unfold upto; rw [List.range_succ, List.map_append]; rfl
theorem sh_nil : Sh [] := List.Perm.refl _
theorem sh_insert {xs : List Int} (h : Sh xs) (i : Nat) {v : Int} (hv : v = xs.length) : Sh (xs.take i ++ v :: xs.drop i) := by
  subst hv
  have hl : (xs.take i ++ (xs.length : Int) :: xs.drop i).length = xs.length + 1 := by
    rw [List.length_append, List.length_cons, List.length_take, List.length_drop]; omega
  unfold Sh
  rw [hl, upto_succ]
  refine List.perm_middle.trans ?_
  rw [List.take_append_drop]
  exact (List.Perm.cons _ h).trans (List.perm_append_singleton _ _).symm
theorem froms_len (n : Nat) (t : List Nat) : (froms n t).length ≤ n := by
  unfold froms; rw [List.length_range']; omega
theorem take_flatMap_succ {α β : Type} {f : α → List β} {l : List α} {i : Nat} {x : α} (h : l[i]? = some x) : (l.take (i + 1)).flatMap f = (l.take i).flatMap f ++ f x := by
  have ⟨hi, e⟩ := List.getElem?_eq_some_iff.mp h
  rw [List.take_succ_eq_append_getElem hi, List.flatMap_append, e, List.flatMap_cons, List.flatMap_nil, List.append_nil]
theorem take_flatMap_le {α β : Type} (f : α → List β) (l : List α) (i : Nat) : ((l.take i).flatMap f).length ≤ (l.flatMap f).length := by
  conv => rhs; rw [← List.take_append_drop i l, List.flatMap_append, List.length_append]
  omega
theorem findSome_none {α β : Type} {f : α → Option β} {l : List α} (h : ∀ x ∈ l, f x = none) : l.findSome? f = none := List.findSome?_eq_none_iff.mpr h
theorem findSome_at {α β : Type} {f : α → Option β} {l : List α} {i : Nat} {x : α} {b : β} (hx : l[i]? = some x) (hb : ∀ y ∈ l.take i, f y = none) (h : f x = some b) : l.findSome? f = some b := by
  obtain ⟨hi, e⟩ := List.getElem?_eq_some_iff.mp hx
  have hl : l = l.take i ++ x :: l.drop (i + 1) := by
    conv => lhs; rw [← List.take_append_drop i l, List.drop_eq_getElem_cons hi, e]
  rw [hl, List.findSome?_append, findSome_none hb, Option.none_or, List.findSome?_cons, h]
theorem mem_take_succ {α : Type} {l : List α} {i : Nat} {x y : α} (hx : l[i]? = some x) (h : y ∈ l.take (i + 1)) : y ∈ l.take i ∨ y = x := by
  obtain ⟨hi, e⟩ := List.getElem?_eq_some_iff.mp hx
  rw [List.take_succ_eq_append_getElem hi, List.mem_append, e] at h
  rcases h with h | h
  · exact .inl h
  · right; simpa using h
theorem startOf_pos {t : List Nat} (h : 0 < t.length) : startOf t = t.getD (t.length - 1) 0 + 1 := by
  unfold startOf
  rw [List.getLast?_eq_getElem?, List.getD_eq_getElem?_getD]
  rw [List.getElem?_eq_getElem (show t.length - 1 < t.length by omega)]
  rfl
theorem startOf_le_n {n : Nat} {t : List Nat} (h : Rises n t) : startOf t ≤ n := by
  unfold startOf
  cases e : t.getLast? with
  | none => exact Nat.zero_le _
  | some l => exact h.2 l (List.mem_of_getLast? e)
end SO

namespace SO
/-! a list is a shape just where each number below its length stands in it -/
theorem perm_of_sub {α : Type} [DecidableEq α] : ∀ {l m : List α}, l.Nodup → (∀ x ∈ l, x ∈ m) → m.length ≤ l.length → l.Perm m
  | [], m, _, _, hl => by
    have : m = [] := List.length_eq_zero_iff.mp (Nat.le_zero.mp hl)
    rw [this]
  | a :: r, m, hn, h, hl => by
    rw [List.nodup_cons] at hn
    have ha := h a List.mem_cons_self
    have ih := perm_of_sub (l := r) (m := m.erase a) hn.2 (fun x hx => (List.mem_erase_of_ne (fun e => by subst e; exact hn.1 hx)).mpr (h x (List.mem_cons_of_mem _ hx))) (by
      rw [List.length_erase_of_mem ha]
      rw [List.length_cons] at hl
      omega)
    exact (ih.cons a).trans (List.perm_cons_erase ha).symm
end SO

namespace SO
/-! in how many ways least numbers go on, and their numbers -/
noncomputable def ways : Nat → Nat → Nat
  | 0, _ => 1
  | n + 1, last => ((List.range (min (last + 1) (n + 1))).map (ways n)).sum
noncomputable def upW (n k : Nat) : Nat := ((List.range k).map (ways n)).sum
theorem upW_zero (n : Nat) : upW n 0 = 0 := rfl
theorem upW_succ (n k : Nat) : upW n (k + 1) = upW n k + ways n k := by
  unfold upW
  rw [List.range_succ, List.map_append, List.sum_append]; simp
theorem ways_succ (n last : Nat) : ways (n + 1) last = upW n (min (last + 1) (n + 1)) := rfl
theorem upW_mono (n : Nat) {a b : Nat} (h : a ≤ b) : upW n a ≤ upW n b := by
  induction b with
  | zero => rw [Nat.le_zero.mp h]; exact Nat.le_refl _
  | succ b ih =>
    rw [upW_succ]
    by_cases e : a ≤ b
    · have := ih e; omega
    · have e : a = b + 1 := by omega
      subst e; rw [upW_succ]; exact Nat.le_refl _
theorem upW_lt {n a b : Nat} (h : upW n a < upW n b) : a < b := by
  by_cases c : a < b
  · exact c
  · have := upW_mono n (a := b) (b := a) (by omega); omega
/-- least numbers for n more places, none above last -/
noncomputable def Vl : Nat → Int → List Int → Prop
  | 0, _, L => L = []
  | n + 1, last, L => ∃ h r, L = h :: r ∧ 0 ≤ h ∧ h ≤ last ∧ h ≤ n ∧ Vl n h r
noncomputable def rnk : Nat → List Int → Nat
  | 0, _ => 0
  | _ + 1, [] => 0
  | n + 1, h :: r => upW n h.toNat + rnk n r
theorem Vl.length : ∀ {n : Nat} {last : Int} {L : List Int}, Vl n last L → L.length = n
  | 0, _, _, h => by rw [show _ = [] from h]; rfl
  | n + 1, _, _, h => by
    obtain ⟨x, r, rfl, _, _, _, h⟩ := h
    rw [List.length_cons, Vl.length h]
theorem rnk_lt : ∀ {n : Nat} {last : Int} {L : List Int}, Vl n last L → 0 ≤ last → rnk n L < ways n last.toNat
  | 0, _, _, _, _ => Nat.one_pos
  | n + 1, last, _, h, h0 => by
    obtain ⟨x, r, rfl, hx0, hxl, hxn, h⟩ := h
    have h1 := rnk_lt h hx0
    have h2 : upW n (x.toNat + 1) ≤ upW n (min (last.toNat + 1) (n + 1)) := upW_mono n (by omega)
    rw [upW_succ] at h2
    rw [ways_succ]
    show upW n x.toNat + rnk n r < _
    omega
theorem rnk_inj : ∀ {n : Nat} {last : Int} {L M : List Int}, Vl n last L → Vl n last M → rnk n L = rnk n M → L = M
  | 0, _, _, _, h1, h2, _ => by rw [show _ = [] from h1, show _ = [] from h2]
  | n + 1, last, _, _, h1, h2, e => by
    obtain ⟨x, r, rfl, hx0, hxl, hxn, h1⟩ := h1
    obtain ⟨y, t, rfl, hy0, hyl, hyn, h2⟩ := h2
    have e' : upW n x.toNat + rnk n r = upW n y.toNat + rnk n t := e
    have a1 := rnk_lt h1 hx0
    have a2 := rnk_lt h2 hy0
    have s1 := upW_succ n x.toNat
    have s2 := upW_succ n y.toNat
    have hxy : x = y := by
      by_cases c : x.toNat < y.toNat
      · have := upW_mono n (a := x.toNat + 1) (b := y.toNat) c; omega
      · by_cases c2 : y.toNat < x.toNat
        · have := upW_mono n (a := y.toNat + 1) (b := x.toNat) c2; omega
        · omega
    subst hxy
    rw [rnk_inj h1 h2 (by omega)]
theorem rnk_sum : ∀ (L : List Int), rnk L.length L = ((List.range L.length).map fun k => upW (L.length - 1 - k) (vAt L k).toNat).sum
  | [] => rfl
  | h :: r => by
    rw [List.length_cons, List.range_succ_eq_map, List.map_cons, List.sum_cons, List.map_map]
    show upW r.length h.toNat + rnk r.length r = _
    rw [rnk_sum r]
    congr 1
    congr 1
    refine List.map_congr_left fun k hk => ?_
    have hk' := List.mem_range.mp hk
    show upW (r.length - 1 - k) (vAt r k).toNat = upW (r.length + 1 - 1 - (k + 1)) (vAt (h :: r) (k + 1)).toNat
    have e : r.length + 1 - 1 - (k + 1) = r.length - 1 - k := by omega
    rw [e]; rfl
end SO

namespace SO
/-! shapes by their least numbers -/
noncomputable def lm : Int → List Int → List Int
  | _, [] => []
  | l, x :: r => min l x :: lm (min l x) r
theorem lm_length : ∀ (l : Int) (S : List Int), (lm l S).length = S.length
  | _, [] => rfl
  | l, x :: r => by rw [lm, List.length_cons, List.length_cons, lm_length]
/-- c forbids: with fall a < b < c, else a < c < b -/
noncomputable def bad3 (fall : Bool) (a b c : Int) : Prop := a < b ∧ if fall = true then b < c else a < c ∧ c < b
noncomputable def av (fall : Bool) : Int → List Int → Prop
  | _, [] => True
  | l, x :: r => (∀ y ∈ r, ¬ bad3 fall l x y) ∧ av fall (min l x) r
theorem bad3_min {fall : Bool} {l x b c : Int} : bad3 fall (min l x) b c ↔ bad3 fall l b c ∨ bad3 fall x b c := by
  unfold bad3
  cases fall
  · simp only [Bool.false_eq_true, if_false]; omega
  · simp only [if_true]; omega
noncomputable def P2 (fall : Bool) (l : Int) (S : List Int) : Prop := ∃ j k, j < k ∧ k < S.length ∧ bad3 fall l (vAt S j) (vAt S k)
noncomputable def P3 (fall : Bool) (S : List Int) : Prop := ∃ i j k, i < j ∧ j < k ∧ k < S.length ∧ bad3 fall (vAt S i) (vAt S j) (vAt S k)
theorem vAt_succ (x : Int) (r : List Int) (k : Nat) : vAt (x :: r) (k + 1) = vAt r k := rfl
theorem P2_cons {fall : Bool} {l x : Int} {r : List Int} : P2 fall l (x :: r) ↔ (∃ y ∈ r, bad3 fall l x y) ∨ P2 fall l r := by
  constructor
  · rintro ⟨j, k, hjk, hk, h⟩
    cases k with
    | zero => omega
    | succ k =>
      rw [vAt_succ] at h
      rw [List.length_cons] at hk
      cases j with
      | zero => exact .inl ⟨vAt r k, vAt_mem (by omega), h⟩
      | succ j => exact .inr ⟨j, k, by omega, by omega, h⟩
  · rintro (⟨y, hy, h⟩ | ⟨j, k, hjk, hk, h⟩)
    · obtain ⟨k, hk, rfl⟩ := List.getElem_of_mem hy
      refine ⟨0, k + 1, by omega, by rw [List.length_cons]; omega, ?_⟩
      rw [vAt_succ]
      have : vAt r k = r[k] := vAt_of (List.getElem?_eq_getElem hk)
      rw [this]; exact h
    · exact ⟨j + 1, k + 1, by omega, by rw [List.length_cons]; omega, h⟩
theorem P3_cons {fall : Bool} {x : Int} {r : List Int} : P3 fall (x :: r) ↔ P2 fall x r ∨ P3 fall r := by
  constructor
  · rintro ⟨i, j, k, hij, hjk, hk, h⟩
    cases k with
    | zero => omega
    | succ k =>
      cases j with
      | zero => omega
      | succ j =>
        rw [vAt_succ, vAt_succ] at h
        rw [List.length_cons] at hk
        cases i with
        | zero => exact .inl ⟨j, k, by omega, by omega, h⟩
        | succ i => exact .inr ⟨i, j, k, by omega, by omega, by omega, h⟩
  · rintro (⟨j, k, hjk, hk, h⟩ | ⟨i, j, k, hij, hjk, hk, h⟩)
    · exact ⟨0, j + 1, k + 1, by omega, by omega, by rw [List.length_cons]; omega, h⟩
    · exact ⟨i + 1, j + 1, k + 1, by omega, by omega, by rw [List.length_cons]; omega, h⟩
theorem P2_min {fall : Bool} {l x : Int} {S : List Int} : P2 fall (min l x) S ↔ P2 fall l S ∨ P2 fall x S := by
  unfold P2
  constructor
  · rintro ⟨j, k, h1, h2, h⟩
    rcases bad3_min.mp h with h | h
    · exact .inl ⟨j, k, h1, h2, h⟩
    · exact .inr ⟨j, k, h1, h2, h⟩
  · rintro (⟨j, k, h1, h2, h⟩ | ⟨j, k, h1, h2, h⟩)
    · exact ⟨j, k, h1, h2, bad3_min.mpr (.inl h)⟩
    · exact ⟨j, k, h1, h2, bad3_min.mpr (.inr h)⟩
theorem av_iff {fall : Bool} : ∀ (S : List Int) (l : Int), av fall l S ↔ ¬ P2 fall l S ∧ ¬ P3 fall S
  | [], l => ⟨fun _ => ⟨fun ⟨_, _, _, h, _⟩ => by simp at h, fun ⟨_, _, _, _, _, h, _⟩ => by simp at h⟩, fun _ => trivial⟩
  | x :: r, l => by
    unfold av
    rw [av_iff r (min l x), P2_cons, P3_cons, P2_min]
    constructor
    · rintro ⟨h1, h2, h3⟩
      refine ⟨?_, ?_⟩
      · rintro (⟨y, hy, h⟩ | h)
        · exact h1 y hy h
        · exact h2 (.inl h)
      · rintro (h | h)
        · exact h2 (.inr h)
        · exact h3 h
    · rintro ⟨h1, h2⟩
      exact ⟨fun y hy h => h1 (.inl ⟨y, hy, h⟩), fun h => h.elim (fun h => h1 (.inr h)) (fun h => h2 (.inl h)), fun h => h2 (.inr h)⟩
theorem av_big {fall : Bool} {S : List Int} {l : Int} (hl : ∀ x ∈ S, x ≤ l) : av fall l S ↔ ¬ P3 fall S := by
  rw [av_iff]
  refine ⟨fun h => h.2, fun h => ⟨?_, h⟩⟩
  rintro ⟨j, k, hjk, hk, h1, _⟩
  have := hl _ (vAt_mem (row := S) (k := j) (by omega))
  omega
/-- the two orders of three to which all are brought -/
noncomputable def upr (fall : Bool) : List Int := if fall = true then [0, 1, 2] else [0, 2, 1]
theorem three_list {t : List Nat} (h : t.length = 3) : ∃ i j k, t = [i, j, k] := by
  match t, h with
  | [i, j, k], _ => exact ⟨i, j, k, rfl⟩
theorem cnt_zero {row order : List Int} : cnt row order = 0 ↔ ∀ t, Rises row.length t → t.length = order.length → okP row order t = false := by
  unfold cnt
  rw [List.length_eq_zero_iff, List.filter_eq_nil_iff]
  constructor
  · intro h t h1 h2
    exact Bool.eq_false_iff.mpr (h t (mem_comb.mpr ⟨h1, h2⟩))
  · intro h t ht
    obtain ⟨h1, h2⟩ := mem_comb.mp ht
    rw [h t h1 h2]; exact Bool.false_ne_true
theorem rises3 {n i j k : Nat} : Rises n [i, j, k] ↔ i < j ∧ j < k ∧ k < n := by
  unfold Rises
  constructor
  · rintro ⟨h1, h2⟩
    rw [List.pairwise_cons, List.pairwise_cons] at h1
    exact ⟨h1.1 j (by simp), h1.2.1 k (by simp), h2 k (by simp)⟩
  · rintro ⟨h1, h2, h3⟩
    refine ⟨?_, ?_⟩
    · simp; omega
    · intro p hp
      simp at hp
      omega
theorem sh_upr (fall : Bool) : Sh (upr fall) := by cases fall <;> decide
theorem agree3 {row o : List Int} {i j k : Nat} : Agree row o [i, j, k] ↔ (vAt row i < vAt row j ↔ vAt o 0 < vAt o 1) ∧ (vAt row i < vAt row k ↔ vAt o 0 < vAt o 2) ∧ (vAt row j < vAt row k ↔ vAt o 1 < vAt o 2) := by
  unfold Agree
  constructor
  · intro h
    exact ⟨h 0 1 (by omega) (by simp), h 0 2 (by omega) (by simp), h 1 2 (by omega) (by simp)⟩
  · rintro ⟨h1, h2, h3⟩ a b hab hb
    have hb' : b < 3 := hb
    match a, b, hab, hb' with
    | 0, 1, _, _ => exact h1
    | 0, 2, _, _ => exact h2
    | 1, 2, _, _ => exact h3
    | a + 2, b, hab, hb' => omega
theorem cnt_P3 {fall : Bool} {S : List Int} (hn : S.Nodup) : cnt S (upr fall) = 0 ↔ ¬ P3 fall S := by
  rw [cnt_zero]
  have hlen : (upr fall).length = 3 := by cases fall <;> rfl
  have key : ∀ i j k, i < j → j < k → k < S.length → (okP S (upr fall) [i, j, k] = true ↔ bad3 fall (vAt S i) (vAt S j) (vAt S k)) := by
    intro i j k h1 h2 h3
    rw [okP_iff hn (sh_upr fall) (rises3.mpr ⟨h1, h2, h3⟩) (by rw [hlen]; rfl), agree3]
    have nij : vAt S i ≠ vAt S j := fun e => by have := vAt_inj hn (by omega) (by omega) e; omega
    have njk : vAt S j ≠ vAt S k := fun e => by have := vAt_inj hn (by omega) (by omega) e; omega
    have nik : vAt S i ≠ vAt S k := fun e => by have := vAt_inj hn (by omega) (by omega) e; omega
    unfold bad3
    cases fall
    · have e0 : vAt (upr false) 0 = 0 := rfl
      have e1 : vAt (upr false) 1 = 2 := rfl
      have e2 : vAt (upr false) 2 = 1 := rfl
      rw [e0, e1, e2]
      simp only [if_neg Bool.false_ne_true]
      omega
    · have e0 : vAt (upr true) 0 = 0 := rfl
      have e1 : vAt (upr true) 1 = 1 := rfl
      have e2 : vAt (upr true) 2 = 2 := rfl
      rw [e0, e1, e2]
      simp only [if_true]
      omega
  constructor
  · rintro h ⟨i, j, k, h1, h2, h3, hb⟩
    have := h [i, j, k] (rises3.mpr ⟨h1, h2, h3⟩) (by rw [hlen]; rfl)
    rw [(key i j k h1 h2 h3).mpr hb] at this
    cases this
  · intro h t ht hl
    rw [hlen] at hl
    obtain ⟨i, j, k, rfl⟩ := three_list hl
    obtain ⟨h1, h2, h3⟩ := rises3.mp ht
    refine Bool.eq_false_iff.mpr fun e => h ⟨i, j, k, h1, h2, h3, (key i j k h1 h2 h3).mp e⟩
theorem cnt_av {fall : Bool} {S : List Int} (hs : Sh S) : cnt S (upr fall) = 0 ↔ av fall S.length S := by
  rw [cnt_P3 hs.nodup, av_big]
  intro x hx
  have := hs.mem.mp hx
  omega
/-! what the program picks -/
noncomputable def Pick (fall : Bool) (left : List Int) (h x : Int) : Prop := x ∈ left ∧ (x = h ∨ (h ∉ left ∧ h < x ∧ ∀ y ∈ left, h < y → if fall = true then y ≤ x else x ≤ y))
noncomputable def SW (fall : Bool) : List Int → List Int → List Int → Prop
  | _, [], S => S = []
  | left, h :: L, S => ∃ x r, S = x :: r ∧ Pick fall left h x ∧ SW fall (left.erase x) L r
/-- what is left: no two alike, all below l, not l itself -/
noncomputable def Left (left : List Int) (l : Int) : Prop := left.Nodup ∧ (∀ v, 0 ≤ v → v < l → v ∈ left) ∧ l ∉ left ∧ ∀ v ∈ left, 0 ≤ v
theorem Left.next {fall : Bool} {left : List Int} {l h x : Int} (H : Left left l) (h0 : 0 ≤ h) (hl : h ≤ l) (P : Pick fall left h x) : Left (left.erase x) h ∧ min l x = h ∧ (h < l → x = h) := by
  obtain ⟨h1, h2, h3, h4⟩ := H
  obtain ⟨hx, hp⟩ := P
  have key : (x = h ∧ h < l) ∨ (h = l ∧ h < x) := by
    rcases hp with rfl | ⟨hn, hlt, _⟩
    · left
      refine ⟨rfl, ?_⟩
      have : x ≠ l := fun e => h3 (e ▸ hx)
      omega
    · right
      refine ⟨?_, hlt⟩
      by_cases c : h < l
      · exact absurd (h2 h h0 c) hn
      · omega
  refine ⟨⟨h1.erase x, fun v hv0 hv => ?_, ?_, fun v hv => h4 v (List.mem_of_mem_erase hv)⟩, by omega, by omega⟩
  · rw [h1.mem_erase_iff]
    exact ⟨by omega, h2 v hv0 (by omega)⟩
  · rw [h1.mem_erase_iff]
    rintro ⟨e, hm⟩
    rcases key with ⟨rfl, _⟩ | ⟨rfl, _⟩
    · exact e rfl
    · exact h3 hm
theorem sw_good {fall : Bool} : ∀ {L left S : List Int} {l : Int}, Left left l → Vl left.length l L → SW fall left L S → S.Perm left ∧ lm l S = L ∧ av fall l S
  | [], left, S, l, H, hv, hs => by
    have e := hv.length
    have : left = [] := List.length_eq_zero_iff.mp e.symm
    subst this
    rw [show S = [] from hs]
    exact ⟨List.Perm.refl _, rfl, trivial⟩
  | h :: L, left, S, l, H, hv, hs => by
    obtain ⟨x, r, rfl, hp, hs⟩ := hs
    cases hn : left.length with
    | zero => rw [hn] at hv; cases (show _ = [] from hv)
    | succ n =>
      rw [hn] at hv
      obtain ⟨h', r', e, h0, hl, hln, hv⟩ := hv
      cases e
      obtain ⟨H', hm, _⟩ := H.next h0 hl hp
      have hlen : (left.erase x).length = n := by rw [List.length_erase_of_mem hp.1, hn]; rfl
      rw [← hlen] at hv
      obtain ⟨i1, i2, i3⟩ := sw_good H' hv hs
      refine ⟨(List.Perm.cons x i1).trans (List.perm_cons_erase hp.1).symm, ?_, ?_⟩
      · rw [lm, hm, i2]
      · unfold av
        rw [hm]
        refine ⟨fun y hy hb => ?_, i3⟩
        obtain ⟨hlx, hb⟩ := hb
        have hym : y ∈ left := List.mem_of_mem_erase (i1.mem_iff.mp hy)
        rcases hp.2 with rfl | ⟨hnot, hlt, hall⟩
        · omega
        · have el : h = l := by
            by_cases c : h < l
            · exact absurd (H.2.1 h h0 c) hnot
            · omega
          subst el
          cases fall
          · simp only [Bool.false_eq_true, if_false] at hb
            have := hall y hym hb.1
            simp only [Bool.false_eq_true, if_false] at this
            omega
          · simp only [if_true] at hb
            have := hall y hym (by omega)
            simp only [if_true] at this
            omega
/-- some one greater is left -/
theorem Left.greater {left : List Int} {l h : Int} (H : Left left l) (h0 : 0 ≤ h) (hl : h ≤ l) (hn : h < left.length) (hnot : h ∉ left) : ∃ y ∈ left, h < y := by
  obtain ⟨h1, h2, h3, h4⟩ := H
  by_cases c : ∃ y ∈ left, h < y
  · exact c
  · exfalso
    have : left.length ≤ h.toNat := by
      refine pigeon h.toNat left h1 fun x hx => ⟨h4 x hx, ?_⟩
      have : ¬ h < x := fun e => c ⟨x, hx, e⟩
      have : x ≠ h := fun e => hnot (e ▸ hx)
      omega
    omega
/-- two without the order with the same least numbers are one -/
theorem av_unique {fall : Bool} : ∀ {S T left : List Int} {l : Int}, left.Nodup → l ∉ left → S.Perm left → T.Perm left → av fall l S → av fall l T → lm l S = lm l T → S = T
  | [], T, left, l, _, _, hS, hT, _, _, _ => by
    have := hS.nil_eq
    subst this
    exact hT.eq_nil.symm
  | x :: S, [], left, l, _, _, hS, hT, _, _, _ => by
    have := hT.nil_eq
    subst this
    exact absurd hS.eq_nil (by simp)
  | x :: S, y :: T, left, l, hn, hl, hS, hT, aS, aT, e => by
    have hx : x ∈ left := hS.mem_iff.mp List.mem_cons_self
    have hy : y ∈ left := hT.mem_iff.mp List.mem_cons_self
    have nx : x ≠ l := fun e => hl (e ▸ hx)
    have ny : y ≠ l := fun e => hl (e ▸ hy)
    rw [lm, lm] at e
    injection e with e1 e2
    have exy : x = y := by
      by_cases c : x < l
      · omega
      · by_cases c2 : y < l
        · omega
        · have hxT : x = y ∨ x ∈ T := by simpa using hT.mem_iff.mpr hx
          have hyS : y = x ∨ y ∈ S := by simpa using hS.mem_iff.mpr hy
          rcases hxT with h | h
          · exact h
          · rcases hyS with h2 | h2
            · exact h2.symm
            · have b1 := aS.1 y h2
              have b2 := aT.1 x h
              unfold bad3 at b1 b2
              cases fall
              · simp only [Bool.false_eq_true, if_false] at b1 b2; omega
              · simp only [if_true] at b1 b2; omega
    subst exy
    have hn2 : (left.erase x).Nodup := hn.erase x
    have hS2 : S.Perm (left.erase x) := (List.Perm.cons_inv (hS.trans (List.perm_cons_erase hx)))
    have hT2 : T.Perm (left.erase x) := (List.Perm.cons_inv (hT.trans (List.perm_cons_erase hx)))
    rw [av_unique hn2 (fun hm => ?_) hS2 hT2 aS.2 aT.2 e2]
    have hm' := hn.mem_erase_iff.mp hm
    have : min l x = l ∨ min l x = x := by omega
    rcases this with h | h
    · rw [h] at hm'; exact hl hm'.2
    · exact hm'.1 h
theorem Left.min_of {left : List Int} {l x : Int} (H : Left left l) (hx : x ∈ left) : Left (left.erase x) (min l x) := by
  obtain ⟨h1, h2, h3, h4⟩ := H
  refine ⟨h1.erase x, fun v hv0 hv => h1.mem_erase_iff.mpr ⟨by omega, h2 v hv0 (by omega)⟩, fun hm => ?_, fun v hv => h4 v (List.mem_of_mem_erase hv)⟩
  have hm' := h1.mem_erase_iff.mp hm
  have : min l x = l ∨ min l x = x := by omega
  rcases this with h | h
  · rw [h] at hm'; exact h3 hm'.2
  · exact hm'.1 h
/-- the least numbers of a shape are such -/
theorem lm_valid : ∀ {S left : List Int} {l : Int}, Left left l → 0 ≤ l → S.Perm left → Vl S.length l (lm l S)
  | [], _, _, _, _, _ => rfl
  | x :: S, left, l, H, hl, hS => by
    have hx : x ∈ left := hS.mem_iff.mp List.mem_cons_self
    have hx0 := H.2.2.2 x hx
    have hS2 : S.Perm (left.erase x) := (List.Perm.cons_inv (hS.trans (List.perm_cons_erase hx)))
    have hlen := hS.length_eq
    rw [List.length_cons] at hlen
    refine ⟨min l x, lm (min l x) S, rfl, by omega, by omega, ?_, lm_valid (H.min_of hx) (by omega) hS2⟩
    have hsub : (upto (min l x).toNat ++ [x]).length ≤ left.length := by
      refine length_le_of ?_ ?_
      · rw [List.nodup_append]
        refine ⟨upto_nodup _, by simp, fun a ha b hb => ?_⟩
        have := mem_upto.mp ha
        have : b = x := by simpa using hb
        omega
      · intro v hv
        rcases List.mem_append.mp hv with h | h
        · have := mem_upto.mp h
          exact H.2.1 v this.1 (by omega)
        · have : v = x := by simpa using h
          rw [this]; exact hx
    rw [List.length_append, upto_length, List.length_singleton] at hsub
    omega
theorem left_start (m : Nat) : Left (upto m) m := ⟨upto_nodup m, fun v h0 h => mem_upto.mpr ⟨h0, h⟩, fun h => by have := mem_upto.mp h; omega, fun v h => (mem_upto.mp h).1⟩
/-! an order brought to one of the two, and a shape likewise -/
noncomputable def br (o S : List Int) : List Int :=
  if vAt (if vAt o 1 = 0 then contr o else o) 2 < vAt (if vAt o 1 = 0 then contr o else o) 0 then (if vAt o 1 = 0 then contr S else S).reverse else (if vAt o 1 = 0 then contr S else S)
noncomputable def fallOf (o : List Int) : Bool := decide (br o o = [0, 1, 2])
theorem br_self {o : List Int} (h : o ∈ sixes) : br o o = upr (fallOf o) := by
  simp only [sixes, List.mem_cons, List.not_mem_nil, or_false] at h
  rcases h with rfl | rfl | rfl | rfl | rfl | rfl <;> decide
theorem sixes_sh {o : List Int} (h : o ∈ sixes) : Sh o ∧ o.length = 3 := by
  simp only [sixes, List.mem_cons, List.not_mem_nil, or_false] at h
  rcases h with rfl | rfl | rfl | rfl | rfl | rfl <;> decide
theorem br_length (o S : List Int) : (br o S).length = S.length := by
  unfold br
  split <;> split <;> simp [contr_length]
theorem br_sh {o S : List Int} (h : Sh S) : Sh (br o S) := by
  unfold br
  split <;> split
  · exact sh_reverse (sh_contr h)
  · exact sh_contr h
  · exact sh_reverse h
  · exact h
theorem contr_reverse (S : List Int) : contr S.reverse = (contr S).reverse := by
  unfold contr
  rw [List.length_reverse, List.map_reverse]
theorem br_br (o S : List Int) : br o (br o S) = S := by
  unfold br
  split <;> split
  · rw [contr_reverse, List.reverse_reverse, contr_contr]
  · rw [contr_contr]
  · rw [List.reverse_reverse]
  · rfl
theorem cnt_br {o S : List Int} (h : Sh S) : cnt (br o S) (br o o) = cnt S o := by
  unfold br
  split <;> split
  · rw [cnt_back, cnt_contr h]
  · rw [cnt_contr h]
  · rw [cnt_back]
  · rfl
/-- the number of a shape without the order -/
noncomputable def num (o S : List Int) : Nat := rnk S.length (lm S.length (br o S))
theorem av_br {o S : List Int} (ho : o ∈ sixes) (h : Sh S) : cnt S o = 0 ↔ av (fallOf o) S.length (br o S) := by
  rw [← cnt_br h, br_self ho, cnt_av (br_sh h), br_length]
theorem Vl.low : ∀ {n : Nat} {l : Int} {L : List Int}, Vl n l L → Vl n ((n : Int) - 1) L
  | 0, _, _, h => h
  | n + 1, l, _, h => by
    obtain ⟨x, r, rfl, h0, h1, h2, h⟩ := h
    exact ⟨x, r, rfl, h0, by omega, h2, h⟩
theorem least_valid {o S : List Int} (h : Sh S) : Vl S.length ((S.length : Int) - 1) (lm S.length (br o S)) := by
  have z := lm_valid (S := br o S) (l := (S.length : Int)) (left_start S.length) (by omega) (by
    have := br_sh (o := o) h
    unfold Sh at this
    rw [br_length] at this
    exact this)
  rw [br_length] at z
  exact z.low
theorem num_lt {o S : List Int} (h : Sh S) (h1 : 1 ≤ S.length) : num o S < ways S.length (S.length - 1) := by
  have := rnk_lt (least_valid (o := o) h) (by omega)
  have e : ((S.length : Int) - 1).toNat = S.length - 1 := by omega
  rw [e] at this
  exact this
theorem num_inj {o S T : List Int} (ho : o ∈ sixes) (hS : Sh S) (hT : Sh T) (hl : S.length = T.length) (aS : cnt S o = 0) (aT : cnt T o = 0) (e : num o S = num o T) : S = T := by
  have vS := least_valid (o := o) hS
  have vT := least_valid (o := o) hT
  have a1 := (av_br ho hS).mp aS
  have a2 := (av_br ho hT).mp aT
  unfold num at e
  rw [← hl] at vT a2 e
  have e2 := rnk_inj vS vT e
  have s1 := br_sh (o := o) hS
  have s2 := br_sh (o := o) hT
  unfold Sh at s1 s2
  rw [br_length] at s1 s2
  rw [← hl] at s2
  have e3 := av_unique (upto_nodup S.length) (left_start S.length).2.2.1 s1 s2 a1 a2 e2
  have := congrArg (br o) e3
  rw [br_br, br_br] at this
  exact this
/-- what without_at makes -/
theorem made {o L S : List Int} {m : Nat} (ho : o ∈ sixes) (hv : Vl m ((m : Int) - 1) L) (hs : SW (fallOf o) (upto m) L S) : Sh (br o S) ∧ (br o S).length = m ∧ cnt (br o S) o = 0 ∧ num o (br o S) = rnk m L := by
  have hv' : Vl (upto m).length (m : Int) L := by
    rw [upto_length]
    cases m with
    | zero => exact hv
    | succ n =>
      obtain ⟨x, r, rfl, h0, h1, h2, h⟩ := hv
      exact ⟨x, r, rfl, h0, by omega, h2, h⟩
  obtain ⟨p, e, a⟩ := sw_good (left_start m) hv' hs
  have hlen : S.length = m := by rw [p.length_eq, upto_length]
  have hS : Sh S := by unfold Sh; rw [hlen]; exact p
  refine ⟨br_sh hS, by rw [br_length, hlen], ?_, ?_⟩
  · rw [av_br ho (br_sh hS), br_br, br_length, hlen]; exact a
  · unfold num
    rw [br_length, br_br, hlen, e]
end SO

namespace SO
theorem sum_cast (g : Nat → Nat) : ∀ l : List Nat, (l.map fun k => ((g k : Nat) : Int)).sum = ((l.map g).sum : Nat)
  | [] => rfl
  | a :: r => by rw [List.map_cons, List.sum_cons, sum_cast g r, List.map_cons, List.sum_cons]; omega
end SO

namespace SO
theorem lm_at : ∀ (S : List Int) (l : Int) (k : Nat), k < S.length → (vAt (lm l S) k = l ∨ vAt (lm l S) k ∈ S.take (k + 1)) ∧ vAt (lm l S) k ≤ l ∧ ∀ y ∈ S.take (k + 1), vAt (lm l S) k ≤ y
  | [], _, k, h => (Nat.not_lt_zero k h).elim
  | x :: r, l, 0, _ => by
    have e : vAt (lm l (x :: r)) 0 = min l x := rfl
    rw [e]
    refine ⟨?_, by omega, fun y hy => ?_⟩
    · by_cases c : l ≤ x
      · exact .inl (by omega)
      · exact .inr (by simp; omega)
    · have : y = x := by simpa using hy
      omega
  | x :: r, l, k + 1, h => by
    have e : vAt (lm l (x :: r)) (k + 1) = vAt (lm (min l x) r) k := rfl
    obtain ⟨h1, h2, h3⟩ := lm_at r (min l x) k (by simpa using h)
    rw [e, List.take_succ_cons]
    refine ⟨?_, by omega, fun y hy => ?_⟩
    · rcases h1 with h1 | h1
      · by_cases c : l ≤ x
        · exact .inl (by omega)
        · exact .inr (by rw [h1]; exact List.mem_cons.mpr (.inl (by omega)))
      · exact .inr (List.mem_cons_of_mem _ h1)
    · rcases List.mem_cons.mp hy with h | h
      · omega
      · exact h3 y h
theorem lm_is {S : List Int} {l : Int} (hl : ∀ y ∈ S, y < l) {k : Nat} (hk : k < S.length) {m : Int} (hm : m ∈ S.take (k + 1)) (hle : ∀ y ∈ S.take (k + 1), m ≤ y) : m = vAt (lm l S) k := by
  obtain ⟨h1, h2, h3⟩ := lm_at S l k hk
  have a := h3 m hm
  have b := hl m (List.mem_of_mem_take hm)
  rcases h1 with h1 | h1
  · omega
  · have := hle _ h1; omega
theorem lm_list (l : Int) (S : List Int) : lm l S = (List.range S.length).map fun k => vAt (lm l S) k := by
  refine List.ext_getElem? fun k => ?_
  rw [List.getElem?_map]
  by_cases h : k < S.length
  · rw [vAt_get (by rw [lm_length]; exact h), List.getElem?_eq_getElem (by rw [List.length_range]; exact h)]
    simp
  · rw [List.getElem?_eq_none (by rw [lm_length]; omega), List.getElem?_eq_none (by rw [List.length_range]; omega)]
    rfl
theorem wsum {m n k : Nat} (hk : k ≤ m) : (((List.range m).map fun v => ((ways n v : Nat) : Int)).take k).sum = ((upW n k : Nat) : Int) := by
  rw [← List.map_take, List.take_range, Nat.min_eq_left hk, sum_cast]
  rfl
end SO

namespace SO
/-! the counts of threes, as a table made row by row -/
/-- three places of a row stand as the order's numbers -/
noncomputable def Tr (S o : List Int) (i j k : Nat) : Prop := (vAt S i < vAt S j ↔ vAt o 0 < vAt o 1) ∧ (vAt S i < vAt S k ↔ vAt o 0 < vAt o 2) ∧ (vAt S j < vAt S k ↔ vAt o 1 < vAt o 2)
theorem cnt_Tr {S o : List Int} (hn : S.Nodup) (ho : Sh o) (h3 : o.length = 3) : cnt S o = 0 ↔ ∀ i j k, i < j → j < k → k < S.length → ¬ Tr S o i j k := by
  rw [cnt_zero]
  constructor
  · intro h i j k h1 h2 hk ht
    have hr := rises3.mpr ⟨h1, h2, hk⟩
    have := h [i, j, k] hr (by rw [h3]; rfl)
    rw [(okP_iff hn ho hr (by rw [h3]; rfl)).mpr (agree3.mpr ht)] at this
    cases this
  · intro h t ht hl
    rw [h3] at hl
    obtain ⟨i, j, k, rfl⟩ := three_list hl
    obtain ⟨h1, h2, hk⟩ := rises3.mp ht
    refine Bool.eq_false_iff.mpr fun e => h i j k h1 h2 hk (agree3.mp ((okP_iff hn ho ht (by rw [h3]; rfl)).mp e))
end SO
namespace SO
theorem six_get {c : Int} : sixes.getD (c % 6).toNat [] ∈ sixes := by
  have h0 := Int.emod_nonneg c (show (6 : Int) ≠ 0 by decide)
  have h1 := Int.emod_lt_of_pos c (show (0 : Int) < 6 by decide)
  rw [List.getD_eq_getElem?_getD, List.getElem?_eq_getElem (show (c % 6).toNat < sixes.length by show (c % 6).toNat < 6; omega)]
  exact List.getElem_mem _
end SO
namespace SO
end SO

namespace L2
open PySem PySem.Spec PyProof.Rows

/-! ### comprehensions: the block's environment -/
noncomputable def closOf (scope : Scope) (env : Env) : List (Str × Addr) :=
  scope.names.foldl (fun cs y => if (y.2 == .free) = true then (y.1, (env.cells.lookup y.1).getD 0) :: cs else cs) []
theorem clos_fold {env : Env} (f : Str × NameKind → List (Str × Addr) → Sem (ForInStep (List (Str × Addr))))
    (hf : ∀ n k cs, f (n, k) cs = if (k == .free) = true then (do let c ← cellOf env n; pure (.yield ((n, c) :: cs))) else pure (.yield cs)) :
    ∀ (names : List (Str × NameKind)) (acc : List (Str × Addr)), (∀ y ∈ names, y.2 = .free → ∃ c, env.cells.lookup y.1 = some c) →
      forIn names acc f = pure (names.foldl (fun cs y => if (y.2 == .free) = true then (y.1, (env.cells.lookup y.1).getD 0) :: cs else cs) acc)
  | [], acc, _ => by rw [List.forIn_nil]; rfl
  | (n, k) :: r, acc, h => by
    rw [List.forIn_cons, hf, List.foldl_cons]
    have hr : ∀ y ∈ r, y.2 = .free → ∃ c, env.cells.lookup y.1 = some c := fun y hy => h y (List.mem_cons_of_mem _ hy)
    by_cases hk : (k == NameKind.free) = true
    · obtain ⟨c, hc⟩ := h (n, k) List.mem_cons_self (by simpa using hk)
      have hc' : env.cells.lookup n = some c := hc
      have e : cellOf env n = pure c := by unfold cellOf; rw [hc']
      rw [if_pos hk, if_pos hk, e, pure_bind, pure_bind]
      have e2 : (env.cells.lookup n).getD 0 = c := by rw [hc']; rfl
      show forIn r ((n, c) :: acc) f = _
      rw [clos_fold f hf r ((n, c) :: acc) hr]
      show pure (List.foldl _ ((n, c) :: acc) r) = pure (List.foldl _ ((n, (env.cells.lookup n).getD 0) :: acc) r)
      rw [e2]
    · rw [if_neg hk, if_neg hk, pure_bind]
      exact clos_fold f hf r acc hr
theorem closureFor_of {scope : Scope} {env : Env} (h : ∀ y ∈ scope.names, y.2 = .free → ∃ c, env.cells.lookup y.1 = some c) : closureFor scope env = pure (closOf scope env) := by
  simp only [closureFor]
  rw [clos_fold _ (fun n k cs => by cases hk : k == NameKind.free <;> simp [hk]) _ _ h]
  rfl
theorem mem_clos {env : Env} : ∀ (names : List (Str × NameKind)) (acc : List (Str × Addr)) (x : Str) (c : Addr),
    (x, c) ∈ names.foldl (fun cs y => if (y.2 == .free) = true then (y.1, (env.cells.lookup y.1).getD 0) :: cs else cs) acc → (x, c) ∈ acc ∨ ((x, NameKind.free) ∈ names ∧ c = (env.cells.lookup x).getD 0)
  | [], acc, x, c, h => .inl h
  | (n, k) :: r, acc, x, c, h => by
    rw [List.foldl_cons] at h
    rcases mem_clos r _ x c h with h1 | h1
    · by_cases hk : (k == NameKind.free) = true
      · rw [if_pos hk] at h1
        rcases List.mem_cons.mp h1 with e | h2
        · injection e with e1 e2
          have hk' : k = .free := by simpa using hk
          subst hk'; subst e1
          exact .inr ⟨List.mem_cons_self, e2⟩
        · exact .inl h2
      · rw [if_neg hk] at h1
        exact .inl h1
    · exact .inr ⟨List.mem_cons_of_mem _ h1.1, h1.2⟩
theorem clos_has {env : Env} : ∀ (names : List (Str × NameKind)) (acc : List (Str × Addr)) (x : Str), ((x, NameKind.free) ∈ names ∨ (acc.lookup x).isSome = true) →
    ((names.foldl (fun cs y => if (y.2 == .free) = true then (y.1, (env.cells.lookup y.1).getD 0) :: cs else cs) acc).lookup x).isSome = true
  | [], acc, x, h => h.elim (fun e => nomatch e) id
  | (n, k) :: r, acc, x, h => by
    rw [List.foldl_cons]
    refine clos_has r _ x ?_
    have grow : (acc.lookup x).isSome = true → (((if (k == NameKind.free) = true then (n, (env.cells.lookup n).getD 0) :: acc else acc) : List (Str × Addr)).lookup x).isSome = true := fun ha => by
      split
      · rw [List.lookup_cons]
        split
        · rfl
        · exact ha
      · exact ha
    rcases h with h | h
    · rcases List.mem_cons.mp h with e | h
      · injection e with e1 e2
        subst e1; subst e2
        right
        show (List.lookup x (if (NameKind.free == NameKind.free) = true then (x, (env.cells.lookup x).getD 0) :: acc else acc)).isSome = true
        rw [if_pos (by decide), List.lookup_cons, beq_self_eq_true]
        rfl
      · exact .inl h
    · exact .inr (grow h)
/-- cells: the new ones over the closure's -/
theorem mem_cellsFrom : ∀ (names : List (Str × NameKind)) (n : Nat) (acc : List (Str × Addr)) (x : Str) (c : Addr), (x, c) ∈ cellsFrom n names acc → ((x, NameKind.cell) ∈ names ∧ n ≤ c) ∨ (x, c) ∈ acc
  | [], _, _, _, _, h => .inr h
  | (y, k) :: r, n, acc, x, c, h => by
    unfold cellsFrom at h
    split at h
    · rename_i hk
      have hk' : k = .cell := by simpa using hk
      rcases mem_cellsFrom r (n + 1) _ x c h with ⟨h1, h2⟩ | h1
      · exact .inl ⟨List.mem_cons_of_mem _ h1, by omega⟩
      · rcases List.mem_cons.mp h1 with e | h2
        · injection e with e1 e2
          subst e1; subst e2; subst hk'
          exact .inl ⟨List.mem_cons_self, Nat.le_refl _⟩
        · exact .inr h2
    · rcases mem_cellsFrom r n _ x c h with ⟨h1, h2⟩ | h1
      · exact .inl ⟨List.mem_cons_of_mem _ h1, h2⟩
      · exact .inr h1
theorem cellsFrom_inj : ∀ (names : List (Str × NameKind)) (n : Nat) (acc : List (Str × Addr)), (∀ x y c, (x, c) ∈ acc → (y, c) ∈ acc → x = y) → (∀ x c, (x, c) ∈ acc → c < n) →
    ∀ x y c, (x, c) ∈ cellsFrom n names acc → (y, c) ∈ cellsFrom n names acc → x = y
  | [], _, _, hi, _ => hi
  | (z, k) :: r, n, acc, hi, hl => by
    unfold cellsFrom
    split
    · refine cellsFrom_inj r (n + 1) _ (fun x y c h1 h2 => ?_) (fun x c h => ?_)
      · rcases List.mem_cons.mp h1 with e | h1
        · rcases List.mem_cons.mp h2 with e' | h2
          · injection e with e1 _; injection e' with e2 _; rw [e1, e2]
          · injection e with _ e1
            exact absurd (hl _ _ h2) (by rw [e1]; exact Nat.lt_irrefl _)
        · rcases List.mem_cons.mp h2 with e' | h2
          · injection e' with _ e1
            exact absurd (hl _ _ h1) (by rw [e1]; exact Nat.lt_irrefl _)
          · exact hi x y c h1 h2
      · rcases List.mem_cons.mp h with e | h
        · injection e with _ e1
          rw [e1]; exact Nat.lt_succ_self _
        · exact Nat.lt_succ_of_lt (hl _ _ h)
    · exact cellsFrom_inj r n acc hi hl
theorem cellsFrom_not : ∀ (names : List (Str × NameKind)) (n : Nat) (acc : List (Str × Addr)) (x : Str), (x, NameKind.cell) ∉ names → (cellsFrom n names acc).lookup x = acc.lookup x
  | [], _, _, _, _ => rfl
  | (z, k) :: r, n, acc, x, h => by
    have hr : (x, NameKind.cell) ∉ r := fun q => h (List.mem_cons_of_mem _ q)
    unfold cellsFrom
    split
    · rename_i hk
      have hk' : k = .cell := by simpa using hk
      rw [cellsFrom_not r (n + 1) _ x hr, List.lookup_cons]
      split
      · rename_i hz
        have e : x = z := by simpa using hz
        subst e; subst hk'
        exact absurd List.mem_cons_self h
      · rfl
    · exact cellsFrom_not r n acc x hr
theorem cellsFrom_is : ∀ (names : List (Str × NameKind)) (h : Heap) (acc : List (Str × Addr)), (∀ x c, (x, c) ∈ acc → ∃ v, h.IsCell c v) → ∀ x c, (x, c) ∈ cellsFrom h.objs.size names acc → ∃ v, (pushCells h names).IsCell c v
  | [], _, _, ha => ha
  | (z, k) :: r, h, acc, ha => by
    unfold cellsFrom pushCells
    split
    · have := cellsFrom_is r (h.push { cls := .type "cell", data := .cell none }) ((z, h.objs.size) :: acc) (fun x c hm => by
        obtain e | hm := List.mem_cons.mp hm
        · cases e; exact ⟨_, _, Heap.get?_push_size _ rfl, rfl⟩
        · obtain ⟨v, q⟩ := ha x c hm
          exact ⟨v, q.keeps fun b o e => Heap.get?_push_of_some _ e⟩)
      rw [Heap.size_push] at this
      exact this
    · exact cellsFrom_is r h acc ha
theorem newCompEnv {M : Model} {A : Around} {E : Value → Shared → Prop} {s : Shared} {scope : Scope} {globals : Addr} {cl : List (Str × Addr)} {qual : Str} {outer : Env} {Q : Env → Shared → Prop}
    (hQ : Q { scope, locals := s.heap.objs.size, globals, cells := cellsFrom (s.heap.objs.size + 1) scope.names cl, qual, func := none, code := outer.code, frame := outer.frame, builtins := outer.builtins }
      { s with heap := pushCells (s.heap.push { cls := .type "dict", data := .dict #[] }) scope.names }) :
    wpAny M A (newFunctionEnv scope globals cl [] qual none .none (some outer)) Q E s := by
  simp only [newFunctionEnv, Option.isSome_some, ↓reduceIte]
  have each : ∀ kd : NameKind, (kd == .cell) = true ∨ (kd == .cell) = false := fun kd => by cases kd <;> decide
  refine wpAny_bind (wpAny_alloc (wpAny_bind (wpAny_layCells _ (fun _ kd _ => by rcases each kd with z | z <;> simp [z]) _ _ _ _ ?_)))
  rw [show ({ s with heap := s.heap.push { cls := .type "dict", data := .dict #[] } } : Shared).heap.objs.size = s.heap.objs.size + 1 from Heap.size_push ..]
  first
    | exact wpAny_pure hQ
    | (rw [List.forIn_nil]; exact wpAny_bind (wpAny_pure (wpAny_pure hQ)))
    | (refine wpAny_bind ?_; rw [List.forIn_nil]; exact wpAny_pure (wpAny_pure hQ))
    | (simp only [List.forIn_nil]; exact wpAny_bind (wpAny_pure (wpAny_pure hQ)))
theorem relabel_lookup {env : Env} {x : Str} : ∀ (names : List (Str × NameKind)),
    (names.map fun (n, k) => if (k == NameKind.free && env.scope.kind == .function && env.kindOf n == some .cell) then (n, NameKind.cell) else (n, k)).lookup x =
      (names.lookup x).map fun k => if (k == NameKind.free && env.scope.kind == .function && env.kindOf x == some .cell) then NameKind.cell else k
  | [] => rfl
  | y :: r => by
    obtain ⟨n, k⟩ := y
    have ih := relabel_lookup (env := env) (x := x) r
    rw [List.map_cons]
    by_cases e : x = n
    · subst e
      by_cases c : (k == NameKind.free && env.scope.kind == .function && env.kindOf x == some .cell) = true <;> simp only [c, ↓reduceIte, Bool.false_eq_true, List.lookup_cons, beq_self_eq_true, Option.map_some]
    · have ne : (x == n) = false := beq_eq_false_iff_ne.mpr e
      rw [List.lookup_cons (b := k), ne, ← ih]
      dsimp only
      split <;> rw [List.lookup_cons, ne]

/-- the context of a comprehension's block -/
noncomputable def compCx (X : Cx) (N : List Str) (scope : Scope) (cs : List (Str × Addr)) (C : Addr) (s₀ : Shared) (H₀ : Hp) (ex : List Addr) : Cx :=
  { prog := X.prog, w := X.w, K := X.K, mg := X.mg, base := X.base, A := X.A, N := N, s₀ := s₀, H₀ := H₀, env := compEnvC scope cs C X.env, outer := X.stack, stack := X.stack, ex := ex,
    fn := fun x => scope.names.lookup x == some .cell, calm := X.calm, pn := [], xe := fun _ _ => False }
/-- what is asked of the block's names: x the target, F the free names that are read, at the places is of the outer names -/
structure CompOk (fs : Scope) (NX : List Str) (x : Str) (F : List Str) (is : List Nat) (scope : Scope) : Prop where
  kind : scope.kind = .function
  keys : ∀ y ∈ scope.names, y.2 = .free → (y.1, NameKind.cell) ∉ scope.names
  loc : ∀ y ∈ scope.names, y.2 = .local → scope.names.lookup y.1 = some .local
  tgt : scope.names.lookup x = some .local ∨ scope.names.lookup x = some .cell
  nd : (x :: F).Nodup
  free : ∀ y ∈ scope.names, y.2 = .free → fs.names.lookup y.1 = some .cell ∨ fs.names.lookup y.1 = some .free
  fr : ∀ y ∈ F, scope.names.lookup y = some .free
  at' : is.map (fun i => NX[i]?) = F.map some
noncomputable def pick (σ : St) (is : List Nat) : St := is.map fun i => (σ[i]?).join
theorem mem_of_lookupK {l : List (Str × NameKind)} {n : Str} {c : NameKind} (h : l.lookup n = some c) : (n, c) ∈ l := mem_of_lookup h

section
variable {X : Cx} {x : Str} {F : List Str} {is : List Nat} {scope fs : Scope} {NX : List Str}
theorem comp_start {pins : List (Addr × Obj)} {σ : St} {H : Hp} {s : Shared} {fp : List Addr} {o : Obj} (ho : ∀ v, o.data ≠ .cell v) (hof : o.isFreed = false) (K : CompOk fs NX x F is scope) (hfs : X.env.scope = fs) (hNX : X.N = NX) (I : Inv X pins σ H s) (hf : ∀ b ∈ fp, FpOk X pins H b)
    (hlt : ∀ b ∈ fp, b < s.heap.objs.size) :
    Inv (compCx X (x :: F) scope (cellsFrom (s.heap.objs.size + 1 + 1) scope.names (closOf scope X.env)) (s.heap.objs.size + 1) s H fp) [(s.heap.objs.size, o)] (none :: pick σ is) H
      { s with heap := pushCells ((s.heap.push o).push { cls := .type "dict", data := .dict #[] }) scope.names } := by
  subst hfs; subst hNX
  have hfree : ∀ y ∈ scope.names, y.2 = .free → ∃ c, X.env.cells.lookup y.1 = some c := fun y hy h => I.ok.has y.1 (K.free y hy h)
  have kp : ∀ b u, s.heap.get? b = some u → (pushCells ((s.heap.push o).push { cls := .type "dict", data := .dict #[] }) scope.names).get? b = some u := fun b u e =>
    pushCells_keeps _ _ b u (Heap.get?_push_of_some _ (Heap.get?_push_of_some _ e))
  have hsz : ((s.heap.push o).push { cls := .type "dict", data := .dict #[] }).objs.size = s.heap.objs.size + 1 + 1 := by rw [Heap.size_push, Heap.size_push]
  have cl_old : ∀ y c, (y, c) ∈ closOf scope X.env → X.env.cells.lookup y = some c := fun y c h => by
    rcases mem_clos _ _ y c h with h | ⟨h1, h2⟩
    · exact nomatch h
    · obtain ⟨c', e⟩ := hfree _ h1 rfl
      have e' : X.env.cells.lookup y = some c' := e
      rw [e'] at h2
      rw [e', h2]; rfl
  have cl_lt : ∀ y c, (y, c) ∈ closOf scope X.env → c < s.heap.objs.size := fun y c h => by
    obtain ⟨v, q⟩ := I.cell y c (cl_old y c h)
    exact q.lt
  have cases_of : ∀ y c, (cellsFrom (s.heap.objs.size + 1 + 1) scope.names (closOf scope X.env)).lookup y = some c → s.heap.objs.size + 1 + 1 ≤ c ∨ X.env.cells.lookup y = some c := fun y c h => by
    rcases mem_cellsFrom _ _ _ y c (mem_of_lookup h) with ⟨_, q⟩ | q
    · exact .inl q
    · exact .inr (cl_old y c q)
  refine ⟨⟨I.ok.mod, K.kind, I.ok.glob, I.ok.blt, ?_, ?_, ?_, ?_, I.ok.hd, I.ok.frames, .inl rfl, ?_, ?_, ?_, ?_, ?_, ?_, ?_⟩, rfl, I.bare, Un.kept kp, ?_, ?_, ?_, ?_, ?_, I.hok.kept kp, ?_⟩
  · show s.heap.objs.size ≤ s.heap.objs.size + 1
    omega
  · intro y z c h1 h2
    refine cellsFrom_inj scope.names _ (closOf scope X.env) (fun u v c g1 g2 => I.ok.inj u v c (cl_old _ _ g1) (cl_old _ _ g2)) (fun u c g => Nat.lt_succ_of_lt (Nat.lt_succ_of_lt (cl_lt _ _ g))) y z c (mem_of_lookup h1) (mem_of_lookup h2)
  · intro y hy
    have hy' : (relabel scope X.env).names.lookup y = some .cell ∨ (relabel scope X.env).names.lookup y = some .free := hy
    have q : scope.names.lookup y = some .cell ∨ scope.names.lookup y = some .free := by
      have e : (relabel scope X.env).names.lookup y = _ := relabel_lookup (env := X.env) (x := y) scope.names
      rw [e] at hy'
      cases hq : scope.names.lookup y with
      | none => rw [hq] at hy'; rcases hy' with z | z <;> cases z
      | some k =>
        rw [hq] at hy'
        by_cases hk : k = .free
        · subst hk; exact .inr rfl
        · have hk' : (k == NameKind.free) = false := by simpa using hk
          rw [Option.map_some] at hy'
          simp only [hk', Bool.false_and, Bool.false_eq_true, if_false] at hy'
          rcases hy' with z | z
          · exact .inl z
          · exact .inr z
    refine Option.isSome_iff_exists.mp (PySem.W.cellsFrom_some scope.names _ _ ?_)
    rcases q with q | q
    · exact .inl q
    · exact .inr (clos_has scope.names [] y (.inl (mem_of_lookup q)))
  · intro y c hy h
    have hy' : (scope.names.lookup y == some NameKind.cell) = true := hy
    have hm : (y, NameKind.cell) ∈ scope.names := mem_of_lookup (by simpa using hy')
    rcases mem_cellsFrom _ _ _ y c (mem_of_lookup h) with ⟨_, q⟩ | q
    · exact Nat.le_trans (Nat.le_trans (Nat.le_succ _) (Nat.le_succ _)) q
    · rcases mem_clos _ _ y c q with z | ⟨z, _⟩
      · exact nomatch z
      · exact absurd hm (K.keys _ z rfl)
  · intro b hb
    refine ⟨?_, fun y c h z => ?_⟩
    · exact Nat.ne_of_lt (Nat.lt_succ_of_lt (hlt b hb))
    · subst z
      rcases cases_of y c h with q | q
      · exact absurd (Nat.lt_of_lt_of_le (Nat.lt_succ_of_lt (Nat.lt_succ_of_lt (hlt c hb))) q) (Nat.lt_irrefl _)
      · exact (hf c hb).2.2.2.2.1 y c q rfl
  · exact I.bs
  · exact Nat.le_trans I.ok.bsz I.sz
  · intro b ob e hb
    rcases (hf b hb).2.2.2.1 with z | z
    · exact I.ok.noex b ob e z
    · exact absurd (Nat.lt_of_lt_of_le (Heap.lt_size e) (Nat.le_trans I.ok.bsz z)) (Nat.lt_irrefl _)
  · intro b hb hs
    rcases List.mem_cons.mp (I.stkSub b hs) with z | z
    · exact (hf b hb).2.1 z
    · exact (hf b hb).2.2.1 z
  · exact I.stack
  · exact I.stkFree
  · refine ⟨fun _ => none, ?_, fun i y v h1 h2 h3 => ?_⟩
    · show (pushCells ((s.heap.push o).push { cls := .type "dict", data := .dict #[] }) scope.names).Ns (s.heap.objs.size + 1) (fun _ => none)
      have q := Heap.Ns.new (s.heap.push o) (.type "dict")
      rw [Heap.size_push] at q
      exact q.keeps (pushCells_keeps _ _)
    · cases i with
      | zero =>
        have h2' : (none : Option V) = some v := by
          have : (some (none : Option V)) = some (some v) := h2
          exact Option.some.inj this
        cases h2'
      | succ j =>
        have g1 : F[j]? = some y := h1
        have g2 : (pick σ is)[j]? = some (some v) := h2
        unfold pick at g2
        rw [List.getElem?_map] at g2
        cases ei : is[j]? with
        | none => rw [ei] at g2; cases g2
        | some k =>
          rw [ei, Option.map_some] at g2
          have g3 : (σ[k]?).join = some v := Option.some.inj g2
          have g4 : σ[k]? = some (some v) := by
            cases eσ : σ[k]? with
            | none => rw [eσ] at g3; cases g3
            | some z => rw [eσ] at g3; have : z = some v := g3; rw [this]
          have g5 : X.N[k]? = some y := by
            have e := congrArg (fun l => l[j]?) K.at'
            simp only [List.getElem?_map, ei, g1, Option.map_some] at e
            exact Option.some.inj e
          have hyF : y ∈ F := List.mem_of_getElem? g1
          have hy := K.fr y hyF
          have hym := mem_of_lookupK hy
          have hvis := K.free _ hym rfl
          obtain ⟨m, hn, hl⟩ := I.loc
          obtain ⟨u, r, l⟩ := hl k y v g5 g4 (.inr hvis)
          refine ⟨u, r, ?_⟩
          rcases l with ⟨lk, _⟩ | ⟨lk, c, hc, hcell⟩
          · have lk' : X.env.scope.names.lookup y = some .local := lk
            rcases hvis with z | z
            · rw [z] at lk'; cases lk'
            · rw [z] at lk'; cases lk'
          · refine .inr ⟨?_, c, ?_, hcell.keeps kp⟩
            · show (relabel scope X.env).names.lookup y = some .cell ∨ (relabel scope X.env).names.lookup y = some .free
              have e : (relabel scope X.env).names.lookup y = _ := relabel_lookup (env := X.env) (x := y) scope.names
              rw [e, hy, Option.map_some]
              split
              · exact .inl rfl
              · exact .inr rfl
            · show (cellsFrom (s.heap.objs.size + 1 + 1) scope.names (closOf scope X.env)).lookup y = some c
              rw [cellsFrom_not _ _ _ y (K.keys _ hym rfl)]
              obtain ⟨c', e⟩ := Option.isSome_iff_exists.mp (clos_has (env := X.env) scope.names [] y (.inl hym))
              have e' : (closOf scope X.env).lookup y = some c' := e
              rw [e']
              have := cl_old y c' (mem_of_lookup e')
              rw [hc] at this
              exact this.symm
  · intro y c h
    have h' : (cellsFrom (s.heap.objs.size + 1 + 1) scope.names (closOf scope X.env)).lookup y = some c := h
    have := cellsFrom_is scope.names ((s.heap.push o).push { cls := .type "dict", data := .dict #[] }) (closOf scope X.env) (fun u c g => by
      obtain ⟨v, q⟩ := I.cell u c (cl_old u c g)
      exact ⟨v, q.keeps fun b ob e => Heap.get?_push_of_some _ (Heap.get?_push_of_some _ e)⟩) y c (by rw [hsz]; exact mem_of_lookup h')
    exact this
  · exact I.hok.fresh (Nat.le_succ _)
  · intro y c h
    rcases cases_of y c h with q | q
    · exact I.hok.fresh (by omega)
    · exact I.freeC y c q
  · intro p hp
    have hp' : p ∈ [(s.heap.objs.size, o)] := hp
    have e : p = (s.heap.objs.size, o) := by simpa using hp'
    subst e
    refine ⟨pushCells_keeps _ _ _ _ (Heap.get?_push_of_some _ ?_), I.hok.fresh (Nat.le_refl _), ?_, fun hs => ?_, ho⟩
    · exact Heap.get?_push_size _ hof
    · exact Nat.ne_of_lt (Nat.lt_succ_self _)
    · rcases List.mem_cons.mp (I.stkSub _ hs) with z | z
      · exact absurd I.lt (by rw [← z]; exact Nat.lt_irrefl _)
      · exact I.nofs (Nat.le_refl _) z
  · show (none :: pick σ is).length = (x :: F).length
    have e := congrArg List.length K.at'
    rw [List.length_map, List.length_map] at e
    unfold pick
    rw [List.length_cons, List.length_cons, List.length_map, e]
end
end L2

namespace L2
open PySem PySem.Spec PyProof.Rows

/-- an untracked object is tracked from here on -/
theorem HOk.track {P : Program} {w : World} {H : Hp} {h : Heap} {a : Addr} {o : HO} (x : HOk P w H h) (hn : H a = none) (new : ObjOk P w (upd H a o) h a o) : HOk P w (upd H a o) h := fun b u e => by
  by_cases hb : b = a
  · subst hb; rw [upd_same] at e; cases e; exact new
  · rw [upd_ne hb] at e
    exact (x b u e).stay (fun _ _ _ q => q) (fun c q => by rw [upd_ne (ne_of_none q hn)]; exact q) fun c xs q => by rw [upd_ne (ne_of_none q hn)]; exact q
theorem Un.track {fs ex : List Addr} {H H1 : Hp} {h h1 : Heap} {a : Addr} {o : HO} (u : Un fs ex H H1 h h1) (ha : h.objs.size ≤ a) (hn : H1 a = none) : Un fs ex H (upd H1 a o) h h1 where
  keep := u.keep
  slot := u.slot
  free := fun b ob q n hx => by
    rw [upd_ne (Nat.ne_of_lt (Nat.lt_of_lt_of_le (Heap.lt_size q) ha))]
    exact u.free b ob q n hx
  there := u.there
  tups := fun b xs q => by
    have := u.tups b xs q
    rw [upd_ne (ne_of_none this hn)]; exact this
  frzs := fun b ob xs q => by
    have := u.frzs b ob xs q
    rw [upd_ne (ne_of_none this hn)]; exact this
  tbls := fun b ps q => by
    obtain ⟨m, e⟩ := u.tbls b ps q
    exact ⟨m, by rw [upd_ne (ne_of_none e hn)]; exact e⟩

/-- a comprehension's turns, the step ahead of the store kept -/
theorem compLoop_go {prog : Program} {w : World} {A : Around} {R : Result → Shared → Prop} {s : Shared} {elt target iter : Expr} {ifs : List Expr} {scope : Scope} {pos : Pos} {it acc : Value} {env : Env}
    (I : Nat → Shared → Prop)
    (turn : ∀ n s, I n s → wpAny (model prog w) A (pyNext it)
      (fun r s₁ => match r with
        | none => R (.ok .next) s₁
        | some v => wpAny (model prog w) A (letOwnedTupleGo target it v)
            (fun _ s₁' => wpAny (model prog w) A (assign target env v)
              (fun _ s₂ => wpAny (model prog w) A (forIn ifs true fun c r => if r = true then do let ok ← isTrue c env (eval c env); pure (ForInStep.yield ok) else pure (ForInStep.yield r))
                (fun ok s₃ =>
                  if ok = true then
                    wpAny (model prog w) A (eval elt env)
                      (fun x s₄ => wpAny (model prog w) A (call (.builtin "list.append") [acc, x]) (fun _ s₅ => ∃ m, m < n ∧ I m s₅) (fun _ _ => False) s₄)
                      (fun _ _ => False) s₃
                  else ∃ m, m < n ∧ I m s₃)
                (fun _ _ => False) s₂)
              (fun _ _ => False) s₁')
            (fun _ _ => False) s₁)
      (fun _ _ => False) s)
    (n : Nat) (h : I n s) : codeAny (model prog w) A (.compLoop (.ListComp elt [⟨target, iter, ifs, 0⟩] scope pos) 0 it acc env) R s := by
  apply codeAny_loop rfl I ?_ n h
  intro n s hI
  show wpAny _ A (Sem.onRaise (compTurn (.ListComp elt [⟨target, iter, ifs, 0⟩] scope pos) 0 it acc env) (fun x => do noteFrame x env; theTreesLotGoes x)) _ _ s
  refine wpAny_noted ?_
  rw [compTurn_list]
  refine wpAny_bind (wpAny_standAt (wpAny_bind (wpAny_mono (turn n s hI) (fun r s₁ h₁ => ?_) fun _ _ f => f.elim)))
  cases r with
  | none => exact wpAny_pure h₁
  | some v =>
    refine wpAny_bind (wpAny_mono h₁ (fun _ s₁' h₁' => ?_) fun _ _ f => f.elim)
    refine wpAny_bind (wpAny_mono h₁' (fun _ s₂ h₂ => ?_) fun _ _ f => f.elim)
    refine wpAny_bind (wpAny_mono h₂ (fun ok s₃ h₃ => ?_) fun _ _ f => f.elim)
    cases ok with
    | false => apply wpAny_pure; exact ⟨rfl, h₃⟩
    | true =>
      refine wpAny_bind (wpAny_bind (wpAny_mono h₃ (fun x s₄ h₄ => ?_) fun _ _ f => f.elim))
      refine wpAny_bind (wpAny_mono h₄ (fun _ s₅ h₅ => ?_) fun _ _ f => f.elim)
      exact wpAny_pure (wpAny_pure ⟨rfl, h₅⟩)

/-- the tests of a comprehension -/
noncomputable def PTs (X : Cx) (ifs : List Expr) (t : TT) : Prop :=
  ∀ (pins : List (Addr × Obj)) (s : Shared) (σ : St) (H : Hp) (Q : Bool → Hp → Prop), Inv X pins σ H s → t σ H Q →
    wpAny (model X.prog X.w) X.A (forIn ifs true fun c r => if r = true then do let ok ← isTrue c X.env (eval c X.env); pure (ForInStep.yield ok) else pure (ForInStep.yield r)) (TP X pins σ Q) X.xe s
noncomputable def tNoTest : TT := fun _ H Q => Q true H
theorem pts_nil {X : Cx} : PTs X [] tNoTest := fun _ _ _ H _ I h => wpAny_tests_nil ⟨H, I, h⟩
theorem pts_one {X : Cx} {c : Expr} {t : TT} (h : PT X c t) : PTs X [c] t := fun pins s σ H Q I q => wpAny_tests_one (h pins s σ H Q I q)

/-- a comprehension's turns: W by the turn, a measure, what is collected, the heap -/
noncomputable def CompW (tc : TT) (te : TE) (is : List Nat) (σ : St) (Q : VK) (J : It) (H1 : Hp) : Prop :=
  ∃ W : Nat → Nat → List V → Hp → Prop, (∃ m, W 0 m [] H1) ∧ ∀ i m ys H, W i m ys H →
    (J.stop i H ∧ ys.length ≤ sizeLine ∧ ∀ l, H l = none → Q (.ref l) (upd H l (.lst ys))) ∨
    (J.go i H ∧ ys.length < sizeLine ∧ ∃ N : List V → Hp → Prop, (∀ ys' H', N ys' H' → ∃ m', m' < m ∧ W (i + 1) m' ys' H') ∧ ∀ x H', J.yld i H x H' → tc (some x :: pick σ is) H' fun b H2 =>
      if b = true then te (some x :: pick σ is) H2 fun v H3 => N (ys ++ [v]) H3 else N ys H2)
noncomputable def tComp (wi : TI) (tc : TT) (te : TE) (is : List Nat) : TE := fun σ H Q => wi σ H (CompW tc te is σ Q)

noncomputable def plist (us : List Value) (n : Nat) : Obj := { cls := .type "list", data := .seq us.toArray n }

section
variable {X : Cx} {x : Str} {F : List Str} {is : List Nat} {scope fs : Scope} {NX : List Str}
theorem comp_block {elt iter : Expr} {px pos : Pos} {ifs : List Expr} {tc : TT} {te : TE} {J : It} {tn : Nat → Heap → Prop} {fp : List Addr} {it : Addr} {pins : List (Addr × Obj)} {σ : St} {H : Hp} {s : Shared} {Qv : VK}
    {E : Value → Shared → Prop} {R : Value → Addr → Result → Shared → Prop} {W : Nat → Nat → List V → Hp → Prop}
    (K : CompOk fs NX x F is scope) (hfs : X.env.scope = fs) (hNX : X.N = NX) (hcalm : X.calm = true)
    (ht : ∀ cs C s₀ H₀ ex, PTs (compCx X (x :: F) scope cs C s₀ H₀ ex) ifs tc) (he : ∀ cs C s₀ H₀ ex, PE (compCx X (x :: F) scope cs C s₀ H₀ ex) elt te)
    (I : Inv X pins σ H s) (T : Turn X.prog X.w X.K (.Name x px) J fp it tn) (st : tn 0 s.heap) (hf : ∀ b ∈ fp, FpOk X pins H b) (w0 : ∃ m, W 0 m [] H)
    (turn : ∀ i m ys H, W i m ys H →
      (J.stop i H ∧ ys.length ≤ sizeLine ∧ ∀ l, H l = none → Qv (.ref l) (upd H l (.lst ys))) ∨
      (J.go i H ∧ ys.length < sizeLine ∧ ∃ N : List V → Hp → Prop, (∀ ys' H', N ys' H' → ∃ m', m' < m ∧ W (i + 1) m' ys' H') ∧ ∀ y H', J.yld i H y H' → tc (some y :: pick σ is) H' fun b H2 =>
        if b = true then te (some y :: pick σ is) H2 fun v H3 => N (ys ++ [v]) H3 else N ys H2))
    (fin : ∀ (s' : Shared) (H' : Hp) (l C : Addr) (m : Str → Option Value), Inv X pins σ H' s' → s'.heap.Ns C m → FpOk X pins H' C → Qv (.ref l) H' → R (.ref l) C (.ok .next) s') :
    wpAny (model X.prog X.w) X.A (newList [])
      (fun acc s₃ => wpAny (model X.prog X.w) X.A (newFunctionEnv scope X.env.globals (closOf scope X.env) [] X.env.qual none .none (some X.env))
        (fun cenv s₄ => codeAny (model X.prog X.w) X.A (.compStart (.ListComp elt [⟨.Name x px, iter, ifs, 0⟩] scope pos) 0 (.ref it) acc { cenv with scope := relabel scope X.env }) (R acc cenv.locals) s₄) E s₃) E s := by
  obtain ⟨m0, w0⟩ := w0
  have hlt : ∀ b ∈ fp, b < s.heap.objs.size := fun b hb => by
    obtain ⟨o, e, _⟩ := T.obj 0 _ st b hb
    exact Heap.lt_size e
  refine wpAny_newObj_type (newCompEnv ?_)
  dsimp only
  rw [Heap.size_push]
  have I0 := comp_start (o := { cls := .type "list", dict := none, data := .seq ([] : List Value).toArray }) (fun v z => by cases z) rfl K hfs hNX I hf hlt
  generalize hcs : cellsFrom (s.heap.objs.size + 1 + 1) scope.names (closOf scope X.env) = cs at I0 ⊢
  generalize hs4 : ({ s with heap := pushCells ((s.heap.push { cls := .type "list", dict := none, data := .seq ([] : List Value).toArray }).push { cls := .type "dict", data := .dict #[] }) scope.names } : Shared) = s4 at I0 ⊢
  have st4 : tn 0 s4.heap := T.keep 0 _ _ st fun b _ o e => by
    rw [← hs4]
    exact pushCells_keeps _ _ b o (Heap.get?_push_of_some _ (Heap.get?_push_of_some _ e))
  clear hs4
  -- what stays true of the iterator's objects in the block
  have stat : ∀ {H' : Hp} {u : Obj}, (∀ b ∈ fp, H' b = none) → ∀ b ∈ fp, FpOk (compCx X (x :: F) scope cs (s.heap.objs.size + 1) s H fp) [(s.heap.objs.size, u)] H' b := fun {H' u} hn b hb => by
    refine ⟨hn b hb, ?_, fun hs => ?_, .inl hb, fun y c h z => ?_, fun p hp z => ?_⟩
    · exact Nat.ne_of_lt (Nat.lt_succ_of_lt (hlt b hb))
    · exact I0.ok.exfs b hb hs
    · exact (I0.ok.exf b hb).2 y c h z
    · have hp' : p ∈ [(s.heap.objs.size, u)] := hp
      have e : p = (s.heap.objs.size, u) := by simpa using hp'
      subst e
      have z' : s.heap.objs.size = b := z
      exact absurd (hlt b hb) (by rw [← z']; exact Nat.lt_irrefl _)
  have loop : codeAny (model X.prog X.w) X.A (.compLoop (.ListComp elt [⟨.Name x px, iter, ifs, 0⟩] scope pos) 0 (.ref it) (.ref s.heap.objs.size) (compCx X (x :: F) scope cs (s.heap.objs.size + 1) s H fp).env) (R (.ref s.heap.objs.size) (s.heap.objs.size + 1)) s4 := by
    refine compLoop_go (fun n s' => ∃ i ys us c t H', Inv (compCx X (x :: F) scope cs (s.heap.objs.size + 1) s H fp) [(s.heap.objs.size, plist us c)] (t :: pick σ is) H' s' ∧ W i n ys H' ∧ Vals ys us ∧ tn i s'.heap ∧ ∀ b ∈ fp, H' b = none) ?_ m0
      ⟨0, [], [], 0, none, H, I0, w0, .nil, st4, fun b hb => (hf b hb).1⟩
    rintro n s1 ⟨i, ys, us, c, t, H1, I1, w1, r1, st1, fr1⟩
    rcases turn i n ys H1 w1 with ⟨stop, hz, q⟩ | ⟨go, hz, N, hN, step⟩
    · refine thn (T.done (compCx X (x :: F) scope cs (s.heap.objs.size + 1) s H fp) rfl rfl rfl hcalm i _ s1 _ H1 _ I1 (stat fr1) st1 stop) fun r s2 ⟨hr, I2⟩ => ?_
      subst hr
      show R (.ref s.heap.objs.size) (s.heap.objs.size + 1) (.ok .next) s2
      obtain ⟨e2, n2, _, _, _⟩ := I2.pin (s.heap.objs.size, plist us c) (by show _ ∈ [(s.heap.objs.size, plist us c)]; simp)
      obtain ⟨m, hn, _⟩ := I2.loc
      have hC : H1 (s.heap.objs.size + 1) = none := I2.free
      have I3 : Inv X pins σ (upd H1 s.heap.objs.size (.lst ys)) s2 := by
        refine I.call' (ch := fp) I2.os (Un.track I2.base (Nat.le_refl _) n2) (HOk.track I2.hok n2 ⟨hz, us, c, r1, e2⟩) I2.bare fun b hb => ?_
        obtain ⟨_, f1, _, f3, f4, f5⟩ := hf b hb
        exact ⟨f3, f1, f4, f5⟩
      exact fin s2 _ _ _ m I3 hn (I.fpOk (Nat.le_succ _) (by rw [upd_ne (Nat.ne_of_gt (Nat.lt_succ_self _))]; exact hC)) (q _ n2)
    · refine thn (T.item (compCx X (x :: F) scope cs (s.heap.objs.size + 1) s H fp) rfl rfl rfl hcalm i _ s1 _ H1 (fun _ _ => False) I1 (stat fr1) st1 go) fun r s2 ⟨u, hr, h2⟩ => ?_
      subst hr
      refine thn h2 fun _ s3 ⟨xv, H3, I3, r3, y3, st3, fr3⟩ => ?_
      have I3' := I3.pinned (stat fr3) (T.obj _ _ st3)
      have hloc : Loc (compCx X (x :: F) scope cs (s.heap.objs.size + 1) s H fp).env.scope x := by
        have e : (relabel scope X.env).names.lookup x = _ := relabel_lookup (env := X.env) (x := x) scope.names
        rcases K.tgt with z | z
        · left
          show (relabel scope X.env).names.lookup x = some .local
          rw [e, z]; rfl
        · right
          show (relabel scope X.env).names.lookup x = some .cell
          rw [e, z]; rfl
      have hfn : (compCx X (x :: F) scope cs (s.heap.objs.size + 1) s H fp).fn x = true ∨ (compCx X (x :: F) scope cs (s.heap.objs.size + 1) s H fp).env.scope.names.lookup x = some .local := by
        rcases K.tgt with z | z
        · right
          have e : (relabel scope X.env).names.lookup x = _ := relabel_lookup (env := X.env) (x := x) scope.names
          show (relabel scope X.env).names.lookup x = some .local
          rw [e, z]; rfl
        · left
          show (scope.names.lookup x == some NameKind.cell) = true
          rw [z]; rfl
      refine wpAny_assign_Name (store_ok (i := 0) I3' K.nd rfl hloc r3 (fun s5 I5 => ?_) hfn)
      have I5' : Inv (compCx X (x :: F) scope cs (s.heap.objs.size + 1) s H fp) ([(s.heap.objs.size, plist us c)] ++ pinsAt fp s3.heap) (some xv :: pick σ is) H3 s5 := I5
      have back : ∀ {H7 : Hp} {s7 : Shared}, Inv (compCx X (x :: F) scope cs (s.heap.objs.size + 1) s H fp) ([(s.heap.objs.size, plist us c)] ++ pinsAt fp s3.heap) (some xv :: pick σ is) H7 s7 → tn (i + 1) s7.heap ∧ (∀ b ∈ fp, H7 b = none) ∧
          s7.heap.get? s.heap.objs.size = some (plist us c) ∧ H7 s.heap.objs.size = none := fun {H7 s7} I7 => by
        refine ⟨T.keep _ _ _ st3 fun b hb o e => (I7.pin (b, o) (List.mem_append_right _ (List.mem_append_right _ (mem_pinsAt hb e)))).1, fun b hb => ?_, ?_⟩
        · obtain ⟨o, e, _⟩ := T.obj _ _ st3 b hb
          exact (I7.pin (b, o) (List.mem_append_right _ (List.mem_append_right _ (mem_pinsAt hb e)))).2.1
        · have q := I7.pin (s.heap.objs.size, plist us c) (List.mem_append_right _ (List.mem_append_left _ (by simp)))
          exact ⟨q.1, q.2.1⟩
      refine thn (ht cs (s.heap.objs.size + 1) s H fp _ s5 _ H3 _ I5' (step xv H3 y3)) fun b s7 ⟨H7, I7, q7⟩ => ?_
      cases b with
      | false =>
        rw [if_neg Bool.false_ne_true] at q7 ⊢
        obtain ⟨m', hm, w7⟩ := hN _ _ q7
        obtain ⟨st7, fr7, _, _⟩ := back I7
        exact ⟨m', hm, i + 1, ys, us, c, some xv, H7, I7.unpinned, w7, r1, st7, fr7⟩
      | true =>
        rw [if_pos rfl] at q7 ⊢
        refine thn (he cs (s.heap.objs.size + 1) s H fp _ s7 _ H7 _ I7 q7) fun y s8 ⟨v, H8, I8, r8, q8⟩ => ?_
        obtain ⟨m', hm, w8⟩ := hN _ _ q8
        obtain ⟨st8, fr8, e8, n8⟩ := back I8
        have hl := r1.length
        refine wpAny_list_append_plain (hsz := by rw [List.size_toArray]; omega) (show s8.heap.PlainList s.heap.objs.size us.toArray from ⟨c, e8⟩) fun h9 hp9 hs9 => ?_
        obtain ⟨c9, e9⟩ := hp9
        have e9' : h9.get? s.heap.objs.size = some (plist (us ++ [y]) c9) := by
          rw [e9]; unfold plist; simp
        have I8n : Inv (compCx X (x :: F) scope cs (s.heap.objs.size + 1) s H fp) [] (some xv :: pick σ is) H8 s8 := I8.pins_of fun p hp => nomatch hp
        have I9 : Inv (compCx X (x :: F) scope cs (s.heap.objs.size + 1) s H fp) [] (some xv :: pick σ is) H8 { s8 with heap := h9 } := by
          refine I8n.turned (t' := s8.toks) (it := s.heap.objs.size) (fun b o hb e => (hs9.2 b hb).trans e) n8 ?_ (.inr (Nat.le_refl _)) (fun y' c' hc z => ?_) (fun p hp => nomatch hp)
          · exact Nat.ne_of_lt (Nat.lt_succ_self _)
          · obtain ⟨v', o', ho', hd'⟩ := I8n.cell y' c' hc
            rw [z, e8] at ho'
            cases ho'
            cases hd'
        have I9' : Inv (compCx X (x :: F) scope cs (s.heap.objs.size + 1) s H fp) [(s.heap.objs.size, plist (us ++ [y]) c9)] (some xv :: pick σ is) H8 { s8 with heap := h9 } := I9.pins_of fun p hp => by
          have e : p = (s.heap.objs.size, plist (us ++ [y]) c9) := by simpa using hp
          subst e
          obtain ⟨_, _, q3, q4, _⟩ := I8.pin (s.heap.objs.size, plist us c) (List.mem_append_right _ (List.mem_append_left _ (by simp)))
          exact ⟨e9', n8, q3, q4, fun v' z => by cases z⟩
        refine ⟨m', hm, i + 1, ys ++ [v], us ++ [y], c9, some xv, H8, I9', w8, Vals.append r1 (.cons r8 .nil), T.keep _ _ _ st8 fun b hb o e => (hs9.2 b fun z => ?_).trans e, fr8⟩
        exact absurd (hlt b hb) (by rw [z]; exact Nat.lt_irrefl _)
  exact codeAny_compStart_list loop (T.self X.A 0 _ _ _ st4 loop)

theorem pe_comp {elt iter : Expr} {px pos : Pos} {ifs : List Expr} {wi : TI} {tc : TT} {te : TE} (K : CompOk fs NX x F is scope) (hcalm : X.calm = true) (hi : PI X (.Name x px) iter wi)
    (ht : ∀ cs C s₀ H₀ ex, PTs (compCx X (x :: F) scope cs C s₀ H₀ ex) ifs tc) (he : ∀ cs C s₀ H₀ ex, PE (compCx X (x :: F) scope cs C s₀ H₀ ex) elt te)
    (hfs : X.env.scope = fs := by rfl) (hNX : X.N = NX := by rfl) (hs : ∀ y, foldedSetIterable iter X.env y = pure y := by intro _; rfl) :
    PE X (.ListComp elt [⟨.Name x px, iter, ifs, 0⟩] scope pos) (tComp wi tc te is) := by
  intro pins s σ H Q I h
  have hfree : ∀ y ∈ scope.names, y.2 = .free → ∃ c, X.env.cells.lookup y.1 = some c := fun y hy h => I.ok.has y.1 (by rw [Env.kindOf, hfs]; exact K.free y hy h)
  rw [eval_ListComp]
  refine wpAny_comprehension_free (use := none) rfl hs (closureFor_of hfree) K.kind K.loc (thn (hi pins s σ H _ I h) fun v s1 h1 => thn h1 fun itv s2 h2 => ?_)
  obtain ⟨it, fp, tn, J, H2, e, I2, T, st2, f2, W, w0, turn⟩ := h2
  subst e
  refine comp_block (R := fun acc C => compPost (model X.prog X.w) X.A X.xe none (EP X pins σ Q) acc C) K hfs hNX hcalm ht he I2 T st2 f2 w0 turn fun s' H' l C m I' ns fC q => ?_
  obtain ⟨g0, g1, g2, g3, g4, g5⟩ := fC
  exact ⟨m, ns, fun h' hs' => ⟨.ref l, H', I'.turned (t' := s'.toks) (fun b o hb e => (hs'.2 b hb).trans e) g0 g1 g3 g4 g5, rfl, q⟩⟩

/-- name = [.. for ..], the name a local one: the block's variables go behind the store -/
theorem ps_setC {elt iter : Expr} {px pos spos pos' : Pos} {ifs : List Expr} {wi : TI} {tc : TT} {te : TE} {y : Str} {i : Nat} (K : CompOk fs NX x F is scope) (hcalm : X.calm = true) (hN : X.N.Nodup) (hy : X.N[i]? = some y)
    (hx : Loc X.env.scope y) (hi : PI X (.Name x px) iter wi)
    (ht : ∀ cs C s₀ H₀ ex, PTs (compCx X (x :: F) scope cs C s₀ H₀ ex) ifs tc) (he : ∀ cs C s₀ H₀ ex, PE (compCx X (x :: F) scope cs C s₀ H₀ ex) elt te)
    (hsw : swapsWith (.ListComp elt [⟨.Name x px, iter, ifs, 0⟩] scope pos) (some (.Name y pos')) spos.line X.env = pure true := by rfl)
    (hfs : X.env.scope = fs := by rfl) (hNX : X.N = NX := by rfl) (hs : ∀ z, foldedSetIterable iter X.env z = pure z := by intro _; rfl)
    (hf : X.fn y = true ∨ X.env.scope.names.lookup y = some .local := by first | exact .inl rfl | exact .inr rfl | assumption) :
    PS X (.Assign [.Name y pos'] (.ListComp elt [⟨.Name x px, iter, ifs, 0⟩] scope pos) spos) (tAsg (tComp wi tc te is) (gName i)) := by
  intro pins s σ H D I h
  have hfree : ∀ y ∈ scope.names, y.2 = .free → ∃ c, X.env.cells.lookup y.1 = some c := fun y hy h => I.ok.has y.1 (by rw [Env.kindOf, hfs]; exact K.free y hy h)
  have used := exec_Assign_Name_used _ _ _ _ hsw
  rw [used]
  refine wpAny_bind (wpAny_standAt ?_)
  refine wpAny_bind ?_
  show wpAny _ X.A (comprehension (.ListComp elt [⟨.Name x px, iter, ifs, 0⟩] scope pos) scope X.env _ (newList []) false (eval iter X.env) (some (assign (.Name y pos') X.env)) >>= fun _ => pure ()) _ _ s
  refine wpAny_bind (wpAny_mono (wpAny_comprehension_free (use := some (assign (.Name y pos') X.env)) (Q := fun _ s' => SP X pins D .next s') rfl hs (closureFor_of hfree) K.kind K.loc
    (thn (hi pins s σ H _ I h) fun v s1 h1 => thn h1 fun itv s2 h2 => ?_)) (fun _ s' hq => wpAny_pure (wpAny_pure hq)) fun _ _ e => e)
  obtain ⟨it, fp, tn, J, H2, e, I2, T, st2, f2, W, w0, turn⟩ := h2
  subst e
  refine comp_block (Qv := fun x H1 => gName i x σ H1 D.nx) (R := fun acc C => compPost (model X.prog X.w) X.A X.xe (some (assign (.Name y pos') X.env)) (fun _ s' => SP X pins D .next s') acc C) K hfs hNX hcalm ht he I2 T st2 f2 w0 turn fun s' H' l C m I' ns fC q => ?_
  obtain ⟨g0, g1, g2, g3, g4, g5⟩ := fC
  show wpAny _ X.A (assign (.Name y pos') X.env (.ref l)) _ _ s'
  refine wpAny_assign_Name (store_ok2 (v := .ref l) I' hN hy hx rfl (fun s3 I3 ⟨a, sb, ha⟩ => ?_) hf)
  have neC : C ≠ a := by
    rcases ha with z | z
    · rw [z]; exact g1
    · exact fun e => g4 _ _ z e.symm
  exact ⟨m, ns.sameBut sb neC, fun h' hs' => ⟨_, H', I3.turned (t' := s3.toks) (fun b o hb e => (hs'.2 b hb).trans e) g0 g1 g3 g4 g5, q⟩⟩
end

/-! ### the forms one uses: what is met is a function of the item, the heap only grows -/
theorem comp_over {J : It} {tc : TT} {te : TE} {is : List Nat} {σ : St} {H0 H : Hp} {Qv : VK} (xs : List V) (f : V → V) (p : V → Bool) (hz : xs.length < sizeLine) (h0 : Same H0 H)
    (hgo : ∀ i H, Same H0 H → i < xs.length → J.go i H) (hstop : ∀ H, Same H0 H → J.stop xs.length H)
    (hy : ∀ i H x H', Same H0 H → i < xs.length → J.yld i H x H' → H' = H ∧ xs[i]? = some x)
    (hc : ∀ x ∈ xs, ∀ H1, Same H0 H1 → ∀ N : Bool → Hp → Prop, (∀ H2, Same H0 H2 → N (p x) H2) → tc (some x :: pick σ is) H1 N)
    (he : ∀ x ∈ xs, p x = true → ∀ H1, Same H0 H1 → ∀ N : V → Hp → Prop, (∀ H2, Same H0 H2 → N (f x) H2) → te (some x :: pick σ is) H1 N)
    (hd : ∀ l H', Same H0 H' → H' l = none → Qv (.ref l) (upd H' l (.lst ((xs.filter p).map f)))) :
    CompW tc te is σ Qv J H := by
  refine ⟨fun i m ys H => m = xs.length - i ∧ i ≤ xs.length ∧ Same H0 H ∧ ys = ((xs.take i).filter p).map f, ⟨_, rfl, Nat.zero_le _, h0, by simp⟩, ?_⟩
  rintro i m ys H1 ⟨rfl, hi, hS, rfl⟩
  have hlen : (((xs.take i).filter p).map f).length ≤ i := by
    rw [List.length_map]
    exact Nat.le_trans (List.length_filter_le _ _) (by rw [List.length_take]; omega)
  by_cases hlt : i < xs.length
  · refine .inr ⟨hgo i H1 hS hlt, by omega, fun ys' H' => Same H0 H' ∧ ys' = ((xs.take (i + 1)).filter p).map f, fun ys' H' h => ⟨xs.length - (i + 1), by omega, rfl, hlt, h.1, h.2⟩, fun x H' hyl => ?_⟩
    obtain ⟨rfl, hx⟩ := hy i H1 x H' hS hlt hyl
    have hm : x ∈ xs := List.mem_of_getElem? hx
    have et := take_succ_filter p xs i x hx
    refine hc x hm _ hS _ fun H2 hS2 => ?_
    by_cases hp : p x = true
    · rw [if_pos hp]
      rw [if_pos hp] at et
      refine he x hm hp _ hS2 _ fun H3 hS3 => ⟨hS3, ?_⟩
      rw [et, List.map_append]; rfl
    · rw [if_neg hp]
      rw [if_neg hp] at et
      refine ⟨hS2, ?_⟩
      rw [et, List.append_nil]
  · have e : i = xs.length := by omega
    subst e
    refine .inl ⟨hstop H1 hS, by omega, fun l hl => ?_⟩
    rw [List.take_length]
    exact hd l H1 hS hl
theorem comp_list {K : PySem.W.Frag} {a : Addr} {tc : TT} {te : TE} {is : List Nat} {σ : St} {H : Hp} {Qv : VK} (xs : List V) (f : V → V) (p : V → Bool) (hz : xs.length < sizeLine) (hL : SqL K H a xs)
    (hc : ∀ x ∈ xs, ∀ H1, Same H H1 → ∀ N : Bool → Hp → Prop, (∀ H2, Same H H2 → N (p x) H2) → tc (some x :: pick σ is) H1 N)
    (he : ∀ x ∈ xs, p x = true → ∀ H1, Same H H1 → ∀ N : V → Hp → Prop, (∀ H2, Same H H2 → N (f x) H2) → te (some x :: pick σ is) H1 N)
    (hd : ∀ l H', Same H H' → H' l = none → Qv (.ref l) (upd H' l (.lst ((xs.filter p).map f)))) :
    CompW tc te is σ Qv (Itl K a) H :=
  comp_over xs f p hz (Same.refl H) (fun i H1 hS hi => ⟨xs, xs[i], hS.seq hL, by simp [hi]⟩) (fun H1 hS => ⟨xs, hS.seq hL, Nat.le_refl _⟩) (fun i H1 x H' hS _ hy => ⟨hy.1, hy.2 xs (hS.seq hL)⟩) hc he hd
end L2

namespace PySem
section
variable {prog : Program} {w : World} {A : Around} {E : Value → Shared → Prop} {s : Shared}
theorem so_lri_no_len : typeLookup (.type "list_reverseiterator") "__len__" = pure none := by
  rw [typeLookup_type, builtinLookup_eq_fast]; kernel_rfl
theorem so_lri_hint : typeLookup (.type "list_reverseiterator") "__length_hint__" = pure (some (.builtin "list_reverseiterator.__length_hint__")) := by
  rw [typeLookup_type, builtinLookup_eq_fast]; kernel_rfl
theorem so_hint_rev {r : Addr} {Q : Bool → Shared → Prop} (ty : s.TypeIs (.ref r) "list_reverseiterator") (q : Q false s) : wpAny (model prog w) A (Builtin.List.listLengthHint (.ref r)) Q E s := by
  rw [Builtin.List.listLengthHint]
  refine wpAny_bind (wpAny_specialOf ty so_lri_no_len ?_)
  show wpAny _ A (specialOf (Value.ref r) (Str.ofString "__length_hint__") >>= _) _ _ s
  refine wpAny_bind (wpAny_specialOf ty so_lri_hint ?_)
  generalize named : ("list_reverseiterator.__length_hint__" : String) = nm
  wp_delta
  rw [show splitId nm = some ("list_reverseiterator", "__length_hint__") by rw [← named]; decide +kernel]
  cases named
  refine wpAny_bind (wpAny_isInstance (b := true) ty (by rw [isSubtype_type]; kernel_rfl) ?_)
  first
    | exact wpAny_pure q
    | exact wpAny_ite_split (fun z => absurd z (by decide)) fun _ => wpAny_ite_split (fun _ => wpAny_ite_split (fun z => absurd z (by decide +kernel)) fun _ => wpAny_pure q) fun z => absurd (by decide +kernel) z
/-- room is made in an empty list: it stays empty, and nothing else changes -/
theorem so_touch {S : Addr} {c : Nat} {Q : Unit → Shared → Prop} (at0 : s.heap.get? S = some ⟨.type "list", none, .seq #[] c, #[]⟩)
    (q : ∀ g c', (∀ b o, b ≠ S → s.heap.get? b = some o → g.get? b = some o) → g.get? S = some ⟨.type "list", none, .seq #[] c', #[]⟩ → Q () { s with heap := g }) :
    wpAny (model prog w) A (Builtin.List.listTouch (.ref S)) Q E s := by
  show wpAny _ A (updateSeq S (fun z => z.push .none) >>= fun _ => updateSeq S (fun z => z.pop)) Q E s
  have at1 := Heap.get?_update_self (Obj.mapSeq fun z => z.push Value.none) at0 rfl
  refine wpAny_bind (wpAny_updateSeq at0 rfl (wpAny_updateSeq (hz := by seq_fits) at1 rfl (q _ _ (fun b o n z => ?_) (Heap.get?_update_self (Obj.mapSeq fun z => z.pop) at1 rfl))))
  rw [Heap.get?_update_other _ _ n.symm, Heap.get?_update_other _ _ n.symm, z]
theorem so_extend_rev {R : Result → Shared → Prop} (calm : A.handled = none) {I l S : Addr} {items : Array Value} (ne : l ≠ I) (it : s.heap.IsRevIter I l ((items.size : Int) - 1)) (ls : s.heap.IsList l items)
    (nI : S ≠ I) (nl : S ≠ l) (res : Value) (c₀ : Nat) (at0 : s.heap.get? S = some ⟨.type "list", none, .seq #[] c₀, #[]⟩) (hn : items.size ≤ sizeLine)
    (q : ∀ h' tk acc' c', (∀ b o, b ≠ S → b ≠ I → s.heap.get? b = some o → h'.get? b = some o) → h'.get? S = some ⟨.type "list", none, .seq acc' c', #[]⟩ →
      ItemsOf (fun i v => items[items.size - 1 - i]? = some v) acc' items.size → R (.ok (.ret res)) { s with heap := h', toks := tk }) :
    wpAny (model prog w) A.in1 (Builtin.List.listExtendWith (Value.ref S) (Value.ref I) res)
      (fun fin s' => match fin with
        | .done f => R (.ok f) s'
        | .again c' => c'.quiet = true ∧ codeAny (model prog w) A c' R s')
      (fun e s' => R (.error e) s') s := by
  have loop : ∀ (g : Heap) (c₁ tk : Nat), (∀ b o, b ≠ S → s.heap.get? b = some o → g.get? b = some o) → g.get? S = some ⟨.type "list", none, .seq #[] c₁, #[]⟩ →
      codeAny (model prog w) A (.builtin "list.extend.loop" ⟨[.ref S, .ref I, res], []⟩) R { s with heap := g, toks := tk } := fun g c₁ tk kp at1 =>
    codeAny_extend_loopS (Walks.listRev (prog := prog) (w := w) (A := A.in1) calm I l ne items).toS hn S (by simp [nI, nl]) res items.size 0 _ #[] c₁ rfl (Nat.zero_le _)
      ⟨Nat.zero_le _, by simpa using it.at fun o z => kp I o nI.symm z, ls.at fun o z => kp l o nl.symm z⟩ at1 (ItemsOf.nil _) fun s' acc' c' mv at' its => by
        rw [Moved.eq_with mv]
        exact q s'.heap s'.toks acc' c' (fun b o n1 n2 z => mv.heap b o (by simp [n1, n2]) (kp b o n1 z)) at' its
  have e1 : Builtin.List.listSameRef (.ref S) (.ref I) = false := by unfold Builtin.List.listSameRef; simpa using nI
  have e2 : ∀ T, T = "list" ∨ T = "tuple" → (Value.type "list_reverseiterator" == Value.type T) = false := by rintro _ (rfl | rfl) <;> decide
  rw [Builtin.List.listExtendWith]
  refine wpAny_bind (wpAny_typeOf (T := "list_reverseiterator") it.typeIs ?_)
  simp only [e1, e2 "list" (.inl rfl), e2 "tuple" (.inr rfl), Bool.or_false, Bool.false_eq_true, ↓reduceIte]
  refine wpAny_bind (wpAny_pyIter_revIter it (wpAny_bind (wpAny_holding (so_hint_rev it.typeIs ?_))))
  have quiet := plainId_quiet F.plain_extend_loop ⟨[.ref S, .ref I, res], []⟩
  exact wpAny_ite_split (fun _ => wpAny_bind (wpAny_rule (wpAny_bind (so_touch at0 fun g c' kp at1 => wpAny_pure ⟨quiet, loop g c' _ kp at1⟩)))) fun _ => wpAny_pure ⟨quiet, loop _ c₀ _ (fun _ _ _ z => z) at0⟩
/-- an empty list is emptied, before it takes up what is given -/
theorem so_clear {S : Addr} {c : Nat} {v : Value} {M : Model} {Q : Fin → Shared → Prop} (at0 : s.heap.get? S = some ⟨.type "list", none, .seq #[] c, #[]⟩)
    (q : ∀ g c', (∀ b o, b ≠ S → s.heap.get? b = some o → g.get? b = some o) → g.get? S = some ⟨.type "list", none, .seq #[] c', #[]⟩ → wpAny M A (Builtin.List.listExtendWith (.ref S) v .none) Q E { s with heap := g }) :
    wpAny M A (Builtin.«list.__init__» ⟨[.ref S, v], []⟩) Q E s := by
  show wpAny M A (Builtin.List.listItems (.ref S) >>= fun was => Builtin.List.listUpdate (.ref S) (fun _ => #[]) >>= fun _ => letGo was.toList.reverse >>= fun _ => Builtin.List.listExtendWith (.ref S) v .none) Q E s
  rw [Builtin.List.listItems]
  refine wpAny_bind (wpAny_bind (wpAny_seqItems at0 rfl (wpAny_pure ?_)))
  show wpAny M A (updateSeq S (fun _ => #[]) >>= fun _ => letGo [] >>= fun _ => Builtin.List.listExtendWith (.ref S) v .none) Q E s
  exact wpAny_bind (wpAny_updateSeq at0 rfl (wpAny_bind (wpAny_letGo (q _ _ (fun b o n z => (Heap.get?_update_other _ _ n.symm).trans z) (Heap.get?_update_self (Obj.mapSeq fun _ => (#[] : Array Value)) at0 rfl)))))
theorem so_call_list_rev {Q : Value → Shared → Prop} (calm : A.handled = none) {I l : Addr} {items : Array Value} (ne : l ≠ I) (it : s.heap.IsRevIter I l ((items.size : Int) - 1)) (ls : s.heap.IsList l items) (hn : items.size ≤ sizeLine)
    (q : ∀ h' tk acc' c', (∀ b o, b ≠ I → s.heap.get? b = some o → h'.get? b = some o) → h'.get? s.heap.objs.size = some ⟨.type "list", none, .seq acc' c', #[]⟩ →
      ItemsOf (fun i v => items[items.size - 1 - i]? = some v) acc' items.size → Q (.ref s.heap.objs.size) { s with heap := h', toks := tk }) :
    wpAny (model prog w) A (call (Value.type "list") [.ref I]) Q E s := by
  have old : ∀ {b : Addr} {o : Obj}, s.heap.get? b = some o → b ≠ s.heap.objs.size := fun z => Nat.ne_of_lt (Heap.lt_size z)
  have up : ∀ b o, s.heap.get? b = some o → (s.heap.push ⟨.type "list", none, .seq #[], #[]⟩).get? b = some o := fun _ _ z => Heap.get?_push_of_some _ z
  have at0 : (s.heap.push ⟨.type "list", none, .seq #[], #[]⟩).get? s.heap.objs.size = some ⟨.type "list", none, .seq #[], #[]⟩ := Heap.get?_push_size _ rfl
  have nI : I ≠ s.heap.objs.size := let ⟨_, z, _⟩ := it; old z
  have nl : l ≠ s.heap.objs.size := let ⟨_, z, _⟩ := ls; old z
  refine callType_codes (Q₁ := fun o s₁ => s₁ = { s with heap := s.heap.push ⟨.type "list", none, .seq #[], #[]⟩ } ∧ o = .ref s.heap.objs.size) F.called_list (F.typeCall_list_1 _) F.entry_list_init (code_list_new _ ⟨rfl, rfl⟩) ?_
  rintro _ _ ⟨rfl, rfl⟩
  refine ⟨⟨_, at0, rfl⟩, F.args_list_init_2 _ _, so_clear at0 fun g c' kp at1 => ?_⟩
  refine so_extend_rev (A := A.in1) calm ne (it.at fun o z => kp I o nI (up I o z)) (ls.at fun o z => kp l o nl (up l o z)) nI.symm nl.symm .none c' at1 hn fun h' tk acc' c'' kp' at2 its => ?_
  exact ⟨rfl, q h' tk acc' c'' (fun b o n z => kp' b o (old z) n (kp b o (old z) (up b o z))) at2 its⟩
end
end PySem

namespace L2
open PySem PySem.Spec PyProof.Rows
/-- a list of ints that may be read -/
noncomputable abbrev LI (K : PySem.W.Frag) (H : Hp) (a : Addr) (ns : List Int) : Prop := SqL K H a (ns.map V.int)
theorem LI.of {K : PySem.W.Frag} {H : Hp} {a : Addr} {ns : List Int} (h : H a = some (.lst (ns.map V.int))) : LI K H a ns := SqL.of h
theorem vals_of_get : ∀ (xs : List V) (us : List Value), xs.length = us.length → (∀ (j : Nat) (u : Value), us[j]? = some u → ∃ x, xs[j]? = some x ∧ RelV x u) → Vals xs us
  | [], [], _, _ => .nil
  | [], u :: us, h, _ => nomatch h
  | x :: xs, [], h, _ => nomatch h
  | x :: xs, u :: us, h, hg => by
    obtain ⟨y, e, r⟩ := hg 0 u rfl
    have e' : x = y := by simpa using e
    subst e'
    exact .cons r (vals_of_get xs us (by simpa using h) fun j v hv => by
      obtain ⟨z, ez, rz⟩ := hg (j + 1) v (by simpa using hv)
      exact ⟨z, by simpa using ez, rz⟩)
theorem dedup_le : ∀ (l acc : List Int), (l.foldl step_dedup acc).length ≤ acc.length + l.length
  | [], acc => by simp
  | a :: r, acc => by
    rw [List.foldl_cons]
    have := dedup_le r (step_dedup acc a)
    have h2 : (step_dedup acc a).length ≤ acc.length + 1 := by
      unfold step_dedup
      split
      · omega
      · simp
    rw [List.length_cons]; omega
theorem dedup_iff : ∀ (l acc : List Int), acc.Nodup → ((l.foldl step_dedup acc).length = acc.length + l.length ↔ (acc ++ l).Nodup)
  | [], acc, h => by simp [h]
  | a :: r, acc, h => by
    rw [List.foldl_cons]
    by_cases ha : a ∈ acc
    · have e : step_dedup acc a = acc := by
        unfold step_dedup
        rw [if_pos (by simpa using ha)]
      rw [e]
      have := dedup_le r acc
      constructor
      · intro q; rw [List.length_cons] at q; omega
      · intro q
        rw [List.nodup_append] at q
        exact absurd rfl (q.2.2 a ha a List.mem_cons_self)
    · have e : step_dedup acc a = acc ++ [a] := by
        unfold step_dedup
        rw [if_neg (by simpa using ha)]
      rw [e]
      have hn : (acc ++ [a]).Nodup := by
        rw [List.nodup_append]
        refine ⟨h, by simp, fun x hx y hy z => ?_⟩
        have : y = a := by simpa using hy
        subst this; subst z
        exact ha hx
      have ih := dedup_iff r (acc ++ [a]) hn
      rw [List.length_append, List.length_singleton, List.append_assoc] at ih
      rw [List.length_cons, show acc.length + (r.length + 1) = acc.length + 1 + r.length by omega]
      exact ih
theorem firstMet_list (ns : List Int) : firstMet (fun i => ns.getD i 0) ns.length = ns.foldl step_dedup [] := by
  unfold firstMet
  congr 1
  apply List.ext_getElem?
  intro i
  by_cases h : i < ns.length
  · rw [List.getElem?_map, List.getElem?_range h, Option.map_some, List.getD_eq_getElem?_getD, List.getElem?_eq_getElem h]; rfl
  · rw [List.getElem?_eq_none (by simpa using h), List.getElem?_eq_none (by omega)]
section
variable {X : Cx} {K : PySem.W.Frag} {pins : List (Addr × Obj)} {σ : St} {H : Hp} {s : Shared}
theorem Inv.ints {a : Addr} {ns : List Int} (I : Inv X pins σ H s) (h : LI X.K H a ns) : ∃ us : List Value, IntsAre us ns ∧ s.heap.IsList a us.toArray ∧ ns.length ≤ sizeLine ∧ us.length = ns.length := by
  obtain ⟨its, r, pl, hz⟩ := I.list h
  have hi := intsAre_of r
  exact ⟨its, hi, pl.isList, by simpa using hz, hi.length⟩
theorem call_lenI (hK : X.K = K := by rfl) : CallR X (.builtin "len") (fun xs H Q => ∃ p ns, xs = [.ref p] ∧ LI K H p ns ∧ Q (.int (ns.length : Nat)) H) := by
  subst hK
  intro pins s σ H xs us Q I r h
  obtain ⟨p, ns, e, hq, q⟩ := h
  exact call_len_seq pins s σ H xs us Q I r ⟨p, _, e, .inl hq, by rw [List.length_map]; exact q⟩
theorem call_lenS : CallR X (.builtin "len") (fun xs H Q => ∃ p S n, xs = [.ref p] ∧ H p = some (.set S n) ∧ n < 4096 ∧ Q (.int (n : Nat)) H) := by
  intro pins s σ H xs us Q I r h
  obtain ⟨p, S, n, rfl, hp, hn, q⟩ := h
  obtain ⟨u, rfl, rx⟩ := vals1 r
  cases rx
  have hS : s.heap.SetOf (intKind X.prog X.w) p S n := I.hok p _ hp
  obtain ⟨o, es, ep, t, ho, hex, hd, _, _, _, hf, hsz⟩ := hS
  exact call_len_set ho hex hd hf (by omega) ⟨.int (n : Nat), H, I.tok _, ⟨_, by rw [hsz]⟩, q⟩
theorem call_sortedI (hK : X.K = K := by rfl) : CallR X (.builtin "sorted") (fun xs H Q => ∃ p ns, xs = [.ref p] ∧ LI K H p ns ∧ ns.length < 64 ∧
    ∀ (l : Addr) (ms : List Int), ms.Perm ns → ms.Pairwise (· ≤ ·) → H l = none → Q (.ref l) (upd H l (.lst (ms.map V.int)))) := by
  subst hK
  intro pins s σ H xs us Q I r h
  obtain ⟨p, ns, rfl, hq, h64, q⟩ := h
  obtain ⟨u, rfl, rx⟩ := vals1 r
  cases rx
  obtain ⟨vs, hi, hl, hz, hlen⟩ := I.ints hq
  refine sorted_ints hl hi (by omega) fun out ms a1 a2 a3 => ?_
  have ⟨e, he⟩ := sortedAll_at s.heap vs out
  refine ⟨.ref (s.heap.objs.size + 1), _, I.laid (t' := s.toks) (o := .lst (ms.map V.int)) (fun b u z => sortedAll_old z) (Nat.le_succ _) ?_, rfl, q _ _ a2 a3 (I.hok.fresh (Nat.le_succ _))⟩
  refine ⟨?_, out.toList, e, vals_ints a1, ?_⟩
  · rw [List.length_map, a2.length_eq]; exact hz
  · rw [Array.toArray_toList]; exact he
theorem call_setI (hc : X.calm = true) (hK : X.K = K := by rfl) : CallR X (.type "set") (fun xs H Q => ∃ p ns, xs = [.ref p] ∧ LI K H p ns ∧ ns.length < 1000 ∧
    ∀ l S n, (n = ns.length ↔ ns.Nodup) → n ≤ ns.length → H l = none → Q (.ref l) (upd H l (.set S n))) := by
  subst hK
  intro pins s σ H xs us Q I r h
  obtain ⟨p, ns, rfl, hq, h64, q⟩ := h
  obtain ⟨u, rfl, rx⟩ := vals1 r
  cases rx
  obtain ⟨vs, hi, hl, hz, hlen⟩ := I.ints hq
  refine PySem.call_set_list (ns := ns) (I.ok.hd hc) hl (by simpa using hi) (by rw [List.size_toArray, hlen]; unfold scanBound; omega) fun h' tk hS hk => ?_
  refine ⟨.ref s.heap.objs.size, _, I.laid (o := .set _ _) (fun b o z => hk b o (Heap.lt_size z) z) (Nat.le_refl _) hS, rfl, q _ _ _ ?_ ?_ (I.hok.fresh (Nat.le_refl _))⟩
  · rw [List.size_toArray, hlen, firstMet_list]
    have z := dedup_iff ns [] List.nodup_nil
    rw [List.nil_append, List.length_nil, Nat.zero_add] at z
    exact z
  · rw [List.size_toArray]
    have := firstMet_length_le (fun i => ns.getD i 0) vs.length
    omega
theorem call_rangeV : CallR X (.type "range") (fun xs H Q => ∃ j : Int, xs = [.int j] ∧ ∀ l, H l = none → Q (.ref l) (upd H l (.rng 0 j))) := by
  intro pins s σ H xs us Q I r h
  obtain ⟨j, rfl, q⟩ := h
  obtain ⟨u, rfl, t, rfl⟩ := vals1 r
  exact call_range_1 ⟨.ref s.heap.objs.size, _, I.laid (o := .rng 0 j) (fun b o z => Heap.get?_push_of_some _ z) (Nat.le_refl _) ⟨_, _, _, Heap.get?_push_size _ rfl⟩, rfl, q _ (I.hok.fresh (Nat.le_refl _))⟩
theorem call_listRng (hc : X.calm = true) : CallR X (.type "list") (fun xs H Q => ∃ (p : Addr) (j : Int), xs = [.ref p] ∧ H p = some (.rng 0 j) ∧ 0 ≤ j ∧ j ≤ 1000 ∧
    ∀ l, H l = none → Q (.ref l) (upd H l (.lst ((SO.upto j.toNat).map V.int)))) := by
  intro pins s σ H xs us Q I r h
  obtain ⟨p, j, rfl, hp, h0, h1, q⟩ := h
  obtain ⟨u, rfl, rx⟩ := vals1 r
  cases rx
  obtain ⟨t, u, v, e⟩ := I.hok p _ hp
  have hz : j.toNat ≤ sizeLine := Nat.le_trans (by omega : j.toNat ≤ 1000) (by decide)
  refine call_list_range (n := j.toNat) (I.ok.hd hc) e (small_one (by decide) (by decide) (by omega) (by omega)) (by rw [rangeSize_one]; split <;> omega) (by omega) fun h' tk acc c kp hS hacc => ?_
  refine ⟨.ref s.heap.objs.size, _, I.laid (o := .lst ((SO.upto j.toNat).map V.int)) kp (Nat.le_refl _) ⟨?_, acc.toList, c, ?_, ?_⟩, rfl, q _ (I.hok.fresh (Nat.le_refl _))⟩
  · rw [List.length_map, SO.upto_length]; exact hz
  · refine vals_of_get _ _ (by rw [List.length_map, SO.upto_length, Array.length_toList]; exact hacc.1.symm) fun k w hw => ?_
    rw [Array.getElem?_toList] at hw
    obtain ⟨tk, rfl⟩ := hacc.2 k w hw
    have hk : k < j.toNat := by
      exact hacc.1 ▸ (Array.getElem?_eq_some_iff.mp hw).1
    exact ⟨.int (k : Int), by rw [List.getElem?_map, SO.upto_get hk]; rfl, tk, by simp⟩
  · rw [Array.toArray_toList]; exact hS
/-- list(reversed(e)) -/
noncomputable def tRev (K : PySem.W.Frag) (te : TE) : TE := fun σ H Q => te σ H fun x H1 => ∃ p ns, x = .ref p ∧ LI K H1 p ns ∧ ∀ l, H1 l = none → Q (.ref l) (upd H1 l (.lst (ns.reverse.map V.int)))
theorem pe_listRev {e : Expr} {te : TE} {p p2 pos pos2 : Pos} (hc : X.calm = true) (hg : Gl X "list") (hm : X.mg "list" = none) (hg2 : Gl X "reversed") (hm2 : X.mg "reversed" = none) (he : PE X e te) (hK : X.K = K := by rfl)
    (hs : starEach [e] X.env = [(false, eval e X.env)] := by rfl)
    (hs2 : starEach [.Call (.Name "reversed" p2) [e] [] pos2] X.env = [(false, eval (.Call (.Name "reversed" p2) [e] [] pos2) X.env)] := by rfl) :
    PE X (.Call (.Name "list" p) [.Call (.Name "reversed" p2) [e] [] pos2] [] pos) (tRev K te) := by
  subst hK
  intro pins s σ H Q I h
  refine Call_ (ld_blt I hg hm PyProof.Rows.boot_list (PyProof.Rows.callWith_type1 ?_ hs2 rfl))
  rw [hs2]
  show wpAny _ _ (spliced ((false, eval (.Call (.Name "reversed" p2) [e] [] pos2) X.env) :: [])) _ _ s
  refine Calls.spliced_cons (Call_ (ld_blt I hg2 hm2 PyProof.Rows.boot_reversed (PyProof.Rows.callWith_type1 ?_ hs rfl)))
  rw [hs]
  show wpAny _ _ (spliced ((false, eval e X.env) :: [])) _ _ s
  refine Calls.spliced_cons (thn (he pins s σ H _ I h) fun u s1 ⟨x, H1, I1, r1, q1⟩ => ?_)
  obtain ⟨a, ns, rfl, hl, q⟩ := q1
  cases r1
  refine Calls.spliced_nil ?_
  obtain ⟨vs, hi, hL, hz, hlen⟩ := I1.ints hl
  obtain ⟨ol, hol, _⟩ := id hL
  have halt := Heap.lt_size hol
  refine call_reversed_list hL (Calls.spliced_nil ?_)
  refine so_call_list_rev (items := vs.toArray) (I.ok.hd hc) (Nat.ne_of_lt halt) ⟨_, Heap.get?_push_size _ rfl, rfl, rfl⟩ (hL.at fun o z => Heap.get?_push_of_some _ z) (by rw [List.size_toArray, hlen]; exact hz) fun h' tk acc c kp hS hacc => ?_
  refine ⟨.ref _, _, I1.laid (o := .lst (ns.reverse.map V.int)) (fun b o z => kp b o (Nat.ne_of_lt (Heap.lt_size z)) (Heap.get?_push_of_some _ z)) (by show s1.heap.objs.size ≤ (s1.heap.push _).objs.size; rw [Heap.size_push]; omega) ⟨?_, acc.toList, c, ?_, ?_⟩, rfl, q _ (I1.hok.fresh (by show s1.heap.objs.size ≤ (s1.heap.push _).objs.size; rw [Heap.size_push]; omega))⟩
  · rw [List.length_map, List.length_reverse]; exact hz
  · have hsz : acc.size = vs.length := by rw [hacc.1, List.size_toArray]
    have e1 : acc.toList.length = acc.size := Array.length_toList
    have e2 : (ns.reverse.map V.int).length = ns.length := by rw [List.length_map, List.length_reverse]
    refine vals_of_get _ _ (by omega) fun k w hw => ?_
    rw [Array.getElem?_toList] at hw
    have hk : k < vs.length := by
      have := (Array.getElem?_eq_some_iff.mp hw).1
      omega
    have hv := hacc.2 k w hw
    rw [List.size_toArray] at hv
    have hv' : vs[vs.length - 1 - k]? = some w := by simpa using hv
    obtain ⟨t, rfl⟩ := PyProof.Rows.IntsAre.int_at hi _ _ hv'
    refine ⟨.int (ns.getD (vs.length - 1 - k) 0), ?_, t, rfl⟩
    rw [List.getElem?_map, List.getElem?_reverse (by omega), List.getElem?_eq_getElem (by omega), List.getD_eq_getElem?_getD, List.getElem?_eq_getElem (by omega)]
    simp [hlen]
  · rw [Array.toArray_toList]; exact hS
/-- == and != of lists of ints -/
noncomputable def rEqI (K : PySem.W.Frag) : R2 := fun x y H Q => ∃ p q ns ms, x = .ref p ∧ y = .ref q ∧ LI K H p ns ∧ LI K H q ms ∧ Q (.bl (decide (ns = ms))) H
noncomputable def rNeI (K : PySem.W.Frag) : R2 := fun x y H Q => ∃ p q ns ms, x = .ref p ∧ y = .ref q ∧ LI K H p ns ∧ LI K H q ms ∧ Q (.bl (!decide (ns = ms))) H
theorem op_eqI (hu : X.A.units + 64 < cLine) (hK : X.K = K := by rfl) : OpR X (compareOp .Eq) (rEqI K) := by
  subst hK
  intro pins s σ H x y v u Q I rx ry h
  obtain ⟨p, q, ns, ms, rfl, rfl, h1, h2, hq⟩ := h
  cases rx; cases ry
  obtain ⟨us, hi, hl, _, _⟩ := I.ints h1
  obtain ⟨ws, hi', hl', _, _⟩ := I.ints h2
  exact PySem.W.eq_intsK hl hi hl' hi' hu ⟨.bl _, H, I, rfl, hq⟩
theorem op_neI (hu : X.A.units + 64 < cLine) (hK : X.K = K := by rfl) : OpR X (compareOp .NotEq) (rNeI K) := by
  subst hK
  intro pins s σ H x y v u Q I rx ry h
  obtain ⟨p, q, ns, ms, rfl, rfl, h1, h2, hq⟩ := h
  cases rx; cases ry
  obtain ⟨us, hi, hl, _, _⟩ := I.ints h1
  obtain ⟨ws, hi', hl', _, _⟩ := I.ints h2
  exact PySem.W.ne_intsK hl hi hl' hi' hu ⟨.bl _, H, I, rfl, hq⟩
/-- isinstance(x, T), T a built-in type -/
theorem call_isi (hK : X.K = K := by rfl) : CallR X (.builtin "isinstance") (fun xs H Q => ∃ x n t b, xs = [x, .ty n] ∧ TyOf K H x t ∧ PySem.W.kitOne K t (.type n) = some b ∧ Q (.bl b) H) := by
  subst hK
  intro pins s σ H xs us Q I r h
  obtain ⟨x, n, t, b, rfl, ty, e, q⟩ := h
  obtain ⟨u, w', rfl, rx, ry⟩ := vals2 r
  cases (show w' = Value.type n from ry)
  exact isinst_ok I rx ty e fun tk => ⟨.bl b, H, I.tok tk, rfl, q⟩
/-- xs[i] of a list of ints; of any list -/
theorem ix_listK (hK : X.K = K := by rfl) : IxR X (rIxL K) := by subst hK; exact ix_list
theorem op_notInK (hK : X.K = K := by rfl) : OpR X (compareOp .NotIn) (rIn K true) := by subst hK; exact op_notIn_seq
theorem call_listK (hK : X.K = K := by rfl) : CallR X (.type "list") (fun xs H Q => ∃ p ns, xs = [.ref p] ∧ LI K H p ns ∧ ∀ l, H l = none → Q (.ref l) (upd H l (.lst (ns.map V.int)))) := by
  subst hK
  intro pins s σ H xs us Q I r h
  obtain ⟨p, ns, e, hq, q⟩ := h
  exact call_list_of pins s σ H xs us Q I r ⟨p, _, e, .inl hq, q⟩
theorem pi_listK {tg l : Expr} {tl : TE} (hl : PE X l tl) (hK : X.K = K := by rfl) : PI X tg l (iList K tl) := by subst hK; exact pi_list hl
end
end L2

namespace L2
open PySem PySem.Spec PyProof.Rows
noncomputable def fI (f : Int → Int) : V → V
  | .int i => .int (f i)
  | v => v
noncomputable def pI (p : Int → Bool) : V → Bool
  | .int i => p i
  | _ => false
theorem map_fI (ns : List Int) (f : Int → Int) (p : Int → Bool) : ((ns.map V.int).filter (pI p)).map (fI f) = ((ns.filter p).map f).map V.int := by
  induction ns with
  | nil => rfl
  | cons n r ih =>
    rw [List.map_cons, List.filter_cons, List.filter_cons]
    show List.map (fI f) (if p n = true then _ else _) = _
    by_cases h : p n = true
    · rw [if_pos h, if_pos h, List.map_cons, List.map_cons, List.map_cons, ih]; rfl
    · rw [if_neg h, if_neg h, ih]
theorem mem_ints {ns : List Int} {x : V} (h : x ∈ ns.map V.int) : ∃ i, x = .int i ∧ i ∈ ns := by
  obtain ⟨i, hi, e⟩ := List.mem_map.mp h
  exact ⟨i, e.symm, hi⟩
theorem comp_ints {K : PySem.W.Frag} {a : Addr} {tc : TT} {te : TE} {is : List Nat} {σ : St} {H : Hp} {Qv : VK} (ns : List Int) (f : Int → Int) (p : Int → Bool) (hz : ns.length < 1000) (hL : LI K H a ns)
    (hc : ∀ i ∈ ns, ∀ H1, Same H H1 → ∀ N : Bool → Hp → Prop, (∀ H2, Same H H2 → N (p i) H2) → tc (some (.int i) :: pick σ is) H1 N)
    (he : ∀ i ∈ ns, p i = true → ∀ H1, Same H H1 → ∀ N : V → Hp → Prop, (∀ H2, Same H H2 → N (.int (f i)) H2) → te (some (.int i) :: pick σ is) H1 N)
    (hd : ∀ l H', Same H H' → H' l = none → Qv (.ref l) (upd H' l (.lst (((ns.filter p).map f).map V.int)))) :
    CompW tc te is σ Qv (Itl K a) H := by
  refine comp_list (ns.map V.int) (fI f) (pI p) (by rw [List.length_map]; exact small1000 (by omega)) hL (fun x hx H1 hS N hN => ?_) (fun x hx hp H1 hS N hN => ?_) (fun l H' hS hl => ?_)
  · obtain ⟨i, rfl, hi⟩ := mem_ints hx
    exact hc i hi H1 hS N hN
  · obtain ⟨i, rfl, hi⟩ := mem_ints hx
    exact he i hi hp H1 hS N hN
  · rw [map_fI]; exact hd l H' hS hl
theorem same_new {H : Hp} {p : Addr} (h : H p = none) (o : HO) : Same H (upd H p o) := fun b u q => by rw [upd_ne (ne_of_none q h)]; exact q
end L2
namespace L2
open PySem PySem.Spec PyProof.Rows
section
variable {X : Cx} {K : PySem.W.Frag}
theorem pe_bmK {o e : Expr} {es : List Expr} {to : TE} {t : TA} {name : Str} {apos cpos : Pos} {T id : String} {r : V → List V → Hp → VK → Prop} (pa : PlainAttrs T) (slot : Slot T name id) (hty : typeOf (.builtin id) = pure (.type "method_descriptor"))
    (hm : MtR X id r) (ho : PE X o to) (ha : PA X (e :: es) t) (hK : X.K = K := by rfl)
    (hbase : attributeBase o name X.env (eval o X.env) = eval o X.env := by rfl)
    (hfew : ((backTo cpos (starEach (e :: es) X.env)).all (fun x => !x.1) && (backToKw cpos (keywordEach [] X.env)).all (fun x => x.1.isSome)
      && decide ((e :: es).length + ([] : List Keyword).length + (if ([] : List Keyword).isEmpty then 0 else 1) < 30)) = true := by rfl)
    (hline : (apos.endLine == cpos.line) = true := by rfl) (hs : starEach (e :: es) X.env = (false, eval e X.env) :: starEach es X.env := by rfl) (hplain : (backTo cpos (starEach es X.env)).any (·.1) = false := by rfl) :
    PE X (.Call (.Attribute o name apos) (e :: es) [] cpos) (tBM K T r to t) := by
  subst hK
  exact pe_bm pa slot hty hm ho ha hbase hfew hline hs hplain
end
theorem inV_int (x : Int) (ns : List Int) : inV (.int x) (ns.map V.int) = decide (x ∈ ns) := by
  unfold inV
  rw [List.any_map, Bool.eq_iff_iff]
  simp only [List.any_eq_true, Function.comp, eqV, beq_iff_eq, decide_eq_true_eq]
  constructor
  · rintro ⟨y, hy, rfl⟩; exact hy
  · intro h; exact ⟨x, h, rfl⟩
theorem flat_ints (ns : List Int) : (ns.map V.int).all flatV = true := by
  rw [List.all_map, List.all_eq_true]
  intro x _; rfl
theorem atI_ints {ns : List Int} {k : Int} (h0 : 0 ≤ k) (h : k < ns.length) : atI (ns.map V.int) k = some (.int (ns.getD k.toNat 0)) := by
  have hk : k.toNat < ns.length := by omega
  have e := (Int.toNat_of_nonneg (show 0 ≤ k by omega)).symm
  have q : atI (ns.map V.int) ((k.toNat : Nat) : Int) = some (.int (ns.getD k.toNat 0)) := atI_nat (by
    rw [List.getElem?_map, List.getElem?_eq_getElem hk, List.getD_eq_getElem?_getD, List.getElem?_eq_getElem hk]; rfl)
  rw [← e] at q
  exact q
theorem atI_nat' {α : Type} {xs : List α} {k : Int} {j : Nat} {v : α} (e : k = (j : Int)) (h : xs[j]? = some v) : atI xs k = some v := by
  subst e; exact atI_nat h
end L2

namespace L2
open PySem PySem.Spec PyProof.Rows
/-- a tuple of ints that may be read -/
noncomputable abbrev TI' (K : PySem.W.Frag) (H : Hp) (a : Addr) (ns : List Int) : Prop := SqT K H a (ns.map V.int)
section
variable {X : Cx} {K : PySem.W.Frag}
theorem ix_tupK (hK : X.K = K := by rfl) : IxR X (rIxT K) := by subst hK; exact ix_tup
theorem call_lenT (hK : X.K = K := by rfl) : CallR X (.builtin "len") (fun xs H Q => ∃ p ys, xs = [.ref p] ∧ SqT K H p ys ∧ Q (.int (ys.length : Nat)) H) := by
  subst hK
  intro pins s σ H xs us Q I r h
  obtain ⟨p, ys, e, hq, q⟩ := h
  exact call_len_seq pins s σ H xs us Q I r ⟨p, ys, e, .inr hq, q⟩
/-- t + (y,) -/
noncomputable def rCat1 (K : PySem.W.Frag) : R2 := fun x y H Q => ∃ a b xs v, x = .ref a ∧ y = .ref b ∧ SqT K H a xs ∧ SqT K H b [v] ∧ xs.length < sizeLine ∧
  (xs = [] → Q (.ref b) H) ∧ (xs ≠ [] → ∀ p, H p = none → Q (.ref p) (upd H p (.tup (xs ++ [v]))))
theorem op_cat1 (hK : X.K = K := by rfl) : OpR X (binaryOp .Add) (rCat1 K) := by
  subst hK
  intro pins s σ H x y v u Q I rx ry h
  obtain ⟨a, b, xs, w', rfl, rfl, ha, hb, hz, q1, q2⟩ := h
  by_cases hx : xs = []
  · subst hx
    cases rx; cases ry
    obtain ⟨its, r1, p1, _⟩ := I.tuple ha
    obtain ⟨its2, r2, p2, _⟩ := I.tuple hb
    cases r1
    obtain ⟨⟨cls, dd, data, sl⟩, ho, hc, n, hd⟩ := id p1
    obtain ⟨⟨cls2, dd2, data2, sl2⟩, ho2, hc2, n2, hd2⟩ := id p2
    have hc' : cls = .type "tuple" := hc
    have hd' : data = .seq ([] : List Value).toArray n := hd
    have hc2' : cls2 = .type "tuple" := hc2
    have hd2' : data2 = .seq its2.toArray n2 := hd2
    subst hc'; subst hd'; subst hc2'; subst hd2'
    exact concat_meets ⟨_, ho, rfl⟩ ⟨_, ho2, rfl⟩ noFill_tuple_add seq_tuple_add PySem.F.slot_tuple_add PySem.F.entry_tuple_add (PySem.F.args_tuple_add_2 _ _)
      (tuple_addW0 a b ([] : List Value).toArray its2.toArray n n2 dd dd2 sl sl2 (by simp)) ⟨ho, ho2, ⟨.ref b, H, I, rfl, q1 rfl⟩⟩
  · exact op_catT pins s σ H _ _ v u Q I rx ry ⟨a, b, xs, [w'], rfl, rfl, ha, hb, hx, Nat.succ_le_of_lt hz, (fun e => nomatch e), fun _ => q2 hx⟩
/-- sum(xs) of ints -/
theorem call_sumI (hc : X.calm = true) (hK : X.K = K := by rfl) : CallR X (.builtin "sum") (fun xs H Q => ∃ p ns, xs = [.ref p] ∧ LI K H p ns ∧ Q (.int ns.sum) H) := by
  subst hK
  intro pins s σ H xs us Q I r h
  obtain ⟨p, ns, rfl, hq, q⟩ := h
  obtain ⟨u, rfl, rx⟩ := vals1 r
  cases rx
  obtain ⟨vs, hi, hl, hz, hlen⟩ := I.ints hq
  have hall := hi.allInts
  obtain ⟨zs, hzs⟩ := hall.items
  refine sum_intListG (xs := zs) (I.ok.hd hc) (by rw [← hzs]; exact hl) fun h' tk t' hk => ?_
  refine ⟨.int ns.sum, H, I.kept hk, ⟨t', ?_⟩, q⟩
  have e1 : numsOf vs.toArray.toList = ns := by rw [show vs.toArray.toList = vs from rfl, hi.numsOf]
  rw [preSum_eq, List.take_of_length_le (by simp), ← e1, hzs, nums_intItems]
end
end L2

namespace L2
open PySem PySem.Spec PyProof.Rows PySem.SeqAt
/-! ### nested data, compared -/
inductive DV (K : PySem.W.Frag) (H : Hp) : V → PyData → Prop
  | non : DV K H .non .none
  | bl (b : Bool) : DV K H (.bl b) (.bool b)
  | int (i : Int) : DV K H (.int i) (.int i)
  | lst {a : Addr} {xs : List V} {ds : List PyData} (hs : SqL K H a xs) (hl : xs.length = ds.length) (hx : ∀ (i : Nat) (x : V) (d : PyData), xs[i]? = some x → ds[i]? = some d → DV K H x d) : DV K H (.ref a) (.list ds)
  | tup {a : Addr} {xs : List V} {ds : List PyData} (hs : SqT K H a xs) (hl : xs.length = ds.length) (hx : ∀ (i : Nat) (x : V) (d : PyData), xs[i]? = some x → ds[i]? = some d → DV K H x d) : DV K H (.ref a) (.tuple ds)
theorem readsAll_of {h : Heap} : ∀ (us : List Value) (ds : List PyData), us.length = ds.length → (∀ (i : Nat) (u : Value) (d : PyData), us[i]? = some u → ds[i]? = some d → ∃ as, Reads h u d as) → ∃ as, ReadsAll h us ds as
  | [], [], _, _ => ⟨_, .nil⟩
  | [], u :: us, h, _ => nomatch h
  | x :: xs, [], h, _ => nomatch h
  | u :: us, d :: ds, h, hx => by
    obtain ⟨as, r⟩ := hx 0 u d rfl rfl
    obtain ⟨bs, q⟩ := readsAll_of us ds (by simpa using h) fun i v e hv he => hx (i + 1) v e (by simpa using hv) (by simpa using he)
    exact ⟨_, .cons r q⟩
section
variable {X : Cx} {K : PySem.W.Frag} {pins : List (Addr × Obj)} {σ : St} {H : Hp} {s : Shared}
theorem DV.reads {x : V} {d : PyData} (h : DV K H x d) (hK : X.K = K) (I : Inv X pins σ H s) : ∀ {u : Value}, RelV x u → ∃ as, Reads s.heap u d as := by
  subst hK
  induction h with
  | non => intro u r; cases r; exact ⟨_, .none⟩
  | bl b => intro u r; cases r; exact ⟨_, .bool b⟩
  | int i => intro u r; obtain ⟨t, rfl⟩ := r; exact ⟨_, .int i t⟩
  | lst hs hl hx ih =>
    intro u r; cases r
    obtain ⟨its, rv, pl, _⟩ := I.list hs
    obtain ⟨o, ho, hc, n, hd⟩ := pl.isList
    have hlen := rv.length
    obtain ⟨as, q⟩ := readsAll_of its _ (hlen.symm.trans hl) fun i v e hv he => by
      have hi : i < its.length := (List.getElem?_eq_some_iff.mp hv).1
      have hxi := List.getElem?_eq_getElem (l := _) (show i < _ from hlen ▸ hi)
      obtain ⟨v', hv', rv'⟩ := Vals.get rv hxi
      rw [hv] at hv'
      cases hv'
      exact ih i _ e hxi he rv'
    exact ⟨_, .list ho hc hd (by simpa using q)⟩
  | tup hs hl hx ih =>
    intro u r; cases r
    obtain ⟨its, rv, pl, _⟩ := I.tuple hs
    obtain ⟨o, ho, hc, n, hd⟩ := id pl
    have hlen := rv.length
    obtain ⟨as, q⟩ := readsAll_of its _ (hlen.symm.trans hl) fun i v e hv he => by
      have hi : i < its.length := (List.getElem?_eq_some_iff.mp hv).1
      have hxi := List.getElem?_eq_getElem (l := _) (show i < _ from hlen ▸ hi)
      obtain ⟨v', hv', rv'⟩ := Vals.get rv hxi
      rw [hv] at hv'
      cases hv'
      exact ih i _ e hxi he rv'
    exact ⟨_, .tuple ho hc hd (by simpa using q)⟩
noncomputable def rEqD (K : PySem.W.Frag) : R2 := fun x y H Q => ∃ d e, DV K H x d ∧ DV K H y e ∧ shaped d = true ∧ shaped e = true ∧ Q (.bl (PyData.eqv d e)) H
theorem op_eqD (hu : X.A.units + 64 < cLine) (hK : X.K = K := by rfl) : OpR X (compareOp .Eq) (rEqD K) := by
  intro pins s σ H x y v u Q I rx ry h
  obtain ⟨d, e, h1, h2, s1, s2, q⟩ := h
  obtain ⟨as, r1⟩ := h1.reads hK I rx
  obtain ⟨bs, r2⟩ := h2.reads hK I ry
  exact eq_dataH r1 r2 s1 s2 hu ⟨.bl _, H, I, rfl, q⟩
end
/-! the data one meets -/
noncomputable def dI (ns : List Int) : PyData := .list (ns.map .int)
noncomputable def dT (ns : List Int) : PyData := .tuple (ns.map .int)
noncomputable def dL {α : Type} (f : α → PyData) (xs : List α) : PyData := .list (xs.map f)
theorem eqvAll_map {α : Type} [DecidableEq α] (f : α → PyData) (hf : ∀ x y, PyData.eqv (f x) (f y) = decide (x = y)) : ∀ xs ys : List α, PyData.eqvAll (xs.map f) (ys.map f) = decide (xs = ys)
  | [], l => by cases l <;> simp [PyData.eqvAll]
  | x :: xs, [] => by simp [PyData.eqvAll]
  | x :: xs, y :: ys => by
    rw [List.map_cons, List.map_cons, PyData.eqvAll, hf, eqvAll_map f hf xs ys]
    rw [← Bool.decide_and]; exact decide_eq_decide.mpr (by rw [List.cons.injEq])
theorem eqv_int (i j : Int) : PyData.eqv (.int i) (.int j) = decide (i = j) := by
  rw [PyData.eqv]
  exact Bool.beq_eq_decide_eq i j
theorem eqv_dI (a b : List Int) : PyData.eqv (dI a) (dI b) = decide (a = b) := by
  unfold dI; rw [PyData.eqv]; exact eqvAll_map _ eqv_int a b
theorem eqv_dT (a b : List Int) : PyData.eqv (dT a) (dT b) = decide (a = b) := by
  unfold dT; rw [PyData.eqv]; exact eqvAll_map _ eqv_int a b
theorem eqv_dL {α : Type} [DecidableEq α] {f : α → PyData} (hf : ∀ x y, PyData.eqv (f x) (f y) = decide (x = y)) (a b : List α) : PyData.eqv (dL f a) (dL f b) = decide (a = b) := by
  unfold dL; rw [PyData.eqv]; exact eqvAll_map _ hf a b
/-- laid well, at most m deep -/
noncomputable def Fine (m : Nat) (d : PyData) : Prop := PyData.canLay0 d = true ∧ PyData.depth d ≤ m
theorem canLayAll0_map {α : Type} {f : α → PyData} (hf : ∀ x, PyData.canLay0 (f x) = true) : ∀ xs : List α, PyData.canLayAll0 (xs.map f) = true
  | [] => by rw [List.map_nil, PyData.canLayAll0]
  | x :: xs => by simp [PyData.canLayAll0, hf x, canLayAll0_map hf xs]
theorem depthAll_map {α : Type} {f : α → PyData} {m : Nat} (hf : ∀ x, PyData.depth (f x) ≤ m) : ∀ xs : List α, PyData.depthAll (xs.map f) ≤ m
  | [] => by rw [List.map_nil, PyData.depthAll]; exact Nat.zero_le m
  | x :: xs => by
    have h1 := depthAll_map hf xs
    have h2 := hf x
    simp only [List.map_cons, PyData.depthAll]
    omega
theorem fine_int (i : Int) : Fine 1 (.int i) := ⟨by simp [PyData.canLay0], by simp only [PyData.depth]; omega⟩
theorem fine_list {α : Type} {f : α → PyData} {m : Nat} (hf : ∀ x, Fine m (f x)) (xs : List α) : Fine (m + 1) (.list (xs.map f)) :=
  ⟨by simp only [PyData.canLay0]; exact canLayAll0_map (fun x => (hf x).1) xs, by
    have := depthAll_map (fun x => (hf x).2) xs
    simp only [PyData.depth]; omega⟩
theorem fine_tuple {α : Type} {f : α → PyData} {m : Nat} (hf : ∀ x, Fine m (f x)) (xs : List α) : Fine (m + 1) (.tuple (xs.map f)) :=
  ⟨by simp only [PyData.canLay0]; exact canLayAll0_map (fun x => (hf x).1) xs, by
    have := depthAll_map (fun x => (hf x).2) xs
    simp only [PyData.depth]; omega⟩
theorem Fine.shaped {m : Nat} {d : PyData} (h : Fine m d) (hm : m ≤ 64 := by decide) : shaped d = true := by
  show (PyData.canLay0 d && decide (PyData.depth d ≤ 64)) = true
  rw [Bool.and_eq_true]
  exact ⟨h.1, decide_eq_true (Nat.le_trans h.2 hm)⟩
theorem fine_dI (a : List Int) : Fine 2 (dI a) := fine_list fine_int a
theorem fine_dT (a : List Int) : Fine 2 (dT a) := fine_tuple fine_int a
theorem fine_dL {α : Type} {f : α → PyData} {m : Nat} (hf : ∀ x, Fine m (f x)) (xs : List α) : Fine (m + 1) (dL f xs) := fine_list hf xs
section
variable {K : PySem.W.Frag} {H : Hp} {a : Addr}
theorem DV.list_of {α : Type} {f : α → PyData} {xs : List V} {ys : List α} (hs : SqL K H a xs) (r : Paired (fun x y => DV K H x (f y)) xs ys) : DV K H (.ref a) (dL f ys) := by
  refine .lst hs (by rw [List.length_map]; exact r.length) fun i x d hx hd => ?_
  rw [List.getElem?_map] at hd
  clear hs
  induction r generalizing i with
  | nil => simp at hx
  | cons h _ ih =>
    cases i with
    | zero => simp at hx hd; subst hx; subst hd; exact h
    | succ i => exact ih i (by simpa using hx) (by simpa using hd)
theorem DV.tuple_of {α : Type} {f : α → PyData} {xs : List V} {ys : List α} (hs : SqT K H a xs) (r : Paired (fun x y => DV K H x (f y)) xs ys) : DV K H (.ref a) (.tuple (ys.map f)) := by
  refine .tup hs (by rw [List.length_map]; exact r.length) fun i x d hx hd => ?_
  rw [List.getElem?_map] at hd
  clear hs
  induction r generalizing i with
  | nil => simp at hx
  | cons h _ ih =>
    cases i with
    | zero => simp at hx hd; subst hx; subst hd; exact h
    | succ i => exact ih i (by simpa using hx) (by simpa using hd)
theorem paired_map {α : Type} {e : α → V} {f : α → PyData} (h : ∀ x, DV K H (e x) (f x)) : ∀ xs : List α, Paired (fun x y => DV K H x (f y)) (xs.map e) xs
  | [] => .nil
  | x :: xs => .cons (h x) (paired_map h xs)
theorem DV.ints {ns : List Int} (h : LI K H a ns) : DV K H (.ref a) (dI ns) := DV.list_of (f := PyData.int) h (paired_map (fun i => .int i) ns)
theorem DV.tints {ns : List Int} (h : TI' K H a ns) : DV K H (.ref a) (dT ns) := DV.tuple_of (f := PyData.int) h (paired_map (fun i => .int i) ns)
end
/-! tuples of places -/
noncomputable def nv (k : Nat) : V := .int (k : Int)
noncomputable def TN (H : Hp) (a : Addr) (t : List Nat) : Prop := H a = some (.tup (t.map nv))
theorem atI_nv {t : List Nat} {k : Int} (h0 : 0 ≤ k) (h : k < t.length) : atI (t.map nv) k = some (nv (t.getD k.toNat 0)) := by
  have hk : k.toNat < t.length := by omega
  have e := (Int.toNat_of_nonneg (show 0 ≤ k by omega)).symm
  have q : atI (t.map nv) ((k.toNat : Nat) : Int) = some (nv (t.getD k.toNat 0)) := atI_nat (by
    rw [List.getElem?_map, List.getElem?_eq_getElem hk, List.getD_eq_getElem?_getD, List.getElem?_eq_getElem hk]; rfl)
  rw [← e] at q
  exact q
section
variable {X : Cx} {K : PySem.W.Frag}
theorem PE.imp {e : Expr} {t t' : TE} (h : PE X e t) (i : ∀ σ H Q, t' σ H Q → t σ H Q) : PE X e t' := fun pins s σ H Q I q => h pins s σ H Q I (i σ H Q q)
theorem call_lenN : CallR X (.builtin "len") (fun xs H Q => ∃ p t, xs = [.ref p] ∧ TN H p t ∧ Q (.int (t.length : Nat)) H) := by
  intro pins s σ H xs us Q I r h
  obtain ⟨p, t, e, hq, q⟩ := h
  exact call_len_seq pins s σ H xs us Q I r ⟨p, _, e, .inr (SqT.of hq), by rw [List.length_map]; exact q⟩
theorem call_lenM : CallR X (.builtin "len") (fun xs H Q => ∃ p ys, xs = [.ref p] ∧ H p = some (.lst ys) ∧ Q (.int (ys.length : Nat)) H) := by
  intro pins s σ H xs us Q I r h
  obtain ⟨p, t, e, hq, q⟩ := h
  exact call_len_seq pins s σ H xs us Q I r ⟨p, _, e, .inl (SqL.of hq), q⟩
/-- told + (k,) -/
noncomputable def tSnoc (i j : Nat) : TE := fun σ H Q => ∃ c t p, σ[i]? = some (some (.ref c)) ∧ σ[j]? = some (some (nv p)) ∧ TN H c t ∧ t.length < 1000 ∧ ∀ r H', Same H H' → TN H' r (t ++ [p]) → Q (.ref r) H'
theorem pe_snoc (K : PySem.W.Frag) {i j : Nat} {e1 e2 : Expr} {k : Nat} {pos pos' : Pos} (h1 : PE X e1 (tVar i)) (h2 : PE X e2 (tVar j)) (hK : X.K = K := by rfl)
    (hs : starEach [e2] X.env = [(false, eval e2 X.env)] := by rfl) : PE X (.BinOp e1 .Add (.Tuple [e2] k pos') pos) (tSnoc i j) := by
  refine PE.imp (pe_op (op_cat1 (K := K) hK) h1 (pe_tup (pa_cons h2 pa_nil hs))) fun σ H Q ⟨c, t, p, hc, hp, ht, hz, q⟩ => ?_
  refine ⟨_, hc, _, hp, (by show 1 ≤ sizeLine; decide), fun r hr => ?_⟩
  have g1 : Same H (upd H r (.tup [nv p])) := same_new hr _
  have ht1 : TN (upd H r (.tup [nv p])) c t := g1 _ _ ht
  refine ⟨c, r, _, _, rfl, rfl, SqT.of ht1, SqT.of upd_same, by rw [List.length_map]; exact small1000 (by omega), fun e => ?_, fun e r2 hr2 => ?_⟩
  · have : t = [] := by simpa using e
    subst this
    exact q r _ g1 upd_same
  · have g2 := same_new hr2 (.tup (t.map nv ++ [nv p]))
    exact q r2 _ (g1.trans g2) (by unfold TN; rw [upd_same, List.map_append]; rfl)
end
/-! a comprehension's items and what is met -/
structure Over (J : It) (H0 : Hp) (vs : List V) : Prop where
  go : ∀ i H, Same H0 H → i < vs.length → J.go i H
  stop : ∀ H, Same H0 H → J.stop vs.length H
  yld : ∀ i H x H', Same H0 H → i < vs.length → J.yld i H x H' → H' = H ∧ vs[i]? = some x
theorem over_list {K : PySem.W.Frag} {a : Addr} {H : Hp} {vs : List V} (h : SqL K H a vs) : Over (Itl K a) H vs :=
  ⟨fun i H1 hS hi => ⟨vs, vs[i], hS.seq h, by simp [hi]⟩, fun H1 hS => ⟨vs, hS.seq h, Nat.le_refl _⟩, fun i H1 x H' hS _ hy => ⟨hy.1, hy.2 vs (hS.seq h)⟩⟩
theorem over_range {lo : Int} {n : Nat} {H : Hp} : Over (Itr lo n) H ((List.range n).map fun k : Nat => V.int (lo + k)) := by
  have hl : ((List.range n).map fun k : Nat => V.int (lo + k)).length = n := by simp
  refine ⟨fun i H1 _ hi => ?_, fun H1 _ => ?_, fun i H1 x H' _ hi hy => ?_⟩
  · rw [hl] at hi; exact hi
  · show n ≤ _
    rw [hl]; exact Nat.le_refl n
  · obtain ⟨e, rfl⟩ := hy
    rw [hl] at hi
    exact ⟨e, by rw [List.getElem?_map, List.getElem?_range hi]; rfl⟩
theorem over_from {lo n : Nat} {H : Hp} : Over (Itr (lo : Int) n) H ((List.range' lo n).map nv) := by
  have e : (List.range' lo n).map nv = (List.range n).map fun k : Nat => V.int ((lo : Int) + k) := by
    rw [List.range'_eq_map_range, List.map_map]
    apply List.map_congr_left; intro k _
    show V.int ((lo + k : Nat) : Int) = _
    rw [Int.natCast_add]
  rw [e]; exact over_range
theorem comp_rel {J : It} {tc : TT} {te : TE} {is : List Nat} {σ : St} {H : Hp} {Qv : VK} {α : Type} (xs : List α) (enc : α → V) (R : Hp → α → V → Prop) (p : α → Bool) (hz : xs.length < sizeLine)
    (ov : Over J H (xs.map enc)) (mono : ∀ H1 H2 x v, Same H1 H2 → R H1 x v → R H2 x v)
    (hc : ∀ x ∈ xs, ∀ H1, Same H H1 → ∀ N : Bool → Hp → Prop, (∀ H2, Same H1 H2 → N (p x) H2) → tc (some (enc x) :: pick σ is) H1 N)
    (he : ∀ x ∈ xs, p x = true → ∀ H1, Same H H1 → ∀ N : V → Hp → Prop, (∀ v H2, Same H1 H2 → R H2 x v → N v H2) → te (some (enc x) :: pick σ is) H1 N)
    (hd : ∀ l vs H', Same H H' → H' l = none → Paired (R H') (xs.filter p) vs → Qv (.ref l) (upd H' l (.lst vs))) :
    CompW tc te is σ Qv J H := by
  have hlm : (xs.map enc).length = xs.length := List.length_map ..
  refine ⟨fun i m ys H1 => m = xs.length - i ∧ i ≤ xs.length ∧ Same H H1 ∧ Paired (R H1) ((xs.take i).filter p) ys, ⟨_, rfl, Nat.zero_le _, Same.refl H, .nil⟩, ?_⟩
  rintro i m ys H1 ⟨rfl, hi, hS, hP⟩
  have hlen : ys.length ≤ i := by
    rw [← hP.length]
    exact Nat.le_trans (List.length_filter_le _ _) (by rw [List.length_take]; omega)
  by_cases hlt : i < xs.length
  · refine .inr ⟨ov.go i H1 hS (by omega), by omega, fun ys' H' => Same H H' ∧ Paired (R H') ((xs.take (i + 1)).filter p) ys', fun ys' H' h => ⟨xs.length - (i + 1), by omega, rfl, hlt, h.1, h.2⟩, fun v H' hyl => ?_⟩
    obtain ⟨rfl, hv⟩ := ov.yld i H1 v H' hS (by omega) hyl
    rw [List.getElem?_map, List.getElem?_eq_getElem hlt] at hv
    have hv' : enc xs[i] = v := by simpa using hv
    subst hv'
    have hm : xs[i] ∈ xs := List.getElem_mem hlt
    have et : (xs.take (i + 1)).filter p = (xs.take i).filter p ++ (if p xs[i] = true then [xs[i]] else []) := by
      rw [List.take_succ_eq_append_getElem hlt, List.filter_append, List.filter_cons]; rfl
    refine hc _ hm _ hS _ fun H2 g2 => ?_
    by_cases hp : p xs[i] = true
    · rw [if_pos hp]
      rw [if_pos hp] at et
      refine he _ hm hp _ (hS.trans g2) _ fun v H3 g3 r3 => ⟨hS.trans (g2.trans g3), ?_⟩
      rw [et]
      exact Paired.snoc (Paired.mapP hP fun x v r => mono _ _ x v (g2.trans g3) r) r3
    · rw [if_neg hp]
      rw [if_neg hp] at et
      refine ⟨hS.trans g2, ?_⟩
      rw [et, List.append_nil]
      exact Paired.mapP hP fun x v r => mono _ _ x v g2 r
  · have e : i = xs.length := by omega
    subst e
    rw [List.take_length] at hP
    refine .inl ⟨?_, by omega, fun l hl => hd l ys H1 hS hl hP⟩
    have := ov.stop H1 hS
    rw [hlm] at this
    exact this
theorem paired_eq {α β : Type} {g : α → β} : ∀ {xs : List α} {vs : List β}, Paired (fun x v => v = g x) xs vs → vs = xs.map g
  | _, _, .nil => rfl
  | _, _, .cons h r => by rw [List.map_cons, paired_eq r, h]
theorem comp_enc {J : It} {tc : TT} {te : TE} {is : List Nat} {σ : St} {H : Hp} {Qv : VK} {α : Type} (xs : List α) (enc res : α → V) (p : α → Bool) (hz : xs.length < sizeLine)
    (ov : Over J H (xs.map enc))
    (hc : ∀ x ∈ xs, ∀ H1, Same H H1 → ∀ N : Bool → Hp → Prop, (∀ H2, Same H1 H2 → N (p x) H2) → tc (some (enc x) :: pick σ is) H1 N)
    (he : ∀ x ∈ xs, p x = true → ∀ H1, Same H H1 → ∀ N : V → Hp → Prop, (∀ H2, Same H1 H2 → N (res x) H2) → te (some (enc x) :: pick σ is) H1 N)
    (hd : ∀ l H', Same H H' → H' l = none → Qv (.ref l) (upd H' l (.lst ((xs.filter p).map res)))) :
    CompW tc te is σ Qv J H :=
  comp_rel xs enc (fun _ x v => v = res x) p hz ov (fun _ _ _ _ _ h => h) hc (fun x hx hp H1 hS N hN => he x hx hp H1 hS N fun H2 g => hN _ H2 g rfl) fun l vs H' hS hl hP => by
    rw [paired_eq hP]; exact hd l H' hS hl
end L2

namespace L2
open PySem PySem.Spec PyProof.Rows PySem.SeqAt
/-! arguments that are long written lists: no test left to be found by itself -/
section
variable {X : Cx} {es l : List Expr} {te : TE} {t : TA} {i : Int} {k : Nat} {p : Pos} {a b : Expr}
theorem pa_consL (ha : PE X (.List l p) te) (hr : PA X es t) : PA X (.List l p :: es) (tCons te t) := pa_cons ha hr rfl
theorem pa_consI (hr : PA X es t) : PA X (.Constant (.int i) k p :: es) (tCons (tC (.int i)) t) := pa_cons pe_int hr rfl
theorem pa_consS (ha : PE X (.Subscript a b p) te) (hr : PA X es t) : PA X (.Subscript a b p :: es) (tCons te t) := pa_cons ha hr rfl
/-- [i, j, k] of written ints -/
theorem pe_l3 {i1 i2 i3 : Int} {k1 k2 k3 : Nat} {p1 p2 p3 : Pos} : PE X (.List [.Constant (.int i1) k1 p1, .Constant (.int i2) k2 p2, .Constant (.int i3) k3 p3] p) (tLst (tCons (tC (.int i1)) (tCons (tC (.int i2)) (tCons (tC (.int i3)) tNil)))) :=
  pe_lst (pa_consI (pa_consI (pa_consI pa_nil)))
theorem pa_l3 {i1 i2 i3 : Int} {k1 k2 k3 : Nat} {p1 p2 p3 : Pos} (hr : PA X es t) : PA X (.List [.Constant (.int i1) k1 p1, .Constant (.int i2) k2 p2, .Constant (.int i3) k3 p3] p :: es) (tCons (tLst (tCons (tC (.int i1)) (tCons (tC (.int i2)) (tCons (tC (.int i3)) tNil)))) t) := pa_consL pe_l3 hr
/-- list(xs[i]) -/
theorem pe_listS {pf pos : Pos} {r : List V → Hp → VK → Prop} (hc : CallR X (.type "list") r) (hg : Gl X "list") (hm : X.mg "list" = none) (ha : PE X (.Subscript a b p) te) : PE X (.Call (.Name "list" pf) [.Subscript a b p] [] pos) (tCB r (tCons te tNil)) :=
  pe_callTy hc hg hm PyProof.Rows.boot_list (pa_consS ha pa_nil) (he := rfl) (hpl := rfl)
end
end L2

namespace L2
open PySem PySem.Spec PyProof.Rows
section
variable {X : Cx} {K : PySem.W.Frag}
theorem sl_listK (hK : X.K = K := by rfl) : SlR X (rSlL K) := by subst hK; exact sl_list
end
theorem ps_as {X : Cx} {st : Stmt} {t t' : TS} (h : PS X st t) (i : ∀ D σ H, t' D σ H → t D σ H) : PS X st t' := fun pins s σ H D I q => h pins s σ H D I (i D σ H q)
theorem bl_eq (u v : Bool) : decide (V.bl u = V.bl v) = decide (u = v) := decide_eq_decide.mpr ⟨fun h => by injection h, fun h => by rw [h]⟩
theorem int_eq (u v : Int) : decide (V.int u = V.int v) = decide (u = v) := decide_eq_decide.mpr ⟨fun h => by injection h, fun h => by rw [h]⟩
theorem cut_from (xs : List V) (k : Nat) : cutV xs (some (k : Int)) none = xs.drop k := by
  unfold cutV
  rw [HT.sIx_nat, HT.sIx_none, List.take_of_length_le (by rw [List.length_drop]; exact Nat.le_refl _)]
  by_cases h : k ≤ xs.length
  · rw [Nat.min_eq_left h]
  · have hk : xs.length ≤ k := by omega
    rw [Nat.min_eq_right hk, List.drop_length, List.drop_of_length_le hk]
theorem cut_to (xs : List V) (k : Nat) : cutV xs none (some (k : Int)) = xs.take k := by
  unfold cutV
  rw [HT.sIx_nat, HT.sIx_none, List.drop_zero, Nat.sub_zero]
  by_cases h : k ≤ xs.length
  · rw [Nat.min_eq_left h]
  · have hk : xs.length ≤ k := by omega
    rw [Nat.min_eq_right hk, List.take_of_length_le hk, List.take_length]
theorem drop_at {α : Type} {xs : List α} {i : Nat} {y : α} (h : xs[i]? = some y) : xs.drop i = y :: xs.drop (i + 1) := by
  obtain ⟨hi, rfl⟩ := List.getElem?_eq_some_iff.mp h
  exact List.drop_eq_getElem_cons hi
theorem take_at {α : Type} {xs : List α} {i : Nat} {y : α} (h : xs[i]? = some y) : xs.take (i + 1) = xs.take i ++ [y] := by
  obtain ⟨hi, rfl⟩ := List.getElem?_eq_some_iff.mp h
  exact List.take_succ_eq_append_getElem hi
theorem got_map {α β : Type} {f : α → β} {xs : List α} {i : Nat} {v : β} (h : (xs.map f)[i]? = some v) : ∃ x, xs[i]? = some x ∧ v = f x := by
  rw [List.getElem?_map] at h
  obtain ⟨x, h1, h2⟩ := Option.map_eq_some_iff.mp h
  exact ⟨x, h1, h2.symm⟩
end L2
namespace L2
end L2

namespace L2
open PySem PySem.Spec PyProof.Rows
/-! ### exceptions of the program's own classes: a frame is left -/
section
variable {M : Model} {A : Around} {s : Shared} {E : Value → Shared → Prop}
end
end L2

namespace L2
open PySem PySem.Spec PyProof.Rows
section
variable {X : Cx} {pins : List (Addr × Obj)} {σ : St} {H H' : Hp} {s s2 : Shared}
end
section
variable {P : Program} {w : World} {K : PySem.W.Frag} {mg : Str → Option Value} {base : Heap} {N : List Str} {qual : Str} {scope : Scope} {f : Addr} {cd : Value} {A : Around} {outer : List Env} {s₀ : Shared} {H₀ : Hp} {E : XK}
end
end L2

namespace PySem.W
open PyProof.Rows PySem PySem.Calls PySem.Spec
section
variable {prog : Program} {w : World} {A : Around} {E : Value → Shared → Prop} {s : Shared} {K : Frag} {x D : Addr} {ox : Obj}
end
end PySem.W
namespace L2
open PySem PySem.Spec PyProof.Rows
section
variable {X : Cx} {K : PySem.W.Frag}
end
end L2

namespace L2
open PySem PySem.Spec PyProof.Rows
/-! ### try, with one handler by an own class -/
section
variable {X : Cx} {CX : CXT} {k : Nat} {f : Addr} {fd : FuncData} {ps : List Str} {sp : Sp} {dvs : List V} {ds : List Value} {Hx : St → Value → Hp → Prop} {x : Str} {p pos : Pos} {e : Expr} {es : List Expr} {t : TA}
end
section
variable {X : Cx} {pins : List (Addr × Obj)} {σ : St} {H : Hp} {s : Shared} {E : Value → Shared → Prop} {A' : Around}
end
end L2

namespace L2
open PySem PySem.Spec PyProof.Rows PyProof PySem.F
section
variable {X : Cx} {K : PySem.W.Frag}
/-- the least, the greatest of some ints -/
theorem call_minI (hc : X.calm = true) (hK : X.K = K := by rfl) : CallR X (.builtin "min") (fun xs H Q => ∃ p ns, xs = [.ref p] ∧ LI K H p ns ∧ 0 < ns.length ∧ ∀ m, m ∈ ns → (∀ y ∈ ns, m ≤ y) → Q (.int m) H) := by
  subst hK
  intro pins s σ H xs us Q I r h
  obtain ⟨p, ns, rfl, hq, hpos, q⟩ := h
  obtain ⟨u, rfl, rx⟩ := vals1 r
  cases rx
  obtain ⟨vs, hi, hl, hz, hlen⟩ := I.ints hq
  obtain ⟨zs, hzs⟩ := hi.allInts.items
  have en : ns = zs.toList.map (·.1) := (hi.numsOf.symm.trans (congrArg (fun a : Array Value => numsOf a.toList) hzs)).trans (nums_intItems zs)
  have hn2 : ns.length = zs.size := by rw [en, List.length_map, Array.length_toList]
  rw [hzs] at hl
  refine min_intList (I.ok.hd hc) hl (by omega) fun v h' tk hv hk => ?_
  obtain ⟨t, ev⟩ := intItems_at hv
  subst ev
  have best := argBest_lt (numAt zs) (zs.size - 1)
  generalize argBest (fun i j => decide (numAt zs i < numAt zs j)) (zs.size - 1) = k at best
  have at_ : ∀ j, j < ns.length → numAt zs j = ns.getD j 0 := fun j _ => by rw [numAt_eq, en]
  refine ⟨.int (numAt zs k), H, I.kept hk, ⟨t, rfl⟩, q _ ?_ fun y hy => ?_⟩
  · rw [at_ k (by omega)]; exact getD_mem (by omega)
  · obtain ⟨j, hj, rfl⟩ := mem_getD hy
    rw [← at_ j hj]; exact best.2 j (by omega)
theorem call_maxI (hc : X.calm = true) (hK : X.K = K := by rfl) : CallR X (.builtin "max") (fun xs H Q => ∃ p ns, xs = [.ref p] ∧ LI K H p ns ∧ 0 < ns.length ∧ ∀ m, m ∈ ns → (∀ y ∈ ns, y ≤ m) → Q (.int m) H) := by
  subst hK
  intro pins s σ H xs us Q I r h
  obtain ⟨p, ns, rfl, hq, hpos, q⟩ := h
  obtain ⟨u, rfl, rx⟩ := vals1 r
  cases rx
  obtain ⟨vs, hi, hl, hz, hlen⟩ := I.ints hq
  obtain ⟨zs, hzs⟩ := hi.allInts.items
  have en : ns = zs.toList.map (·.1) := (hi.numsOf.symm.trans (congrArg (fun a : Array Value => numsOf a.toList) hzs)).trans (nums_intItems zs)
  have hn2 : ns.length = zs.size := by rw [en, List.length_map, Array.length_toList]
  rw [hzs] at hl
  refine max_intList (I.ok.hd hc) hl (by omega) fun v h' tk hv hk => ?_
  obtain ⟨t, ev⟩ := intItems_at hv
  subst ev
  have best := argBest_gt (numAt zs) (zs.size - 1)
  generalize argBest (fun i j => decide (numAt zs i > numAt zs j)) (zs.size - 1) = k at best
  have at_ : ∀ j, j < ns.length → numAt zs j = ns.getD j 0 := fun j _ => by rw [numAt_eq, en]
  refine ⟨.int (numAt zs k), H, I.kept hk, ⟨t, rfl⟩, q _ ?_ fun y hy => ?_⟩
  · rw [at_ k (by omega)]; exact getD_mem (by omega)
  · obtain ⟨j, hj, rfl⟩ := mem_getD hy
    rw [← at_ j hj]; exact best.2 j (by omega)
/-- xs.remove(k), k among the ints -/
theorem ints_eraseIdx : ∀ (ms : List Int) (k : Nat), (ms.eraseIdx k).map V.int = (ms.map V.int).eraseIdx k
  | [], _ => rfl
  | _ :: _, 0 => rfl
  | m :: r, k + 1 => congrArg (V.int m :: ·) (ints_eraseIdx r k)
noncomputable def rRemove : V → List V → Hp → VK → Prop := fun x vs H Q => ∃ (l : Addr) (ns : List Int) (k : Int), x = .ref l ∧ vs = [.int k] ∧ H l = some (.lst (ns.map V.int)) ∧ k ∈ ns ∧ Q .non (upd H l (.lst ((ns.erase k).map V.int)))
theorem map_erase_at {ns : List Int} {k : Int} : (ns.erase k).map V.int = (ns.map V.int).eraseIdx (ns.idxOf k) := by
  rw [List.erase_eq_eraseIdx_of_idxOf]
  · exact ints_eraseIdx ns _
  · rfl
theorem mt_removeI : MtM X "list.remove" rRemove := by
  intro pins s σ H x vs v us Q I rx rv h
  obtain ⟨l, ns, k, rfl, rfl, hH, hk, q⟩ := h
  cases rx
  obtain ⟨u, rfl, t, rfl⟩ := vals1 rv
  obtain ⟨z, its, n, r, hl, e⟩ := I.lstM hH
  have hi : IntsAre its ns := intsAre_of r
  rw [List.length_map] at hl z
  have within := List.idxOf_lt_length_of_mem hk
  have hit : isInt k its[ns.idxOf k] = true := by rw [isInt_at k hi _ (by omega) within, List.getElem_idxOf within]; simp
  have miss : ∀ (j : Nat) (b : j < its.length), j < ns.idxOf k → isInt k its[j] = false := fun j b lt => (isInt_at k hi j b (by omega)).trans (ne_of_lt_idxOf lt _)
  refine call_meets PySem.F.slot_list_remove ⟨_, e, rfl⟩ PySem.F.entry_list_remove (PySem.F.args_list_remove_2 _ _)
    (MeetsSeq.list_remove l its.toArray n (.int k t) (isInt k) (fun y hy => eq_isInt k t hi y (by simpa using hy)) (ns.idxOf k) (by rw [List.size_toArray]; omega) (by simpa using hit) (fun j b lt => by simpa using miss j (by simpa using b) lt) (by rw [List.size_toArray]; omega)) ⟨e, ?_⟩
  rw [map_erase_at] at q
  refine ⟨.non, _, I.lset (its' := its.eraseIdx (ns.idxOf k)) hH e ?_ (r.eraseIdx (ns.idxOf k)) ?_, rfl, q⟩
  · show its.toArray.eraseIdxIfInBounds _ = (its.eraseIdx _).toArray
    rw [List.eraseIdxIfInBounds_toArray]
  · have := len_erase (ns.map V.int) (ns.idxOf k)
    rw [List.length_map] at this
    omega
end
end L2

namespace SOSort
open PySem PyProof.Rows
noncomputable def gallopM : Bool → Keyed → Array Keyed → Nat → Nat → Nat → StateT SortSt Sem (Option Nat) := sortPriv% PySem.Builtin.gallop
/-- how two keys are compared -/
structure LtOk (M : Model) (A : Around) (E : Value → Shared → Prop) (s : Shared) (κ : SortKind) (U : Keyed → Prop) (lt : Keyed → Keyed → Bool) : Prop where
  run : ∀ {x y : Keyed} {st : SortSt} {Q : Option Bool → SortSt → Prop}, U x → U y → kindOf st = κ → Q (some (lt x y)) st → wpS M A E s (lt' x y) Q st
section
variable {M : Model} {A : Around} {E : Value → Shared → Prop} {s : Shared} {κ : SortKind} {U : Keyed → Prop} {lt : Keyed → Keyed → Bool} {st : SortSt}
theorem elem_ok {arr : Array Keyed} {i : Nat} {x : Keyed} {Q : Keyed → SortSt → Prop} (h : arr[i]? = some x) (q : Q x st) : wpS M A E s (elem' arr i) Q st := by
  rw [elem'_eq, h]; exact wpS_pure q
theorem rule_ok {r : String} {Q : Unit → SortSt → Prop} (q : Q () st) : wpS M A E s (liftM (rule r) : StateT SortSt Sem Unit) Q st := wpS_lift (wpAny_rule ⟨rfl, q⟩)
/-- a stride that doubles until it is to stop, or goes past the end -/
theorem stride_ok {f : Nat → Option (Option Nat) × Nat × Nat → StateT SortSt Sem (ForInStep (Option (Option Nat) × Nat × Nat))} {n mx : Nat} {stop : Nat → Bool} {Q : Option (Option Nat) × Nat × Nat → SortSt → Prop}
    (hf : ∀ x la o (R : ForInStep (Option (Option Nat) × Nat × Nat) → SortSt → Prop), 1 ≤ o → (mx ≤ o → R (.done (none, la, o)) st) → (o < mx → stop o = true → R (.done (none, la, o)) st) → (o < mx → stop o = false → R (.yield (none, o, 2 * o + 1)) st) → wpS M A E s (f x (none, la, o)) R st)
    (hm : mx ≤ n) (h1 : 1 ≤ mx) (q : ∀ la o, la < o → la < mx → (la = 0 ∨ stop la = false) → (mx ≤ o ∨ stop o = true) → Q (none, la, o) st) : wpS M A E s (forIn [0:n] (none, 0, 1) f) Q st := by
  refine wpS_forRange (I := fun i c st' => st' = st ∧ ∃ la o, c = (none, la, o) ∧ la < o ∧ i < o ∧ la < mx ∧ (la = 0 ∨ stop la = false)) ?_ ?_ ⟨rfl, 0, 1, rfl, by omega, by omega, by omega, .inl rfl⟩
  · rintro i c st' _ hi ⟨rfl, la, o, rfl, h2, h3, h4, h5⟩
    refine hf i la o _ (by omega) (fun z => q la o h2 h4 h5 (.inl z)) (fun _ z => q la o h2 h4 h5 (.inr z)) (fun z1 z2 => ?_)
    exact ⟨rfl, o, 2 * o + 1, rfl, by omega, by omega, z1, .inr z2⟩
  · rintro c st' ⟨rfl, la, o, rfl, h2, h3, h4, h5⟩
    exact q la o h2 h4 h5 (.inl (by omega))
/-- halving -/
theorem halve_ok {f : Nat → Option (Option Nat) × Nat × Nat → StateT SortSt Sem (ForInStep (Option (Option Nat) × Nat × Nat))} {n lo hi : Nat} {b : Nat → Bool} {Q : Option (Option Nat) × Nat × Nat → SortSt → Prop}
    (hf : ∀ x lo hi (R : ForInStep (Option (Option Nat) × Nat × Nat) → SortSt → Prop), hi ≤ n → (hi ≤ lo → R (.done (none, lo, hi)) st) → (∀ m, lo ≤ m → m < hi → m = lo + (hi - lo) / 2 → b m = true → R (.yield (none, m + 1, hi)) st) →
      (∀ m, lo ≤ m → m < hi → m = lo + (hi - lo) / 2 → b m = false → R (.yield (none, lo, m)) st) → wpS M A E s (f x (none, lo, hi)) R st)
    (mono : ∀ i j, i ≤ j → j < n → b j = true → b i = true) (h1 : lo ≤ hi) (h2 : hi ≤ n) (h3 : ∀ i, i < lo → b i = true) (h4 : ∀ i, hi ≤ i → i < n → b i = false)
    (q : ∀ k, k ≤ n → (∀ i, i < k → b i = true) → (∀ i, k ≤ i → i < n → b i = false) → Q (none, k, k) st) : wpS M A E s (forIn [0:n] (none, lo, hi) f) Q st := by
  refine wpS_forRange (I := fun i c st' => st' = st ∧ ∃ lo hi, c = (none, lo, hi) ∧ lo ≤ hi ∧ hi ≤ n ∧ hi - lo ≤ n - i ∧ (∀ i, i < lo → b i = true) ∧ (∀ i, hi ≤ i → i < n → b i = false)) ?_ ?_ ⟨rfl, lo, hi, rfl, h1, h2, by omega, h3, h4⟩
  · rintro i c st' _ _ ⟨rfl, lo, hi, rfl, k1, k2, k3, k4, k5⟩
    refine hf i lo hi _ k2 (fun z => ?_) (fun m m1 m2 me z => ?_) (fun m m1 m2 me z => ?_)
    · obtain rfl : lo = hi := by omega
      exact q lo k2 k4 k5
    · exact ⟨rfl, m + 1, hi, rfl, by omega, k2, by omega, fun i hi' => mono i m (by omega) (by omega) z, k5⟩
    · refine ⟨rfl, lo, m, rfl, by omega, by omega, by omega, k4, fun i h h' => ?_⟩
      cases e : b i with
      | false => rfl
      | true => rw [mono m i h h' e] at z; exact nomatch z
  · rintro c st' ⟨rfl, lo, hi, rfl, k1, k2, k3, k4, k5⟩
    obtain rfl : lo = hi := by omega
    exact q lo k2 k4 k5
theorem beyond_ok (L : LtOk M A E s κ U lt) {left : Bool} {key x : Keyed} {arr : Array Keyed} {i : Nat} {Q : Option Bool → SortSt → Prop} (hk : kindOf st = κ) (uk : U key) (h : arr[i]? = some x) (ux : U x)
    (q : Q (some (if left = true then lt x key else !lt key x)) st) : wpS M A E s (elem' arr i >>= fun x => if left = true then lt' x key else lt' key x >>= fun r => pure (r.map (!·))) Q st := by
  refine wpS_bind (elem_ok h ?_)
  cases left with
  | true => exact L.run ux uk hk q
  | false => exact wpS_bind (L.run uk ux hk (wpS_pure q))
theorem gallop_ok (L : LtOk M A E s κ U lt) {left : Bool} {key : Keyed} {arr : Array Keyed} {base n hint : Nat} {b : Nat → Bool} {Q : Option Nat → SortSt → Prop} (hk : kindOf st = κ) (uk : U key) (hh : hint < n)
    (hx : ∀ i, i < n → ∃ x, arr[base + i]? = some x ∧ U x ∧ b i = if left = true then lt x key else !lt key x) (mono : ∀ i j, i ≤ j → j < n → b j = true → b i = true)
    (q : ∀ k, k ≤ n → (∀ i, i < k → b i = true) → (∀ i, k ≤ i → i < n → b i = false) → Q (some k) st) : wpS M A E s (gallopM left key arr base n hint) Q st := by
  have ask : ∀ {i : Nat} {R : Option Bool → SortSt → Prop}, i < n → R (some (b i)) st → wpS M A E s (elem' arr (base + i) >>= fun x => if left = true then lt' x key else lt' key x >>= fun r => pure (r.map (!·))) R st := fun {i R} hi r => by
    obtain ⟨x, h1, h2, h3⟩ := hx i hi
    exact beyond_ok L hk uk h1 h2 (h3 ▸ r)
  have anti : ∀ i j, i ≤ j → j < n → b i = false → b j = false := fun i j h h' z => by
    cases e : b j with
    | false => rfl
    | true => rw [mono i j h h' e] at z; exact nomatch z
  have half : ∀ {lo hi : Nat} {R : ForInStep (Option (Option Nat) × Nat × Nat) → SortSt → Prop}, hi ≤ n → (hi ≤ lo → R (.done (none, lo, hi)) st) → (∀ m, lo ≤ m → m < hi → m = lo + (hi - lo) / 2 → b m = true → R (.yield (none, m + 1, hi)) st) →
      (∀ m, lo ≤ m → m < hi → m = lo + (hi - lo) / 2 → b m = false → R (.yield (none, lo, m)) st) →
      wpS M A E s (if lo ≥ hi then pure (.done (none, lo, hi)) else (elem' arr (base + (lo + (hi - lo) / 2)) >>= fun x => if left = true then lt' x key else lt' key x >>= fun r => pure (r.map (!·))) >>= fun r =>
        match r with
        | some more => if more = true then pure (.yield (none, lo + (hi - lo) / 2 + 1, hi)) else pure (.yield (none, lo, lo + (hi - lo) / 2))
        | _ => pure (.done (some none, lo, hi))) R st := fun {lo hi R} hn r1 r2 r3 => by
    by_cases c : hi ≤ lo
    · rw [if_pos c]; exact wpS_pure (r1 c)
    · rw [if_neg c]
      refine wpS_bind (ask (by omega) ?_)
      cases z : b (lo + (hi - lo) / 2) with
      | true => exact wpS_pure (r2 _ (by omega) (by omega) rfl z)
      | false => exact wpS_pure (r3 _ (by omega) (by omega) rfl z)
  refine wpS_bind (ask hh ?_)
  dsimp only
  cases e : b hint with
  | true =>
    simp only [↓reduceIte]
    refine wpS_bind (stride_ok (mx := n - hint) (stop := fun o => !b (hint + o)) (fun x la o R o1 r1 r2 r3 => ?_) (by omega) (by omega) fun la o g1 g2 g3 g4 => ?_)
    · dsimp only
      by_cases c : n - hint ≤ o
      · rw [if_pos c]; exact wpS_pure (r1 c)
      · rw [if_neg c]
        refine wpS_bind (ask (i := hint + o) (by omega) ?_)
        dsimp only
        cases z : b (hint + o) with
        | true => simp only [Bool.not_true, Bool.false_eq_true, ↓reduceIte]; exact wpS_pure (r3 (by omega) (by simp [z]))
        | false => simp only [Bool.not_false, ↓reduceIte]; exact wpS_pure (r2 (by omega) (by simp [z]))
    · dsimp only
      refine wpS_bind (halve_ok (b := b) (fun x lo hi R hn r1 r2 r3 => half hn r1 r2 r3) mono (by omega) (by omega) (fun i hi => ?_) (fun i hi hin => ?_) fun k k1 k2 k3 => ?_)
      · rcases g3 with rfl | g3
        · exact mono i hint (by omega) (by omega) e
        · exact mono i (hint + la) (by omega) (by omega) (by simpa using g3)
      · rcases g4 with g4 | g4
        · omega
        · exact anti (hint + o) i (by omega) (by omega) (by simpa using g4)
      · exact wpS_pure (q k k1 k2 k3)
  | false =>
    rw [if_neg Bool.false_ne_true]
    refine wpS_bind (stride_ok (mx := hint + 1) (stop := fun o => b (hint - o)) (fun x la o R o1 r1 r2 r3 => ?_) (by omega) (by omega) fun la o g1 g2 g3 g4 => ?_)
    · dsimp only
      by_cases c : hint + 1 ≤ o
      · rw [if_pos c]; exact wpS_pure (r1 c)
      · rw [if_neg c]
        refine wpS_bind (ask (i := hint - o) (by omega) ?_)
        dsimp only
        cases z : b (hint - o) with
        | true => simp only [↓reduceIte]; exact wpS_pure (r2 (by omega) z)
        | false => simp only [Bool.false_eq_true, ↓reduceIte]; exact wpS_pure (r3 (by omega) z)
    · dsimp only
      have low : b (hint - la) = false := by
        rcases g3 with rfl | g3
        · exact e
        · exact g3
      refine wpS_bind (halve_ok (b := b) (fun x lo hi R hn r1 r2 r3 => half hn r1 r2 r3) mono (by omega) (by omega) (fun i hi => ?_) (fun i hi hin => anti (hint - la) i hi hin low) fun k k1 k2 k3 => ?_)
      · rcases g4 with g4 | g4
        · omega
        · by_cases c : hint + 1 ≤ o
          · omega
          · exact mono i (hint - o) (by omega) (by omega) g4
      · exact wpS_pure (q k k1 k2 k3)
end
end SOSort

namespace SOSort
/-! what stands after a part of a merge: i of as, j of bs are laid out -/
structure Mg {α : Type} (R : α → α → Prop) (as bs out : List α) (i j : Nat) : Prop where
  la : i ≤ as.length
  lb : j ≤ bs.length
  srt : out.Pairwise R
  prm : out.Perm (as.take i ++ bs.take j)
  crs : ∀ x ∈ out, ∀ y, y ∈ as.drop i ∨ y ∈ bs.drop j → R x y
section
variable {α : Type} {R : α → α → Prop} {as bs out : List α} {i j k : Nat}
theorem Mg.swap (m : Mg R as bs out i j) : Mg R bs as out j i := ⟨m.lb, m.la, m.srt, m.prm.trans List.perm_append_comm, fun x hx y hy => m.crs x hx y hy.symm⟩
theorem Mg.nil : Mg R as bs [] 0 0 := ⟨Nat.zero_le _, Nat.zero_le _, .nil, by simp, fun x hx => nomatch hx⟩
theorem Mg.addA (m : Mg R as bs out i j) (hs : as.Pairwise R) (hk : i + k ≤ as.length) (h : ∀ x ∈ (as.drop i).take k, ∀ y ∈ bs.drop j, R x y) : Mg R as bs (out ++ (as.drop i).take k) (i + k) j := by
  have split : as.drop i = (as.drop i).take k ++ as.drop (i + k) := by rw [← List.drop_drop, List.take_append_drop]
  have hd : (as.drop i).Pairwise R := hs.sublist (List.drop_sublist i as)
  have hd2 := hd
  rw [split, List.pairwise_append] at hd2
  refine ⟨hk, m.lb, List.pairwise_append.mpr ⟨m.srt, hd2.1, fun x hx y hy => m.crs x hx y (.inl (List.mem_of_mem_take hy))⟩, ?_, fun x hx y hy => ?_⟩
  · rw [List.take_add, List.append_assoc]
    refine (m.prm.append_right _).trans ?_
    rw [List.append_assoc]
    exact List.Perm.append_left _ List.perm_append_comm
  · rcases List.mem_append.mp hx with hx | hx
    · refine m.crs x hx y (hy.imp (fun z => ?_) id)
      rw [split]; exact List.mem_append_right _ z
    · rcases hy with hy | hy
      · exact hd2.2.2 x hx y hy
      · exact h x hx y hy
theorem Mg.addB (m : Mg R as bs out i j) (hs : bs.Pairwise R) (hk : j + k ≤ bs.length) (h : ∀ x ∈ (bs.drop j).take k, ∀ y ∈ as.drop i, R x y) : Mg R as bs (out ++ (bs.drop j).take k) i (j + k) := (m.swap.addA hs hk h).swap
theorem drop_take_one {l : List α} {x : α} (h : l[i]? = some x) : (l.drop i).take 1 = [x] := by
  have ⟨hi, e⟩ := List.getElem?_eq_some_iff.mp h
  rw [List.drop_eq_getElem_cons hi, e]; rfl
theorem Mg.oneA {x : α} (m : Mg R as bs out i j) (hs : as.Pairwise R) (hx : as[i]? = some x) (h : ∀ y ∈ bs.drop j, R x y) : Mg R as bs (out ++ [x]) (i + 1) j := by
  rw [← drop_take_one hx]
  refine m.addA hs (List.getElem?_eq_some_iff.mp hx).1 fun z hz y hy => ?_
  rw [drop_take_one hx] at hz
  rw [List.mem_singleton.mp hz]; exact h y hy
theorem Mg.oneB {x : α} (m : Mg R as bs out i j) (hs : bs.Pairwise R) (hx : bs[j]? = some x) (h : ∀ y ∈ as.drop i, R x y) : Mg R as bs (out ++ [x]) i (j + 1) := (m.swap.oneA hs hx h).swap
theorem Mg.last (m : Mg R as bs out i j) (ha : as.Pairwise R) (hb : bs.Pairwise R) (h : ∀ x ∈ bs.drop j, ∀ y ∈ as.drop i, R x y) : (out ++ bs.drop j ++ as.drop i).Pairwise R ∧ (out ++ bs.drop j ++ as.drop i).Perm (as ++ bs) := by
  have m2 := m.addB (k := bs.length - j) hb (by have := m.lb; omega) (fun x hx => h x (List.mem_of_mem_take hx))
  have e : (bs.drop j).take (bs.length - j) = bs.drop j := List.take_of_length_le (by rw [List.length_drop]; exact Nat.le_refl _)
  have m3 := m2.addA (k := as.length - i) ha (by have := m.la; omega) (fun x _ y hy => by
    rw [List.drop_eq_nil_of_le (by have := m.lb; omega)] at hy; exact nomatch hy)
  have e3 : (as.drop i).take (as.length - i) = as.drop i := List.take_of_length_le (by rw [List.length_drop]; exact Nat.le_refl _)
  rw [e, e3] at m3
  refine ⟨m3.srt, m3.prm.trans ?_⟩
  rw [List.take_of_length_le (by have := m.la; omega), List.take_of_length_le (by have := m.lb; omega)]
theorem Mg.done (m : Mg R as bs out i j) (ha : as.Pairwise R) (hb : bs.Pairwise R) (h : i = as.length ∨ j = bs.length) : (out ++ as.drop i ++ bs.drop j).Pairwise R ∧ (out ++ as.drop i ++ bs.drop j).Perm (as ++ bs) := by
  have z := m.swap.last hb ha fun x hx y hy => by
    rcases h with h | h
    · rw [List.drop_eq_nil_of_le (Nat.le_of_eq h.symm)] at hx; exact nomatch hx
    · rw [List.drop_eq_nil_of_le (Nat.le_of_eq h.symm)] at hy; exact nomatch hy
  exact ⟨z.1, z.2.trans List.perm_append_comm⟩
/-- the head of a sorted rest -/
theorem head_le {x y : α} {l : List α} (rf : ∀ z, R z z) (hs : l.Pairwise R) (hx : l[i]? = some x) (hy : y ∈ l.drop i) : R x y := by
  obtain ⟨hi, e⟩ := List.getElem?_eq_some_iff.mp hx
  have hd := hs.sublist (List.drop_sublist i l)
  rw [List.drop_eq_getElem_cons hi, e] at hd hy
  obtain rfl | hy := List.mem_cons.mp hy
  · exact rf _
  · exact (List.pairwise_cons.mp hd).1 y hy
theorem mem_drop_take {x : α} {l : List α} (h : x ∈ (l.drop i).take k) : ∃ n, n < k ∧ l[i + n]? = some x := by
  obtain ⟨n, hn⟩ := List.mem_iff_getElem?.mp h
  rw [List.getElem?_take] at hn
  split at hn
  · rw [List.getElem?_drop] at hn; exact ⟨n, by assumption, hn⟩
  · exact nomatch hn
end
end SOSort

namespace SOSort
open PySem PyProof.Rows
noncomputable def mergeLoM : Array Keyed → Array Keyed → StateT SortSt Sem (Array Keyed) := sortPriv% PySem.Builtin.mergeLo
/-- how keys are ordered -/
structure Swo (lt : Keyed → Keyed → Bool) : Prop where
  asym : ∀ x y, lt x y = true → lt y x = false
  trans : ∀ x y z, lt y x = false → lt z y = false → lt z x = false
noncomputable abbrev Le (lt : Keyed → Keyed → Bool) (x y : Keyed) : Prop := lt y x = false
theorem Swo.rfl {lt : Keyed → Keyed → Bool} (W : Swo lt) (x : Keyed) : Le lt x x := by
  cases h : lt x x with
  | false => exact h
  | true => exact W.asym x x h
/-- only the gallop's number changes -/
noncomputable def Near (st st' : SortSt) : Prop := kindOf st' = kindOf st ∧ arrOf st' = arrOf st ∧ pendingOf st' = pendingOf st ∧ failedOf st' = failedOf st
theorem Near.refl (st : SortSt) : Near st st := ⟨_root_.rfl, _root_.rfl, _root_.rfl, _root_.rfl⟩
noncomputable abbrev Merged (lt : Keyed → Keyed → Bool) (a b out : Array Keyed) : Prop := out.toList.Pairwise (Le lt) ∧ out.toList.Perm (a.toList ++ b.toList)
section
variable {lt : Keyed → Keyed → Bool} {a b out : Array Keyed} {i j k : Nat}
noncomputable abbrev MgA (lt : Keyed → Keyed → Bool) (a b out : Array Keyed) (i j : Nat) : Prop := Mg (Le lt) a.toList b.toList out.toList i j
theorem merged_done (m : MgA lt a b out i j) (ha : a.toList.Pairwise (Le lt)) (hb : b.toList.Pairwise (Le lt)) (h : i = a.size ∨ j = b.size) : Merged lt a b (out ++ a.extract i a.size ++ b.extract j b.size) := by
  have e : (out ++ a.extract i a.size ++ b.extract j b.size).toList = out.toList ++ a.toList.drop i ++ b.toList.drop j := by
    simp [Array.toList_append, Array.toList_extract, List.extract, List.take_of_length_le]
  unfold Merged; rw [e]
  exact m.done ha hb (by simpa using h)
theorem merged_last (m : MgA lt a b out i j) (ha : a.toList.Pairwise (Le lt)) (hb : b.toList.Pairwise (Le lt)) (h : ∀ x ∈ a.toList.drop i, ∀ y ∈ b, Le lt y x) : Merged lt a b (out ++ b.extract j b.size ++ a.extract i a.size) := by
  have e : (out ++ b.extract j b.size ++ a.extract i a.size).toList = out.toList ++ b.toList.drop j ++ a.toList.drop i := by
    simp [Array.toList_append, Array.toList_extract, List.extract, List.take_of_length_le]
  unfold Merged; rw [e]
  exact m.last ha hb fun y hy x hx => h x hx y (Array.mem_toList_iff.mp (List.mem_of_mem_drop hy))
theorem merged_pushB {x y : Keyed} (W : Swo lt) (m : MgA lt a b out i j) (ha : a.toList.Pairwise (Le lt)) (hb : b.toList.Pairwise (Le lt)) (hx : a[i]? = some x) (hy : b[j]? = some y) (h : Le lt y x) : MgA lt a b (out.push y) i (j + 1) := by
  unfold MgA; rw [Array.toList_push]
  refine m.oneB hb (by rw [Array.getElem?_toList]; exact hy) fun z hz => ?_
  exact W.trans _ _ _ h (head_le (R := Le lt) W.rfl ha (by rw [Array.getElem?_toList]; exact hx) hz)
theorem merged_pushA {x y : Keyed} (W : Swo lt) (m : MgA lt a b out i j) (ha : a.toList.Pairwise (Le lt)) (hb : b.toList.Pairwise (Le lt)) (hx : a[i]? = some x) (hy : b[j]? = some y) (h : Le lt x y) : MgA lt a b (out.push x) (i + 1) j := by
  unfold MgA; rw [Array.toList_push]
  refine m.oneA ha (by rw [Array.getElem?_toList]; exact hx) fun z hz => ?_
  exact W.trans _ _ _ h (head_le (R := Le lt) W.rfl hb (by rw [Array.getElem?_toList]; exact hy) hz)
theorem merged_runA {y : Keyed} (W : Swo lt) (m : MgA lt a b out i j) (ha : a.toList.Pairwise (Le lt)) (hb : b.toList.Pairwise (Le lt)) (hk : i + k ≤ a.size) (hy : b[j]? = some y) (h : ∀ n, n < k → ∀ x, a[i + n]? = some x → Le lt x y) : MgA lt a b (out ++ a.extract i (i + k)) (i + k) j := by
  have e : (out ++ a.extract i (i + k)).toList = out.toList ++ (a.toList.drop i).take k := by simp [Array.toList_append, Array.toList_extract, List.extract]
  unfold MgA; rw [e]
  refine m.addA ha (by simpa using hk) fun x hx z hz => ?_
  obtain ⟨n, hn, e⟩ := mem_drop_take hx
  exact W.trans _ _ _ (h n hn x (by rw [← Array.getElem?_toList]; exact e)) (head_le (R := Le lt) W.rfl hb (by rw [Array.getElem?_toList]; exact hy) hz)
theorem merged_runB {x : Keyed} (W : Swo lt) (m : MgA lt a b out i j) (ha : a.toList.Pairwise (Le lt)) (hb : b.toList.Pairwise (Le lt)) (hk : j + k ≤ b.size) (hx : a[i]? = some x) (h : ∀ n, n < k → ∀ y, b[j + n]? = some y → Le lt y x) : MgA lt a b (out ++ b.extract j (j + k)) i (j + k) := by
  have e : (out ++ b.extract j (j + k)).toList = out.toList ++ (b.toList.drop j).take k := by simp [Array.toList_append, Array.toList_extract, List.extract]
  unfold MgA; rw [e]
  refine m.addB hb (by simpa using hk) fun y hy z hz => ?_
  obtain ⟨n, hn, e⟩ := mem_drop_take hy
  exact W.trans _ _ _ (h n hn y (by rw [← Array.getElem?_toList]; exact e)) (head_le (R := Le lt) W.rfl ha (by rw [Array.getElem?_toList]; exact hx) hz)
theorem get_some {a : Array Keyed} {i : Nat} (h : i < a.size) : ∃ x, a[i]? = some x ∧ x ∈ a := ⟨a[i], Array.getElem?_eq_getElem h, Array.getElem_mem h⟩
theorem srt_get {a : Array Keyed} {x y : Keyed} (W : Swo lt) (ha : a.toList.Pairwise (Le lt)) (h : i ≤ j) (hx : a[i]? = some x) (hy : a[j]? = some y) : Le lt x y := by
  refine head_le (R := Le lt) W.rfl ha (by rw [Array.getElem?_toList]; exact hx) (i := i) ?_
  rw [← Array.getElem?_toList] at hy
  exact List.mem_iff_getElem?.mpr ⟨j - i, by rw [List.getElem?_drop, show i + (j - i) = j by omega]; exact hy⟩
end
section
variable {M : Model} {A : Around} {E : Value → Shared → Prop} {s : Shared} {κ : SortKind} {U : Keyed → Prop} {lt : Keyed → Keyed → Bool} {st : SortSt}
/-- how many from base on do not stand behind the key -/
theorem gallopR_ok (L : LtOk M A E s κ U lt) (W : Swo lt) {key : Keyed} {arr : Array Keyed} {base n hint : Nat} {Q : Option Nat → SortSt → Prop} (hk : kindOf st = κ) (uk : U key) (ua : ∀ x ∈ arr, U x) (hh : hint < n) (hn : base + n ≤ arr.size)
    (hs : ∀ i j x y, i ≤ j → j < n → arr[base + i]? = some x → arr[base + j]? = some y → Le lt x y)
    (q : ∀ k, k ≤ n → (∀ i, i < k → ∀ x, arr[base + i]? = some x → Le lt x key) → (∀ i, k ≤ i → i < n → ∀ x, arr[base + i]? = some x → lt key x = true) → Q (some k) st) : wpS M A E s (gallopM false key arr base n hint) Q st := by
  have at0 : ∀ i, i < n → ∃ x, arr[base + i]? = some x ∧ x ∈ arr := fun i hi => get_some (by omega)
  refine gallop_ok L (b := fun i => match arr[base + i]? with | some x => !lt key x | none => false) hk uk hh (fun i hi => ?_) (fun i j h hj e => ?_) fun k hk1 h1 h2 => q k hk1 (fun i hi x hx => ?_) fun i hi hi' x hx => ?_
  · obtain ⟨x, hx, hm⟩ := at0 i hi
    exact ⟨x, hx, ua x hm, by simp [hx]⟩
  · obtain ⟨x, hx, _⟩ := at0 i (by omega)
    obtain ⟨y, hy, _⟩ := at0 j hj
    simp only [hx, hy, Bool.not_eq_true'] at e ⊢
    exact W.trans _ _ _ (hs i j x y h hj hx hy) e
  · have := h1 i hi
    simpa only [hx, Bool.not_eq_true'] using this
  · have := h2 i hi hi'
    simpa only [hx, Bool.not_eq_false'] using this
/-- how many from base on stand ahead of the key -/
theorem gallopL_ok (L : LtOk M A E s κ U lt) (W : Swo lt) {key : Keyed} {arr : Array Keyed} {base n hint : Nat} {Q : Option Nat → SortSt → Prop} (hk : kindOf st = κ) (uk : U key) (ua : ∀ x ∈ arr, U x) (hh : hint < n) (hn : base + n ≤ arr.size)
    (hs : ∀ i j x y, i ≤ j → j < n → arr[base + i]? = some x → arr[base + j]? = some y → Le lt x y)
    (q : ∀ k, k ≤ n → (∀ i, i < k → ∀ x, arr[base + i]? = some x → lt x key = true) → (∀ i, k ≤ i → i < n → ∀ x, arr[base + i]? = some x → Le lt key x) → Q (some k) st) : wpS M A E s (gallopM true key arr base n hint) Q st := by
  have at0 : ∀ i, i < n → ∃ x, arr[base + i]? = some x ∧ x ∈ arr := fun i hi => get_some (by omega)
  refine gallop_ok L (b := fun i => match arr[base + i]? with | some x => lt x key | none => false) hk uk hh (fun i hi => ?_) (fun i j h hj e => ?_) fun k hk1 h1 h2 => q k hk1 (fun i hi x hx => ?_) fun i hi hi' x hx => ?_
  · obtain ⟨x, hx, hm⟩ := at0 i hi
    exact ⟨x, hx, ua x hm, by simp [hx]⟩
  · obtain ⟨x, hx, _⟩ := at0 i (by omega)
    obtain ⟨y, hy, _⟩ := at0 j hj
    simp only [hx, hy] at e ⊢
    cases c : lt x key with
    | true => rfl
    | false => rw [W.trans _ _ _ c (hs i j x y h hj hx hy)] at e; exact nomatch e
  · have := h1 i hi
    simpa only [hx] using this
  · have := h2 i hi hi'
    simpa only [hx] using this
end
end SOSort

namespace SOSort
open PySem PyProof.Rows
section
variable {M : Model} {A : Around} {E : Value → Shared → Prop} {s : Shared} {κ : SortKind} {U : Keyed → Prop} {lt : Keyed → Keyed → Bool} {st : SortSt}
theorem if_beq {γ : Type} {i j : Nat} {t e : StateT SortSt Sem γ} {R : γ → SortSt → Prop} (h1 : i = j → wpS M A E s t R st) (h2 : i ≠ j → wpS M A E s e R st) : wpS M A E s (if (i == j) = true then t else e) R st := by
  by_cases h : i = j
  · rw [if_pos (by simpa using h)]; exact h1 h
  · rw [if_neg (by simpa using h)]; exact h2 h
theorem if_else {γ : Type} {c : Prop} [Decidable c] {t e : StateT SortSt Sem γ} {R : γ → SortSt → Prop} (h1 : c → wpS M A E s t R st) (h2 : ¬ c → wpS M A E s e R st) : wpS M A E s (if c then t else e) R st := by
  by_cases h : c
  · rw [if_pos h]; exact h1 h
  · rw [if_neg h]; exact h2 h
theorem mergeLo_ok (L : LtOk M A E s κ U lt) (W : Swo lt) {a b : Array Keyed} {x0 y0 : Keyed} {Q : Array Keyed → SortSt → Prop} (hk : kindOf st = κ) (ua : ∀ x ∈ a, U x) (ub : ∀ x ∈ b, U x) (sa : a.toList.Pairwise (Le lt)) (sb : b.toList.Pairwise (Le lt))
    (ha0 : a[0]? = some x0) (hb0 : b[0]? = some y0) (h0 : Le lt y0 x0) (hl : ∀ x, a[a.size - 1]? = some x → ∀ y ∈ b, Le lt y x) (q : ∀ out st', Near st st' → Merged lt a b out → Q out st') : wpS M A E s (mergeLoM a b) Q st := by
  have last : ∀ {out : Array Keyed} {i j : Nat}, MgA lt a b out i j → i + 1 = a.size → Merged lt a b (out ++ b.extract j b.size ++ a.extract i a.size) := fun {out i j} m e => merged_last m sa sb fun x hx => hl x (by
    obtain ⟨n, hn⟩ := List.mem_iff_getElem?.mp hx
    rw [List.getElem?_drop, Array.getElem?_toList] at hn
    have := (Array.getElem?_eq_some_iff.mp hn).1
    rwa [show i + n = a.size - 1 by omega] at hn)
  have ga : ∀ {i j : Nat} {n : Nat} {x y : Keyed}, i ≤ j → a[i]? = some x → a[j]? = some y → Le lt x y := fun h hx hy => srt_get W sa h hx hy
  refine wpS_bind (rule_ok ?_)
  refine wpS_bind (elem_ok hb0 ?_)
  have m1 : MgA lt a b #[y0] 0 1 := merged_pushB W (out := #[]) Mg.nil sa sb ha0 hb0 h0
  have za := (Array.getElem?_eq_some_iff.mp ha0).1
  have zb := (Array.getElem?_eq_some_iff.mp hb0).1
  try dsimp only
  refine if_beq (fun c => wpS_pure (q _ st (Near.refl st) (merged_done m1 sa sb (.inr c)))) fun c1 => if_beq (fun c => wpS_pure (q _ st (Near.refl st) (last m1 c))) fun c2 => ?_
  refine wpS_bind (wpS_get ?_)
  try dsimp only
  refine wpS_bind (wpS_mono (wpS_forRange (I := fun x c st' => Near st st' ∧ ∃ out ia ib mg, c = (none, out, ia, ib, mg) ∧ MgA lt a b out ia ib ∧ ib < b.size ∧ ia + 1 < a.size ∧ x < ia + ib)
    (Q := fun c st' => Near st st' ∧ ∃ r, c.1 = some r ∧ Merged lt a b r) ?step ?fin ⟨Near.refl st, _, 0, 1, _, rfl, m1, by omega, by omega, by omega⟩) ?post)
  case fin =>
    rintro c st' ⟨nr, out, ia, ib, mg, rfl, m, hb, ha, hx⟩
    omega
  case post =>
    rintro ⟨c1, c2⟩ st' ⟨nr, r, e, hr⟩
    cases e
    exact wpS_pure (q r st' nr hr)
  case step =>
    rintro x c st1 _ hx ⟨nr, out, ia, ib, mg, rfl, m, hb, ha, hxe⟩
    try dsimp only
    refine wpS_bind (wpS_mono (wpS_forRange (I := fun y c st' => Near st st' ∧ ∃ out ia ib ac bc, c = (none, out, ia, ib, ac, bc) ∧ MgA lt a b out ia ib ∧ ib < b.size ∧ ia + 1 < a.size ∧ x < ia + ib ∧ y < ia + ib)
      (Q := fun c st' => Near st st' ∧ ((∃ r, c.1 = some r ∧ Merged lt a b r) ∨ ∃ out ia ib ac bc, c = (none, out, ia, ib, ac, bc) ∧ MgA lt a b out ia ib ∧ ib < b.size ∧ ia + 1 < a.size ∧ x + 1 < ia + ib)) ?s1 ?f1 ⟨nr, out, ia, ib, 0, 0, rfl, m, hb, ha, hxe, by omega⟩) ?p1)
    case f1 =>
      rintro c st' ⟨nr, out, ia, ib, ac, bc, rfl, m, hb, ha, hx, hy⟩
      omega
    case s1 =>
      rintro y c st2 _ hy ⟨nr, out, ia, ib, ac, bc, rfl, m, hb, ha, hx1, hy1⟩
      obtain ⟨va, ea, ma⟩ := get_some (show ia < a.size by omega)
      obtain ⟨vb, eb, mb⟩ := get_some hb
      try dsimp only
      refine wpS_bind (elem_ok eb (wpS_bind (elem_ok ea (wpS_bind (L.run (ub _ mb) (ua _ ma) (nr.1.trans hk) ?_)))))
      cases z : lt vb va with
      | true =>
        refine wpS_bind (elem_ok eb ?_)
        have m' := merged_pushB W m sa sb ea eb (W.asym _ _ z)
        try dsimp only
        refine if_beq (fun c => wpS_pure ⟨nr, .inl ⟨_, rfl, merged_done m' sa sb (.inr c)⟩⟩) fun c => if_else (fun _ => wpS_pure ⟨nr, .inr ⟨_, _, _, _, _, rfl, m', by omega, by omega, by omega⟩⟩) fun _ => ?_
        exact wpS_pure ⟨nr, _, _, _, _, _, rfl, m', by omega, by omega, by omega, by omega⟩
      | false =>
        refine wpS_bind (elem_ok ea ?_)
        have m' := merged_pushA W m sa sb ea eb z
        try dsimp only
        refine if_beq (fun c => wpS_pure ⟨nr, .inl ⟨_, rfl, last m' c⟩⟩) fun c => if_else (fun _ => wpS_pure ⟨nr, .inr ⟨_, _, _, _, _, rfl, m', by omega, by omega, by omega⟩⟩) fun _ => ?_
        exact wpS_pure ⟨nr, _, _, _, _, _, rfl, m', by omega, by omega, by omega, by omega⟩
    case p1 =>
      rintro ⟨c1, c2⟩ st2 ⟨nr, ⟨r, e, hr⟩ | ⟨out, ia, ib, ac, bc, e, m, hb, ha, hx1⟩⟩
      · cases e
        exact wpS_pure ⟨nr, r, rfl, hr⟩
      cases e
      try dsimp only
      refine wpS_bind (rule_ok ?_)
      refine wpS_bind (wpS_mono (wpS_forRange (I := fun y c st' => Near st st' ∧ ∃ out ia ib mg ac bc, c = (none, out, ia, ib, mg, ac, bc) ∧ MgA lt a b out ia ib ∧ ib < b.size ∧ ia + 1 < a.size ∧ x + 1 < ia + ib ∧ y < ia + ib)
        (Q := fun c st' => Near st st' ∧ ((∃ r, c.1 = some r ∧ Merged lt a b r) ∨ ∃ out ia ib mg ac bc, c = (none, out, ia, ib, mg, ac, bc) ∧ MgA lt a b out ia ib ∧ ib < b.size ∧ ia + 1 < a.size ∧ x + 1 < ia + ib)) ?s2 ?f2 ⟨nr, out, ia, ib, _, _, _, rfl, m, hb, ha, hx1, by omega⟩) ?p2)
      case f2 =>
        rintro c st' ⟨nr, out, ia, ib, mg, ac, bc, rfl, m, hb, ha, hx, hy⟩
        omega
      case p2 =>
        rintro ⟨c1, c2⟩ st3 ⟨nr, ⟨r, e, hr⟩ | ⟨out, ia, ib, mg, ac, bc, e, m, hb, ha, hx1⟩⟩
        · cases e
          exact wpS_pure ⟨nr, r, rfl, hr⟩
        cases e
        try dsimp only
        exact wpS_bind (wpS_modify (wpS_pure ⟨nr, out, ia, ib, _, rfl, m, hb, ha, hx1⟩))
      case s2 =>
        rintro y c st3 _ hy ⟨nr, out, ia, ib, mg, ac, bc, rfl, m, hb, ha, hx1, hy1⟩
        obtain ⟨vb, eb, mb⟩ := get_some hb
        try dsimp only
        refine if_else (fun _ => ?_) (fun _ => ?_)
        generalize mg - 1 = mg
        all_goals
          refine wpS_bind (wpS_modify ?_)
          refine wpS_bind (elem_ok eb ?_)
          refine wpS_bind (gallopR_ok L W (nr.1.trans hk) (ub _ mb) ua (by omega) (by omega) (fun i j x y h _ hx hy => srt_get W sa (by omega) hx hy) fun k k1 k2 k3 => ?_)
          try dsimp only
          rcases Nat.eq_zero_or_pos k with h | h
          case' inr =>
            rw [if_pos h]
            have m' := merged_runA W m sa sb (by omega) eb k2
            refine if_beq (fun c => wpS_pure ⟨nr, .inl ⟨_, rfl, last m' c⟩⟩) fun c => if_beq (fun c => wpS_pure ⟨nr, .inl ⟨_, rfl, merged_done m' sa sb (.inl c)⟩⟩) fun c' => ?_
            have F : MgA lt a b (out ++ a.extract ia (ia + k)) (ia + k) ib ∧ ia + k + 1 < a.size ∧ x + 1 < ia + k + ib ∧ y < ia + k + ib ∧ ∀ v, a[ia + k]? = some v → lt vb v = true := ⟨m', by omega, by omega, by omega, fun v hv => k3 k (by omega) (by omega) v hv⟩
            clear m' c c' k1 k2 k3 m ha hx1 hy1 h
            generalize out ++ a.extract ia (ia + k) = out at F ⊢
            generalize ia + k = ia at F ⊢
          case' inl =>
            rw [if_neg (by omega)]
            have F : MgA lt a b out ia ib ∧ ia + 1 < a.size ∧ x + 1 < ia + ib ∧ y < ia + ib ∧ ∀ v, a[ia]? = some v → lt vb v = true := by
              obtain rfl : k = 0 := by omega
              exact ⟨m, ha, hx1, hy1, fun v hv => k3 0 (by omega) (by omega) v hv⟩
            clear k1 k2 k3 m ha hx1 hy1 h
          all_goals
            obtain ⟨m, ha, hx1, hy1, hv⟩ := F
            obtain ⟨va, ea, ma⟩ := get_some (show ia < a.size by omega)
            have m' := merged_pushB W m sa sb ea eb (W.asym _ _ (hv va ea))
            refine wpS_bind (elem_ok eb ?_)
            try dsimp only
            refine if_beq (fun c => wpS_pure ⟨nr, .inl ⟨_, rfl, merged_done m' sa sb (.inr c)⟩⟩) fun c => ?_
            refine wpS_bind (elem_ok ea (wpS_bind (gallopL_ok L W (nr.1.trans hk) (ua _ ma) ub (by omega) (by omega) (fun i j x y h _ hx hy => srt_get W sb (by omega) hx hy) fun k' j1 j2 j3 => ?_)))
            try dsimp only
            rcases Nat.eq_zero_or_pos k' with h | h
            case' inr =>
              rw [if_pos h]
              have m2 := merged_runB W m' sa sb (by omega) ea (fun n hn y hy => W.asym _ _ (j2 n hn y hy))
              refine if_beq (fun c => wpS_pure ⟨nr, .inl ⟨_, rfl, merged_done m2 sa sb (.inr c)⟩⟩) fun c' => ?_
              have G : MgA lt a b (out.push vb ++ b.extract (ib + 1) (ib + 1 + k')) ia (ib + 1 + k') ∧ ib + 1 + k' < b.size ∧ x + 1 < ia + (ib + 1 + k') ∧ y < ia + (ib + 1 + k') ∧ ∀ v, b[ib + 1 + k']? = some v → Le lt va v :=
                ⟨m2, by omega, by omega, by omega, fun v hv => j3 k' (by omega) (by omega) v hv⟩
              clear m2 c' j1 j2 j3 h
              generalize out.push vb ++ b.extract (ib + 1) (ib + 1 + k') = out2 at G ⊢
              generalize ib + 1 + k' = ib2 at G ⊢
            case' inl =>
              rw [if_neg (by omega)]
              have G : MgA lt a b (out.push vb) ia (ib + 1) ∧ ib + 1 < b.size ∧ x + 1 < ia + (ib + 1) ∧ y < ia + (ib + 1) ∧ ∀ v, b[ib + 1]? = some v → Le lt va v := by
                obtain rfl : k' = 0 := by omega
                exact ⟨m', by omega, by omega, by omega, fun v hv => j3 0 (by omega) (by omega) v hv⟩
            all_goals
              obtain ⟨m2, hb2, hx2, hy2, hv2⟩ := G
              obtain ⟨vb2, eb2, mb2⟩ := get_some hb2
              have m3 := merged_pushA W m2 sa sb ea eb2 (hv2 vb2 eb2)
              refine wpS_bind (elem_ok ea ?_)
              try dsimp only
              refine if_beq (fun c => wpS_pure ⟨nr, .inl ⟨_, rfl, last m3 c⟩⟩) fun c => if_else (fun _ => wpS_pure ⟨nr, .inr ⟨_, _, _, _, _, _, rfl, m3, hb2, by omega, by omega⟩⟩) fun _ => ?_
              exact wpS_pure ⟨nr, _, _, _, _, _, _, rfl, m3, hb2, by omega, by omega, by omega⟩
end
end SOSort

namespace SOSort
open PySem PyProof.Rows
noncomputable def mergeHiM : Array Keyed → Array Keyed → StateT SortSt Sem (Array Keyed) := sortPriv% PySem.Builtin.mergeHi
section
variable {lt : Keyed → Keyed → Bool} {a b out : Array Keyed} {i j k : Nat}
noncomputable abbrev Ge (lt : Keyed → Keyed → Bool) (x y : Keyed) : Prop := Le lt y x
/-- from behind: i of a and j of b are still to be laid out -/
structure MgH (lt : Keyed → Keyed → Bool) (a b out : Array Keyed) (i j : Nat) : Prop where
  la : i ≤ a.size
  lb : j ≤ b.size
  mg : Mg (Ge lt) a.toList.reverse b.toList.reverse out.toList (a.size - i) (b.size - j)
theorem MgH.swap (m : MgH lt a b out i j) : MgH lt b a out j i := ⟨m.lb, m.la, m.mg.swap⟩
theorem drop_rev (h : i ≤ a.size) : a.toList.reverse.drop (a.size - i) = (a.toList.take i).reverse := by
  rw [List.drop_reverse, Array.length_toList, show a.size - (a.size - i) = i by omega]
theorem srt_rev (h : a.toList.Pairwise (Le lt)) : a.toList.reverse.Pairwise (Ge lt) := List.pairwise_reverse.mpr h
theorem swo_ge (W : Swo lt) (x : Keyed) : Ge lt x x := W.rfl x
theorem ext0 (a : Array Keyed) (i : Nat) : (a.extract 0 i).toList = a.toList.take i := by simp [Array.toList_extract, List.extract]
theorem hi_done (m : MgH lt a b out i j) (ha : a.toList.Pairwise (Le lt)) (hb : b.toList.Pairwise (Le lt)) (h : i = 0 ∨ j = 0) : Merged lt a b (a.extract 0 i ++ b.extract 0 j ++ out.reverse) := by
  have z := m.mg.swap.done (srt_rev hb) (srt_rev ha) (by
    rcases h with rfl | rfl
    · right; simp
    · left; simp)
  rw [drop_rev m.la, drop_rev m.lb] at z
  have e : (a.extract 0 i ++ b.extract 0 j ++ out.reverse).toList = (out.toList ++ (b.toList.take j).reverse ++ (a.toList.take i).reverse).reverse := by
    rw [Array.toList_append, Array.toList_append, ext0, ext0]; simp
  refine ⟨by rw [e]; exact List.pairwise_reverse.mpr z.1, ?_⟩
  rw [e]
  refine (List.reverse_perm _).trans (z.2.trans ?_)
  exact ((List.reverse_perm _).append (List.reverse_perm _)).trans List.perm_append_comm
theorem hi_first (m : MgH lt a b out i j) (ha : a.toList.Pairwise (Le lt)) (hb : b.toList.Pairwise (Le lt)) (h : ∀ y ∈ b.toList.take j, ∀ x ∈ a, Le lt y x) : Merged lt a b (b.extract 0 j ++ a.extract 0 i ++ out.reverse) := by
  have z := m.mg.swap.last (srt_rev hb) (srt_rev ha) (fun x hx y hy => by
    rw [drop_rev m.la] at hx
    rw [drop_rev m.lb] at hy
    exact h y (List.mem_reverse.mp hy) x (Array.mem_toList_iff.mp (List.mem_of_mem_take (List.mem_reverse.mp hx))))
  rw [drop_rev m.la, drop_rev m.lb] at z
  have e : (b.extract 0 j ++ a.extract 0 i ++ out.reverse).toList = (out.toList ++ (a.toList.take i).reverse ++ (b.toList.take j).reverse).reverse := by
    rw [Array.toList_append, Array.toList_append, ext0, ext0]; simp
  refine ⟨by rw [e]; exact List.pairwise_reverse.mpr z.1, ?_⟩
  rw [e]
  refine (List.reverse_perm _).trans (z.2.trans ?_)
  exact ((List.reverse_perm _).append (List.reverse_perm _)).trans List.perm_append_comm
theorem rev_get {x : Keyed} (h : i + 1 ≤ a.size) (hx : a[i]? = some x) : a.toList.reverse[a.size - (i + 1)]? = some x := by
  rw [List.getElem?_reverse (by rw [Array.length_toList]; omega), Array.length_toList, show a.size - 1 - (a.size - (i + 1)) = i by omega, Array.getElem?_toList]; exact hx
theorem hi_pushA {x y : Keyed} (W : Swo lt) (m : MgH lt a b out (i + 1) (j + 1)) (ha : a.toList.Pairwise (Le lt)) (hb : b.toList.Pairwise (Le lt)) (hx : a[i]? = some x) (hy : b[j]? = some y) (h : Le lt y x) : MgH lt a b (out.push x) i (j + 1) := by
  have l1 := m.la
  refine ⟨by omega, m.lb, ?_⟩
  rw [Array.toList_push, show a.size - i = a.size - (i + 1) + 1 by omega]
  exact m.mg.oneA (srt_rev ha) (rev_get m.la hx) fun z hz => W.trans _ _ _ (head_le (R := Ge lt) (swo_ge W) (srt_rev hb) (rev_get m.lb hy) hz) h
theorem hi_pushB {x y : Keyed} (W : Swo lt) (m : MgH lt a b out (i + 1) (j + 1)) (ha : a.toList.Pairwise (Le lt)) (hb : b.toList.Pairwise (Le lt)) (hx : a[i]? = some x) (hy : b[j]? = some y) (h : Le lt x y) : MgH lt a b (out.push y) (i + 1) j :=
  (hi_pushA W m.swap hb ha hy hx h).swap
theorem hi_runA {y : Keyed} (W : Swo lt) (m : MgH lt a b out i (j + 1)) (ha : a.toList.Pairwise (Le lt)) (hb : b.toList.Pairwise (Le lt)) (hk : k ≤ i) (hy : b[j]? = some y) (h : ∀ n, k ≤ n → n < i → ∀ x, a[n]? = some x → Le lt y x) : MgH lt a b (out ++ (a.extract k i).reverse) k (j + 1) := by
  have l1 := m.la
  have e : (a.toList.reverse.drop (a.size - i)).take (i - k) = (a.extract k i).toList.reverse := by
    rw [drop_rev l1, List.take_reverse, List.length_take, Array.length_toList, show min i a.size - (i - k) = k by omega, Array.toList_extract, List.extract_eq_drop_take, List.drop_take]
  refine ⟨by omega, m.lb, ?_⟩
  rw [Array.toList_append, Array.toList_reverse, ← e, show a.size - k = a.size - i + (i - k) by omega]
  refine m.mg.addA (srt_rev ha) (by simp; omega) fun x hx z hz => ?_
  rw [e] at hx
  have hx' := List.mem_reverse.mp hx
  rw [Array.toList_extract, List.extract_eq_drop_take] at hx'
  obtain ⟨n, hn, en⟩ := mem_drop_take hx'
  exact W.trans _ _ _ (head_le (R := Ge lt) (swo_ge W) (srt_rev hb) (rev_get m.lb hy) hz) (h (k + n) (by omega) (by omega) x (by rw [← Array.getElem?_toList]; exact en))
theorem hi_runB {x : Keyed} (W : Swo lt) (m : MgH lt a b out (i + 1) j) (ha : a.toList.Pairwise (Le lt)) (hb : b.toList.Pairwise (Le lt)) (hk : k ≤ j) (hx : a[i]? = some x) (h : ∀ n, k ≤ n → n < j → ∀ y, b[n]? = some y → Le lt x y) : MgH lt a b (out ++ (b.extract k j).reverse) (i + 1) k :=
  (hi_runA W m.swap hb ha hk hx h).swap
end
end SOSort

namespace SOSort
open PySem PyProof.Rows
section
variable {M : Model} {A : Around} {E : Value → Shared → Prop} {s : Shared} {κ : SortKind} {U : Keyed → Prop} {lt : Keyed → Keyed → Bool} {st : SortSt}
theorem mergeHi_ok (L : LtOk M A E s κ U lt) (W : Swo lt) {a b : Array Keyed} {x0 y0 : Keyed} {Q : Array Keyed → SortSt → Prop} (hk : kindOf st = κ) (ua : ∀ x ∈ a, U x) (ub : ∀ x ∈ b, U x) (sa : a.toList.Pairwise (Le lt)) (sb : b.toList.Pairwise (Le lt))
    (ha0 : a[0]? = some x0) (hb0 : b[0]? = some y0) (h0 : Le lt y0 x0) (hl : ∀ x, a[a.size - 1]? = some x → ∀ y ∈ b, Le lt y x) (q : ∀ out st', Near st st' → Merged lt a b out → Q out st') : wpS M A E s (mergeHiM a b) Q st := by
  have first : ∀ {out : Array Keyed} {i : Nat}, MgH lt a b out i 1 → Merged lt a b (b.extract 0 1 ++ a.extract 0 i ++ out.reverse) := fun {out i} m => hi_first m sa sb fun y hy x hx => by
    obtain ⟨n, hn⟩ := List.mem_iff_getElem?.mp hy
    rw [List.getElem?_take] at hn
    split at hn
    · obtain rfl : n = 0 := by omega
      rw [Array.getElem?_toList, hb0] at hn
      cases hn
      obtain ⟨t, ht⟩ := Array.mem_iff_getElem?.mp hx
      exact W.trans _ _ _ h0 (srt_get W sa (Nat.zero_le t) ha0 ht)
    · exact nomatch hn
  have za := (Array.getElem?_eq_some_iff.mp ha0).1
  have zb := (Array.getElem?_eq_some_iff.mp hb0).1
  obtain ⟨pa, hpa⟩ : ∃ p, a.size = p + 1 := ⟨a.size - 1, by omega⟩
  obtain ⟨pb, hpb⟩ : ∃ p, b.size = p + 1 := ⟨b.size - 1, by omega⟩
  obtain ⟨xl, exl, mxl⟩ := get_some (a := a) (i := pa) (by omega)
  obtain ⟨yl, eyl, myl⟩ := get_some (a := b) (i := pb) (by omega)
  have m0 : MgH lt a b #[] (pa + 1) (pb + 1) := ⟨by omega, by omega, by rw [hpa, hpb, Nat.sub_self, Nat.sub_self]; exact Mg.nil⟩
  have m1 := hi_pushA W m0 sa sb exl eyl (hl xl (by rw [hpa]; exact exl) yl myl)
  refine wpS_bind (rule_ok ?_)
  refine wpS_bind (elem_ok (x := xl) (by rw [hpa]; exact exl) ?_)
  try dsimp only
  rw [show a.size - 1 = pa by omega]
  rw [← hpb] at m1
  refine if_beq (fun c => wpS_pure (q _ st (Near.refl st) (hi_done m1 sa sb (.inl c)))) fun c1 => if_beq (fun c => wpS_pure (q _ st (Near.refl st) (by rw [c] at m1 ⊢; exact first m1))) fun c2 => ?_
  refine wpS_bind (wpS_get ?_)
  try dsimp only
  refine wpS_bind (wpS_mono (wpS_forRange (I := fun x c st' => Near st st' ∧ ∃ na nb out mg, c = (none, na + 1, nb + 2, out, mg) ∧ MgH lt a b out (na + 1) (nb + 2) ∧ x + (na + 1) + (nb + 2) < a.size + b.size)
    (Q := fun c st' => Near st st' ∧ ∃ r, c.1 = some r ∧ Merged lt a b r) ?step ?fin ⟨Near.refl st, pa - 1, pb - 1, #[xl], _, by rw [show pa - 1 + 1 = pa by omega, show pb - 1 + 2 = b.size by omega], by rw [show pa - 1 + 1 = pa by omega, show pb - 1 + 2 = b.size by omega]; exact m1, by omega⟩) ?post)
  case fin =>
    rintro c st' ⟨nr, na, nb, out, mg, rfl, m, hx⟩
    omega
  case post =>
    rintro ⟨c1, c2⟩ st' ⟨nr, r, e, hr⟩
    cases e
    exact wpS_pure (q r st' nr hr)
  case step =>
    rintro x c st1 _ hx ⟨nr, na, nb, out, mg, rfl, m, hxe⟩
    try dsimp only
    refine wpS_bind (wpS_mono (wpS_forRange (I := fun y c st' => Near st st' ∧ ∃ na nb out ac bc, c = (none, na + 1, nb + 2, out, ac, bc) ∧ MgH lt a b out (na + 1) (nb + 2) ∧ x + (na + 1) + (nb + 2) < a.size + b.size ∧ y + (na + 1) + (nb + 2) < a.size + b.size)
      (Q := fun c st' => Near st st' ∧ ((∃ r, c.1 = some r ∧ Merged lt a b r) ∨ ∃ na nb out ac bc, c = (none, na + 1, nb + 2, out, ac, bc) ∧ MgH lt a b out (na + 1) (nb + 2) ∧ x + 1 + (na + 1) + (nb + 2) < a.size + b.size)) ?s1 ?f1 ⟨nr, na, nb, out, 0, 0, rfl, m, hxe, by omega⟩) ?p1)
    case f1 =>
      rintro c st' ⟨nr, na, nb, out, ac, bc, rfl, m, hx, hy⟩
      omega
    case s1 =>
      rintro y c st2 _ hy ⟨nr, na, nb, out, ac, bc, rfl, m, hx1, hy1⟩
      have l1 := m.la
      have l2 := m.lb
      obtain ⟨va, ea, ma⟩ := get_some (a := a) (show na < a.size by omega)
      obtain ⟨vb, eb, mb⟩ := get_some (a := b) (show nb + 1 < b.size by omega)
      try dsimp only
      refine wpS_bind (elem_ok (i := nb + 2 - 1) eb (wpS_bind (elem_ok (i := na + 1 - 1) ea (wpS_bind (L.run (ub _ mb) (ua _ ma) (nr.1.trans hk) ?_)))))
      cases z : lt vb va with
      | true =>
        refine wpS_bind (elem_ok (i := na + 1 - 1) ea ?_)
        have m' := hi_pushA W m sa sb ea eb (W.asym _ _ z)
        try dsimp only
        rw [Nat.add_sub_cancel]
        refine if_beq (fun c => wpS_pure ⟨nr, .inl ⟨_, rfl, hi_done m' sa sb (.inl c)⟩⟩) fun c => ?_
        obtain ⟨n2, rfl⟩ : ∃ n2, na = n2 + 1 := ⟨na - 1, by omega⟩
        refine if_else (fun _ => wpS_pure ⟨nr, .inr ⟨_, _, _, _, _, rfl, m', by omega⟩⟩) fun _ => ?_
        exact wpS_pure ⟨nr, _, _, _, _, _, rfl, m', by omega, by omega⟩
      | false =>
        refine wpS_bind (elem_ok (i := nb + 2 - 1) eb ?_)
        have m' := hi_pushB W m sa sb ea eb z
        try dsimp only
        rw [show nb + 2 - 1 = nb + 1 from rfl]
        refine if_beq (fun c => wpS_pure ⟨nr, .inl ⟨_, rfl, by rw [c] at m' ⊢; exact first m'⟩⟩) fun c => ?_
        obtain ⟨n2, rfl⟩ : ∃ n2, nb = n2 + 1 := ⟨nb - 1, by omega⟩
        refine if_else (fun _ => wpS_pure ⟨nr, .inr ⟨_, _, _, _, _, rfl, m', by omega⟩⟩) fun _ => ?_
        exact wpS_pure ⟨nr, _, _, _, _, _, rfl, m', by omega, by omega⟩
    case p1 =>
      rintro ⟨c1, c2⟩ st2 ⟨nr, ⟨r, e, hr⟩ | ⟨na, nb, out, ac, bc, e, m, hx1⟩⟩
      · cases e
        exact wpS_pure ⟨nr, r, rfl, hr⟩
      cases e
      try dsimp only
      refine wpS_bind (rule_ok ?_)
      refine wpS_bind (wpS_mono (wpS_forRange (I := fun y c st' => Near st st' ∧ ∃ na nb out mg ac bc, c = (none, na + 1, nb + 2, out, mg, ac, bc) ∧ MgH lt a b out (na + 1) (nb + 2) ∧ x + 1 + (na + 1) + (nb + 2) < a.size + b.size ∧ y + (na + 1) + (nb + 2) < a.size + b.size)
        (Q := fun c st' => Near st st' ∧ ((∃ r, c.1 = some r ∧ Merged lt a b r) ∨ ∃ na nb out mg ac bc, c = (none, na + 1, nb + 2, out, mg, ac, bc) ∧ MgH lt a b out (na + 1) (nb + 2) ∧ x + 1 + (na + 1) + (nb + 2) < a.size + b.size)) ?s2 ?f2 ⟨nr, na, nb, out, _, _, _, rfl, m, hx1, by omega⟩) ?p2)
      case f2 =>
        rintro c st' ⟨nr, na, nb, out, mg, ac, bc, rfl, m, hx, hy⟩
        omega
      case p2 =>
        rintro ⟨c1, c2⟩ st3 ⟨nr, ⟨r, e, hr⟩ | ⟨na, nb, out, mg, ac, bc, e, m, hx1⟩⟩
        · cases e
          exact wpS_pure ⟨nr, r, rfl, hr⟩
        cases e
        try dsimp only
        exact wpS_bind (wpS_modify (wpS_pure ⟨nr, na, nb, out, _, rfl, m, hx1⟩))
      case s2 =>
        rintro y c st3 _ hy ⟨nr, na, nb, out, mg, ac, bc, rfl, m, hx1, hy1⟩
        have l1 := m.la
        have l2 := m.lb
        obtain ⟨vb, eb, mb⟩ := get_some (a := b) (show nb + 1 < b.size by omega)
        try dsimp only
        refine if_else (fun _ => ?_) (fun _ => ?_)
        generalize mg - 1 = mg
        all_goals
          refine wpS_bind (wpS_modify ?_)
          refine wpS_bind (elem_ok (i := nb + 2 - 1) eb ?_)
          refine wpS_bind (gallopR_ok L W (nr.1.trans hk) (ub _ mb) ua (by omega) (by omega) (fun i j x y h _ hx hy => srt_get W sa (by omega) hx hy) fun k k1 k2 k3 => ?_)
          simp only [Nat.zero_add] at k2 k3
          try dsimp only
          rcases Nat.lt_or_ge k (na + 1) with h | h
          case' inl =>
            rw [if_pos (by omega)]
            have m' := hi_runA W m sa sb k1 eb (fun n h1 h2 x hx => W.asym _ _ (k3 n h1 h2 x hx))
            refine if_beq (fun c => wpS_pure ⟨nr, .inl ⟨_, rfl, hi_done m' sa sb (.inl c)⟩⟩) fun c => ?_
            obtain ⟨n2, rfl⟩ : ∃ n2, k = n2 + 1 := ⟨k - 1, by omega⟩
            have F : MgH lt a b (out ++ (a.extract (n2 + 1) (na + 1)).reverse) (n2 + 1) (nb + 2) ∧ x + 1 + (n2 + 1) + (nb + 2) < a.size + b.size ∧ y + (n2 + 1) + (nb + 2) < a.size + b.size ∧ ∀ v, a[n2]? = some v → Le lt v vb := ⟨m', by omega, by omega, fun v hv => k2 n2 (by omega) v hv⟩
            generalize na + 1 - (n2 + 1) = acn
            clear m' c k1 k2 k3 m hx1 hy1 h l1
            generalize out ++ (a.extract (n2 + 1) (na + 1)).reverse = out at F ⊢
          case' inr =>
            rw [if_neg (by omega)]
            have F : MgH lt a b out (na + 1) (nb + 2) ∧ x + 1 + (na + 1) + (nb + 2) < a.size + b.size ∧ y + (na + 1) + (nb + 2) < a.size + b.size ∧ ∀ v, a[na]? = some v → Le lt v vb := ⟨m, hx1, hy1, fun v hv => k2 na (by omega) v hv⟩
            generalize na + 1 - k = acn
            clear k1 k2 k3 m hx1 hy1 h l1
            generalize na = n2 at F ⊢
          all_goals
            obtain ⟨m, hx1, hy1, hv⟩ := F
            have l1 := m.la
            obtain ⟨va, ea, ma⟩ := get_some (a := a) (show n2 < a.size by omega)
            have m' := hi_pushB W m sa sb ea eb (hv va ea)
            refine wpS_bind (elem_ok (i := nb + 2 - 1) eb ?_)
            try dsimp only
            rw [show nb + 2 - 1 = nb + 1 from rfl]
            refine if_beq (fun c => wpS_pure ⟨nr, .inl ⟨_, rfl, by rw [c] at m' ⊢; exact first m'⟩⟩) fun c => ?_
            refine wpS_bind (elem_ok (i := n2 + 1 - 1) ea (wpS_bind (gallopL_ok L W (nr.1.trans hk) (ua _ ma) ub (by omega) (by omega) (fun i j x y h _ hx hy => srt_get W sb (by omega) hx hy) fun k' j1 j2 j3 => ?_)))
            simp only [Nat.zero_add] at j2 j3
            try dsimp only
            generalize hbn : nb + 1 - k' = bcn
            rcases Nat.lt_or_ge k' (nb + 1) with h | h
            case' inl =>
              rw [if_pos (by omega)]
              have m2 := hi_runB W m' sa sb j1 ea (fun n h1 h2 y hy => j3 n h1 h2 y hy)
              refine if_beq (fun c => wpS_pure ⟨nr, .inl ⟨_, rfl, by rw [c] at m2 ⊢; exact first m2⟩⟩) fun c1 => if_beq (fun c => wpS_pure ⟨nr, .inl ⟨_, rfl, hi_done m2 sa sb (.inr c)⟩⟩) fun c0 => ?_
              obtain ⟨r, rfl⟩ : ∃ r, k' = r + 2 := ⟨k' - 2, by omega⟩
              have G : MgH lt a b (out.push vb ++ (b.extract (r + 2) (nb + 1)).reverse) (n2 + 1) (r + 2) ∧ x + 1 + (n2 + 1) + (r + 2) < a.size + b.size ∧ y + (n2 + 1) + (r + 2) < a.size + b.size ∧ ∀ v, b[r + 1]? = some v → lt v va = true :=
                ⟨m2, by omega, by omega, fun v hv => j2 (r + 1) (by omega) v hv⟩
              clear m2 m' m hv hbn c c1 c0 h j1 j2 j3
              generalize out.push vb ++ (b.extract (r + 2) (nb + 1)).reverse = out2 at G ⊢
            case' inr =>
              rw [if_neg (by omega)]
              obtain ⟨r, rfl⟩ : ∃ r, nb = r + 1 := ⟨nb - 1, by omega⟩
              have G : MgH lt a b (out.push vb) (n2 + 1) (r + 2) ∧ x + 1 + (n2 + 1) + (r + 2) < a.size + b.size ∧ y + (n2 + 1) + (r + 2) < a.size + b.size ∧ ∀ v, b[r + 1]? = some v → lt v va = true :=
                ⟨m', by omega, by omega, fun v hv => j2 (r + 1) (by omega) v hv⟩
              generalize out.push vb = out2 at G ⊢
            all_goals
              obtain ⟨m2, hx2, hy2, hv2⟩ := G
              have l2 := m2.lb
              obtain ⟨vb2, eb2, mb2⟩ := get_some (a := b) (show r + 1 < b.size by omega)
              have m3 := hi_pushA W m2 sa sb ea eb2 (W.asym _ _ (hv2 vb2 eb2))
              refine wpS_bind (elem_ok (i := n2 + 1 - 1) ea ?_)
              try dsimp only
              rw [show n2 + 1 - 1 = n2 from rfl]
              refine if_beq (fun c => wpS_pure ⟨nr, .inl ⟨_, rfl, hi_done m3 sa sb (.inl c)⟩⟩) fun c => ?_
              obtain ⟨n3, rfl⟩ : ∃ n3, n2 = n3 + 1 := ⟨n2 - 1, by omega⟩
              refine if_else (fun _ => wpS_pure ⟨nr, .inr ⟨_, _, _, _, _, _, rfl, m3, by omega⟩⟩) fun _ => ?_
              exact wpS_pure ⟨nr, _, _, _, _, _, _, rfl, m3, by omega, by omega⟩
end
end SOSort

namespace SOSort
open PySem PyProof.Rows
noncomputable def mergeAtM : Nat → StateT SortSt Sem Bool := sortPriv% PySem.Builtin.mergeAt
section
variable {α : Type}
theorem seg_get {P X S : List α} {i : Nat} (h : i < X.length) : (P ++ X ++ S)[P.length + i]? = X[i]? := by
  rw [List.append_assoc, List.getElem?_append_right (by omega), List.getElem?_append_left (by omega)]
  congr 1; omega
theorem lay_in (base : Nat) : ∀ (M P X S : List α) (c : Nat), M.length = X.length → P.length = base + c → (M.zipIdx c).foldl (fun a (z : α × Nat) => a.setIfInBounds (base + z.2) z.1) (P ++ X ++ S).toArray = (P ++ M ++ S).toArray
  | [], P, X, S, c, h, _ => by
    obtain rfl : X = [] := List.eq_nil_of_length_eq_zero h.symm
    rfl
  | v :: M, P, X, S, c, h, hp => by
    obtain ⟨w, X, rfl⟩ : ∃ w X', X = w :: X' := by
      cases X with
      | nil => exact nomatch h
      | cons w X => exact ⟨w, X, rfl⟩
    rw [List.zipIdx_cons, List.foldl_cons]
    have e : (P ++ w :: X ++ S).toArray.setIfInBounds (base + c) v = (P ++ [v] ++ X ++ S).toArray := by
      rw [List.setIfInBounds_toArray]
      congr 1
      rw [← hp, List.append_assoc, List.cons_append, List.set_append_right _ _ (Nat.le_refl _), Nat.sub_self, List.set_cons_zero]
      simp
    dsimp only
    rw [e, lay_in base M (P ++ [v]) X S (c + 1) (by simpa using h) (by rw [List.length_append]; simp; omega)]
    simp
theorem ext_seg {P X S : List α} {i j : Nat} (hi : i = P.length) (hj : j = P.length + X.length) : ((P ++ X ++ S).toArray.extract i j).toList = X := by
  rw [Array.toList_extract, List.extract_eq_drop_take, hi, hj, List.append_assoc, List.drop_left, Nat.add_sub_cancel_left, List.take_left]
end
section
variable {M : Model} {A : Around} {E : Value → Shared → Prop} {s : Shared} {κ : SortKind} {U : Keyed → Prop} {lt : Keyed → Keyed → Bool} {st : SortSt}
theorem set_ok {st' : SortSt} {Q : PUnit → SortSt → Prop} (q : Q ⟨⟩ st') : wpS M A E s (set st' : StateT SortSt Sem PUnit) Q st := by
  unfold wpS; rw [StateT.run_set]; exact wpAny_pure ⟨rfl, q⟩
theorem srt_getL {l : List Keyed} {i j : Nat} {x y : Keyed} (W : Swo lt) (hs : l.Pairwise (Le lt)) (h : i ≤ j) (hx : l[i]? = some x) (hy : l[j]? = some y) : Le lt x y :=
  head_le (R := Le lt) (i := i) W.rfl hs hx (List.mem_iff_getElem?.mpr ⟨j - i, by rw [List.getElem?_drop, show i + (j - i) = j by omega]; exact hy⟩)
theorem mergeAt_ok (L : LtOk M A E s κ U lt) (W : Swo lt) {p1 p2 : List (Nat × Nat × Nat)} {pw pw2 i sb na nb : Nat} {P X Y S : List Keyed} {Q : Bool → SortSt → Prop} (hk : kindOf st = κ) (hf : failedOf st = none)
    (ha : arrOf st = (P ++ X ++ Y ++ S).toArray) (hp : pendingOf st = (p1 ++ (P.length, na, pw) :: (sb, nb, pw2) :: p2).toArray) (hi : i = p1.length) (hsb : sb = P.length + X.length) (hna : na = X.length) (hnb : nb = Y.length)
    (uX : ∀ x ∈ X, U x) (uY : ∀ x ∈ Y, U x) (uP : ∀ x ∈ P, U x) (uS : ∀ x ∈ S, U x) (sX : X.Pairwise (Le lt)) (sY : Y.Pairwise (Le lt)) (nX : X ≠ []) (nY : Y ≠ [])
    (q : ∀ C st', kindOf st' = κ → failedOf st' = none → C.Pairwise (Le lt) → C.Perm (X ++ Y) → arrOf st' = (P ++ C ++ S).toArray → pendingOf st' = (p1 ++ (P.length, na + nb, pw) :: p2).toArray → Q true st') : wpS M A E s (mergeAtM i) Q st := by
  subst hi hsb hna hnb
  have lX := List.length_pos_iff.mpr nX
  have lY := List.length_pos_iff.mpr nY
  have e1 : (pendingOf st)[p1.length]? = some (P.length, X.length, pw) := by rw [hp, List.getElem?_toArray, List.getElem?_append_right (Nat.le_refl _), Nat.sub_self]; rfl
  have e2 : (pendingOf st)[p1.length + 1]? = some (P.length + X.length, Y.length, pw2) := by rw [hp, List.getElem?_toArray, List.getElem?_append_right (by omega), Nat.add_sub_cancel_left]; rfl
  have e3 : ((pendingOf st).setIfInBounds p1.length (P.length, X.length + Y.length, pw)).eraseIdxIfInBounds (p1.length + 1) = (p1 ++ (P.length, X.length + Y.length, pw) :: p2).toArray := by
    rw [hp, List.setIfInBounds_toArray, List.set_append_right _ _ (Nat.le_refl _), Nat.sub_self, List.set_cons_zero]
    simp [List.eraseIdx_append_of_length_le]
  have uA : ∀ x ∈ arrOf st, U x := fun x hx => by
    rw [ha] at hx
    simp only [List.mem_toArray, List.mem_append] at hx
    rcases hx with ((h | h) | h) | h
    · exact uP x h
    · exact uX x h
    · exact uY x h
    · exact uS x h
  have gX : ∀ n, n < X.length → (arrOf st)[P.length + n]? = X[n]? := fun n hn => by
    rw [ha, List.getElem?_toArray, List.append_assoc (P ++ X)]; exact seg_get hn
  have gY : ∀ n, n < Y.length → (arrOf st)[P.length + X.length + n]? = Y[n]? := fun n hn => by
    rw [ha, List.getElem?_toArray, ← List.length_append]; exact seg_get (P := P ++ X) hn
  have size : (arrOf st).size = P.length + X.length + Y.length + S.length := by rw [ha]; simp; omega
  obtain ⟨y0, hy0⟩ : ∃ y, Y[0]? = some y := ⟨Y[0], List.getElem?_eq_getElem lY⟩
  obtain ⟨xl, hxl⟩ : ∃ x, X[X.length - 1]? = some x := ⟨X[X.length - 1], List.getElem?_eq_getElem (by omega)⟩
  refine wpS_bind (wpS_get ?_)
  rw [e1, e2]
  dsimp only
  rw [e3]
  refine wpS_bind (set_ok ?_)
  refine wpS_bind (elem_ok (x := y0) (by rw [← hy0]; exact gY 0 lY) ?_)
  refine wpS_bind (gallopR_ok L W hk (uY y0 (List.mem_of_getElem? hy0)) uA lX (show P.length + X.length ≤ (arrOf st).size by omega) (fun i j x y h hj hx hy => srt_getL W sX h (by rw [← gX i (by omega)]; exact hx) (by rw [← gX j hj]; exact hy)) fun k k1 k2 k3 => ?_)
  dsimp only
  have toY : ∀ y ∈ Y, Le lt y0 y := fun y hy => head_le (R := Le lt) (i := 0) W.rfl sY hy0 (by simpa using hy)
  have toL : ∀ x ∈ X, Le lt x xl := fun x hx => by
    obtain ⟨n, hn⟩ := List.mem_iff_getElem?.mp hx
    have := (List.getElem?_eq_some_iff.mp hn).1
    exact srt_getL W sX (by omega) hn hxl
  have both : (∀ x ∈ X, Le lt x y0) → (X ++ Y).Pairwise (Le lt) := fun h => List.pairwise_append.mpr ⟨sX, sY, fun x hx y hy => W.trans _ _ _ (h x hx) (toY y hy)⟩
  refine if_beq (fun c => wpS_pure (q (X ++ Y) _ hk hf (both fun x hx => ?_) (.refl _) (by rw [ha, List.append_assoc P]) rfl)) fun c => ?_
  · obtain ⟨n, hn⟩ := List.mem_iff_getElem?.mp hx
    have := (List.getElem?_eq_some_iff.mp hn).1
    exact k2 n (by omega) x (by rw [← hn]; exact gX n this)
  refine wpS_bind (elem_ok (x := xl) (by rw [← hxl, show P.length + k + (X.length - k) - 1 = P.length + (X.length - 1) by omega]; exact gX _ (by omega)) ?_)
  refine wpS_bind (gallopL_ok L W hk (uX xl (List.mem_of_getElem? hxl)) uA (show Y.length - 1 < Y.length by omega) (show P.length + X.length + Y.length ≤ (arrOf st).size by omega) (fun i j x y h hj hx hy => srt_getL W sY h (by rw [← gY i (by omega)]; exact hx) (by rw [← gY j hj]; exact hy)) fun n n1 n2 n3 => ?_)
  dsimp only
  refine if_beq (fun c => wpS_pure (q (X ++ Y) _ hk hf (both fun x hx => W.trans _ _ _ (toL x hx) (n3 0 (by omega) lY y0 (by rw [← hy0]; exact gY 0 lY))) (.refl _) (by rw [ha, List.append_assoc P]) rfl)) fun c' => ?_
  have cutX : arrOf st = (P ++ X.take k ++ X.drop k ++ (Y ++ S)).toArray := by rw [ha, List.append_assoc P (X.take k), List.take_append_drop, ← List.append_assoc]
  have cutY : arrOf st = (P ++ X ++ Y.take n ++ (Y.drop n ++ S)).toArray := by rw [ha, ← List.append_assoc, List.append_assoc (P ++ X) (Y.take n), List.take_append_drop]
  have cut : arrOf st = (P ++ X.take k ++ (X.drop k ++ Y.take n) ++ (Y.drop n ++ S)).toArray := by
    rw [cutY]; congr 1
    rw [← List.append_assoc (P ++ X.take k), List.append_assoc P (X.take k), List.take_append_drop]
  have ex : ((arrOf st).extract (P.length + k) (P.length + X.length)).toList = X.drop k := by
    rw [cutX]
    exact ext_seg (by rw [List.length_append, List.length_take]; omega) (by rw [List.length_append, List.length_take, List.length_drop]; omega)
  have ey : ((arrOf st).extract (P.length + X.length) (P.length + X.length + n)).toList = Y.take n := by
    rw [cutY]
    exact ext_seg (by rw [List.length_append]) (by rw [List.length_append, List.length_take]; omega)
  have ax : ∀ m, ((arrOf st).extract (P.length + k) (P.length + X.length))[m]? = X[k + m]? := fun m => by rw [← Array.getElem?_toList, ex, List.getElem?_drop]
  have ay : ∀ m, m < n → ((arrOf st).extract (P.length + X.length) (P.length + X.length + n))[m]? = Y[m]? := fun m hm => by rw [← Array.getElem?_toList, ey, List.getElem?_take, if_pos hm]
  have sx : ((arrOf st).extract (P.length + k) (P.length + X.length)).toList.Pairwise (Le lt) := by rw [ex]; exact sX.sublist (List.drop_sublist _ _)
  have sy : ((arrOf st).extract (P.length + X.length) (P.length + X.length + n)).toList.Pairwise (Le lt) := by rw [ey]; exact sY.sublist (List.take_sublist _ _)
  have ux : ∀ x ∈ (arrOf st).extract (P.length + k) (P.length + X.length), U x := fun x hx => uX x (List.mem_of_mem_drop (by rw [← ex]; exact Array.mem_toList_iff.mpr hx))
  have uy : ∀ x ∈ (arrOf st).extract (P.length + X.length) (P.length + X.length + n), U x := fun x hx => uY x (List.mem_of_mem_take (by rw [← ey]; exact Array.mem_toList_iff.mpr hx))
  obtain ⟨x0, hx0⟩ : ∃ x, X[k]? = some x := ⟨X[k], List.getElem?_eq_getElem (by omega)⟩
  have low : Le lt y0 x0 := W.asym _ _ (k3 k (Nat.le_refl _) (by omega) x0 (by rw [← hx0]; exact gX k (by omega)))
  have nlt : ∀ y ∈ Y.take n, lt y xl = true := fun y hy => by
    obtain ⟨m, hm⟩ := List.mem_iff_getElem?.mp hy
    rw [List.getElem?_take] at hm
    split at hm
    · exact n2 m (by assumption) y (by rw [← hm]; exact gY m (by omega))
    · exact nomatch hm
  have sze : ((arrOf st).extract (P.length + k) (P.length + X.length)).size = X.length - k := by rw [← Array.length_toList, ex, List.length_drop]
  have high : ∀ x, ((arrOf st).extract (P.length + k) (P.length + X.length))[((arrOf st).extract (P.length + k) (P.length + X.length)).size - 1]? = some x → ∀ y ∈ (arrOf st).extract (P.length + X.length) (P.length + X.length + n), Le lt y x := fun x hx y hy => by
    rw [sze, ax, show k + (X.length - k - 1) = X.length - 1 by omega, hxl] at hx
    cases hx
    exact W.asym _ _ (nlt y (by rw [← ey]; exact Array.mem_toList_iff.mpr hy))
  have done : ∀ out : Array Keyed, Merged lt ((arrOf st).extract (P.length + k) (P.length + X.length)) ((arrOf st).extract (P.length + X.length) (P.length + X.length + n)) out →
      (X.take k ++ out.toList ++ Y.drop n).Pairwise (Le lt) ∧ (X.take k ++ out.toList ++ Y.drop n).Perm (X ++ Y) ∧
      out.toList.zipIdx.foldl (fun a (z : Keyed × Nat) => a.setIfInBounds (P.length + k + z.2) z.1) (arrOf st) = (P ++ (X.take k ++ out.toList ++ Y.drop n) ++ S).toArray := fun out ⟨o1, o2⟩ => by
    rw [ex, ey] at o2
    have inO : ∀ z ∈ out.toList, z ∈ X.drop k ∨ z ∈ Y.take n := fun z hz => List.mem_append.mp (o2.mem_iff.mp hz)
    have d1 : ∀ x ∈ X.take k, ∀ z ∈ X.drop k, Le lt x z := by
      have := sX
      rw [← List.take_append_drop k X] at this
      exact (List.pairwise_append.mp this).2.2
    have d2 : ∀ x ∈ Y.take n, ∀ z ∈ Y.drop n, Le lt x z := by
      have := sY
      rw [← List.take_append_drop n Y] at this
      exact (List.pairwise_append.mp this).2.2
    have d3 : ∀ x ∈ X.take k, ∀ z ∈ Y, Le lt x z := fun x hx z hz => by
      obtain ⟨m, hm⟩ := List.mem_iff_getElem?.mp hx
      rw [List.getElem?_take] at hm
      split at hm
      · exact W.trans _ _ _ (k2 m (by assumption) x (by rw [← hm]; exact gX m (by omega))) (toY z hz)
      · exact nomatch hm
    have d4 : ∀ x ∈ X, ∀ z ∈ Y.drop n, Le lt x z := fun x hx z hz => by
      obtain ⟨m, hm⟩ := List.mem_iff_getElem?.mp hz
      rw [List.getElem?_drop] at hm
      have hlt := (List.getElem?_eq_some_iff.mp hm).1
      exact W.trans _ _ _ (toL x hx) (n3 (n + m) (by omega) hlt z (by rw [← hm]; exact gY _ hlt))
    refine ⟨?_, ?_, ?_⟩
    · refine List.pairwise_append.mpr ⟨List.pairwise_append.mpr ⟨sX.sublist (List.take_sublist _ _), o1, fun x hx z hz => ?_⟩, sY.sublist (List.drop_sublist _ _), fun x hx z hz => ?_⟩
      · rcases inO z hz with h | h
        · exact d1 x hx z h
        · exact d3 x hx z (List.mem_of_mem_take h)
      · rcases List.mem_append.mp hx with hx | hx
        · exact d3 x hx z (List.mem_of_mem_drop hz)
        · rcases inO x hx with h | h
          · exact d4 x (List.mem_of_mem_drop h) z hz
          · exact d2 x h z hz
    · refine (((o2.append_left (X.take k)).append_right (Y.drop n))).trans ?_
      rw [← List.append_assoc, List.take_append_drop, List.append_assoc, List.take_append_drop]
    · rw [cut, lay_in (P.length + k) out.toList (P ++ X.take k) (X.drop k ++ Y.take n) (Y.drop n ++ S) 0 o2.length_eq (by rw [List.length_append, List.length_take]; omega)]
      congr 1
      simp only [List.append_assoc]
  refine if_else (fun _ => wpS_bind (mergeLo_ok L W (x0 := x0) (y0 := y0) hk ux uy sx sy (by rw [← hx0]; exact ax 0) (by rw [← hy0]; exact ay 0 (by omega)) low high fun out st2 nr hm => ?_))
    fun _ => wpS_bind (mergeHi_ok L W (x0 := x0) (y0 := y0) hk ux uy sx sy (by rw [← hx0]; exact ax 0) (by rw [← hy0]; exact ay 0 (by omega)) low high fun out st2 nr hm => ?_)
  all_goals
    refine wpS_bind (wpS_modify (wpS_bind (wpS_get (wpS_pure ?_))))
    have fn : failedOf st2 = none := nr.2.2.2.trans hf
    obtain ⟨d1, d2, d3⟩ := done out hm
    show Q (failedOf st2).isNone _
    rw [fn]
    exact q _ _ (nr.1.trans hk) fn d1 d2 (by show List.foldl _ (arrOf st2) _ = _; rw [nr.2.1]; exact d3) nr.2.2.1
end
end SOSort

namespace SOSort
open PySem PyProof.Rows
noncomputable def countRunM : Nat → Nat → StateT SortSt Sem (Option Nat) := sortPriv% PySem.Builtin.countRun
noncomputable def binarySortM : Nat → Nat → Nat → StateT SortSt Sem Bool := sortPriv% PySem.Builtin.binarySort
theorem rev_seg (P B S : List Keyed) {i j : Nat} (hi : i = P.length) (hj : j = P.length + B.length) : mirror (P ++ B ++ S).toArray i j ((j - i) / 2) = (P ++ B.reverse ++ S).toArray := by
  subst hi hj
  refine Array.ext_getElem? fun k => ?_
  rw [getElem?_mirror_all (by simp)]
  simp only [List.getElem?_toArray]
  rcases Nat.lt_or_ge k P.length with c | c
  · rw [if_neg (by omega), List.append_assoc, List.append_assoc, List.getElem?_append_left c, List.getElem?_append_left c]
  · obtain ⟨t, rfl⟩ : ∃ t, k = P.length + t := ⟨k - P.length, by omega⟩
    split
    · rename_i h
      rw [show P.length + (P.length + B.length) - 1 - (P.length + t) = P.length + (B.length - 1 - t) by omega, seg_get (by omega), seg_get (by rw [List.length_reverse]; omega), List.getElem?_reverse (by omega)]
    · rename_i h
      rw [List.getElem?_append_right (by rw [List.length_append]; omega), List.getElem?_append_right (by rw [List.length_append, List.length_reverse]; omega), List.length_append, List.length_append, List.length_reverse]
theorem move_seg (P X : List Keyed) (v : Keyed) (S : List Keyed) {src d : Nat} (hs : src = P.length + X.length) (hd : d = X.length) : bubble (P ++ X ++ v :: S).toArray src d = (P ++ v :: X ++ S).toArray := by
  subst hs hd
  refine Array.ext_getElem? fun k => ?_
  rw [getElem?_bubble (by simp) _ (by omega)]
  simp only [List.getElem?_toArray]
  have ev : (P ++ X ++ v :: S)[P.length + X.length]? = some v := by rw [List.getElem?_append_right (by rw [List.length_append]; omega)]; simp
  have e2 : P ++ v :: X ++ S = P ++ ([v] ++ X) ++ S := by simp
  rw [ev, e2]
  rcases Nat.lt_or_ge k P.length with c | c
  · rw [if_neg (by omega), if_neg (by omega), List.append_assoc, List.append_assoc, List.getElem?_append_left c, List.getElem?_append_left c]
  · obtain ⟨t, rfl⟩ : ∃ t, k = P.length + t := ⟨k - P.length, by omega⟩
    cases t with
    | zero => rw [if_pos (by omega), seg_get (by simp)]; rfl
    | succ t =>
      rw [if_neg (by omega)]
      split
      · rename_i h
        rw [show P.length + (t + 1) - 1 = P.length + t by omega, seg_get (by omega), seg_get (by simp; omega)]; rfl
      · rename_i h
        rw [List.getElem?_append_right (by rw [List.length_append]; omega), List.getElem?_append_right (by simp; omega)]
        obtain ⟨n, hn⟩ : ∃ n, t = X.length + n := ⟨t - X.length, by omega⟩
        subst hn
        rw [show P.length + (X.length + n + 1) - (P ++ X).length = n + 1 by rw [List.length_append]; omega, show P.length + (X.length + n + 1) - (P ++ ([v] ++ X)).length = n by simp; omega]; rfl
/-- all but the items and the gallop's number stays -/
structure Same (κ : SortKind) (pd : Array (Nat × Nat × Nat)) (l : List Keyed) (st : SortSt) : Prop where
  kind : kindOf st = κ
  fail : failedOf st = none
  pend : pendingOf st = pd
  arr : arrOf st = l.toArray
section
variable {M : Model} {A : Around} {E : Value → Shared → Prop} {s : Shared} {κ : SortKind} {U : Keyed → Prop} {lt : Keyed → Keyed → Bool} {st : SortSt} {pd : Array (Nat × Nat × Nat)} {l : List Keyed}
theorem ltAt_ok (L : LtOk M A E s κ U lt) {i j : Nat} {x y : Keyed} {Q : Option Bool → SortSt → Prop} (I : Same κ pd l st) (hu : ∀ x ∈ l, U x) (hi : l[i]? = some x) (hj : l[j]? = some y) (q : Q (some (lt x y)) st) : wpS M A E s (ltAt' i j) Q st := by
  rw [ltAt'_eq]
  refine wpS_bind (wpS_get ?_)
  refine wpS_bind (elem_ok (x := x) (by rw [I.arr, List.getElem?_toArray]; exact hi) ?_)
  refine wpS_bind (elem_ok (x := y) (by rw [I.arr, List.getElem?_toArray]; exact hj) ?_)
  exact L.run (hu x (List.mem_of_getElem? hi)) (hu y (List.mem_of_getElem? hj)) I.kind q
theorem reverse_ok {P B S : List Keyed} {i j : Nat} {Q : Unit → SortSt → Prop} (I : Same κ pd (P ++ B ++ S) st) (hi : i = P.length) (hj : j = P.length + B.length) (q : ∀ st', Same κ pd (P ++ B.reverse ++ S) st' → Q () st') : wpS M A E s (reverseSlice' i j) Q st := by
  rw [reverseSlice'_eq]
  refine wpS_modify (q _ ⟨I.kind, I.fail, I.pend, ?_⟩)
  show mirror (arrOf st) i j ((j - i) / 2) = _
  rw [I.arr, rev_seg P B S hi hj]
theorem moveDown_ok {P X S : List Keyed} {v : Keyed} {src dst : Nat} {Q : Unit → SortSt → Prop} (I : Same κ pd (P ++ X ++ v :: S) st) (hd : dst = P.length) (hs : src = P.length + X.length) (q : ∀ st', Same κ pd (P ++ v :: X ++ S) st' → Q () st') : wpS M A E s (moveDown' src dst) Q st := by
  rw [moveDown'_eq]
  refine wpS_modify (q _ ⟨I.kind, I.fail, I.pend, ?_⟩)
  show bubble (arrOf st) src (src - dst) = _
  rw [I.arr, move_seg P X v S hs (by omega)]
end
end SOSort

namespace SOSort
open PySem PyProof.Rows
section
variable {M : Model} {A : Around} {E : Value → Shared → Prop} {s : Shared} {κ : SortKind} {U : Keyed → Prop} {lt : Keyed → Keyed → Bool} {st : SortSt} {pd : Array (Nat × Nat × Nat)}
/-- a list in its parts: l items, the rest of the first k, the item there, what follows -/
theorem parts {R : List Keyed} {v : Keyed} {l k : Nat} (hv : R[k]? = some v) (h : l ≤ k) : R = R.take l ++ (R.take k).drop l ++ v :: R.drop (k + 1) := by
  obtain ⟨hk, e⟩ := List.getElem?_eq_some_iff.mp hv
  have e1 : (R.take k).take l = R.take l := by rw [List.take_take, Nat.min_eq_left h]
  rw [← e1, List.take_append_drop, ← e, ← List.drop_eq_getElem_cons hk, List.take_append_drop]
theorem binarySort_ok (L : LtOk M A E s κ U lt) (W : Swo lt) {P R : List Keyed} {lo n ok : Nat} {Q : Bool → SortSt → Prop} (I : Same κ pd (P ++ R) st) (hu : ∀ x ∈ P ++ R, U x) (hlo : lo = P.length) (h1 : 1 ≤ ok) (h2 : ok ≤ n) (h3 : n ≤ R.length) (hs : (R.take ok).Pairwise (Le lt))
    (q : ∀ R' st', Same κ pd (P ++ R') st' → R'.Perm R → (R'.take n).Pairwise (Le lt) → Q true st') : wpS M A E s (binarySortM lo n ok) Q st := by
  subst hlo
  refine wpS_bind (wpS_mono (wpS_forRange (I := fun k c st' => c = (none, ()) ∧ ∃ R', Same κ pd (P ++ R') st' ∧ R'.Perm R ∧ (R'.take k).Pairwise (Le lt)) (Q := fun c st' => c = (none, ()) ∧ ∃ R', Same κ pd (P ++ R') st' ∧ R'.Perm R ∧ (R'.take n).Pairwise (Le lt)) ?step ?fin
    ⟨rfl, R, I, .refl _, by rw [Nat.max_eq_left h1]; exact hs⟩) ?post)
  case fin =>
    rintro c st' ⟨e, R', I', p', s'⟩
    rw [Nat.max_eq_left h1, Nat.max_eq_right h2] at s'
    exact ⟨e, R', I', p', s'⟩
  case post =>
    rintro c st' ⟨rfl, R', I', p', s'⟩
    exact wpS_pure (q R' st' I' p' s')
  case step =>
    rintro k c st1 hk1 hk2 ⟨rfl, R', I', p', s'⟩
    have len := p'.length_eq
    obtain ⟨v, hv⟩ : ∃ v, R'[k]? = some v := ⟨R'[k], List.getElem?_eq_getElem (by omega)⟩
    have hu' : ∀ x ∈ P ++ R', U x := fun x hx => hu x ((p'.append_left P).mem_iff.mp hx)
    have atR : ∀ m, (P ++ R')[P.length + m]? = R'[m]? := fun m => by rw [List.getElem?_append_right (by omega)]; congr 1; omega
    have tk : ∀ m, m < k → (R'.take k)[m]? = R'[m]? := fun m hm => by rw [List.getElem?_take, if_pos hm]
    dsimp only
    refine wpS_bind (wpS_mono (wpS_forRange (I := fun i c st' => st' = st1 ∧ ∃ l r, c = (none, l, r) ∧ l ≤ r ∧ r ≤ k ∧ r - l ≤ k - i ∧ (∀ m x, m < l → R'[m]? = some x → Le lt x v) ∧ (∀ m x, r ≤ m → m < k → R'[m]? = some x → Le lt v x))
      (Q := fun c st' => st' = st1 ∧ ∃ l, c = (none, l, l) ∧ l ≤ k ∧ (∀ m x, m < l → R'[m]? = some x → Le lt x v) ∧ (∀ m x, l ≤ m → m < k → R'[m]? = some x → Le lt v x)) ?s1 ?f1
      ⟨rfl, 0, k, rfl, by omega, by omega, by omega, fun m x h => absurd h (by omega), fun m x h h' => absurd h (by omega)⟩) ?p1)
    case f1 =>
      rintro c st' ⟨e, l, r, rfl, g1, g2, g3, g4, g5⟩
      obtain rfl : l = r := by omega
      exact ⟨e, l, rfl, g2, g4, g5⟩
    case s1 =>
      rintro i c st' _ hi ⟨rfl, l, r, rfl, g1, g2, g3, g4, g5⟩
      dsimp only
      refine if_else (fun c => ?_) (fun c => ?_)
      · obtain rfl : l = r := by omega
        exact wpS_pure ⟨rfl, l, rfl, g2, g4, g5⟩
      · obtain ⟨x, hx⟩ : ∃ x, R'[(l + r) / 2]? = some x := ⟨R'[(l + r) / 2]'(by omega), List.getElem?_eq_getElem (by omega)⟩
        refine wpS_bind (ltAt_ok L I' hu' (by rw [atR]; exact hv) (by rw [atR]; exact hx) ?_)
        have near : ∀ m y, m < k → R'[m]? = some y → (m ≤ (l + r) / 2 → Le lt y x) ∧ ((l + r) / 2 ≤ m → Le lt x y) := fun m y hm hy =>
          ⟨fun h => srt_getL W s' h (by rw [tk m hm]; exact hy) (by rw [tk _ (by omega)]; exact hx), fun h => srt_getL W s' h (by rw [tk _ (by omega)]; exact hx) (by rw [tk m hm]; exact hy)⟩
        cases z : lt v x with
        | true =>
          exact wpS_pure ⟨rfl, l, (l + r) / 2, rfl, by omega, by omega, by omega, g4, fun m y h h' hy => W.trans _ _ _ (W.asym _ _ z) ((near m y h' hy).2 h)⟩
        | false =>
          exact wpS_pure ⟨rfl, (l + r) / 2 + 1, r, rfl, by omega, by omega, by omega, fun m y h hy => W.trans _ _ _ ((near m y (by omega) hy).1 (by omega)) z, g5⟩
    case p1 =>
      rintro c st' ⟨rfl, l, rfl, g2, g4, g5⟩
      dsimp only
      have pt := parts hv g2
      have lt1 : (R'.take l).length = l := by rw [List.length_take]; omega
      have lt2 : ((R'.take k).drop l).length = k - l := by rw [List.length_drop, List.length_take]; omega
      refine wpS_bind (moveDown_ok (P := P ++ R'.take l) (X := (R'.take k).drop l) (v := v) (S := R'.drop (k + 1)) (by rw [List.append_assoc P, List.append_assoc P, ← pt]; exact I') (by rw [List.length_append, lt1]) (by rw [List.length_append, lt1, lt2]; omega) fun st2 I2 => wpS_pure ⟨rfl, R'.take l ++ v :: (R'.take k).drop l ++ R'.drop (k + 1), by simpa only [List.append_assoc] using I2, ?_, ?_⟩)
      · refine List.Perm.trans ?_ p'
        conv => rhs; rw [pt]
        rw [List.append_assoc, List.append_assoc]
        exact List.Perm.append_left _ List.perm_middle.symm
      · have e : (R'.take l ++ v :: (R'.take k).drop l ++ R'.drop (k + 1)).take (k + 1) = R'.take l ++ v :: (R'.take k).drop l := List.take_left' (by rw [List.length_append, List.length_cons, lt1, lt2]; omega)
        rw [e]
        have e1 : (R'.take k).take l = R'.take l := by rw [List.take_take, Nat.min_eq_left g2]
        have sp := s'
        rw [← List.take_append_drop l (R'.take k), e1, List.pairwise_append] at sp
        have inL : ∀ x ∈ R'.take l, Le lt x v := fun x hx => by
          obtain ⟨m, hm⟩ := List.mem_iff_getElem?.mp hx
          rw [List.getElem?_take] at hm
          split at hm
          · exact g4 m x (by assumption) hm
          · exact nomatch hm
        have inR : ∀ x ∈ (R'.take k).drop l, Le lt v x := fun x hx => by
          obtain ⟨m, hm⟩ := List.mem_iff_getElem?.mp hx
          rw [List.getElem?_drop, List.getElem?_take] at hm
          split at hm
          · exact g5 (l + m) x (by omega) (by assumption) hm
          · exact nomatch hm
        refine List.pairwise_append.mpr ⟨sp.1, List.pairwise_cons.mpr ⟨inR, sp.2.1⟩, fun x hx y hy => ?_⟩
        obtain rfl | hy := List.mem_cons.mp hy
        · exact inL x hx
        · exact sp.2.2 x hx y hy
end
end SOSort

namespace SOSort
open PySem PyProof.Rows
section
variable {lt : Keyed → Keyed → Bool} {R : List Keyed} {i j n : Nat} {x y : Keyed}
theorem parts2 (R : List Keyed) {j i : Nat} (h : j ≤ i) : R.take j ++ (R.take i).drop j ++ R.drop i = R := by
  have e1 : (R.take i).take j = R.take j := by rw [List.take_take, Nat.min_eq_left h]
  rw [← e1, List.take_append_drop, List.take_append_drop]
theorem take_snoc (hx : R[i]? = some x) : R.take (i + 1) = R.take i ++ [x] := by
  obtain ⟨hi, e⟩ := List.getElem?_eq_some_iff.mp hx
  rw [List.take_succ_eq_append_getElem hi, e]
/-- a sorted beginning takes up one more -/
theorem grow {Rel : Keyed → Keyed → Prop} (tr : ∀ a b c, Rel a b → Rel b c → Rel a c) (rf : ∀ a, Rel a a) (hs : (R.take (i + 1)).Pairwise Rel) (hy : R[i]? = some y) (hx : R[i + 1]? = some x) (h : Rel y x) : (R.take (i + 1 + 1)).Pairwise Rel := by
  rw [take_snoc hx]
  refine List.pairwise_append.mpr ⟨hs, List.pairwise_singleton _ _, fun z hz w hw => ?_⟩
  rw [List.mem_singleton.mp hw]
  rw [take_snoc hy] at hs hz
  rcases List.mem_append.mp hz with hz | hz
  · exact tr _ _ _ ((List.pairwise_append.mp hs).2.2 z hz y (by simp)) h
  · rw [List.mem_singleton.mp hz]; exact h
theorem in_slice {a : Keyed} (h : a ∈ (R.take i).drop j) : ∃ t, j ≤ t ∧ t < i ∧ R[t]? = some a := by
  obtain ⟨m, hm⟩ := List.mem_iff_getElem?.mp h
  rw [List.getElem?_drop, List.getElem?_take] at hm
  split at hm
  · exact ⟨j + m, by omega, by assumption, hm⟩
  · exact nomatch hm
theorem in_take {a : Keyed} (h : a ∈ R.take i) : ∃ t, t < i ∧ R[t]? = some a := by
  obtain ⟨t, _, h2, h3⟩ := in_slice (j := 0) (by simpa using h)
  exact ⟨t, h2, h3⟩
theorem get_take {a : Keyed} {t : Nat} (h : t < i) (ha : R[t]? = some a) : a ∈ R.take i := List.mem_iff_getElem?.mpr ⟨t, by rw [List.getElem?_take, if_pos h]; exact ha⟩
/-- items that are alike, turned round -/
theorem turn_alike (h : j ≤ i) (hs : (R.take i).Pairwise (Ge lt)) (eq : ∀ a ∈ (R.take i).drop j, ∀ b ∈ (R.take i).drop j, Le lt a b) (hi : i ≤ R.length) :
    (R.take j ++ ((R.take i).drop j).reverse ++ R.drop i).Perm R ∧ ((R.take j ++ ((R.take i).drop j).reverse ++ R.drop i).take i).Pairwise (Ge lt) ∧ (∀ m, i ≤ m → (R.take j ++ ((R.take i).drop j).reverse ++ R.drop i)[m]? = R[m]?) ∧
      ∀ z, z ∈ (R.take j ++ ((R.take i).drop j).reverse ++ R.drop i).take i → z ∈ R.take i := by
  have len : (R.take j ++ ((R.take i).drop j).reverse).length = i := by rw [List.length_append, List.length_reverse, List.length_drop, List.length_take, List.length_take]; omega
  have e1 : (R.take i).take j = R.take j := by rw [List.take_take, Nat.min_eq_left h]
  have sp := hs
  rw [← List.take_append_drop j (R.take i), e1, List.pairwise_append] at sp
  refine ⟨?_, ?_, fun m hm => ?_, fun z hz => ?_⟩
  · conv => rhs; rw [← parts2 R h]
    exact ((List.reverse_perm _).append_left _).append_right _
  · rw [List.take_left' len]
    refine List.pairwise_append.mpr ⟨sp.1, ?_, fun a ha b hb => sp.2.2 a ha b (List.mem_reverse.mp hb)⟩
    refine List.pairwise_reverse.mpr (List.Pairwise.imp_of_mem (R := fun _ _ => True) (fun {a b} ha hb _ => eq a ha b hb) (List.pairwise_of_forall fun _ _ => trivial))
  · rw [List.getElem?_append_right (by omega), len, List.getElem?_drop]; congr 1; omega
  · rw [List.take_left' len] at hz
    rw [← List.take_append_drop j (R.take i), e1]
    rcases List.mem_append.mp hz with hz | hz
    · exact List.mem_append_left _ hz
    · exact List.mem_append_right _ (List.mem_reverse.mp hz)
end
section
variable {M : Model} {A : Around} {E : Value → Shared → Prop} {s : Shared} {κ : SortKind} {U : Keyed → Prop} {lt : Keyed → Keyed → Bool} {st : SortSt} {pd : Array (Nat × Nat × Nat)}
theorem rise_ok (W : Swo lt) {f : Nat → Option (Option Nat) × Nat → StateT SortSt Sem (ForInStep (Option (Option Nat) × Nat))} {R : List Keyed} {n0 N : Nat} {Q : Option (Option Nat) × Nat → SortSt → Prop} (hN : N = R.length) (h0 : n0 + 1 ≤ N)
    (hf : ∀ x n y z (T : ForInStep (Option (Option Nat) × Nat) → SortSt → Prop), R[n + 1]? = some z → R[n]? = some y → (lt z y = true → T (.done (none, n + 1)) st) → (lt z y = false → T (.yield (none, n + 1 + 1)) st) → wpS M A E s (f x (none, n + 1)) T st)
    (hs : (R.take (n0 + 1)).Pairwise (Le lt)) (q : ∀ n, n0 ≤ n → n + 1 ≤ N → (R.take (n + 1)).Pairwise (Le lt) → (n + 1 = N ∨ ∃ y z, R[n]? = some y ∧ R[n + 1]? = some z ∧ lt z y = true) → Q (none, n + 1) st) : wpS M A E s (forIn [n0 + 1:N] (none, n0 + 1) f) Q st := by
  refine wpS_forRange (I := fun i c st' => st' = st ∧ ∃ n, i = n + 1 ∧ c = (none, n + 1) ∧ n0 ≤ n ∧ (R.take (n + 1)).Pairwise (Le lt)) ?_ ?_ ⟨rfl, n0, rfl, rfl, Nat.le_refl _, hs⟩
  · rintro i c st' _ hi ⟨rfl, n, rfl, rfl, hn, hsn⟩
    obtain ⟨y, hy⟩ : ∃ y, R[n]? = some y := ⟨R[n]'(by omega), List.getElem?_eq_getElem (by omega)⟩
    obtain ⟨z, hz⟩ : ∃ z, R[n + 1]? = some z := ⟨R[n + 1]'(by omega), List.getElem?_eq_getElem (by omega)⟩
    refine hf _ n y z _ hz hy (fun e => q n hn (by omega) hsn (.inr ⟨y, z, hy, hz, e⟩)) fun e => ⟨rfl, n + 1, rfl, rfl, by omega, grow (fun a b c => W.trans a b c) W.rfl hsn hy hz e⟩
  · rintro c st' ⟨rfl, n, e, rfl, hn, hsn⟩
    exact q n hn (by omega) hsn (.inl (by omega))
theorem countRun_ok (L : LtOk M A E s κ U lt) (W : Swo lt) {P R : List Keyed} {lo N : Nat} {Q : Option Nat → SortSt → Prop} (I : Same κ pd (P ++ R) st) (hu : ∀ x ∈ P ++ R, U x) (hlo : lo = P.length) (hN : N = R.length) (h1 : 1 ≤ N)
    (q : ∀ n R' st', Same κ pd (P ++ R') st' → R'.Perm R → 1 ≤ n → n ≤ N → (R'.take n).Pairwise (Le lt) → Q (some n) st') : wpS M A E s (countRunM lo N) Q st := by
  subst hlo
  have atR : ∀ (R' : List Keyed) m, (P ++ R')[P.length + m]? = R'[m]? := fun R' m => by rw [List.getElem?_append_right (by omega)]; congr 1; omega
  have ask : ∀ {R' : List Keyed} {st' : SortSt} {n : Nat} {y z : Keyed} {T : Option Bool → SortSt → Prop}, Same κ pd (P ++ R') st' → R'.Perm R → R'[n + 1]? = some z → R'[n]? = some y → T (some (lt z y)) st' → wpS M A E s (ltAt' (P.length + (n + 1)) (P.length + (n + 1) - 1)) T st' :=
    fun {R' st' n y z T} I' p' hz hy t => ltAt_ok L I' (fun x hx => hu x ((p'.append_left P).mem_iff.mp hx)) (by rw [atR]; exact hz) (by rw [show P.length + (n + 1) - 1 = P.length + n by omega, atR]; exact hy) t
  refine wpS_bind (rise_ok W (n0 := 0) hN (by omega) (fun x n y z T hz hy t1 t2 => ?_) (by
    cases R with
    | nil => simp
    | cons a R => simp) fun n _ hn hs hd => ?_)
  · refine wpS_bind (ask I (.refl _) hz hy ?_)
    cases e : lt z y with
    | true => exact wpS_pure (t1 e)
    | false => exact wpS_pure (t2 e)
  dsimp only
  refine if_beq (fun c => wpS_pure (q _ R st I (.refl _) (by omega) (by omega) hs)) fun c => ?_
  obtain ⟨y, z, hy, hz, hzy⟩ : ∃ y z, R[n]? = some y ∧ R[n + 1]? = some z ∧ lt z y = true := hd.resolve_left c
  have gtr : ∀ a b c, Ge lt a b → Ge lt b c → Ge lt a c := fun a b c h h' => W.trans c b a h' h
  have grf : ∀ a, Ge lt a a := fun a => W.rfl a
  rcases Nat.eq_zero_or_pos n with h | h
  case' inl =>
    rw [if_neg (by omega)]
    have F : ∃ R', Same κ pd (P ++ R') st ∧ R'.Perm R ∧ (R'.take (n + 1 + 1)).Pairwise (Ge lt) := by
      refine ⟨R, I, .refl _, grow gtr grf ?_ hy hz (W.asym _ _ hzy)⟩
      subst h
      cases R with
      | nil => simp
      | cons a R => simp
  case' inr =>
    rw [if_pos (by omega)]
    obtain ⟨a, ha⟩ : ∃ a, R[0]? = some a := ⟨R[0]'(by omega), List.getElem?_eq_getElem (by omega)⟩
    refine wpS_bind (ltAt_ok L I hu (x := a) (y := y) (by rw [← ha]; exact atR R 0) (by rw [show P.length + (n + 1) - 1 = P.length + n by omega, atR]; exact hy) ?_)
    dsimp only
    refine if_else (fun _ => wpS_pure (q _ R st I (.refl _) (by omega) (by omega) hs)) fun e => ?_
    have e' : Le lt y a := by simpa using e
    have al : ∀ u ∈ R.take (n + 1), ∀ v ∈ R.take (n + 1), Le lt u v := fun u hu v hv => by
      obtain ⟨t, t1, t2⟩ := in_take hu
      obtain ⟨w, w1, w2⟩ := in_take hv
      have gt : ∀ m, m < n + 1 → (R.take (n + 1))[m]? = R[m]? := fun m hm => by rw [List.getElem?_take, if_pos hm]
      exact W.trans _ _ _ (srt_getL W hs (show t ≤ n by omega) (by rw [gt t t1]; exact t2) (by rw [gt n (by omega)]; exact hy)) (W.trans _ _ _ e' (srt_getL W hs (Nat.zero_le w) (by rw [gt 0 (by omega)]; exact ha) (by rw [gt w w1]; exact w2)))
    have dn : (R.take (n + 1)).Pairwise (Ge lt) := List.Pairwise.imp_of_mem (R := fun _ _ => True) (fun {u v} hu hv _ => al v hv u hu) (List.pairwise_of_forall fun _ _ => trivial)
    obtain ⟨t1, t2, t3, t4⟩ := turn_alike (j := 0) (Nat.zero_le _) dn (by simpa using al) (by omega)
    refine wpS_bind (reverse_ok (P := P) (B := R.take (n + 1)) (S := R.drop (n + 1)) (by rw [List.append_assoc, List.take_append_drop]; exact I) rfl (by rw [List.length_take]; omega) fun st2 I2 => ?_)
    have F : ∃ R', Same κ pd (P ++ R') st2 ∧ R'.Perm R ∧ (R'.take (n + 1 + 1)).Pairwise (Ge lt) := by
      refine ⟨_, by simpa [List.append_assoc] using I2, t1, ?_⟩
      have len := t1.length_eq
      obtain ⟨y', hy'⟩ : ∃ y', (R.take 0 ++ ((R.take (n + 1)).drop 0).reverse ++ R.drop (n + 1))[n]? = some y' := ⟨_, List.getElem?_eq_getElem (by omega)⟩
      exact grow gtr grf t2 hy' ((t3 (n + 1) (Nat.le_refl _)).trans hz) (W.trans _ _ _ (W.asym _ _ hzy) (al y (get_take (by omega) hy) y' (t4 y' (get_take (by omega) hy'))))
  all_goals
    clear hs hd
    obtain ⟨R1, I1, p1, d1⟩ := F
    have len1 := p1.length_eq
    refine wpS_bind (rule_ok ?_)
    refine wpS_bind (wpS_mono (wpS_forRange (I := fun i c st' => ∃ R' e, c = (none, i, e) ∧ Same κ pd (P ++ R') st' ∧ R'.Perm R ∧ (R'.take i).Pairwise (Ge lt) ∧ e + 1 ≤ i ∧ ∀ t u a b, i - (e + 1) ≤ t → t < i → i - (e + 1) ≤ u → u < i → R'[t]? = some a → R'[u]? = some b → Le lt a b)
      (Q := fun c st' => ∃ i R' e, c = (none, i, e) ∧ 1 ≤ i ∧ i ≤ N ∧ Same κ pd (P ++ R') st' ∧ R'.Perm R ∧ (R'.take i).Pairwise (Ge lt) ∧ e + 1 ≤ i ∧ ∀ t u a b, i - (e + 1) ≤ t → t < i → i - (e + 1) ≤ u → u < i → R'[t]? = some a → R'[u]? = some b → Le lt a b) ?_ ?_
      ⟨R1, 0, rfl, I1, p1, d1, by omega, fun t u a b h1 h2 h3 h4 ha hb => by
        obtain rfl : t = u := by omega
        rw [ha] at hb; cases hb; exact W.rfl a⟩) ?_)
    · rintro i c st' hi1 hi2 ⟨R', e, rfl, I', p', d', he, al⟩
      have len := p'.length_eq
      obtain ⟨m, rfl⟩ : ∃ m, i = m + 1 := ⟨i - 1, by omega⟩
      obtain ⟨y, hy⟩ : ∃ y, R'[m]? = some y := ⟨R'[m]'(by omega), List.getElem?_eq_getElem (by omega)⟩
      obtain ⟨z, hz⟩ : ∃ z, R'[m + 1]? = some z := ⟨R'[m + 1]'(by omega), List.getElem?_eq_getElem (by omega)⟩
      have alm : ∀ a ∈ (R'.take (m + 1)).drop (m + 1 - (e + 1)), ∀ b ∈ (R'.take (m + 1)).drop (m + 1 - (e + 1)), Le lt a b := fun a ha b hb => by
        obtain ⟨t, t1, t2, t3⟩ := in_slice ha
        obtain ⟨u, u1, u2, u3⟩ := in_slice hb
        exact al t u a b t1 t2 u1 u2 t3 u3
      have one : ∀ (R'' : List Keyed) t u a b, m + 1 + 1 - (0 + 1) ≤ t → t < m + 1 + 1 → m + 1 + 1 - (0 + 1) ≤ u → u < m + 1 + 1 → R''[t]? = some a → R''[u]? = some b → Le lt a b := fun R'' t u a b h1 h2 h3 h4 ha hb => by
        obtain rfl : t = u := by omega
        rw [ha] at hb; cases hb; exact W.rfl a
      dsimp only
      refine wpS_bind (ask I' p' hz hy ?_)
      cases g : lt z y with
      | true =>
        refine if_else (fun _ => if_else (fun he0 => ?_) (fun _ => ?_)) (fun h => absurd rfl h)
        · obtain ⟨t1, t2, t3, t4⟩ := turn_alike (show m + 1 - (e + 1) ≤ m + 1 by omega) d' alm (by omega)
          refine wpS_bind (reverse_ok (P := P ++ R'.take (m + 1 - (e + 1))) (B := (R'.take (m + 1)).drop (m + 1 - (e + 1))) (S := R'.drop (m + 1)) (by rw [List.append_assoc P, List.append_assoc P, parts2 R' (by omega)]; exact I')
            (by rw [List.length_append, List.length_take]; omega) (by rw [List.length_append, List.length_take, List.length_drop, List.length_take]; omega) fun st2 I2 => wpS_pure ⟨_, 0, rfl, by simpa only [List.append_assoc] using I2, t1.trans p', ?_, by omega, one _⟩)
          have len2 := t1.length_eq
          obtain ⟨y', hy'⟩ : ∃ y', (R'.take (m + 1 - (e + 1)) ++ ((R'.take (m + 1)).drop (m + 1 - (e + 1))).reverse ++ R'.drop (m + 1))[m]? = some y' := ⟨_, List.getElem?_eq_getElem (by omega)⟩
          obtain ⟨t, tl, ht⟩ := in_take (t4 y' (get_take (by omega) hy'))
          have gt : ∀ k, k < m + 1 → (R'.take (m + 1))[k]? = R'[k]? := fun k hk => by rw [List.getElem?_take, if_pos hk]
          have yy : Ge lt y' y := head_le (R := Ge lt) (i := t) grf d' (by rw [gt t tl]; exact ht) (List.mem_iff_getElem?.mpr ⟨m - t, by rw [List.getElem?_drop, show t + (m - t) = m by omega, gt m (by omega)]; exact hy⟩)
          exact grow gtr grf t2 hy' ((t3 (m + 1) (Nat.le_refl _)).trans hz) (W.trans _ _ _ (W.asym _ _ g) yy)
        · exact wpS_pure ⟨R', 0, rfl, I', p', grow gtr grf d' hy hz (W.asym _ _ g), by omega, one _⟩
      | false =>
        refine wpS_bind (ltAt_ok L I' (fun x hx => hu x ((p'.append_left P).mem_iff.mp hx)) (x := y) (y := z) (by rw [show P.length + (m + 1) - 1 = P.length + m by omega, atR]; exact hy) (by rw [atR]; exact hz) ?_)
        cases g2 : lt y z with
        | true => exact wpS_pure ⟨m + 1, R', e, rfl, by omega, by omega, I', p', d', he, al⟩
        | false =>
          refine wpS_pure ⟨R', e + 1, rfl, I', p', grow gtr grf d' hy hz g2, by omega, fun t u a b h1 h2 h3 h4 ha hb => ?_⟩
          rcases Nat.lt_or_ge t (m + 1) with c1 | c1 <;> rcases Nat.lt_or_ge u (m + 1) with c2 | c2
          · exact al t u a b (by omega) c1 (by omega) c2 ha hb
          · obtain rfl : u = m + 1 := by omega
            rw [hz] at hb; cases hb
            exact W.trans _ _ _ (al t m a y (by omega) c1 (by omega) (by omega) ha hy) g
          · obtain rfl : t = m + 1 := by omega
            rw [hz] at ha; cases ha
            exact W.trans _ _ _ g2 (al m u y b (by omega) (by omega) (by omega) c2 hy hb)
          · obtain rfl : t = m + 1 := by omega
            obtain rfl : u = m + 1 := by omega
            rw [ha] at hb; cases hb; exact W.rfl a
    · rintro c st' ⟨R', e, rfl, I', p', d', he, al⟩
      exact ⟨_, R', e, rfl, by omega, by omega, I', p', d', he, al⟩
    · rintro c st' ⟨i, R', e, rfl, hi1, hi2, I', p', d', he, al⟩
      have len := p'.length_eq
      dsimp only
      rcases Nat.eq_zero_or_pos e with h | h
      case' inl =>
        rw [if_neg (by omega)]
        have G : ∃ R', Same κ pd (P ++ R') st' ∧ R'.Perm R ∧ (R'.take i).Pairwise (Ge lt) := ⟨R', I', p', d'⟩
      case' inr =>
        rw [if_pos h]
        obtain ⟨t1, t2, _, _⟩ := turn_alike (show i - (e + 1) ≤ i by omega) d' (fun a ha b hb => by
          obtain ⟨t, t1, t2, t3⟩ := in_slice ha
          obtain ⟨u, u1, u2, u3⟩ := in_slice hb
          exact al t u a b t1 t2 u1 u2 t3 u3) (by omega)
        refine wpS_bind (reverse_ok (P := P ++ R'.take (i - (e + 1))) (B := (R'.take i).drop (i - (e + 1))) (S := R'.drop i) (by rw [List.append_assoc P, List.append_assoc P, parts2 R' (by omega)]; exact I')
            (by rw [List.length_append, List.length_take]; omega) (by rw [List.length_append, List.length_take, List.length_drop, List.length_take]; omega) fun st2 I2 => ?_)
        have G : ∃ R', Same κ pd (P ++ R') st2 ∧ R'.Perm R ∧ (R'.take i).Pairwise (Ge lt) := ⟨_, by simpa only [List.append_assoc] using I2, t1.trans p', t2⟩
      all_goals
        obtain ⟨R2, I2', p2, d2⟩ := G
        have len2 := p2.length_eq
        obtain ⟨m, rfl⟩ : ∃ m, i = m + 1 := ⟨i - 1, by omega⟩
        refine wpS_bind (reverse_ok (P := P) (B := R2.take (m + 1)) (S := R2.drop (m + 1)) (by rw [List.append_assoc, List.take_append_drop]; exact I2') rfl (by rw [List.length_take]; omega) fun st3 I3 => ?_)
        have p3 : ((R2.take (m + 1)).reverse ++ R2.drop (m + 1)).Perm R := by
          refine List.Perm.trans ?_ p2
          conv => rhs; rw [← List.take_append_drop (m + 1) R2]
          exact (List.reverse_perm _).append_right _
        have I3' : Same κ pd (P ++ ((R2.take (m + 1)).reverse ++ R2.drop (m + 1))) st3 := by rw [← List.append_assoc]; exact I3
        have d3 : (((R2.take (m + 1)).reverse ++ R2.drop (m + 1)).take (m + 1)).Pairwise (Le lt) := by
          rw [List.take_left' (by rw [List.length_reverse, List.length_take]; omega)]
          exact List.pairwise_reverse.mpr d2
        generalize (R2.take (m + 1)).reverse ++ R2.drop (m + 1) = R3 at p3 I3' d3
        refine wpS_bind (rise_ok W (n0 := m) (hN.trans p3.length_eq.symm) hi2 (fun x n y z T hz hy t1 t2 => ?_) d3 fun n _ hn hs _ => wpS_pure (q _ R3 st3 I3' p3 (by omega) hn hs))
        refine wpS_bind (ask I3' p3 hz hy ?_)
        cases e : lt z y with
        | true => exact wpS_pure (t1 e)
        | false => exact wpS_pure (t2 e)
end
end SOSort

namespace SOSort
open PySem PyProof.Rows
/-- how the pending runs lie, from o on -/
inductive Laid (lt : Keyed → Keyed → Bool) : Nat → List (Nat × Nat × Nat) → List (List Keyed) → Prop
  | nil (o : Nat) : Laid lt o [] []
  | cons {o w : Nat} {r : List Keyed} {ps : List (Nat × Nat × Nat)} {rs : List (List Keyed)} : r ≠ [] → r.Pairwise (Le lt) → Laid lt (o + r.length) ps rs → Laid lt o ((o, r.length, w) :: ps) (r :: rs)
section
variable {lt : Keyed → Keyed → Bool}
theorem Laid.append {ps' : List (Nat × Nat × Nat)} {rs' : List (List Keyed)} : ∀ {o : Nat} {ps : List (Nat × Nat × Nat)} {rs : List (List Keyed)}, Laid lt o ps rs → Laid lt (o + rs.flatten.length) ps' rs' → Laid lt o (ps ++ ps') (rs ++ rs')
  | _, _, _, .nil o, h => by simpa using h
  | _, _, _, .cons (o := o) (r := r) (rs := rs) h1 h2 h3, h => .cons h1 h2 (h3.append (by rwa [List.flatten_cons, List.length_append, ← Nat.add_assoc] at h))
theorem Laid.split : ∀ {p1 p2 : List (Nat × Nat × Nat)} {o : Nat} {rs : List (List Keyed)}, Laid lt o (p1 ++ p2) rs → ∃ r1 r2, rs = r1 ++ r2 ∧ Laid lt o p1 r1 ∧ Laid lt (o + r1.flatten.length) p2 r2
  | [], p2, o, rs, h => ⟨[], rs, rfl, .nil o, by simpa using h⟩
  | a :: p1, p2, o, rs, h => by
    cases h with
    | cons h1 h2 h3 =>
      obtain ⟨r1, r2, e, k1, k2⟩ := h3.split
      exact ⟨_ :: r1, r2, by rw [e]; rfl, .cons h1 h2 k1, by rw [List.flatten_cons, List.length_append, ← Nat.add_assoc]; exact k2⟩
theorem Laid.size : ∀ {o : Nat} {ps : List (Nat × Nat × Nat)} {rs : List (List Keyed)}, Laid lt o ps rs → ps.length ≤ rs.flatten.length
  | _, _, _, .nil o => Nat.le_refl _
  | _, _, _, .cons (r := r) h1 h2 h3 => by
    have := h3.size
    have := List.length_pos_iff.mpr h1
    rw [List.flatten_cons, List.length_append, List.length_cons]; omega
end
section
variable {M : Model} {A : Around} {E : Value → Shared → Prop} {s : Shared} {κ : SortKind} {U : Keyed → Prop} {lt : Keyed → Keyed → Bool} {st : SortSt}
theorem merge_step (L : LtOk M A E s κ U lt) (W : Swo lt) {ps : List (Nat × Nat × Nat)} {rs : List (List Keyed)} {rest : List Keyed} {i : Nat} {Q : Bool → SortSt → Prop} (I : Same κ ps.toArray (rs.flatten ++ rest) st) (hu : ∀ x ∈ rs.flatten ++ rest, U x) (lay : Laid lt 0 ps rs) (hi : i + 1 < ps.length)
    (q : ∀ ps' rs' st', Same κ ps'.toArray (rs'.flatten ++ rest) st' → Laid lt 0 ps' rs' → rs'.flatten.Perm rs.flatten → ps'.length + 1 = ps.length → Q true st') : wpS M A E s (mergeAtM i) Q st := by
  obtain ⟨p1, a, b, p2, rfl, rfl⟩ : ∃ p1 a b p2, ps = p1 ++ a :: b :: p2 ∧ i = p1.length := by
    refine ⟨ps.take i, ps[i], ps[i + 1], ps.drop (i + 1 + 1), ?_, by rw [List.length_take]; omega⟩
    rw [← List.drop_eq_getElem_cons hi, ← List.drop_eq_getElem_cons (by omega), List.take_append_drop]
  obtain ⟨r1, r2, rfl, l1, l2⟩ := lay.split
  rw [Nat.zero_add] at l2
  cases l2 with
  | @cons _ w r _ rs2 n1 s1 l3 =>
    cases l3 with
    | @cons _ w2 r' _ rs3 n2 s2 l4 =>
      have e : (r1 ++ r :: r' :: rs3).flatten ++ rest = r1.flatten ++ r ++ r' ++ (rs3.flatten ++ rest) := by simp
      rw [e] at hu
      refine mergeAt_ok L W (P := r1.flatten) (X := r) (Y := r') (S := rs3.flatten ++ rest) I.kind I.fail (by rw [I.arr, e]) I.pend rfl rfl rfl rfl (fun x hx => hu x (List.mem_append_left _ (List.mem_append_left _ (List.mem_append_right _ hx)))) (fun x hx => hu x (List.mem_append_left _ (List.mem_append_right _ hx))) (fun x hx => hu x (List.mem_append_left _ (List.mem_append_left _ (List.mem_append_left _ hx)))) (fun x hx => hu x (List.mem_append_right _ hx)) s1 s2 n1 n2 fun C st' k1 k2 c1 c2 k3 k4 => ?_
      have ne : C ≠ [] := fun z => by rw [z] at c2; have z1 := c2.length_eq; have z2 := List.length_pos_iff.mpr n1; rw [List.length_nil, List.length_append] at z1; omega
      have cl : C.length = r.length + r'.length := by rw [c2.length_eq, List.length_append]
      refine q (p1 ++ (r1.flatten.length, r.length + r'.length, w) :: p2) (r1 ++ C :: rs3) st' ⟨k1, k2, k4, ?_⟩ (l1.append ?_) ?_ (by simp; omega)
      · rw [k3]; simp
      · rw [← cl, Nat.zero_add]
        refine .cons ne c1 ?_
        rw [cl, ← Nat.add_assoc]; exact l4
      · rw [List.flatten_append, List.flatten_append, List.flatten_cons, List.flatten_cons, List.flatten_cons, ← List.append_assoc r]
        exact (c2.append_right _).append_left _
theorem ite_le (c : Bool) (a : Nat) : (if c = true then a - 1 else a) ≤ a := by split <;> omega
theorem modify_last {α : Type} (f : α → α) (z : α) : ∀ p1 : List α, (p1 ++ [z]).modify p1.length f = p1 ++ [f z]
  | [] => rfl
  | a :: p1 => congrArg (a :: ·) (modify_last f z p1)
theorem modify_back {α : Type} (f : α → α) (z : α) (p1 : List α) : (p1 ++ [z]).toArray.modify ((p1 ++ [z]).toArray.size - 1) f = (p1 ++ [f z]).toArray := by
  rw [List.size_toArray, List.length_append, List.length_singleton, Nat.add_sub_cancel, List.modify_toArray, modify_last]
theorem laid_weight {p1 : List (Nat × Nat × Nat)} {a b w : Nat} {o : Nat} {rs : List (List Keyed)} (w' : Nat) (h : Laid lt o (p1 ++ [(a, b, w)]) rs) : Laid lt o (p1 ++ [(a, b, w')]) rs := by
  obtain ⟨r1, r2, rfl, l1, l2⟩ := h.split
  refine l1.append ?_
  cases l2 with
  | cons h1 h2 h3 => exact .cons h1 h2 h3
theorem laid_more {ps : List (Nat × Nat × Nat)} {rs : List (List Keyed)} {r : List Keyed} {n w : Nat} (h : Laid lt 0 ps rs) (h1 : 1 ≤ n) (hn : n ≤ r.length) (hs : (r.take n).Pairwise (Le lt)) : Laid lt 0 (ps ++ [(rs.flatten.length, n, w)]) (rs ++ [r.take n]) := by
  refine h.append ?_
  have e : (r.take n).length = n := by rw [List.length_take]; omega
  rw [Nat.zero_add]
  have z := Laid.cons (lt := lt) (o := rs.flatten.length) (w := w) (r := r.take n) (ps := []) (rs := []) (fun c => by rw [c] at e; simp at e; omega) hs (.nil _)
  rwa [e] at z
theorem sortRuns_ok (L : LtOk M A E s κ U lt) (W : Swo lt) {l : List Keyed} {Q : Unit → SortSt → Prop} (I : Same κ #[] l st) (hu : ∀ x ∈ l, U x) (h1 : 1 ≤ l.length)
    (q : ∀ l' pd st', Same κ pd l' st' → l'.Perm l → l'.Pairwise (Le lt) → Q () st') : wpS M A E s sortRuns' Q st := by
  have size : (arrOf st).size = l.length := by rw [I.arr]; simp
  rw [sortRuns'_eq]
  refine wpS_bind (wpS_get ?_)
  dsimp only
  rw [size]
  generalize minRun' l.length l.length 0 = mr
  refine wpS_bind (wpS_mono (wpS_forRange (I := fun i c st' => ∃ ps rs rest, c = (none, rs.flatten.length) ∧ Same κ ps.toArray (rs.flatten ++ rest) st' ∧ Laid lt 0 ps rs ∧ (rs.flatten ++ rest).Perm l ∧ i ≤ rs.flatten.length)
    (Q := fun c st' => c.1 = none ∧ ∃ ps rs rest, Same κ ps.toArray (rs.flatten ++ rest) st' ∧ Laid lt 0 ps rs ∧ (rs.flatten ++ rest).Perm l ∧ l.length ≤ rs.flatten.length) ?step ?fin ⟨[], [], l, rfl, I, .nil 0, .refl _, Nat.le_refl _⟩) ?post)
  case fin =>
    rintro c st' ⟨ps, rs, rest, rfl, I1, lay, pm, hi⟩
    exact ⟨rfl, ps, rs, rest, I1, lay, pm, by omega⟩
  case step =>
    rintro i c st1 _ hi ⟨ps, rs, rest, rfl, I1, lay, pm, hil⟩
    have len := pm.length_eq
    rw [List.length_append] at len
    dsimp only
    refine if_else (fun c => wpS_pure ⟨rfl, ps, rs, rest, I1, lay, pm, c⟩) fun c => ?_
    refine wpS_bind (countRun_ok L W I1 (fun x hx => hu x (pm.mem_iff.mp hx)) rfl (by omega) (by omega) fun n R' st2 I2 p2 n1 n2 s2 => ?_)
    have l2 := p2.length_eq
    dsimp only
    refine if_else (fun c2 => ?_) (fun c2 => ?_)
    rotate_left
    have F : 1 ≤ n ∧ n ≤ R'.length ∧ Same κ ps.toArray (rs.flatten ++ R') st2 ∧ R'.Perm rest ∧ (R'.take n).Pairwise (Le lt) := ⟨n1, by omega, I2, p2, s2⟩
    rotate_left
    refine wpS_bind (rule_ok ?_)
    refine wpS_bind (binarySort_ok L W I2 (fun x hx => hu x (pm.mem_iff.mp (((p2.append_left _).mem_iff).mp hx))) rfl n1 (by omega) (by omega) s2 fun R3 st3 I3 p3 s3 => ?_)
    have l3 := p3.length_eq
    refine if_else (fun z => nomatch z) fun _ => ?_
    have F : 1 ≤ min (l.length - rs.flatten.length) mr ∧ min (l.length - rs.flatten.length) mr ≤ R3.length ∧ Same κ ps.toArray (rs.flatten ++ R3) st3 ∧ R3.Perm rest ∧ (R3.take (min (l.length - rs.flatten.length) mr)).Pairwise (Le lt) := ⟨by omega, by omega, I3, p3.trans p2, s3⟩
    clear I3 p3 s3 l3 I2 p2 s2 n1 n2 l2 c2
    generalize min (l.length - rs.flatten.length) mr = n at F ⊢
    generalize R3 = R' at F ⊢
    generalize st3 = st2 at F ⊢
    all_goals
      obtain ⟨n1, n2, I2, p2, s2⟩ := F
      have len2 := p2.length_eq
      refine wpS_bind (wpS_get ?_)
      rw [I2.pend, List.back?_toArray]
      have more : ∀ {ps' : List (Nat × Nat × Nat)} {rs' : List (List Keyed)} {st' : SortSt}, Laid lt 0 ps' rs' → rs'.flatten.Perm rs.flatten → Same κ (ps' ++ [(rs.flatten.length, n, 0)]).toArray (rs'.flatten ++ R') st' →
          ∃ ps2 rs2 rest2, ((none, rs.flatten.length + n) : Option Unit × Nat) = (none, rs2.flatten.length) ∧ Same κ ps2.toArray (rs2.flatten ++ rest2) st' ∧ Laid lt 0 ps2 rs2 ∧ (rs2.flatten ++ rest2).Perm l ∧ i + 1 ≤ rs2.flatten.length := fun {ps' rs' st'} lay' pm' I' => by
        have fl : (rs' ++ [R'.take n]).flatten.length = rs.flatten.length + n := by
          rw [List.flatten_append, List.length_append, pm'.length_eq, List.flatten_cons, List.flatten_nil, List.append_nil, List.length_take, Nat.min_eq_left n2]
        have fa : (rs' ++ [R'.take n]).flatten ++ R'.drop n = rs'.flatten ++ R' := by
          rw [List.flatten_append, List.flatten_cons, List.flatten_nil, List.append_nil, List.append_assoc, List.take_append_drop]
        refine ⟨_, rs' ++ [R'.take n], R'.drop n, by rw [fl], by rw [fa]; exact I', ?_, by rw [fa]; exact ((pm'.append_right _).trans (p2.append_left _)).trans pm, by omega⟩
        rw [← pm'.length_eq]
        exact laid_more lay' n1 n2 s2
      cases g : ps.getLast? with
      | none =>
        obtain rfl : ps = [] := List.getLast?_eq_none_iff.mp g
        refine wpS_bind (wpS_modify (wpS_pure (more lay (.refl _) ⟨I2.kind, I2.fail, ?_, I2.arr⟩)))
        show (pendingOf st2).push _ = _
        rw [I2.pend]; rfl
      | some a =>
        obtain ⟨a1, a2, a3⟩ := a
        dsimp only
        generalize power' l.length (2 * a1 + a2) (2 * a1 + a2 + a2 + n) l.length = pw
        refine wpS_bind (wpS_mono (wpS_forRange (I := fun _ c st' => c = (none, ()) ∧ ∃ ps' rs', Same κ ps'.toArray (rs'.flatten ++ R') st' ∧ Laid lt 0 ps' rs' ∧ rs'.flatten.Perm rs.flatten ∧ ps' ≠ [])
          (Q := fun c st' => c = (none, ()) ∧ ∃ ps' rs', Same κ ps'.toArray (rs'.flatten ++ R') st' ∧ Laid lt 0 ps' rs' ∧ rs'.flatten.Perm rs.flatten ∧ ps' ≠ []) ?_ (fun _ _ h => h) ⟨rfl, ps, rs, I2, lay, .refl _, fun z => by rw [z] at g; exact nomatch g⟩) ?_)
        · rintro _ c st3 _ _ ⟨rfl, ps', rs', I3, lay3, pm3, ne3⟩
          have sz : (pendingOf st3).size = ps'.length := by rw [I3.pend]; simp
          refine wpS_bind (wpS_get ?_)
          try dsimp only
          rw [sz]
          rcases Nat.lt_or_ge 1 ps'.length with k | k
          · rw [if_pos k]
            obtain ⟨v, hv⟩ : ∃ v, (pendingOf st3)[ps'.length - 2]? = some v := ⟨_, Array.getElem?_eq_getElem (by omega)⟩
            rw [hv]
            obtain ⟨v1, v2, v3⟩ := v
            dsimp only
            refine if_else (fun _ => wpS_pure ⟨rfl, ps', rs', I3, lay3, pm3, ne3⟩) fun _ => ?_
            refine wpS_bind (merge_step L W I3 (fun x hx => hu x (pm.mem_iff.mp (((pm3.append_right _).trans (p2.append_left _)).mem_iff.mp hx))) lay3 (by omega) fun ps4 rs4 st4 I4 lay4 pm4 hl4 => ?_)
            exact if_else (fun z => nomatch z) fun _ => wpS_pure ⟨rfl, ps4, rs4, I4, lay4, pm4.trans pm3, fun z => by rw [z] at hl4; simp at hl4; omega⟩
          · rw [if_neg (by omega)]
            exact wpS_pure ⟨rfl, ps', rs', I3, lay3, pm3, ne3⟩
        · rintro c st3 ⟨rfl, ps', rs', I3, lay3, pm3, ne3⟩
          dsimp only
          obtain ⟨p1, z, rfl⟩ : ∃ p1 z, ps' = p1 ++ [z] := ⟨ps'.dropLast, ps'.getLast ne3, (List.dropLast_concat_getLast ne3).symm⟩
          obtain ⟨b1, b2, b3⟩ := z
          refine wpS_bind (wpS_modify (wpS_bind (wpS_modify (wpS_pure (more (laid_weight pw lay3) pm3 ⟨I3.kind, I3.fail, ?_, I3.arr⟩)))))
          show ((pendingOf st3).modify ((pendingOf st3).size - 1) _).push _ = _
          rw [I3.pend, modify_back]
          exact List.push_toArray _ _
  case post =>
    rintro ⟨c1, c2⟩ st' ⟨e, ps, rs, rest, I1, lay, pm, hl⟩
    cases e
    have len := pm.length_eq
    rw [List.length_append] at len
    obtain rfl : rest = [] := List.eq_nil_of_length_eq_zero (by omega)
    rw [List.append_nil] at I1 pm
    refine wpS_bind (wpS_mono (wpS_forRange (I := fun i c st' => c = (none, ()) ∧ ∃ ps rs, Same κ ps.toArray rs.flatten st' ∧ Laid lt 0 ps rs ∧ rs.flatten.Perm l ∧ ps.length + i ≤ l.length)
      (Q := fun c st' => c = (none, ()) ∧ ∃ ps rs, Same κ ps.toArray rs.flatten st' ∧ Laid lt 0 ps rs ∧ rs.flatten.Perm l ∧ ps.length ≤ 1) ?hstep ?hfin ⟨rfl, ps, rs, I1, lay, pm, by have := lay.size; omega⟩) ?hpost)
    case hfin =>
      rintro c st2 ⟨rfl, ps, rs, I2, lay, pm, hi⟩
      exact ⟨rfl, ps, rs, I2, lay, pm, by omega⟩
    case hstep =>
      rintro i c st2 _ hi ⟨rfl, ps, rs, I2, lay, pm, hle⟩
      have ps2 : (pendingOf st2).size = ps.length := by rw [I2.pend]; simp
      refine wpS_bind (wpS_get ?_)
      try dsimp only
      rw [ps2]
      refine if_else (fun c => wpS_pure ⟨rfl, ps, rs, I2, lay, pm, c⟩) fun c => ?_
      refine wpS_bind (merge_step L W (rest := []) (by rw [List.append_nil]; exact I2) (fun x hx => hu x (pm.mem_iff.mp (by simpa using hx))) lay (Nat.lt_of_le_of_lt (Nat.add_le_add_right (ite_le _ _) 1) (by omega)) fun ps' rs' st3 I3 lay' pm' hl' => ?_)
      rw [List.append_nil] at I3
      exact wpS_pure ⟨rfl, ps', rs', I3, lay', pm'.trans pm, by omega⟩
    case hpost =>
      rintro c st2 ⟨rfl, ps, rs, I2, lay, pm, hle⟩
      refine wpS_pure (q rs.flatten _ st2 I2 pm ?_)
      cases lay with
      | nil => exact absurd pm.length_eq (by simp; omega)
      | cons g1 g2 g3 =>
        cases g3 with
        | nil => simpa using g2
        | cons => simp at hle
end
end SOSort

namespace SOSort
open PySem PyProof.Rows
section
variable {R : Result → Shared → Prop} {s : Shared} {prog : Program} {w : World} {A : Around}
theorem ints_cons {vs : List Value} {k : Nat} {a : Int} {ms : List Int} (h : IntsAre (vs.drop k) (a :: ms)) : ∃ t, vs[k]? = some (.int a t) ∧ IntsAre (vs.drop (k + 1)) ms ∧ k < vs.length := by
  have hk : k < vs.length := by
    have := h.length
    rw [List.length_drop, List.length_cons] at this; omega
  rw [List.drop_eq_getElem_cons hk] at h
  generalize e : vs[k] = v at h
  cases h with
  | cons n t h' => exact ⟨t, by rw [List.getElem?_eq_getElem hk, e], h', hk⟩
theorem ints_nil {vs : List Value} {k : Nat} (h : IntsAre (vs.drop k) []) : vs[k]? = none ∧ vs.length ≤ k := by
  have := h.length
  rw [List.length_drop, List.length_nil] at this
  exact ⟨List.getElem?_eq_none (by omega), by omega⟩
theorem at_nat (vs : List Value) (k : Nat) : vs.toArray[((k : Nat) : Int).toNat]? = vs[k]? := by rw [Int.toNat_natCast, List.getElem?_toArray]
/-- lists of ints: which of the two stands ahead, from place k on -/
theorem ahead_loop {p q : Addr} {o1 o2 : Obj} {xs ys : List Value} {c1 c2 : Nat} (h1 : s.heap.get? p = some o1) (d1 : o1.data = .seq xs.toArray c1) (h2 : s.heap.get? q = some o2) (d2 : o2.data = .seq ys.toArray c2) :
    ∀ (ms ns : List Int) (k : Nat), k ≤ xs.length → k ≤ ys.length → IntsAre (xs.drop k) ms → IntsAre (ys.drop k) ns → R (.ok (.ret (.bool (HT.lexLt ms ns)))) s → codeAny (model prog w) A (.builtin "list.__eq__.loop" ⟨[.ref p, .ref q, rawInt k, rawInt 0], []⟩) R s := by
  have sizes : ∀ b, decide (xs.toArray.size < ys.toArray.size) = b → R (.ok (.ret (.bool b))) s → R (.ok (.ret (.bool (decide (xs.toArray.size < ys.toArray.size))))) s := fun b e r => e ▸ r
  intro ms
  induction ms with
  | nil =>
    intro ns k l1 l2 i1 i2 r
    obtain ⟨e1, g1⟩ := ints_nil i1
    refine codeAny_builtin MeetsSeq3.entry_eq_loop ?_
    rw [Around.under_plainId MeetsSeq3.plain_eq_loop]
    refine wpAny_bind (listItems_at h1 d1 (wpAny_bind (listItems_at h2 d2 ?_)))
    rw [at_nat, at_nat, e1]
    refine wpAny_bind (listItems_at h1 d1 (wpAny_bind (listItems_at h2 d2 (wpAny_pure (sizes _ ?_ r)))))
    cases ns with
    | nil => exact decide_eq_false (by have := (ints_nil i2).2; simp; omega)
    | cons b ns => exact decide_eq_true (by obtain ⟨_, _, _, g⟩ := ints_cons i2; simp; omega)
  | cons a ms ih =>
    intro ns k l1 l2 i1 i2 r
    obtain ⟨t, e1, j1, g1⟩ := ints_cons i1
    refine codeAny_builtin MeetsSeq3.entry_eq_loop ?_
    rw [Around.under_plainId MeetsSeq3.plain_eq_loop]
    refine wpAny_bind (listItems_at h1 d1 (wpAny_bind (listItems_at h2 d2 ?_)))
    rw [at_nat, at_nat, e1]
    cases ns with
    | nil =>
      obtain ⟨e2, g2⟩ := ints_nil i2
      rw [e2]
      exact wpAny_bind (listItems_at h1 d1 (wpAny_bind (listItems_at h2 d2 (wpAny_pure (sizes _ (decide_eq_false (by simp; omega)) r)))))
    | cons b ns =>
      obtain ⟨u, e2, j2, g2⟩ := ints_cons i2
      rw [e2]
      rw [HT.lexLt_cons] at r
      apply wpAny_bind
      apply wpAny_eqBool_int
      by_cases ab : a = b
      · rw [if_pos ab] at r
        rw [if_pos (by simpa using ab)]
        refine wpAny_pure ⟨plainId_quiet MeetsSeq3.plain_eq_loop _, ?_⟩
        exact ih ns (k + 1) g1 g2 j1 j2 r
      · rw [if_neg ab] at r
        rw [if_neg (by simpa using ab)]
        refine wpAny_bind (listItems_at h1 d1 (wpAny_bind (listItems_at h2 d2 ?_)))
        rw [at_nat, at_nat, e1, e2]
        exact wpAny_bind (HT.rcLt_int _ _ a t b u prog w _ _ (wpAny_pure r))
end
section
variable {prog : Program} {w : World} {A : Around} {E : Value → Shared → Prop} {s : Shared}
theorem list_ahead {p q : Addr} {xs ys : List Value} {ms ns : List Int} {Q : Value → Shared → Prop} (l1 : s.heap.IsList p xs.toArray) (l2 : s.heap.IsList q ys.toArray) (i1 : IntsAre xs ms) (i2 : IntsAre ys ns) (h : Q (.bool (HT.lexLt ms ns)) s) :
    wpAny (model prog w) A (call (.builtin "list.__lt__") [.ref p, .ref q]) Q E s := by
  obtain ⟨o1, a1, b1, c1, d1⟩ := l1
  obtain ⟨o2, a2, b2, c2, d2⟩ := l2
  have go := ahead_loop (prog := prog) (w := w) (A := A) (R := wants Q E) a1 d1 a2 d2 ms ns 0 (Nat.zero_le _) (Nat.zero_le _) i1 i2 h
  refine wpAny_call (codeAny_call_builtin PySem.F.slot_list_lt.plain PySem.F.entry_list_lt (PySem.F.slot_list_lt.check _ _ _ _ _ _ _ _ ⟨o1, a1, b1⟩ (PySem.F.args_list_lt_2 _ _) ?_))
  refine wpAny_bind (wpAny_pure ?_)
  refine wpAny_bind (wpAny_isInstance (T := "list") (b := true) ⟨o2, a2, b2⟩ (by rw [isSubtype_type]; kernel_rfl) ?_)
  exact wpAny_pure ⟨plainId_quiet MeetsSeq3.plain_eq_loop _, go⟩
/-- what a key's list reads as -/
structure KeyL (h : Heap) (x : Keyed) (ms : List Int) : Prop where
  read : ∃ p vs, x.1 = .ref p ∧ h.IsList p vs.toArray ∧ IntsAre vs ms
theorem lists_lt (hu : A.units < cLine) {f : Keyed → List Int} {U : Keyed → Prop} (hU : ∀ x, U x → KeyL s.heap x (f x)) : LtOk (model prog w) A E s oneType' U (fun x y => HT.lexLt (f x) (f y)) := by
  refine ⟨fun {x y st Q} ux uy hk q => ?_⟩
  obtain ⟨p, vs, e1, l1, i1⟩ := (hU x ux).read
  obtain ⟨p', vs', e2, l2, i2⟩ := (hU y uy).read
  rw [lt'_eq]
  refine wpS_bind (wpS_get ?_)
  rw [hk, keyLt'_oneType, e1, e2, oneLt'_eq]
  obtain ⟨o1, a1, b1, _⟩ := id l1
  refine wpS_bind (wpS_lift (wpAny_attempt (wpAny_bind (wpAny_cRoomFor hu ?_))))
  refine wpAny_bind (wpAny_callSpecialIfBound?_slot ⟨o1, a1, b1⟩ PySem.F.slot_list_lt (list_ahead l1 l2 i1 i2 ?_))
  exact wpAny_truthy_bool ⟨rfl, wpS_pure q⟩
theorem lex_swo (f : Keyed → List Int) : Swo (fun x y => HT.lexLt (f x) (f y)) := by
  have asym : ∀ a b : List Int, HT.lexLt a b = true → HT.lexLt b a = false := by
    intro a
    induction a with
    | nil => intro b h; cases b with | nil => rfl | cons y ys => rfl
    | cons x xs ih =>
      intro b h
      cases b with
      | nil => exact nomatch h
      | cons y ys =>
        rw [HT.lexLt_cons] at h ⊢
        by_cases e : x = y
        · rw [if_pos e] at h; rw [if_pos e.symm]; exact ih ys h
        · rw [if_neg e] at h; rw [if_neg (Ne.symm e)]; have := of_decide_eq_true h; exact decide_eq_false (by omega)
  have tr : ∀ a b c : List Int, HT.lexLt b a = false → HT.lexLt c b = false → HT.lexLt c a = false := by
    intro a
    induction a with
    | nil => intro b c _ _; cases c <;> rfl
    | cons x xs ih =>
      intro b c h h'
      cases b with
      | nil => exact nomatch h
      | cons y ys =>
        cases c with
        | nil => exact nomatch h'
        | cons z zs =>
          rw [HT.lexLt_cons] at h h' ⊢
          by_cases e : y = x <;> by_cases e' : z = y
          · rw [if_pos e] at h; rw [if_pos e'] at h'; rw [if_pos (e'.trans e)]; exact ih ys zs h h'
          · rw [if_neg e'] at h'; have := of_decide_eq_false h'; rw [if_neg (by omega)]; exact decide_eq_false (by omega)
          · rw [if_neg e] at h; have := of_decide_eq_false h; rw [if_neg (by omega)]; exact decide_eq_false (by omega)
          · rw [if_neg e] at h; rw [if_neg e'] at h'; have := of_decide_eq_false h; have := of_decide_eq_false h'; rw [if_neg (by omega)]; exact decide_eq_false (by omega)
  exact ⟨fun x y => asym _ _, fun x y z => tr _ _ _⟩
end
end SOSort

namespace SOSort
open PySem PyProof.Rows
section
variable {prog : Program} {w : World} {A : Around} {E : Value → Shared → Prop} {s : Shared}
/-- a walk that only looks -/
theorem look_all {M : Model} {β : Type} {f : Value → Sem β} {g : Value → β} : ∀ {vs : List Value} {Q : List β → Shared → Prop}, (∀ v ∈ vs, ∀ {T : β → Shared → Prop}, T (g v) s → wpAny M A (f v) T E s) → Q (vs.map g) s → wpAny M A (vs.mapM f) Q E s
  | [], Q, _, q => by rw [List.mapM_nil]; exact wpAny_pure q
  | v :: vs, Q, h, q => by
    rw [List.mapM_cons]
    exact wpAny_bind (h v List.mem_cons_self (wpAny_bind (look_all (fun u hu => h u (List.mem_cons_of_mem _ hu)) (wpAny_pure q))))
theorem look_arr {M : Model} {β : Type} {f : Value → Sem β} {g : Value → β} {vs : List Value} {Q : Array β → Shared → Prop} (h : ∀ v ∈ vs, ∀ {T : β → Shared → Prop}, T (g v) s → wpAny M A (f v) T E s) (q : Q (vs.map g).toArray s) : wpAny M A (vs.toArray.mapM f) Q E s := by
  rw [List.mapM_toArray, map_eq_pure_bind]
  exact wpAny_bind (look_all h (wpAny_pure q))
/-- all keys are lists: they are compared as one type -/
theorem kind_lists {M : Model} {v : Value} {vs : List Value} {Q : SortKind → Shared → Prop} (h : ∀ u ∈ v :: vs, s.TypeIs u "list") (q : Q oneType' s) : wpAny M A (keyKind' (v :: vs).toArray) Q E s := by
  refine wpAny_bind (look_arr (g := fun _ => none) (fun u hu T t => ?_) ?_)
  · exact wpAny_bind (wpAny_typeOf (h u hu) (wpAny_pure t))
  have n1 : ((v :: vs).map fun _ => (none : Option Value)).toArray.all (·.isSome) = false := by simp
  have n2 : (((v :: vs).map fun _ => (none : Option Value)).toArray[0]?.bind id).isSome = false := by simp
  rw [n1, n2]
  refine wpAny_bind ?_
  refine wpAny_bind (look_arr (g := fun _ => Value.type "list") (fun u hu T t => wpAny_typeOf (h u hu) t) ?_)
  have n3 : ((v :: vs).map fun _ => Value.type "list").toArray[0]? = some (.type "list") := by simp
  have n4 : ((v :: vs).map fun _ => Value.type "list").toArray.all (· == .type "list") = true := by
    rw [List.all_toArray, List.all_eq_true]
    intro x hx
    obtain ⟨_, _, rfl⟩ := List.mem_map.mp hx
    rfl
  rw [n3]
  dsimp only
  rw [n4]
  exact wpAny_pure (wpAny_pure q)
end
end SOSort

namespace SOSort
open PySem PyProof.Rows
section
variable {prog : Program} {w : World} {A : Around} {E : Value → Shared → Prop} {s : Shared}
/-- the heap in which the items are compared: the list stands empty, its items are held -/
noncomputable abbrev heldHeap (h : Heap) (a : Addr) (vs : List Value) : Heap := ((h.update a (Obj.mapSeq fun _ => #[])).push (seqObj "tuple" vs.toArray 0)).push (seqObj "list" #[] 0)
theorem held_old {h : Heap} {a b : Addr} {o : Obj} {vs : List Value} (n : b ≠ a) (z : h.get? b = some o) : (heldHeap h a vs).get? b = some o :=
  Heap.get?_push_of_some _ (Heap.get?_push_of_some _ ((Heap.get?_update_other _ _ n.symm).trans z))
theorem held_self {h : Heap} {a : Addr} {vs : List Value} {n : Nat} (z : h.get? a = some (seqObj "list" vs.toArray n)) : ∃ e, (heldHeap h a vs).get? a = some (seqObj "list" #[] e) ∧ (h.update a (Obj.mapSeq fun _ => #[])).get? a = some (seqObj "list" #[] e) :=
  ⟨_, Heap.get?_push_of_some _ (Heap.get?_push_of_some _ (get?_update_seq z fun _ => #[])), get?_update_seq z fun _ => #[]⟩
theorem diag {vs : List Value} {l : List Keyed} (h : l.Perm (vs.map fun v => (v, v))) : (l.map (·.2)).Perm vs ∧ ∀ x ∈ l, x.1 = x.2 := by
  refine ⟨?_, fun x hx => ?_⟩
  · have := h.map (·.2)
    rwa [List.map_map, show ((fun x : Keyed => x.2) ∘ fun v : Value => (v, v)) = id from rfl, List.map_id] at this
  · obtain ⟨v, _, rfl⟩ := List.mem_map.mp (h.mem_iff.mp hx)
    rfl
theorem zip_self : ∀ vs : List Value, vs.zip vs = vs.map fun v => (v, v)
  | [] => rfl
  | v :: vs => by rw [List.zip_cons_cons, zip_self vs, List.map_cons]
theorem sort_lists {a : Addr} {vs : List Value} {n : Nat} {f : Value → List Int} {T : Fin → Shared → Prop} (at0 : s.heap.get? a = some (seqObj "list" vs.toArray n)) (hu : A.units < cLine) (hz : vs.length ≤ sizeLine)
    (hv : ∀ v ∈ vs, ∃ p us, v = .ref p ∧ p ≠ a ∧ s.heap.IsList p us.toArray ∧ IntsAre us (f v))
    (q : ∀ out : List Value, out.Perm vs → out.Pairwise (fun x y => HT.lexLt (f y) (f x) = false) → T (.done (.ret .none)) { s with heap := sortedHeap s.heap a vs out.toArray }) :
    wpAny (model prog w) A (Builtin.«list.sort» ⟨[.ref a], []⟩) T E s := by
  obtain ⟨e, at6, at1⟩ := held_self at0
  rw [list_sort_plain]
  refine wpAny_bind (listItems_at at0 rfl (wpAny_bind (listUpdate_at at0 rfl ?_ (by simpa using hz) (by simp))))
  refine wpAny_bind (seqEpoch_at at1 rfl (wpAny_bind (wpAny_newTuple (wpAny_bind (wpAny_newList (wpAny_holding ?_))))))
  show wpAny (model prog w) A _ T E { s with heap := heldHeap s.heap a vs }
  dsimp only
  have tail : ∀ (l : List Keyed) (st : SortSt), arrOf st = l.toArray → failedOf st = none → l.Perm (vs.map fun v => (v, v)) → l.Pairwise (Le fun x y => HT.lexLt (f x.1) (f y.1)) →
      T (.done (.ret .none)) { s with heap := (heldHeap s.heap a vs).update a (Obj.mapSeq fun _ => (arrOf st).map (·.2)) } := fun l st ea ef pm srt => by
    obtain ⟨d1, d2⟩ := diag pm
    rw [ea, List.map_toArray]
    refine q (l.map (·.2)) d1 (List.pairwise_map.mpr (srt.imp_of_mem fun {x y} hx hy h => ?_))
    rw [← d2 x hx, ← d2 y hy]; exact h
  have zip : vs.toArray.zip vs.toArray = (vs.map fun v => (v, v)).toArray := by rw [List.zip_toArray, zip_self]
  rw [zip]
  have fits : ∀ l : List Keyed, l.Perm (vs.map fun v => (v, v)) → (l.toArray.map (·.2)).size ≤ sizeLine + 1 := fun l pm => by
    rw [Array.size_map, List.size_toArray, pm.length_eq, List.length_map]; omega
  refine dite (vs.toArray.size < 2) (fun few => ?_) fun many => ?_
  · rw [if_pos few, if_pos few]
    refine wpAny_bind (wpAny_pure ?_)
    rw [StateT.run_pure]
    refine wpAny_bind (wpAny_pure (wpAny_bind (seqEpoch_at at6 rfl (wpAny_bind (listUpdate_at at6 rfl ?_ (Nat.zero_le _) (fits _ (.refl _)))))))
    rw [bne_self_eq_false, if_neg Bool.false_ne_true]
    refine wpAny_pure (tail _ (SortSt.mk' general' (vs.map fun v => (v, v)).toArray #[] 7 none) rfl rfl (.refl _) ?_)
    match vs, few with
    | [], _ => exact .nil
    | [v], _ => exact List.pairwise_singleton _ _
    | _ :: _ :: _, few => simp at few; omega
  · rw [if_neg many, if_neg many]
    obtain ⟨v, us, rfl⟩ : ∃ v us, vs = v :: us := by
      cases vs with
      | nil => simp at many
      | cons v us => exact ⟨v, us, rfl⟩
    have lists : ∀ u ∈ v :: us, ∃ p ws, u = .ref p ∧ (heldHeap s.heap a (v :: us)).IsList p ws.toArray ∧ IntsAre ws (f u) := fun u hu => by
      obtain ⟨p, ws, e1, e2, e3, e4⟩ := hv u hu
      exact ⟨p, ws, e1, e3.at fun o z => held_old e2 z, e4⟩
    refine wpAny_bind (kind_lists (fun u hu => ?_) ?_)
    · obtain ⟨p, ws, rfl, ⟨o, z1, z2, _⟩, _⟩ := lists u hu
      exact ⟨o, z1, z2⟩
    refine wpAny_bind (wpAny_mono (sortRuns_ok (κ := oneType') (U := fun x => x.1 ∈ v :: us) (lists_lt (f := fun x => f x.1) hu fun x hx => ⟨?_⟩) (lex_swo fun x => f x.1) (l := (v :: us).map fun v => (v, v)) ⟨rfl, rfl, rfl, rfl⟩ (fun x hx => ?_) (by simp)
      (Q := fun _ st' => ∃ l, arrOf st' = l.toArray ∧ failedOf st' = none ∧ l.Perm ((v :: us).map fun v => (v, v)) ∧ l.Pairwise (Le fun x y => HT.lexLt (f x.1) (f y.1))) fun l' pd st' I pm srt => ⟨l', I.arr, I.fail, pm, srt⟩) ?_ fun _ _ z => z)
    · obtain ⟨p, ws, e1, e2, e3⟩ := lists x.1 hx
      exact ⟨p, ws, e1, e2, e3⟩
    · obtain ⟨u, hu, rfl⟩ := List.mem_map.mp hx
      exact hu
    rintro ⟨⟨⟩, st'⟩ s' ⟨rfl, l, ea, ef, pm, srt⟩
    refine wpAny_bind (seqEpoch_at at6 rfl (wpAny_bind (listUpdate_at at6 rfl ?_ (Nat.zero_le _) (by rw [ea]; exact fits l pm))))
    rw [ef, bne_self_eq_false, if_neg Bool.false_ne_true]
    exact wpAny_pure (tail l st' ea ef pm srt)
end
end SOSort

namespace SOSort
open PySem PyProof.Rows
section
variable {prog : Program} {w : World} {A : Around} {E : Value → Shared → Prop} {s : Shared}
/-- sorted(l), l a list of lists of ints, of any length -/
theorem sorted_lists {l : Addr} {vs : List Value} {f : Value → List Int} {Q : Value → Shared → Prop} (hl : s.heap.IsList l vs.toArray) (hu : A.units + 64 < cLine) (hz : vs.length ≤ sizeLine)
    (hv : ∀ v ∈ vs, ∃ p us, v = .ref p ∧ s.heap.IsList p us.toArray ∧ IntsAre us (f v))
    (q : ∀ out : List Value, out.Perm vs → out.Pairwise (fun x y => HT.lexLt (f y) (f x) = false) → Q (.ref (s.heap.objs.size + 1)) { s with heap := sortedAll s.heap vs out.toArray }) :
    wpAny (model prog w) A (call (Value.builtin "sorted") [.ref l]) Q E s := by
  have hu2 : A.in1.in1.units < cLine := by show A.units + 1 + 1 < cLine; omega
  apply Calls.call_function_entry kind_sorted plain_sorted entry_sorted (args_sorted1 _)
  rw [Builtin.«sorted»]
  refine wpAny_bind (m := checkCount "sorted" 1 1 _) (wpAny_pure (wpAny_bind (collect_list hl (wpAny_bind (wpAny_newList ?_)) hz)))
  generalize hg : (s.heap.push (seqObj "list" #[] 0)).update s.heap.objs.size (Obj.mapSeq (· ++ vs.toArray)) = g
  have size : g.objs.size = s.heap.objs.size + 1 := by rw [← hg, Heap.size_update, size_push']
  have old : ∀ b o, s.heap.get? b = some o → (g.push (seqObj "list" vs.toArray 0)).get? b = some o := fun b o z => by
    refine Heap.get?_push_of_some _ ?_
    rw [← hg, Heap.get?_update_other _ _ (Nat.ne_of_gt (Heap.lt_size z))]
    exact Heap.get?_push_of_some _ z
  have at0 : (g.push (seqObj "list" vs.toArray 0)).get? (s.heap.objs.size + 1) = some (seqObj "list" vs.toArray 0) := by rw [← size]; exact Heap.get?_push_size _ rfl
  show wpAny _ _ _ _ _ { s with heap := g.push (seqObj "list" vs.toArray 0) }
  rw [size]
  refine wpAny_bind (wpAny_holding (wpAny_call_entry slot_list_sort ⟨_, at0, rfl⟩ entry_list_sort (sort_lists (f := f) at0 hu2 hz (fun v hv' => ?_) fun out p1 p2 => ⟨_, rfl, wpAny_pure ⟨_, rfl, ?_⟩⟩) (args_list_sort _)))
  · obtain ⟨p, us, e1, e2, e3⟩ := hv v hv'
    obtain ⟨o, z, _⟩ := id e2
    exact ⟨p, us, e1, Nat.ne_of_lt (Nat.lt_succ_of_lt (Heap.lt_size z)), e2.at fun o z => old p o z, e3⟩
  · have := q out p1 p2
    rwa [sortedAll, hg] at this
end
end SOSort

namespace L2
open PySem PySem.Spec PyProof.Rows
section
variable {X : Cx} {K : PySem.W.Frag}
theorem vals_refs : ∀ {ps : List Addr} {us : List Value}, Vals (ps.map V.ref) us → us = ps.map Value.ref
  | [], _, r => by cases r; rfl
  | p :: ps, _, r => by
    cases r with
    | cons h t => cases h; rw [vals_refs t]; rfl
theorem refs_vals : ∀ ps : List Addr, Vals (ps.map V.ref) (ps.map Value.ref)
  | [] => .nil
  | p :: ps => .cons rfl (refs_vals ps)
/-- sorted(e), e a list of lists of ints, of any length -/
theorem call_sortedL (hu : X.A.units + 64 < cLine) (hK : X.K = K := by rfl) : CallR X (.builtin "sorted") (fun xs H Q => ∃ p ps, ∃ f : Addr → List Int, xs = [.ref p] ∧ SqL K H p (ps.map V.ref) ∧ (∀ a ∈ ps, LI K H a (f a)) ∧
    ∀ (l : Addr) (qs : List Addr), qs.Perm ps → qs.Pairwise (fun a b => HT.lexLt (f b) (f a) = false) → H l = none → Q (.ref l) (upd H l (.lst (qs.map V.ref)))) := by
  subst hK
  intro pins s σ H xs us Q I r h
  obtain ⟨p, ps, f, rfl, hp, hr, q⟩ := h
  obtain ⟨u, rfl, rx⟩ := vals1 r
  cases rx
  obtain ⟨vs, rv, pl, hz⟩ := I.list hp
  obtain rfl := vals_refs rv
  rw [List.length_map] at hz
  refine SOSort.sorted_lists (f := fun v => match v with | .ref a => f a | _ => []) pl.isList hu (by rw [List.length_map]; exact hz) (fun v hv => ?_) fun out p1 p2 => ?_
  · obtain ⟨a, ha, rfl⟩ := List.mem_map.mp hv
    obtain ⟨us, i1, i2, _, _⟩ := I.ints (hr a ha)
    exact ⟨a, us, rfl, i2, i1⟩
  · obtain ⟨qs, rfl, pm⟩ : ∃ qs : List Addr, out = qs.map Value.ref ∧ qs.Perm ps := by
      refine ⟨out.map fun v => match v with | .ref a => a | _ => 0, ?_, ?_⟩
      · rw [List.map_map]
        conv => lhs; rw [← List.map_id out]
        refine List.map_congr_left fun v hv => ?_
        obtain ⟨a, _, rfl⟩ := List.mem_map.mp (p1.mem_iff.mp hv)
        rfl
      · have := p1.map fun v : Value => match v with | .ref a => a | _ => 0
        rwa [List.map_map, show ((fun v : Value => match v with | .ref a => a | _ => 0) ∘ Value.ref) = id from rfl, List.map_id] at this
    have ⟨e, he⟩ := sortedAll_at s.heap (ps.map Value.ref) (qs.map Value.ref).toArray
    refine ⟨.ref (s.heap.objs.size + 1), _, I.laid (t' := s.toks) (o := .lst (qs.map V.ref)) (fun b u z => sortedAll_old z) (Nat.le_succ _) ?_, rfl, q _ qs pm (List.pairwise_map.mp p2) (I.hok.fresh (Nat.le_succ _))⟩
    exact ⟨by rw [List.length_map, pm.length_eq]; exact hz, qs.map Value.ref, e, refs_vals qs, he⟩
end
end L2

namespace SO
/-! all shapes of a size, made by putting the greatest number in at each place -/
noncomputable def putIn (row : List Int) (k p : Nat) : List Int := row.take p ++ [(k : Int)] ++ row.drop p
noncomputable def grow (k : Nat) (row : List Int) : List (List Int) := (List.range (k + 1)).map (putIn row k)
noncomputable def allP : Nat → List (List Int)
  | 0 => [[]]
  | k + 1 => (allP k).flatMap (grow k)
theorem grow_len (k : Nat) (row : List Int) : (grow k row).length = k + 1 := by unfold grow; simp
theorem allP_len : ∀ n : Nat, n < 7 → (allP n).length ≤ 720 := by decide +kernel
theorem putIn_sh {row : List Int} (h : Sh row) {k : Nat} (hk : row.length = k) (p : Nat) : Sh (putIn row k p) ∧ (putIn row k p).length = k + 1 := by
  have e : putIn row k p = row.take p ++ (k : Int) :: row.drop p := by unfold putIn; simp
  rw [e]
  refine ⟨sh_insert h p (by omega), ?_⟩
  simp only [List.length_append, List.length_cons, List.length_take, List.length_drop]
  omega
theorem allP_sh : ∀ (n : Nat) (t : List Int), t ∈ allP n → Sh t ∧ t.length = n
  | 0, t, h => by
    have e : t = [] := by simpa [allP] using h
    subst e
    exact ⟨sh_nil, rfl⟩
  | n + 1, t, h => by
    obtain ⟨row, hr, ht⟩ := List.mem_flatMap.mp h
    obtain ⟨p, _, rfl⟩ := List.mem_map.mp ht
    obtain ⟨h1, h2⟩ := allP_sh n row hr
    exact putIn_sh h1 h2 p
end SO

namespace SO
open L2
/-! rows in order: two sorted rows of the same lists are one -/
theorem lex_antisymm : ∀ {a b : List Int}, HT.lexLt a b = false → HT.lexLt b a = false → a = b
  | [], [], _, _ => rfl
  | [], y :: ys, h, _ => by rw [HT.lexLt_nil_cons] at h; cases h
  | x :: xs, [], _, h => by rw [HT.lexLt_nil_cons] at h; cases h
  | x :: xs, y :: ys, h1, h2 => by
    rw [HT.lexLt_cons] at h1 h2
    by_cases e : x = y
    · subst e
      rw [if_pos rfl] at h1 h2
      rw [lex_antisymm h1 h2]
    · rw [if_neg e] at h1
      rw [if_neg (fun z => e z.symm)] at h2
      have a1 := of_decide_eq_false h1
      have a2 := of_decide_eq_false h2
      omega
theorem sorted_unique : ∀ {a b : List (List Int)}, a.Perm b → a.Pairwise (fun x y => HT.lexLt y x = false) → b.Pairwise (fun x y => HT.lexLt y x = false) → a = b
  | [], b, h, _, _ => h.nil_eq
  | x :: a, [], h, _, _ => absurd h.eq_nil (by simp)
  | x :: a, y :: b, h, ha, hb => by
    have hx : x ∈ y :: b := h.mem_iff.mp List.mem_cons_self
    have hy : y ∈ x :: a := h.mem_iff.mpr List.mem_cons_self
    have ha' := List.pairwise_cons.mp ha
    have hb' := List.pairwise_cons.mp hb
    have e : x = y := by
      rcases List.mem_cons.mp hx with e | e
      · exact e
      · rcases List.mem_cons.mp hy with e2 | e2
        · exact e2.symm
        · exact lex_antisymm (hb'.1 x e) (ha'.1 y e2)
    subst e
    rw [sorted_unique (List.Perm.cons_inv h) ha'.2 hb'.2]
/-- each shape is one of all, once -/
theorem allP_mem : ∀ (n : Nat) (t : List Int), Sh t → t.length = n → t ∈ allP n
  | 0, t, _, h => by
    rw [List.length_eq_zero_iff.mp h]
    exact List.mem_singleton.mpr rfl
  | n + 1, t, hs, h => by
    have hn : (n : Int) ∈ t := hs.mem.mpr ⟨by omega, by omega⟩
    obtain ⟨a, b, rfl⟩ := List.append_of_mem hn
    have hl : (a ++ b).length = n := by
      rw [List.length_append, List.length_cons] at h
      rw [List.length_append]; omega
    have hnd := hs.nodup
    have hnot : (n : Int) ∉ a ++ b := by
      rw [List.nodup_append] at hnd
      have h2 := List.nodup_cons.mp hnd.2.1
      intro hm
      rcases List.mem_append.mp hm with ha | hb
      · exact hnd.2.2 _ ha _ List.mem_cons_self rfl
      · exact h2.1 hb
    have hsub : (a ++ b).Nodup := by
      have := hs.nodup
      rw [List.perm_middle.nodup_iff] at this
      exact (List.nodup_cons.mp this).2
    have hsh : Sh (a ++ b) := sh_of hsub fun x hx => by
      have hx' : x ∈ a ++ (n : Int) :: b := by
        rcases List.mem_append.mp hx with h | h
        · exact List.mem_append_left _ h
        · exact List.mem_append_right _ (List.mem_cons_of_mem _ h)
      have := hs.mem.mp hx'
      have hne : x ≠ (n : Int) := fun e => hnot (e ▸ hx)
      omega
    refine List.mem_flatMap.mpr ⟨a ++ b, allP_mem n _ hsh hl, List.mem_map.mpr ⟨a.length, List.mem_range.mpr (by rw [List.length_append] at hl; omega), ?_⟩⟩
    unfold putIn
    rw [List.take_left, List.drop_left]
    simp
theorem putIn_erase {row : List Int} {k : Nat} (h : (k : Int) ∉ row) (p : Nat) : (putIn row k p).erase (k : Int) = row := by
  unfold putIn
  rw [List.append_assoc, List.erase_append_right _ (fun hm => h (List.mem_of_mem_take hm))]
  show row.take p ++ ((k : Int) :: row.drop p).erase (k : Int) = row
  rw [List.erase_cons_head, List.take_append_drop]
theorem putIn_at {row : List Int} {k p : Nat} (hp : p ≤ row.length) : (putIn row k p)[p]? = some (k : Int) := by
  unfold putIn
  rw [List.append_assoc, List.getElem?_append_right (by rw [List.length_take]; omega), List.length_take, Nat.min_eq_left hp, Nat.sub_self]
  rfl
theorem putIn_low {row : List Int} {k p j : Nat} (hj : j < p) (hp : p ≤ row.length) : (putIn row k p)[j]? = row[j]? := by
  unfold putIn
  rw [List.append_assoc, List.getElem?_append_left (by rw [List.length_take]; omega), List.getElem?_take_of_lt hj]
theorem putIn_inj {row : List Int} {k p j : Nat} (h : (k : Int) ∉ row) (hp : p ≤ row.length) (hj : j ≤ row.length) (e : putIn row k p = putIn row k j) : p = j := by
  have key : ∀ {p j : Nat}, j < p → p ≤ row.length → putIn row k p = putIn row k j → False := fun {p j} hlt hp e => by
    have h1 := putIn_low (k := k) hlt hp
    rw [e, putIn_at (by omega)] at h1
    exact h (List.mem_of_getElem? h1.symm)
  by_cases c : j < p
  · exact (key c hp e).elim
  · by_cases d : p < j
    · exact (key d hj e.symm).elim
    · omega
theorem allP_nodup : ∀ n : Nat, (allP n).Nodup
  | 0 => List.nodup_cons.mpr ⟨List.not_mem_nil, List.nodup_nil⟩
  | n + 1 => by
    have hk : ∀ t ∈ allP n, (n : Int) ∉ t ∧ t.length = n := fun t ht => by
      obtain ⟨h1, h2⟩ := allP_sh n t ht
      exact ⟨fun hm => by have := h1.mem.mp hm; omega, h2⟩
    show ((allP n).flatMap (grow n)).Nodup
    refine nodup_flatMap' (grow n) (allP_nodup n) (fun t ht => ?_) (fun t ht u hu hne z hz hz2 => ?_)
    · obtain ⟨h1, h2⟩ := hk t ht
      unfold grow
      refine nodup_map_of_inj _ (fun p hp j hj e => ?_) List.nodup_range
      exact putIn_inj h1 (by have := List.mem_range.mp hp; omega) (by have := List.mem_range.mp hj; omega) e
    · obtain ⟨p, _, rfl⟩ := List.mem_map.mp hz
      obtain ⟨j, _, e⟩ := List.mem_map.mp hz2
      have z := congrArg (fun l : List Int => l.erase (n : Int)) e
      simp only [putIn_erase (hk t ht).1, putIn_erase (hk u hu).1] at z
      exact hne z.symm
/-! each number has a shape -/
theorem upW_find {n rest : Nat} : ∀ {k : Nat}, rest < upW n k → ∃ h, h < k ∧ upW n h ≤ rest ∧ rest < upW n (h + 1)
  | 0, h => absurd h (Nat.not_lt_zero rest)
  | k + 1, h => by
    by_cases c : rest < upW n k
    · obtain ⟨j, h1, h2, h3⟩ := upW_find c
      exact ⟨j, by omega, h2, h3⟩
    · exact ⟨k, by omega, by omega, h⟩
theorem least_of : ∀ (n : Nat) (last : Int) (rest : Nat), 0 ≤ last → rest < ways n last.toNat → ∃ L, Vl n last L ∧ rnk n L = rest
  | 0, last, rest, _, h => by
    have e : ways 0 last.toNat = 1 := rfl
    have e2 : rnk 0 ([] : List Int) = 0 := rfl
    exact ⟨[], rfl, by omega⟩
  | n + 1, last, rest, h0, h => by
    rw [ways_succ] at h
    obtain ⟨j, h1, h2, h3⟩ := upW_find h
    rw [upW_succ] at h3
    obtain ⟨L, v, e⟩ := least_of n (j : Int) (rest - upW n j) (by omega) (by rw [Int.toNat_natCast]; omega)
    refine ⟨(j : Int) :: L, ⟨_, _, rfl, by omega, by omega, by omega, v⟩, ?_⟩
    show upW n j + rnk n L = rest
    omega
theorem best_of {fall : Bool} : ∀ l : List Int, l ≠ [] → ∃ m ∈ l, ∀ y ∈ l, if fall = true then y ≤ m else m ≤ y
  | [], h => absurd rfl h
  | [x], _ => ⟨x, List.mem_cons_self, fun y hy => by
      have : y = x := by simpa using hy
      subst this
      cases fall
      · exact Int.le_refl _
      · exact Int.le_refl _⟩
  | x :: z :: r, _ => by
    obtain ⟨m, hm, hall⟩ := best_of (fall := fall) (z :: r) (by simp)
    cases fall with
    | true =>
      simp only [if_true] at hall ⊢
      by_cases c : m ≤ x
      · exact ⟨x, List.mem_cons_self, fun y hy => by
          rcases List.mem_cons.mp hy with e | e
          · omega
          · have := hall y e; omega⟩
      · exact ⟨m, List.mem_cons_of_mem _ hm, fun y hy => by
          rcases List.mem_cons.mp hy with e | e
          · omega
          · exact hall y e⟩
    | false =>
      simp only [if_neg Bool.false_ne_true] at hall ⊢
      by_cases c : x ≤ m
      · exact ⟨x, List.mem_cons_self, fun y hy => by
          rcases List.mem_cons.mp hy with e | e
          · omega
          · have := hall y e; omega⟩
      · exact ⟨m, List.mem_cons_of_mem _ hm, fun y hy => by
          rcases List.mem_cons.mp hy with e | e
          · omega
          · exact hall y e⟩
theorem sw_of {fall : Bool} : ∀ (L left : List Int) (l : Int), Left left l → Vl left.length l L → ∃ S, SW fall left L S
  | [], _, _, _, _ => ⟨[], rfl⟩
  | h :: L, left, l, H, hv => by
    cases hn : left.length with
    | zero => rw [hn] at hv; cases (show _ = [] from hv)
    | succ n =>
      rw [hn] at hv
      obtain ⟨h', r', e, h0, hl, hln, hv⟩ := hv
      cases e
      obtain ⟨x, hp⟩ : ∃ x, Pick fall left h x := by
        by_cases c : h ∈ left
        · exact ⟨h, c, .inl rfl⟩
        · obtain ⟨y, hy, hlt⟩ := H.greater h0 hl (by omega) c
          obtain ⟨x, hx, hall⟩ := best_of (fall := fall) (left.filter fun y => decide (h < y)) (List.ne_nil_of_mem (List.mem_filter.mpr ⟨hy, decide_eq_true hlt⟩))
          obtain ⟨hx1, hx2⟩ := List.mem_filter.mp hx
          exact ⟨x, hx1, .inr ⟨c, of_decide_eq_true hx2, fun v hv hlv => hall v (List.mem_filter.mpr ⟨hv, decide_eq_true hlv⟩)⟩⟩
      obtain ⟨H', _, _⟩ := H.next h0 hl hp
      have hlen : (left.erase x).length = n := by rw [List.length_erase_of_mem hp.1, hn]; rfl
      rw [← hlen] at hv
      obtain ⟨S, hS⟩ := sw_of L (left.erase x) h H' hv
      exact ⟨x :: S, x, S, rfl, hp, hS⟩
theorem shape_of_num {o : List Int} (ho : o ∈ sixes) {m n : Nat} (h1 : 1 ≤ m) (hn : n < ways m (m - 1)) : ∃ S, Sh S ∧ S.length = m ∧ cnt S o = 0 ∧ num o S = n := by
  obtain ⟨L, hv, e⟩ := least_of m ((m : Int) - 1) n (by omega) (by rw [show ((m : Int) - 1).toNat = m - 1 by omega]; exact hn)
  have hv' : Vl (upto m).length (m : Int) L := by
    rw [upto_length]
    obtain ⟨k, rfl⟩ : ∃ k, m = k + 1 := ⟨m - 1, by omega⟩
    obtain ⟨x, r, rfl, h0, h1, h2, h⟩ := hv
    exact ⟨x, r, rfl, h0, by omega, h2, h⟩
  obtain ⟨S, hS⟩ := sw_of (fall := fallOf o) L (upto m) m (left_start m) hv'
  obtain ⟨a, b, c, d⟩ := made ho hv hS
  exact ⟨br o S, a, b, c, d.trans e⟩
/-- all shapes without an order, however they are found -/
theorem whole_due {o : List Int} (ho : o ∈ sixes) {m : Nat} (h1 : 1 ≤ m) {ts ss : List (List Int)} (hts : ts.Perm (allP m)) (hl : ss.length = ways m (m - 1))
    (hss : ∀ n, n < ss.length → ∃ S, ss[n]? = some S ∧ Sh S ∧ S.length = m ∧ cnt S o = 0 ∧ num o S = n) : ss.Perm (ts.filter fun t => decide (cnt t o = 0)) := by
  have hnd : (ts.filter fun t => decide (cnt t o = 0)).Nodup := (hts.nodup_iff.mpr (allP_nodup m)).filter _
  have memts : ∀ t, Sh t → t.length = m → t ∈ ts := fun t h1 h2 => hts.mem_iff.mpr (allP_mem m t h1 h2)
  have sub : ∀ t ∈ ts.filter fun t => decide (cnt t o = 0), t ∈ ss := fun t ht => by
    obtain ⟨h2, h3⟩ := List.mem_filter.mp ht
    obtain ⟨h4, h5⟩ := allP_sh m t (hts.mem_iff.mp h2)
    have hc : cnt t o = 0 := of_decide_eq_true h3
    have hlt := num_lt (o := o) h4 (by omega)
    rw [h5] at hlt
    obtain ⟨S, e, s1, s2, s3, s4⟩ := hss (num o t) (by omega)
    have : S = t := num_inj ho s1 h4 (by omega) s3 hc s4
    subst this
    exact List.mem_of_getElem? e
  have hsn : ss.Nodup := by
    rw [List.nodup_iff_pairwise_ne, List.pairwise_iff_getElem]
    intro i j hi hj hij e
    obtain ⟨S, e1, _, _, _, n1⟩ := hss i hi
    obtain ⟨T, e2, _, _, _, n2⟩ := hss j hj
    rw [List.getElem?_eq_getElem hi] at e1
    rw [List.getElem?_eq_getElem hj] at e2
    injection e1 with e1
    injection e2 with e2
    rw [e1, e2] at e
    subst e
    omega
  refine perm_of_sub hsn (fun S hS => ?_) ?_
  · obtain ⟨n, hn, rfl⟩ := List.getElem_of_mem hS
    obtain ⟨S, e, s1, s2, s3, _⟩ := hss n hn
    rw [List.getElem?_eq_getElem hn] at e
    injection e with e
    rw [e]
    exact List.mem_filter.mpr ⟨memts S s1 s2, decide_eq_true s3⟩
  · exact length_le_of hnd sub
theorem due_many {o : List Int} (ho : o ∈ sixes) {m : Nat} (h1 : 1 ≤ m) {ts : List (List Int)} (hts : ts.Perm (allP m)) : (ts.filter fun t => decide (cnt t o = 0)).length = ways m (m - 1) := by
  have ex : ∀ n : Nat, ∃ S : List Int, n < ways m (m - 1) → Sh S ∧ S.length = m ∧ cnt S o = 0 ∧ num o S = n := fun n => by
    by_cases c : n < ways m (m - 1)
    · obtain ⟨S, h⟩ := shape_of_num ho h1 c
      exact ⟨S, fun _ => h⟩
    · exact ⟨[], fun h => absurd h c⟩
  have hl : ((List.range (ways m (m - 1))).map fun n => Classical.choose (ex n)).length = ways m (m - 1) := by rw [List.length_map, List.length_range]
  have p := whole_due ho h1 hts hl fun n hn => by
    rw [hl] at hn
    exact ⟨_, by rw [List.getElem?_map, List.getElem?_range hn]; rfl, Classical.choose_spec (ex n) hn⟩
  rw [← p.length_eq, hl]
end SO

namespace SO
open PySem L2
/-! ### the text by places -/
noncomputable def top (i : Nat) : Stmt := PySem.Challenge.pw_shapeorders_k06_all_without_an_order.main.body.getD i (.Pass ⟨0, 0, 0, 0⟩)
noncomputable def noScope : Scope := { kind := .function, names := [], isGenerator := false, isCoroutine := false }
noncomputable def scE : Expr → Scope
  | .ListComp _ _ sc _ => sc
  | .Call _ [.ListComp _ _ sc _] _ _ => sc
  | _ => noScope
noncomputable def retE : Stmt → Expr
  | .Return (some e) _ => e
  | .Assign _ e _ => e
  | .Expr e _ => e
  | .If e _ _ _ => e
  | .While e _ _ _ => e
  | .For _ e _ _ _ => e
  | _ => .Constant .none 0 ⟨0, 0, 0, 0⟩
/-- the i-th statement's value in a def -/
noncomputable def valE (s : Stmt) (i : Nat) : Expr := retE ((defBody s).getD i (.Pass ⟨0, 0, 0, 0⟩))
/-- the i-th statement within a statement; behind else -/
noncomputable def subS (s : Stmt) (i : Nat) : Stmt := match s with
  | .FunctionDef _ _ b _ _ _ _ _ _ _ => b.getD i (.Pass ⟨0, 0, 0, 0⟩)
  | .For _ _ b _ _ => b.getD i (.Pass ⟨0, 0, 0, 0⟩)
  | .While _ b _ _ => b.getD i (.Pass ⟨0, 0, 0, 0⟩)
  | .If _ b _ _ => b.getD i (.Pass ⟨0, 0, 0, 0⟩)
  | .Try b _ _ _ _ => b.getD i (.Pass ⟨0, 0, 0, 0⟩)
  | _ => .Pass ⟨0, 0, 0, 0⟩
noncomputable abbrev sCheckRow : Stmt := top 10
noncomputable abbrev sCheckShape : Stmt := top 11
noncomputable abbrev sIsShape : Stmt := top 12
noncomputable abbrev sBackward : Stmt := top 13
noncomputable abbrev sContrary : Stmt := top 14
noncomputable abbrev sCheckOrder : Stmt := top 17
noncomputable abbrev sAgrees : Stmt := top 18
noncomputable abbrev sNextPlaces : Stmt := top 19
noncomputable abbrev sFirstFrom : Stmt := top 20
noncomputable abbrev sFirst : Stmt := top 21
noncomputable abbrev sCheckSize : Stmt := top 24
noncomputable abbrev sCheckThree : Stmt := top 27
noncomputable abbrev sCheckWithout : Stmt := top 28
noncomputable abbrev sBrought : Stmt := top 29
noncomputable abbrev sLeast : Stmt := top 30
noncomputable abbrev sShapeWith : Stmt := top 31
noncomputable abbrev sWaysOn : Stmt := top 32
noncomputable abbrev sNumLeast : Stmt := top 33
noncomputable abbrev sLeastAt : Stmt := top 34
noncomputable abbrev sManyWithout : Stmt := top 35
noncomputable abbrev sWithoutAt : Stmt := top 36
noncomputable abbrev sNumberOf : Stmt := top 37
noncomputable abbrev sCell : Stmt := top 39
noncomputable abbrev sWhole : Stmt := top 40
noncomputable abbrev sNumbers : Stmt := top 41
noncomputable abbrev sThree : Stmt := top 42
noncomputable abbrev sHas : Stmt := top 43
noncomputable abbrev sAll : Stmt := top 44
noncomputable abbrev sLaw : Stmt := top 45
end SO

namespace SO
open PySem L2 PySem.SeqAt
section
set_option maxHeartbeats 450000
variable {P : Program} {w : World} {K : PySem.W.Frag} {mg : Str → Option Value} {base : Heap} {f g g1 g2 g3 g4 g5 g6 : Addr} {fd gd gd1 gd2 gd3 gd4 gd5 gd6 : FuncData} {t30 t4 t12 t20 : Tok} {cE cR cS cO cZ cT cH cN aR : Addr}
/-! ### what the defs of shapeorders.shapes promise -/
noncomputable abbrev dec (p : Prop) [Decidable p] : V := .bl (decide p)
/-- a new list of ints -/
noncomputable def NewL (H : Hp) (Q : VK) (ms : List Int) : Prop := ∀ (r : Addr) (H' : Hp), Same H H' → H r = none → H' r = some (.lst (ms.map V.int)) → Q (.ref r) H'
noncomputable def spCheckRow (K : PySem.W.Frag) : Sp := fun vs H Q _ => ∃ (a : Addr) (ns : List Int), vs = [.ref a] ∧ LI K H a ns ∧ ns.length ≤ 30 ∧ ns.Nodup ∧ ∀ H', Same H H' → Q .non H'
noncomputable def spIsShape (K : PySem.W.Frag) : Sp := fun vs H Q _ => ∃ (a : Addr) (ns : List Int), vs = [.ref a] ∧ LI K H a ns ∧ ns.length ≤ 60 ∧ ∀ H', Same H H' → Q (dec (ns.length ≤ 30 ∧ Sh ns)) H'
noncomputable def spCheckShape (K : PySem.W.Frag) : Sp := fun vs H Q _ => ∃ (a : Addr) (ns : List Int), vs = [.ref a] ∧ LI K H a ns ∧ ns.length ≤ 30 ∧ Sh ns ∧ ∀ H', Same H H' → Q .non H'
theorem ok_check_row (F : Fun K "check_row" "check_row" sCheckRow f fd) (hlen : mg "len" = none) (hset : mg "set" = none) (hmost : mg "MOST_NUMBERS" = some (.int 30 t30)) :
    FnOk P w K mg base CX0 1 f fd ["row"] (spCheckRow K) := by
  refine F.ok (k := 0) (N := ["row"]) ⟨rfl, rfl, rfl, by decide +kernel, rfl, by decide +kernel, by decide +kernel⟩ (fun vs H Q E h => ?_) (fun cdv A outer s H vs Q E hr h => ?_)
  · obtain ⟨a, ns, rfl, _⟩ := h
    rfl
  obtain ⟨a, ns, rfl, hL, h30, hnd, q⟩ := h
  refine ⟨_, pss_one (ps_if (PW.pt (pw_or (pt_cmpR op_gt (pe_callB (call_lenI (K := K)) rfl hlen PySem.boot_len (pa_cons (pv 0) pa_nil)) (pe_glob (v := .int 30) rfl hmost ⟨_, rfl⟩) (nomark _))
    (pw_or1 (pt_cmpR op_ne (pe_callB call_lenS rfl hlen PySem.boot_len (pa_cons (pe_callTy (call_setI (K := K) rfl) rfl hset PyProof.Rows.boot_set (pa_cons (pv 0) pa_nil)) pa_nil))
      (pe_callB (call_lenI (K := K)) rfl hlen PySem.boot_len (pa_cons (pv 0) pa_nil)) (nomark _))))) pss_never pss_nil), ?_⟩
  refine ⟨_, rfl, a, ns, rfl, hL, _, _, rfl, rfl, _, rfl, ?_⟩
  rw [no_dec (by omega)]
  refine iteF ⟨_, rfl, a, ns, rfl, hL, by omega, fun l S n hn hle hl => ?_⟩
  have g1 : Same H (upd H l (.set S n)) := same_new hl _
  refine ⟨l, S, n, rfl, upd_same, by omega, _, rfl, a, ns, rfl, g1.seq hL, rfl, _, rfl, ?_⟩
  refine iteNS (by rw [hn.mpr hnd]) ?_
  exact q _ g1
theorem ok_is_shape (F : Fun K "is_shape" "is_shape" sIsShape f fd) (hlen : mg "len" = none) (hsorted : mg "sorted" = none) (hlist : mg "list" = none) (hrange : mg "range" = none) (hmost : mg "MOST_NUMBERS" = some (.int 30 t30)) :
    FnOk P w K mg base CX0 1 f fd ["some"] (spIsShape K) := by
  refine F.ok (k := 0) (N := ["some"]) ⟨rfl, rfl, rfl, by decide +kernel, rfl, by decide +kernel, by decide +kernel⟩ (fun vs H Q E h => ?_) (fun cdv A outer s H vs Q E hr h => ?_)
  · obtain ⟨a, ns, rfl, _⟩ := h
    rfl
  obtain ⟨a, ns, rfl, hL, h60, q⟩ := h
  refine ⟨_, pss_one (ps_ret (pe_and (pe_cmpR op_le (pe_callB (call_lenI (K := K)) rfl hlen PySem.boot_len (pa_cons (pv 0) pa_nil)) (pe_glob (v := .int 30) rfl hmost ⟨_, rfl⟩) (nomark _))
    (pe_one (pe_cmpR (op_eqI (K := K) hr.units) (pe_callB (call_sortedI (K := K)) rfl hsorted PyProof.Rows.boot_sorted (pa_cons (pv 0) pa_nil))
      (pe_callTy (call_listRng rfl) rfl hlist PyProof.Rows.boot_list (pa_cons (pe_callTy call_rangeV rfl hrange PyProof.Rows.boot_range (pa_cons (pe_callB (call_lenI (K := K)) rfl hlen PySem.boot_len (pa_cons (pv 0) pa_nil)) pa_nil)) pa_nil)) (nomark _))))), ?_⟩
  refine ⟨_, rfl, a, ns, rfl, hL, _, _, rfl, rfl, _, rfl, ?_⟩
  refine ite2 (fun c => ?_) (fun c => ?_)
  · have c' : (ns.length : Int) ≤ 30 := of_decide_eq_true c
    refine ⟨_, rfl, a, ns, rfl, hL, by omega, fun l ms hp hs hl => ?_⟩
    have g1 : Same H (upd H l (.lst (ms.map V.int))) := same_new hl _
    refine ⟨_, rfl, a, ns, rfl, g1.seq hL, _, rfl, fun l2 hl2 => ?_⟩
    have g2 := same_new hl2 (.rng 0 (ns.length : Nat))
    refine ⟨l2, _, rfl, upd_same, by omega, by omega, fun l3 hl3 => ?_⟩
    have g3 := same_new hl3 (.lst ((upto (((ns.length : Nat) : Int)).toNat).map V.int))
    refine ⟨l, l3, ms, _, rfl, rfl, LI.of (g3 _ _ (g2 _ _ upd_same)), LI.of upd_same, ?_⟩
    have e : decide (ms = upto (((ns.length : Nat) : Int)).toNat) = decide (ns.length ≤ 30 ∧ Sh ns) := by
      rw [Int.toNat_natCast]
      refine decide_eq_decide.mpr ⟨fun h => ⟨by omega, (sorted_eq_upto hp hs).mp h⟩, fun h => (sorted_eq_upto hp hs).mpr h.2⟩
    rw [e]
    exact q _ (g1.trans (g2.trans g3))
  · have c' : ¬ (ns.length : Int) ≤ 30 := of_decide_eq_false (Bool.eq_false_iff.mpr c)
    have e : false = decide (ns.length ≤ 30 ∧ Sh ns) := (decide_eq_false fun h => c' (by omega)).symm
    rw [e]
    exact q _ (Same.refl H)
theorem ok_check_shape {n : Nat} (F : Fun K "check_shape" "check_shape" sCheckShape f fd) (G : FnOk P w K mg base CX0 n g gd ["some"] (spIsShape K)) (bG : Binds K gd ["some"] []) (kG : PySem.W.keepIn K (.ref g) = true) (mG : mg "is_shape" = some (.ref g)) :
    FnOk P w K mg base CX0 (n + 1) f fd ["shape"] (spCheckShape K) := by
  refine F.ok (N := ["shape"]) ⟨rfl, rfl, rfl, by decide +kernel, rfl, by decide +kernel, by decide +kernel⟩ (fun vs H Q E h => ?_) (fun cdv A outer s H vs Q E hr h => ?_)
  · obtain ⟨a, ns, rfl, _⟩ := h
    rfl
  obtain ⟨a, ns, rfl, hL, h30, hsh, q⟩ := h
  refine ⟨_, pss_one (ps_if (pt_not (pt_val (pe_call G hr rfl mG kG bG .nil pass0 (pa_cons (pv 0) pa_nil)))) pss_never pss_nil), ?_⟩
  refine ⟨_, rfl, a, ns, rfl, hL, by omega, fun H' g1 => ⟨_, rfl, ?_⟩⟩
  refine iteNS ⟨h30, hsh⟩ ?_
  exact q _ g1
noncomputable def spOfShape (K : PySem.W.Frag) (f : List Int → List Int) : Sp := fun vs H Q _ => ∃ (a : Addr) (ns : List Int), vs = [.ref a] ∧ LI K H a ns ∧ ns.length ≤ 30 ∧ Sh ns ∧ NewL H Q (f ns)
theorem ok_backward {n : Nat} (F : Fun K "backward" "backward" sBackward f fd) (G : FnOk P w K mg base CX0 n g gd ["shape"] (spCheckShape K)) (bG : Binds K gd ["shape"] []) (kG : PySem.W.keepIn K (.ref g) = true) (mG : mg "check_shape" = some (.ref g))
    (hlist : mg "list" = none) (hrev : mg "reversed" = none) : FnOk P w K mg base CX0 (n + 1) f fd ["shape"] (spOfShape K List.reverse) := by
  refine F.ok (N := ["shape"]) ⟨rfl, rfl, rfl, by decide +kernel, rfl, by decide +kernel, by decide +kernel⟩ (fun vs H Q E h => ?_) (fun cdv A outer s H vs Q E hr h => ?_)
  · obtain ⟨a, ns, rfl, _⟩ := h
    rfl
  obtain ⟨a, ns, rfl, hL, h30, hsh, q⟩ := h
  refine ⟨_, pss_cons (ps_expr (pe_call G hr rfl mG kG bG .nil pass0 (pa_cons (pv 0) pa_nil))) (pss_one (ps_ret (pe_listRev (K := K) rfl rfl hlist rfl hrev (pv 0)))), ?_⟩
  refine ⟨_, rfl, a, ns, rfl, hL, h30, hsh, fun H1 g1 => ?_⟩
  refine ⟨_, rfl, a, ns, rfl, g1.seq hL, fun l hl => ?_⟩
  exact q l _ (g1.trans (same_new hl _)) (g1.free hl) upd_same
theorem okc_contrary : CompOk (defScope sContrary) ["shape"] "number" ["shape"] [0] (scE (valE sContrary 1)) := ⟨rfl, by decide +kernel, by decide +kernel, by decide +kernel, by decide +kernel, by decide +kernel, by decide +kernel, by decide +kernel⟩
theorem ok_contrary {n : Nat} (F : Fun K "contrary" "contrary" sContrary f fd) (G : FnOk P w K mg base CX0 n g gd ["shape"] (spCheckShape K)) (bG : Binds K gd ["shape"] []) (kG : PySem.W.keepIn K (.ref g) = true) (mG : mg "check_shape" = some (.ref g))
    (hlen : mg "len" = none) : FnOk P w K mg base CX0 (n + 1) f fd ["shape"] (spOfShape K contr) := by
  refine F.ok (N := ["shape"]) ⟨rfl, rfl, rfl, by decide +kernel, rfl, by decide +kernel, by decide +kernel⟩ (fun vs H Q E h => ?_) (fun cdv A outer s H vs Q E hr h => ?_)
  · obtain ⟨a, ns, rfl, _⟩ := h
    rfl
  obtain ⟨a, ns, rfl, hL, h30, hsh, q⟩ := h
  refine ⟨_, pss_cons (ps_expr (pe_call G hr rfl mG kG bG .nil pass0 (pa_cons (pv 0) pa_nil)))
    (pss_one (ps_ret (pe_comp (x := "number") (F := ["shape"]) (is := [0]) okc_contrary rfl (pi_listK (K := K) (pv 0)) (fun _ _ _ _ _ => pts_nil)
      (fun _ _ _ _ _ => pe_op op_sub (pe_op op_sub (pe_callB (call_lenI (K := K)) rfl hlen PySem.boot_len (pa_cons (pv 1) pa_nil)) pe_int) (pv 0))))), ?_⟩
  refine ⟨_, rfl, a, ns, rfl, hL, h30, hsh, fun H1 g1 => ?_⟩
  refine ⟨_, rfl, a, rfl, ⟨_, g1.seq hL⟩, ?_⟩
  refine comp_ints ns (fun v => (ns.length : Int) - 1 - v) (fun _ => true) (by omega) (g1.seq hL) (fun i _ H2 hS N hN => hN H2 hS) (fun i _ _ H2 hS N hN => ?_) (fun l H' hS hl => ?_)
  · exact ⟨_, rfl, a, ns, rfl, hS.seq (g1.seq hL), _, _, rfl, rfl, _, rfl, _, _, rfl, rfl, hN H2 hS⟩
  · have e : ((ns.filter fun _ => true).map fun v => (ns.length : Int) - 1 - v) = contr ns := by
      rw [all_true]; rfl
    have g2 : Same H H' := g1.trans hS
    exact q l _ (g2.trans (same_new hl _)) (g2.free hl) (by rw [upd_same, e])
/-! ### what the defs of shapeorders.orders promise -/
noncomputable def spCheckOrder (K : PySem.W.Frag) : Sp := fun vs H Q _ => ∃ (a : Addr) (ns : List Int), vs = [.ref a] ∧ LI K H a ns ∧ Sh ns ∧ 1 ≤ ns.length ∧ ns.length ≤ 4 ∧ ∀ H', Same H H' → Q .non H'
noncomputable def spAgrees (K : PySem.W.Frag) : Sp := fun vs H Q _ => ∃ (a b c : Addr) (row order : List Int) (t : List Nat) (p : Nat), vs = [.ref a, .ref b, .ref c, nv p] ∧ LI K H a row ∧ LI K H b order ∧ TN H c t ∧
  row.length ≤ 30 ∧ t.length < order.length ∧ order.length ≤ 30 ∧ (∀ q ∈ t, q < row.length) ∧ p < row.length ∧ Q (.bl (agr row order t p)) H
noncomputable def spNext (K : PySem.W.Frag) : Sp := fun vs H Q _ => ∃ (a b c : Addr) (row order : List Int) (t : List Nat), vs = [.ref a, .ref b, .ref c] ∧ LI K H a row ∧ LI K H b order ∧ TN H c t ∧
  row.length ≤ 30 ∧ t.length < order.length ∧ order.length ≤ 30 ∧ Rises row.length t ∧ ∀ (r : Addr) (H' : Hp), Same H H' → H r = none → H' r = some (.lst ((nextP row order t).map nv)) → Q (.ref r) H'
noncomputable def NewF (H : Hp) (Q : VK) (o : Option (List Nat)) : Prop := (∀ u, o = some u → ∀ (r : Addr) (H' : Hp), Same H H' → TN H' r u → Q (.ref r) H') ∧ (o = none → ∀ H', Same H H' → Q .non H')
noncomputable def spFirstFrom (K : PySem.W.Frag) (d : Nat) : Sp := fun vs H Q _ => ∃ (a b c : Addr) (row order : List Int) (t : List Nat), vs = [.ref a, .ref b, .ref c] ∧ LI K H a row ∧ LI K H b order ∧ TN H c t ∧
  row.length ≤ 30 ∧ order.length ≤ 4 ∧ Rises row.length t ∧ t.length + d = order.length ∧ NewF H Q (firstF row order d t)
noncomputable def spFirst (K : PySem.W.Frag) : Sp := fun vs H Q _ => ∃ (a b : Addr) (row order : List Int), vs = [.ref a, .ref b] ∧ LI K H a row ∧ LI K H b order ∧ row.Nodup ∧ row.length ≤ 30 ∧ Sh order ∧ 1 ≤ order.length ∧ order.length ≤ 4 ∧ NewF H Q (firstF row order order.length [])
theorem ok_check_order {n : Nat} (F : Fun K "check_order" "check_order" sCheckOrder f fd) (G : FnOk P w K mg base CX0 n g gd ["shape"] (spCheckShape K)) (bG : Binds K gd ["shape"] []) (kG : PySem.W.keepIn K (.ref g) = true) (mG : mg "check_shape" = some (.ref g))
    (hlen : mg "len" = none) (hmost : mg "MOST_OF_ORDER" = some (.int 4 t4)) : FnOk P w K mg base CX0 (n + 1) f fd ["order"] (spCheckOrder K) := by
  refine F.ok (N := ["order"]) ⟨rfl, rfl, rfl, by decide +kernel, rfl, by decide +kernel, by decide +kernel⟩ (fun vs H Q E h => ?_) (fun cdv A outer s H vs Q E hr h => ?_)
  · obtain ⟨a, ns, rfl, _⟩ := h
    rfl
  obtain ⟨a, ns, rfl, hL, hsh, h1, h4, q⟩ := h
  refine ⟨_, pss_cons (ps_expr (pe_call G hr rfl mG kG bG .nil pass0 (pa_cons (pv 0) pa_nil))) (pss_one (ps_if (PW.pt (pw_or (pt_cmpR op_lt (pe_callB (call_lenI (K := K)) rfl hlen PySem.boot_len (pa_cons (pv 0) pa_nil)) pe_int (nomark _))
    (pw_or1 (pt_cmpR op_gt (pe_callB (call_lenI (K := K)) rfl hlen PySem.boot_len (pa_cons (pv 0) pa_nil)) (pe_glob (v := .int 4) rfl hmost ⟨_, rfl⟩) (nomark _))))) pss_never pss_nil)), ?_⟩
  refine ⟨_, rfl, a, ns, rfl, hL, by omega, hsh, fun H1 g1 => ?_⟩
  refine ⟨_, rfl, a, ns, rfl, g1.seq hL, _, _, rfl, rfl, _, rfl, ?_⟩
  rw [no_dec (by omega)]
  refine iteF ⟨_, rfl, a, ns, rfl, g1.seq hL, _, _, rfl, rfl, _, rfl, ?_⟩
  rw [no_dec (by omega)]
  exact iteF (q _ g1)
theorem ok_agrees (F : Fun K "agrees" "agrees" sAgrees f fd) (hlen : mg "len" = none) (hrange : mg "range" = none) : FnOk P w K mg base CX0 1 f fd ["row", "order", "taken", "place"] (spAgrees K) := by
  have S : FnScope ["row", "order", "taken", "place", "number", "k"] ["row", "order", "taken", "place"] (defScope sAgrees) := ⟨rfl, rfl, rfl, by decide +kernel, rfl, by decide +kernel, by decide +kernel⟩
  refine F.ok (k := 0) S (fun vs H Q E h => ?_) (fun cdv A outer s H vs Q E hr h => ?_)
  · obtain ⟨a, b, c, row, order, t, p, rfl, _⟩ := h
    rfl
  obtain ⟨a, b, c, row, order, t, p, rfl, hL, hO, hT, h30, hto, ho30, htr, hp, q⟩ := h
  refine ⟨_, pss_cons (ps_set (i := 4) S.nd rfl (Or.inl rfl) (pe_ix (ix_listK (K := K)) (pv 1) (pe_callB call_lenN rfl hlen PySem.boot_len (pa_cons (pv 2) pa_nil)) (fun _ _ => rfl)))
    (pss_cons (ps_for PassesOwn.never rfl (pi_range1 rfl hrange (pa_cons (pe_callB call_lenN rfl hlen PySem.boot_len (pa_cons (pv 2) pa_nil)) pa_nil)) (pg_name (i := 5) S.nd rfl (Or.inl rfl))
      (pss_one (ps_if (pt_cmpR op_ne (pe_cmpR op_lt (pe_ix (ix_listK (K := K)) (pv 0) (pe_ix (ix_tupK (K := K)) (pv 2) (pv 5) (fun _ _ => rfl)) (fun _ _ => rfl)) (pe_ix (ix_listK (K := K)) (pv 0) (pv 3) (fun _ _ => rfl)) (nomark _))
        (pe_cmpR op_lt (pe_ix (ix_listK (K := K)) (pv 1) (pv 5) (fun _ _ => rfl)) (pv 4) (nomark _)) (nomark _)) (pss_one (ps_ret pe_bl)) pss_nil)))
    (pss_one (ps_ret pe_bl))), ?_⟩
  refine ⟨_, rfl, _, rfl, c, t, rfl, hT, b, _, _, _, rfl, rfl, hO, atI_ints (by omega) (by omega), ?_⟩
  refine ⟨_, rfl, c, t, rfl, hT, _, rfl, by omega, by omega, ?_⟩
  rw [Int.toNat_natCast]
  have hall : agr row order t p = true ↔ ∀ k, k < t.length → decide (decide (vAt row (t.getD k 0) < vAt row p) = decide (vAt order k < vAt order t.length)) = true := by
    unfold agr
    rw [List.all_eq_true]
    exact ⟨fun h k hk => h k (List.mem_range.mpr hk), fun h k hk => h k (List.mem_range.mp hk)⟩
  refine for_range (n := t.length) (fun i σ' H' => ∃ t5, σ' = [some (.ref a), some (.ref b), some (.ref c), some (nv p), some (.int (vAt order t.length)), t5] ∧ H' = H ∧ ∀ k, k < i → decide (decide (vAt row (t.getD k 0) < vAt row p) = decide (vAt order k < vAt order t.length)) = true)
    ⟨none, rfl, rfl, fun k hk => absurd hk (Nat.not_lt_zero _)⟩ (fun i σ' H' hi h => ?_) (fun σ' H' h => ?_)
  · obtain ⟨t5, rfl, rfl, hk⟩ := h
    have ei : ((0 : Int) + (i : Int)).toNat = i := by omega
    have htq : t.getD i 0 < row.length := htr _ (by
      rw [List.getD_eq_getElem?_getD, List.getElem?_eq_getElem hi]; exact List.getElem_mem hi)
    refine ⟨_, rfl, _, rfl, _, rfl, c, _, _, _, rfl, rfl, SqT.of hT, atI_nv (by omega) (by omega), a, _, _, _, rfl, rfl, hL, atI_ints (by omega) (by rw [ei]; omega), ?_⟩
    refine ⟨_, rfl, _, rfl, a, _, _, _, rfl, rfl, hL, atI_ints (by omega) (by omega), _, _, rfl, rfl, ?_⟩
    refine ⟨_, rfl, _, rfl, b, _, _, _, rfl, rfl, hO, atI_ints (by omega) (by omega), _, rfl, _, _, rfl, rfl, rfl, _, rfl, ?_⟩
    rw [ei]
    have ec : decide (V.bl (decide (row.getD ((t.getD i 0 : Nat) : Int).toNat 0 < row.getD ((p : Nat) : Int).toNat 0)) = V.bl (decide (order.getD i 0 < vAt order t.length))) =
        decide (decide (vAt row (t.getD i 0) < vAt row p) = decide (vAt order i < vAt order t.length)) := by
      refine decide_eq_decide.mpr ⟨fun h => ?_, fun h => ?_⟩
      · injection h
      · exact congrArg V.bl h
    rw [ec]
    by_cases hcond : decide (decide (vAt row (t.getD i 0) < vAt row p) = decide (vAt order i < vAt order t.length)) = true
    · rw [hcond]
      refine iteF ⟨_, rfl, rfl, fun k hk' => ?_⟩
      by_cases hki : k = i
      · subst hki; exact hcond
      · exact hk k (by omega)
    · rw [Bool.eq_false_iff.mpr hcond]
      refine iteT ?_
      have : agr row order t p = false := Bool.eq_false_iff.mpr fun h => hcond (hall.mp h i hi)
      rw [this] at q
      exact q
  · obtain ⟨t5, rfl, rfl, hk⟩ := h
    have := hall.mpr hk
    rw [this] at q
    exact q
/-- taken[-1] + 1 if len(taken) > 0 else 0 -/
noncomputable def tStart (i : Nat) : TE := fun σ H Q => ∃ c t, σ[i]? = some (some (.ref c)) ∧ TN H c t ∧ ∀ H', Same H H' → Q (nv (startOf t)) H'
theorem atI_m1 {t : List Nat} (h : 0 < t.length) : atI (t.map nv) (-1) = some (nv (t.getD (t.length - 1) 0)) := by
  obtain ⟨x, hx⟩ : ∃ x, t[t.length - 1]? = some x := ⟨_, List.getElem?_eq_getElem (by omega)⟩
  have e : t = t.take (t.length - 1) ++ [x] := by
    obtain ⟨hi, e⟩ := List.getElem?_eq_some_iff.mp hx
    have h1 := List.take_succ_eq_append_getElem hi
    rw [e] at h1
    rw [← h1, List.take_of_length_le (by omega)]
  have e2 : t.getD (t.length - 1) 0 = x := by rw [List.getD_eq_getElem?_getD, hx]; rfl
  rw [e2]
  conv => lhs; rw [e, List.map_append]
  exact atI_last _ _
theorem okc_next : CompOk (defScope sNextPlaces) ["row", "order", "taken", "start"] "place" ["row", "order", "taken"] [0, 1, 2] (scE (valE sNextPlaces 1)) := ⟨rfl, by decide +kernel, by decide +kernel, by decide +kernel, by decide +kernel, by decide +kernel, by decide +kernel, by decide +kernel⟩
theorem ok_next {n : Nat} (F : Fun K "next_places" "next_places" sNextPlaces f fd) (G : FnOk P w K mg base CX0 n g gd ["row", "order", "taken", "place"] (spAgrees K)) (bG : Binds K gd ["row", "order", "taken", "place"] []) (kG : PySem.W.keepIn K (.ref g) = true) (mG : mg "agrees" = some (.ref g))
    (hlen : mg "len" = none) (hrange : mg "range" = none) : FnOk P w K mg base CX0 (n + 1) f fd ["row", "order", "taken"] (spNext K) := by
  have S : FnScope ["row", "order", "taken", "start"] ["row", "order", "taken"] (defScope sNextPlaces) := ⟨rfl, rfl, rfl, by decide +kernel, rfl, by decide +kernel, by decide +kernel⟩
  refine F.ok S (fun vs H Q E h => ?_) (fun cdv A outer s H vs Q E hr h => ?_)
  · obtain ⟨a, b, c, row, order, t, rfl, _⟩ := h
    rfl
  obtain ⟨a, b, c, row, order, t, rfl, hL, hO, hT, h30, hto, ho30, hri, q⟩ := h
  refine ⟨_, pss_cons (ps_set (i := 3) S.nd rfl (Or.inl rfl) (PE.imp (t' := tStart 2) (pe_ifExp (pt_cmpR op_gt (pe_callB call_lenN rfl hlen PySem.boot_len (pa_cons (pv 2) pa_nil)) pe_int (nomark _))
      (pe_op op_add (pe_ix (ix_tupK (K := K)) (pv 2) (pe_un un_neg pe_int) (fun _ _ => rfl)) pe_int) pe_int) (fun σ H Q h => ?_)))
    (pss_one (ps_ret (pe_comp (x := "place") (F := ["row", "order", "taken"]) (is := [0, 1, 2]) okc_next rfl (pi_range2 rfl hrange (pa_cons (pv 3) (pa_cons (pe_callB (call_lenI (K := K)) rfl hlen PySem.boot_len (pa_cons (pv 0) pa_nil)) pa_nil)))
      (fun _ _ _ _ _ => pts_one (pt_val (pe_call G hr rfl mG kG bG .nil pass0 (pa_cons (pv 1) (pa_cons (pv 2) (pa_cons (pv 3) (pa_cons (pv 0) pa_nil)))))))
      (fun _ _ _ _ _ => pv 0)))), ?_⟩
  · obtain ⟨c, t, hc, hT, q⟩ := h
    refine ⟨_, hc, c, t, rfl, hT, _, _, rfl, rfl, _, rfl, ite2 (fun h => ?_) (fun h => ?_)⟩
    · have h' : (0 : Int) < (t.length : Nat) := of_decide_eq_true h
      refine ⟨_, hc, _, rfl, c, _, _, _, rfl, rfl, SqT.of hT, atI_m1 (by omega), _, _, rfl, rfl, ?_⟩
      have e : startOf t = t.getD (t.length - 1) 0 + 1 := startOf_pos (by omega)
      have z := q H (Same.refl H)
      rw [e] at z
      exact z
    · have h' : ¬ (0 : Int) < (t.length : Nat) := of_decide_eq_false (Bool.eq_false_iff.mpr h)
      have e : t = [] := List.length_eq_zero_iff.mp (by omega)
      subst e
      exact q H (Same.refl H)
  have hsn := startOf_le_n hri
  refine ⟨c, t, rfl, hT, fun H1 g1 => ?_⟩
  refine ⟨_, rfl, _, rfl, a, row, rfl, g1.seq hL, _, _, rfl, ⟨by omega, by omega, by omega, by omega⟩, ?_⟩
  have en : (((row.length : Nat) : Int) - ((startOf t : Nat) : Int)).toNat = row.length - startOf t := by omega
  rw [en]
  refine comp_enc (froms row.length t) nv nv (agr row order t) (Nat.lt_of_le_of_lt (froms_len _ _) (small1000 (by omega))) over_from (fun p hp H2 g2 N hN => ?_) (fun p hp _ H2 g2 N hN => ⟨_, rfl, hN H2 (Same.refl _)⟩) (fun l H2 g2 hl => ?_)
  · have hf := mem_froms.mp hp
    have g12 := g1.trans g2
    exact ⟨_, rfl, _, rfl, _, rfl, _, rfl, a, b, c, row, order, t, p, rfl, g12.seq hL, g12.seq hO, g12 _ _ hT, h30, hto, ho30, hri.2, hf.2, _, rfl, hN H2 (Same.refl _)⟩
  · have g12 := g1.trans g2
    exact q l _ (g12.trans (same_new hl _)) (g12.free hl) upd_same
theorem ok_first_from (F : Fun K "first_from" "first_from" sFirstFrom f fd) (bF : Binds K fd ["row", "order", "taken"] []) (kF : PySem.W.keepIn K (.ref f) = true) (mF : mg "first_from" = some (.ref f))
    (G : FnOk P w K mg base CX0 2 g gd ["row", "order", "taken"] (spNext K)) (bG : Binds K gd ["row", "order", "taken"] []) (kG : PySem.W.keepIn K (.ref g) = true) (mG : mg "next_places" = some (.ref g))
    (hlen : mg "len" = none) : ∀ d : Nat, FnOk P w K mg base CX0 (d + 3) f fd ["row", "order", "taken"] (spFirstFrom K d) := by
  have S : FnScope ["row", "order", "taken", "place", "found"] ["row", "order", "taken"] (defScope sFirstFrom) := ⟨rfl, rfl, rfl, by decide +kernel, rfl, by decide +kernel, by decide +kernel⟩
  intro d
  induction d with
  | zero =>
    refine F.ok S (fun vs H Q E h => ?_) (fun cdv A outer s H vs Q E hr h => ?_)
    · obtain ⟨a, b, c, row, order, t, rfl, _⟩ := h
      rfl
    obtain ⟨a, b, c, row, order, t, rfl, hL, hO, hT, h12, h4, hri, hd, q⟩ := h
    refine ⟨_, pss_cons (ps_if (pt_cmpR op_eq (pe_callB call_lenN rfl hlen PySem.boot_len (pa_cons (pv 2) pa_nil)) (pe_callB (call_lenI (K := K)) rfl hlen PySem.boot_len (pa_cons (pv 1) pa_nil)) (nomark _)) (pss_one (ps_ret (pv 2))) pss_nil) pss_never, ?_⟩
    refine ⟨_, rfl, c, t, rfl, hT, _, rfl, b, order, rfl, hO, rfl, _, rfl, ?_⟩
    have e : decide (V.int (t.length : Nat) = V.int (order.length : Nat)) = true := decide_eq_true (by rw [show t.length = order.length by omega])
    rw [e]
    exact iteT ⟨_, rfl, q.1 t rfl c H (Same.refl H) hT⟩
  | succ d ih =>
    refine F.ok S (fun vs H Q E h => ?_) (fun cdv A outer s H vs Q E hr h => ?_)
    · obtain ⟨a, b, c, row, order, t, rfl, _⟩ := h
      rfl
    obtain ⟨a, b, c, row, order, t, rfl, hL, hO, hT, h12, h4, hri, hd, q⟩ := h
    refine ⟨_, pss_cons (ps_if (pt_cmpR op_eq (pe_callB call_lenN rfl hlen PySem.boot_len (pa_cons (pv 2) pa_nil)) (pe_callB (call_lenI (K := K)) rfl hlen PySem.boot_len (pa_cons (pv 1) pa_nil)) (nomark _)) pss_never pss_nil)
      (pss_cons (ps_for PassesOwn.never rfl (pi_listK (K := K) (pe_call G (hr.mono (by omega)) rfl mG kG bG .nil pass0 (pa_cons (pv 0) (pa_cons (pv 1) (pa_cons (pv 2) pa_nil))))) (pg_name (i := 3) S.nd rfl (Or.inl rfl))
        (pss_cons (ps_set (i := 4) S.nd rfl (Or.inl rfl) (pe_call ih hr rfl mF kF bF .nil pass0 (pa_cons (pv 0) (pa_cons (pv 1) (pa_cons (pe_snoc K (pv 2) (pv 3)) pa_nil)))))
        (pss_one (ps_if (pt_cmpR op_notN (pv 4) pe_non (nomark _)) (pss_one (ps_ret (pv 4))) pss_nil))))
      (pss_one (ps_ret pe_non))), ?_⟩
    refine ⟨_, rfl, c, t, rfl, hT, _, rfl, b, order, rfl, hO, rfl, _, rfl, ?_⟩
    have e : decide (V.int (t.length : Nat) = V.int (order.length : Nat)) = false := decide_eq_false (fun h => by injection h with h; omega)
    rw [e]
    refine iteF ⟨_, rfl, _, rfl, _, rfl, a, b, c, row, order, t, rfl, hL, hO, hT, by omega, by omega, by omega, hri, fun rn H1 g2 hrn e2 => ?_⟩
    refine ⟨rn, rfl, ⟨_, SqL.of e2⟩, ?_⟩
    refine for_list (xs := (nextP row order t).map nv) (fun i σ' H' => ∃ t3 t4, σ' = [some (.ref a), some (.ref b), some (.ref c), t3, t4] ∧ Same H H' ∧ H' rn = some (.lst ((nextP row order t).map nv)) ∧ ∀ p ∈ (nextP row order t).take i, firstF row order d (t ++ [p]) = none)
      ⟨none, none, rfl, g2, e2, fun p hp => by simp at hp⟩ (fun i σ' H' _ h => ?_) (fun i x σ' H' hx h => ?_) (fun σ' H' h => ?_)
    · obtain ⟨t3, t4, rfl, gH, hn', hno⟩ := h
      exact SqL.of hn'
    · obtain ⟨t3, t4, rfl, gH, hn', hno⟩ := h
      rw [List.getElem?_map] at hx
      obtain ⟨p, hp, rfl⟩ := Option.map_eq_some_iff.mp hx
      have hpm := List.mem_filter.mp (List.mem_of_getElem? hp)
      have hpf := mem_froms.mp hpm.1
      refine ⟨_, rfl, _, rfl, c, t, p, rfl, rfl, gH _ _ hT, by omega, fun rt H2 g3 hT2 => ?_⟩
      have gH2 := gH.trans g3
      refine ⟨a, b, rt, row, order, t ++ [p], rfl, gH2.seq hL, gH2.seq hO, hT2, h12, h4, hri.snoc hpf.1 hpf.2, by rw [List.length_append, List.length_singleton]; omega, fun u hu r H3 g4 hTr => ?_, fun hu H3 g4 => ?_⟩
      · refine ⟨_, rfl, rfl, _, rfl, iteT ⟨_, rfl, q.1 u ?_ r H3 (gH2.trans g4) hTr⟩⟩
        exact findSome_at hp hno hu
      · refine ⟨_, rfl, rfl, _, rfl, iteF ⟨_, _, rfl, gH2.trans g4, g4 _ _ (g3 _ _ hn'), fun p' hp' => ?_⟩⟩
        rcases mem_take_succ hp hp' with z | z
        · exact hno p' z
        · subst z; exact hu
    · obtain ⟨t3, t4, rfl, gH, hn', hno⟩ := h
      rw [List.length_map, List.take_length] at hno
      exact q.2 (findSome_none hno) H' gH
theorem ok_first (F : Fun K "first" "first" sFirst f fd) {g1 : Addr} {gd1 : FuncData} (G1 : FnOk P w K mg base CX0 7 g1 gd1 ["row"] (spCheckRow K)) (bG1 : Binds K gd1 ["row"] []) (kG1 : PySem.W.keepIn K (.ref g1) = true) (mG1 : mg "check_row" = some (.ref g1))
    (G : FnOk P w K mg base CX0 7 g gd ["order"] (spCheckOrder K)) (bG : Binds K gd ["order"] []) (kG : PySem.W.keepIn K (.ref g) = true) (mG : mg "check_order" = some (.ref g))
    (M : ∀ d, FnOk P w K mg base CX0 (d + 3) g2 gd2 ["row", "order", "taken"] (spFirstFrom K d)) (bM : Binds K gd2 ["row", "order", "taken"] []) (kM : PySem.W.keepIn K (.ref g2) = true) (mM : mg "first_from" = some (.ref g2)) :
    FnOk P w K mg base CX0 8 f fd ["row", "order"] (spFirst K) := by
  refine F.ok (k := 7) (N := ["row", "order"]) ⟨rfl, rfl, rfl, by decide +kernel, rfl, by decide +kernel, by decide +kernel⟩ (fun vs H Q E h => ?_) (fun cdv A outer s H vs Q E hr h => ?_)
  · obtain ⟨a, b, row, order, rfl, _⟩ := h
    rfl
  obtain ⟨a, b, row, order, rfl, hL, hO, hnd, h30, hsh, h1, h4, q⟩ := h
  refine ⟨_, pss_cons (ps_expr (pe_call G1 hr rfl mG1 kG1 bG1 .nil pass0 (pa_cons (pv 0) pa_nil))) (pss_cons (ps_expr (pe_call G hr rfl mG kG bG .nil pass0 (pa_cons (pv 1) pa_nil)))
    (pss_one (ps_ret (pe_call (M order.length) (hr.mono (by omega)) rfl mM kM bM .nil pass0 (pa_cons (pv 0) (pa_cons (pv 1) (pa_cons (pe_tup pa_nil) pa_nil))))))), ?_⟩
  refine ⟨_, rfl, a, row, rfl, hL, h30, hnd, fun H1 g1 => ?_⟩
  refine ⟨_, rfl, b, order, rfl, g1.seq hO, hsh, h1, h4, fun H2 g2 => ?_⟩
  refine ⟨_, rfl, _, rfl, (by show 0 ≤ sizeLine; decide), fun c hc => ?_⟩
  have g3 := same_new hc (.tup [])
  have g123 := (g1.trans g2).trans g3
  exact ⟨a, b, c, row, order, [], rfl, g123.seq hL, g123.seq hO, upd_same, h30, h4, Rises.nil _, by simp, fun u hu r H4 g4 hT => q.1 u hu r H4 (g123.trans g4) hT, fun hu H4 g4 => q.2 hu H4 (g123.trans g4)⟩
/-! ### what the defs of shapeorders.exchange promise -/
theorem Paired.snoc {α β : Type} {F : α → β → Prop} : ∀ {a : List α} {c : List β} {x : α} {y : β}, Paired F a c → F x y → Paired F (a ++ [x]) (c ++ [y])
  | _, _, _, _, .nil, h => .cons h .nil
  | _, _, _, _, .cons q r, h => .cons q (Paired.snoc r h)
theorem paired_at {α β : Type} {F : α → β → Prop} : ∀ {xs : List α} {ys : List β}, Paired F xs ys → ∀ {i : Nat} {x : α}, xs[i]? = some x → ∃ y, ys[i]? = some y ∧ F x y
  | _, _, .nil, i, x, h => by simp at h
  | _, _, .cons (a := a) (b := b) hb r, 0, x, h => ⟨b, rfl, (Option.some.inj h : a = x) ▸ hb⟩
  | _, _, .cons hb r, i + 1, x, h => by
    obtain ⟨y, hy, hf⟩ := paired_at r (i := i) (by simpa using h)
    exact ⟨y, by simpa using hy, hf⟩
noncomputable def NewLL (H : Hp) (Q : VK) (ts : List (List Int)) : Prop := ∀ (r : Addr) (as : List Addr) (H' : Hp), Same H H' → H r = none → H' r = some (.lst (as.map V.ref)) → Paired (fun b t => H b = none ∧ H' b = some (.lst (t.map V.int))) as ts → Q (.ref r) H'
theorem same_set {H H' : Hp} {r : Addr} {o : HO} (g : Same H H') (h : H r = none) : Same H (upd H' r o) := fun b u q => by rw [upd_ne (ne_of_none q h)]; exact g _ _ q
noncomputable def spBrought (K : PySem.W.Frag) : Sp := fun vs H Q _ => ∃ (a b : Addr) (S o : List Int), vs = [.ref a, .ref b] ∧ LI K H a S ∧ LI K H b o ∧ S.length ≤ 30 ∧ Sh S ∧ o ∈ sixes ∧ NewL H Q (br o S)
noncomputable def spLeast (K : PySem.W.Frag) : Sp := fun vs H Q _ => ∃ (a : Addr) (S : List Int), vs = [.ref a] ∧ LI K H a S ∧ S.length ≤ 30 ∧ Sh S ∧ NewL H Q (lm S.length S)
noncomputable def spShapeWith (K : PySem.W.Frag) : Sp := fun vs H Q _ => ∃ (a b : Addr) (L : List Int) (fall : Bool), vs = [.ref a, .ref b] ∧ LI K H a L ∧ LI K H b (upr fall) ∧ L.length ≤ 20 ∧ Vl L.length ((L.length : Int) - 1) L ∧ ∀ S, SW fall (upto L.length) L S → NewL H Q S
/-- a row of the table -/
noncomputable def wrow (m left : Nat) : List Int := (List.range m).map fun v => ((ways left v : Nat) : Int)
noncomputable def wtab (m n : Nat) : List (List Int) := (List.range n).map (wrow m)
noncomputable def spWays (K : PySem.W.Frag) : Sp := fun vs H Q _ => ∃ m : Nat, vs = [.int (m : Int)] ∧ 1 ≤ m ∧ m ≤ 20 ∧ NewLL H Q (wtab m (m + 1))
noncomputable def spNumLeast (K : PySem.W.Frag) : Sp := fun vs H Q _ => ∃ (a : Addr) (L : List Int), vs = [.ref a] ∧ LI K H a L ∧ 1 ≤ L.length ∧ L.length ≤ 20 ∧ (∀ v ∈ L, 0 ≤ v ∧ v ≤ L.length) ∧ ∀ H', Same H H' → Q (.int (rnk L.length L : Nat)) H'
noncomputable def spLeastAt (K : PySem.W.Frag) : Sp := fun vs H Q _ => ∃ (m n : Nat), vs = [.int (m : Int), .int (n : Int)] ∧ 1 ≤ m ∧ m ≤ 20 ∧ n < ways m (m - 1) ∧ ∀ L, Vl m ((m : Int) - 1) L → rnk m L = n → NewL H Q L
theorem six_at {o : List Int} (h : o ∈ sixes) : o.length = 3 := (sixes_sh h).2
theorem atI3 {ns : List Int} (h : ns.length = 3) (k : Nat) (hk : k < 3) : atI (ns.map V.int) (k : Int) = some (.int (vAt ns k)) := atI_nat' rfl (by rw [List.getElem?_map, vAt_get (by omega)]; rfl)
theorem ok_brought (F : Fun K "brought" "brought" sBrought f fd) (C : FnOk P w K mg base CX0 3 g gd ["shape"] (spOfShape K contr)) (bC : Binds K gd ["shape"] []) (kC : PySem.W.keepIn K (.ref g) = true) (mC : mg "contrary" = some (.ref g))
    (B : FnOk P w K mg base CX0 3 g2 gd2 ["shape"] (spOfShape K List.reverse)) (bB : Binds K gd2 ["shape"] []) (kB : PySem.W.keepIn K (.ref g2) = true) (mB : mg "backward" = some (.ref g2)) (hlist : mg "list" = none) :
    FnOk P w K mg base CX0 4 f fd ["shape", "order"] (spBrought K) := by
  have S : FnScope ["shape", "order", "is_contrary", "upright", "taken"] ["shape", "order"] (defScope sBrought) := ⟨rfl, rfl, rfl, by decide +kernel, rfl, by decide +kernel, by decide +kernel⟩
  refine F.ok (k := 3) S (fun vs H Q E h => ?_) (fun cdv A outer s H vs Q E hr h => ?_)
  · obtain ⟨a, b, ns, o, rfl, _⟩ := h
    rfl
  obtain ⟨a, b, sh, o, rfl, hL, hO, h30, hsh, ho, q⟩ := h
  have ho3 := six_at ho
  have hso := (sixes_sh ho).1
  refine ⟨_, pss_cons (ps_set (i := 2) S.nd rfl (Or.inl rfl) (pe_cmpR op_eq (pe_ix (ix_listK (K := K)) (pv 1) pe_int (fun _ _ => rfl)) pe_int (nomark _)))
    (pss_cons (ps_set (i := 3) S.nd rfl (Or.inl rfl) (pe_ifExp (pt_val (pv 2)) (pe_call C hr rfl mC kC bC .nil pass0 (pa_cons (pv 1) pa_nil)) (pe_callTy (call_listK (K := K)) rfl hlist PyProof.Rows.boot_list (pa_cons (pv 1) pa_nil))))
    (pss_cons (ps_set (i := 4) S.nd rfl (Or.inl rfl) (pe_ifExp (pt_val (pv 2)) (pe_call C hr rfl mC kC bC .nil pass0 (pa_cons (pv 0) pa_nil)) (pe_callTy (call_listK (K := K)) rfl hlist PyProof.Rows.boot_list (pa_cons (pv 0) pa_nil))))
    (pss_one (ps_ret (pe_ifExp (pt_cmpR op_gt (pe_ix (ix_listK (K := K)) (pv 3) pe_int (fun _ _ => rfl)) (pe_ix (ix_listK (K := K)) (pv 3) pe_int (fun _ _ => rfl)) (nomark _)) (pe_call B hr rfl mB kB bB .nil pass0 (pa_cons (pv 4) pa_nil)) (pv 4)))))), ?_⟩
  refine ⟨_, rfl, b, _, _, _, rfl, rfl, hO, atI3 ho3 1 (by decide), rfl, ?_⟩
  rw [int_eq]
  have tail : ∀ (u t : List Int) (r3 r4 : Addr) (H2 : Hp), u = (if vAt o 1 = 0 then contr o else o) → t = (if vAt o 1 = 0 then contr sh else sh) → u.length = 3 → Sh t → t.length ≤ 30 → Same H H2 → H r4 = none → H2 r3 = some (.lst (u.map V.int)) → H2 r4 = some (.lst (t.map V.int)) →
      tIf (tTest (tOp (rI0 fun i j => .bl (decide (j < i))) (tOp (rIxL K) (tVar 3) (tC (.int 0))) (tOp (rIxL K) (tVar 3) (tC (.int 2))))) (tCall (spOfShape K List.reverse) [] E0 (tCons (tVar 4) tNil)) (tVar 4) [some (.ref a), some (.ref b), some (.bl (decide (vAt o 1 = 0))), some (.ref r3), some (.ref r4)] H2 Q := by
    intro u t r3 r4 H2 eu et hu ht ht30 gH n4 e3 e4
    refine ⟨_, rfl, r3, _, _, _, rfl, rfl, LI.of e3, atI3 hu 0 (by decide), _, rfl, r3, _, _, _, rfl, rfl, LI.of e3, atI3 hu 2 (by decide), _, _, rfl, rfl, _, rfl, ?_⟩
    have eb : br o sh = if vAt u 2 < vAt u 0 then t.reverse else t := by unfold br; rw [← eu, ← et]
    refine ite2 (fun c => ?_) (fun c => ?_)
    · have c' : vAt u 2 < vAt u 0 := of_decide_eq_true c
      rw [eb, if_pos c'] at q
      exact ⟨_, rfl, r4, t, rfl, LI.of e4, ht30, ht, fun r5 H5 g5 n5 e5 => q r5 H5 (gH.trans g5) (gH.free n5) e5⟩
    · have c' : ¬ vAt u 2 < vAt u 0 := of_decide_eq_false (Bool.eq_false_iff.mpr c)
      rw [eb, if_neg c'] at q
      exact ⟨_, rfl, q r4 H2 gH n4 e4⟩
  by_cases c : vAt o 1 = 0
  · rw [decide_eq_true c] at tail ⊢
    refine ⟨_, rfl, _, rfl, iteT ⟨_, rfl, b, o, rfl, hO, by omega, hso, fun r3 H1 f1 n3 e3 => ?_⟩⟩
    refine ⟨_, rfl, _, rfl, iteT ⟨_, rfl, a, sh, rfl, f1.seq hL, h30, hsh, fun r4 H2 f2 n4 e4 => ?_⟩⟩
    exact tail (contr o) (contr sh) r3 r4 H2 (if_pos c).symm (if_pos c).symm (by rw [contr_length]; exact ho3) (sh_contr hsh) (by rw [contr_length]; exact h30) (f1.trans f2) (f1.free n4) (f2 _ _ e3) e4
  · rw [decide_eq_false c] at tail ⊢
    refine ⟨_, rfl, _, rfl, iteF ⟨_, rfl, b, o, rfl, hO, fun r3 n3 => ?_⟩⟩
    have f1 := same_new n3 (.lst (o.map V.int))
    refine ⟨_, rfl, _, rfl, iteF ⟨_, rfl, a, sh, rfl, f1.seq hL, fun r4 n4 => ?_⟩⟩
    have f2 := same_new n4 (.lst (sh.map V.int))
    exact tail o sh r3 r4 _ (if_neg c).symm (if_neg c).symm ho3 hsh h30 (f1.trans f2) (f1.free n4) (f2 _ _ upd_same) upd_same
theorem atI_lastR {as : List Addr} {b : Addr} (h : as.getLast? = some b) : atI (as.map V.ref) (-1) = some (.ref b) := by
  obtain ⟨u, rfl⟩ := List.getLast?_eq_some_iff.mp h
  rw [List.map_append]
  exact atI_last _ _
theorem atI_refs {as : List Addr} {k : Nat} {b : Addr} {i : Int} (e : i = (k : Int)) (h : as[k]? = some b) : atI (as.map V.ref) i = some (.ref b) := atI_nat' e (by rw [List.getElem?_map, h]; rfl)
theorem paired_fst {α β : Type} {F : α → β → Prop} : ∀ {xs : List α} {ys : List β}, Paired F xs ys → ∀ {i : Nat} {y : β}, ys[i]? = some y → ∃ x, xs[i]? = some x ∧ F x y
  | _, _, .nil, i, x, h => by simp at h
  | _, _, .cons (a := a) (b := b) hb r, 0, y, h => ⟨a, rfl, (Option.some.inj h : b = y) ▸ hb⟩
  | _, _, .cons hb r, i + 1, y, h => by
    obtain ⟨x, hx, hf⟩ := paired_fst r (i := i) (by simpa using h)
    exact ⟨x, by simpa using hx, hf⟩
theorem wtab_at {m n i : Nat} (h : i < n) : (wtab m n)[i]? = some (wrow m i) := by
  unfold wtab
  rw [List.getElem?_map, List.getElem?_range h]; rfl
theorem wrow_len (m n : Nat) : (wrow m n).length = m := by unfold wrow; rw [List.length_map, List.length_range]
theorem wtab_succ (m n : Nat) : wtab m (n + 1) = wtab m n ++ [wrow m n] := by
  unfold wtab
  rw [List.range_succ, List.map_append]; rfl
theorem wrow_at {m n v : Nat} (h : v < m) : vAt (wrow m n) v = ((ways n v : Nat) : Int) := by
  refine vAt_of ?_
  unfold wrow
  rw [List.getElem?_map, List.getElem?_range h]; rfl
theorem wrow_zero (m : Nat) : wrow m 0 = List.replicate m 1 := by
  unfold wrow
  rw [List.eq_replicate_iff]
  refine ⟨by simp, fun x hx => ?_⟩
  obtain ⟨v, _, rfl⟩ := List.mem_map.mp hx
  rfl
/-- the number that is put next -/
noncomputable def tPick (K : PySem.W.Frag) : TS := fun D σ H => ∃ (c1 c2 : Option V) (rl : Addr) (c4 : Option V) (y : Int) (t7 : Option V) (left : List Int) (fall : Bool), σ = [c1, c2, some (.bl fall), some (.ref rl), c4, some (.int y), some (.int y), t7] ∧ LI K H rl left ∧ left.length ≤ 20 ∧ (y ∉ left → ∃ z ∈ left, y < z) ∧
  ∀ (x : Int) (t7 : Option V) (H2 : Hp), Pick fall left y x → Same H H2 → D.nx [c1, c2, some (.bl fall), some (.ref rl), c4, some (.int y), some (.int x), t7] H2
theorem okc_least : CompOk (defScope sLeast) ["shape"] "place" ["shape"] [0] (scE (valE sLeast 0)) := ⟨rfl, by decide +kernel, by decide +kernel, by decide +kernel, by decide +kernel, by decide +kernel, by decide +kernel, by decide +kernel⟩
theorem ok_least (F : Fun K "least_numbers" "least_numbers" sLeast f fd) (hlen : mg "len" = none) (hrange : mg "range" = none) (hmin : mg "min" = none) : FnOk P w K mg base CX0 1 f fd ["shape"] (spLeast K) := by
  refine F.ok (k := 0) (N := ["shape"]) ⟨rfl, rfl, rfl, by decide +kernel, rfl, by decide +kernel, by decide +kernel⟩ (fun vs H Q E h => ?_) (fun cdv A outer s H vs Q E hr h => ?_)
  · obtain ⟨a, ns, rfl, _⟩ := h
    rfl
  obtain ⟨a, ns, rfl, hL, h30, hsh, q⟩ := h
  refine ⟨_, pss_one (ps_ret (pe_comp (x := "place") (F := ["shape"]) (is := [0]) okc_least rfl (pi_range1 rfl hrange (pa_cons (pe_callB (call_lenI (K := K)) rfl hlen PySem.boot_len (pa_cons (pv 0) pa_nil)) pa_nil)) (fun _ _ _ _ _ => pts_nil)
      (fun _ _ _ _ _ => pe_callB (call_minI (K := K) rfl) rfl hmin PyProof.Rows.boot_min (pa_cons (pe_slice (sl_listK (K := K)) (pv 1) po_none (po_some (pe_op op_add (pv 0) pe_int))) pa_nil)))), ?_⟩
  refine ⟨_, rfl, a, ns, rfl, hL, _, rfl, by omega, by omega, ?_⟩
  rw [Int.toNat_natCast]
  refine comp_enc (List.range' 0 ns.length) nv (fun k => .int (vAt (lm ns.length ns) k)) (fun _ => true) (by rw [List.length_range']; exact small1000 (by omega)) over_from (fun k hk H2 hS N hN => hN H2 (Same.refl _)) (fun k hk _ H2 hS N hN => ?_) (fun l H' hS hl => ?_)
  · have hk' := List.mem_range'_1.mp hk
    refine ⟨_, rfl, _, rfl, _, _, rfl, rfl, _, rfl, a, _, rfl, hS.seq hL, fun r n => ?_⟩
    rw [show ((k : Int) + 1) = ((k + 1 : Nat) : Int) by omega, cut_to, ← List.map_take]
    refine ⟨r, _, rfl, LI.of upd_same, by rw [List.length_take]; omega, fun m hm hle => ?_⟩
    rw [lm_is (l := (ns.length : Int)) (fun y hy => (hsh.mem.mp hy).2) (by omega) hm hle]
    exact hN _ (same_new n _)
  · rw [all_true, ← List.range_eq_range']
    have e : ((List.range ns.length).map fun k => V.int (vAt (lm ns.length ns) k)) = (lm ns.length ns).map V.int := by
      conv => rhs; rw [lm_list]
      rw [List.map_map]; rfl
    rw [e]
    exact q l _ (hS.trans (same_new hl _)) (hS.free hl) upd_same
theorem okc_greater : CompOk (defScope sShapeWith) ["least", "order", "is_falling", "left", "shape", "bound", "number", "greater"] "one" ["bound"] [5] (scE (retE (subS (subS (subS sShapeWith 3) 1) 0))) := ⟨rfl, by decide +kernel, by decide +kernel, by decide +kernel, by decide +kernel, by decide +kernel, by decide +kernel, by decide +kernel⟩
theorem ok_shapewith (F : Fun K "shape_with" "shape_with" sShapeWith f fd) (hlen : mg "len" = none) (hlist : mg "list" = none) (hrange : mg "range" = none) (htuple : mg "tuple" = none) (hmin : mg "min" = none) (hmax : mg "max" = none) (hR : mg "RISING" = some (.ref aR)) (tR : ∀ H : Hp, SqT K H aR [.int 0, .int 1, .int 2]) :
    FnOk P w K mg base CX0 1 f fd ["least", "order"] (spShapeWith K) := by
  have S : FnScope ["least", "order", "is_falling", "left", "shape", "bound", "number", "greater"] ["least", "order"] (defScope sShapeWith) := ⟨rfl, rfl, rfl, by decide +kernel, rfl, by decide +kernel, by decide +kernel⟩
  refine F.ok (k := 0) S (fun vs H Q E h => ?_) (fun cdv A outer s H vs Q E hr h => ?_)
  · obtain ⟨a, b, L, fall, rfl, _⟩ := h
    rfl
  obtain ⟨a, b, L, fall, rfl, hL, hO, h20, hv, q⟩ := h
  refine ⟨_, pss_cons (ps_set (i := 2) S.nd rfl (Or.inl rfl) (pe_cmpR (op_eqD (K := K) hr.units) (pe_callTy call_tuple_of rfl htuple PyProof.Rows.boot_tuple (pa_cons (pv 1) pa_nil)) (pe_glob (v := .ref aR) rfl hR rfl) (nomark _)))
    (pss_cons (ps_set (i := 3) S.nd rfl (Or.inl rfl) (pe_callTy (call_listRng rfl) rfl hlist PyProof.Rows.boot_list (pa_cons (pe_callTy call_rangeV rfl hrange PyProof.Rows.boot_range (pa_cons (pe_callB (call_lenI (K := K)) rfl hlen PySem.boot_len (pa_cons (pv 0) pa_nil)) pa_nil)) pa_nil)))
    (pss_cons (ps_set (i := 4) S.nd rfl (Or.inl rfl) (pe_lst pa_nil))
    (pss_cons (ps_for PassesOwn.never rfl (pi_listK (K := K) (pv 0)) (pg_name (i := 5) S.nd rfl (Or.inr rfl))
      (pss_cons (ps_set (i := 6) S.nd rfl (Or.inl rfl) (pv 5))
      (pss_cons (ps_as (t' := tPick K) (ps_if (pt_cmpR (op_notInK (K := K)) (pv 5) (pv 3) rfl)
        (pss_cons (ps_setC (i := 7) (x := "one") (F := ["bound"]) (is := [5]) okc_greater rfl S.nd rfl (Or.inl rfl) (pi_listK (K := K) (pv 3)) (fun _ _ _ _ _ => pts_one (pt_cmpR op_gt (pv 0) (pv 1) (nomark _))) (fun _ _ _ _ _ => pv 0))
        (pss_one (ps_set (i := 6) S.nd rfl (Or.inl rfl) (pe_ifExp (pt_val (pv 2)) (pe_callB (call_maxI (K := K) rfl) rfl hmax PyProof.Rows.boot_max (pa_cons (pv 7) pa_nil)) (pe_callB (call_minI (K := K) rfl) rfl hmin PyProof.Rows.boot_min (pa_cons (pv 7) pa_nil)))))) pss_nil) (fun D σ H h => by
          obtain ⟨c1, c2, rl, c4, y, t7, left, fall, rfl, hl, hl20, hgr, nx⟩ := h
          refine ⟨_, rfl, _, rfl, rl, _, rfl, .inl hl, rfl, flat_ints left, _, rfl, ?_⟩
          rw [inV_int]
          by_cases hm : y ∈ left
          · rw [decide_eq_true hm]
            exact iteF (nx y t7 H ⟨hm, .inl rfl⟩ (Same.refl H))
          · rw [decide_eq_false hm]
            refine iteT ⟨_, rfl, rl, rfl, ⟨_, hl⟩, ?_⟩
            refine comp_ints left (fun i => i) (fun i => decide (y < i)) (by omega) hl (fun i _ H1 hS N hN => ⟨_, rfl, _, rfl, _, _, rfl, rfl, _, rfl, hN H1 hS⟩) (fun i _ _ H1 hS N hN => ⟨_, rfl, hN H1 hS⟩) (fun rg H' hS hg => ?_)
            obtain ⟨z, hz, hyz⟩ := hgr hm
            have eid : ((left.filter fun i => decide (y < i)).map fun i => i) = left.filter fun i => decide (y < i) := List.map_id' _
            rw [eid]
            have hpos : 0 < (left.filter fun i => decide (y < i)).length := List.length_pos_of_mem (List.mem_filter.mpr ⟨hz, decide_eq_true hyz⟩)
            have gS := hS.trans (same_new hg (.lst ((left.filter fun i => decide (y < i)).map V.int)))
            refine ⟨_, rfl, _, rfl, ?_⟩
            cases fall with
            | true =>
              refine iteT ⟨_, rfl, rg, _, rfl, LI.of upd_same, hpos, fun m hmm hle => ?_⟩
              have hm2 := List.mem_filter.mp hmm
              exact nx m _ _ ⟨hm2.1, .inr ⟨hm, of_decide_eq_true hm2.2, fun v hv hyv => hle v (List.mem_filter.mpr ⟨hv, decide_eq_true hyv⟩)⟩⟩ gS
            | false =>
              refine iteF ⟨_, rfl, rg, _, rfl, LI.of upd_same, hpos, fun m hmm hle => ?_⟩
              have hm2 := List.mem_filter.mp hmm
              exact nx m _ _ ⟨hm2.1, .inr ⟨hm, of_decide_eq_true hm2.2, fun v hv hyv => hle v (List.mem_filter.mpr ⟨hv, decide_eq_true hyv⟩)⟩⟩ gS))
      (pss_cons (ps_expr (pe_bmK (K := K) PySem.F.plainAttrs_list PySem.F.slot_list_remove PySem.F.type_list_remove mt_removeI (pv 3) (pa_cons (pv 6) pa_nil)))
      (pss_one (ps_expr (pe_bmK (K := K) PySem.F.plainAttrs_list PySem.F.slot_list_append PySem.F.type_list_append mt_append (pv 4) (pa_cons (pv 6) pa_nil))))))))
    (pss_one (ps_ret (pv 4)))))), ?_⟩
  refine ⟨_, rfl, b, _, rfl, .inl ⟨hO, fun rt nt => ?_⟩⟩
  have f1 := same_new nt (.tup ((upr fall).map V.int))
  refine ⟨_, _, DV.tints (SqT.of upd_same), DV.tints (ns := [0, 1, 2]) (tR _), (fine_dT _).shaped, (fine_dT _).shaped, ?_⟩
  rw [eqv_dT]
  have ef : decide (upr fall = [0, 1, 2]) = fall := by cases fall <;> decide
  rw [ef]
  refine ⟨_, rfl, a, L, rfl, f1.seq hL, _, rfl, fun r2 n2 => ?_⟩
  have f2 := same_new n2 (.rng 0 (L.length : Nat))
  refine ⟨r2, _, rfl, upd_same, by omega, by omega, fun rl nl => ?_⟩
  rw [Int.toNat_natCast] at *
  have f3 := same_new nl (.lst ((upto L.length).map V.int))
  refine ⟨(by show 0 ≤ sizeLine; decide), fun rs ns => ?_⟩
  have f4 := same_new ns (.lst [])
  have f12 := f1.trans f2
  have f123 := f12.trans f3
  have f14 := f123.trans f4
  have hv' : Vl (upto L.length).length (L.length : Int) L := by
    rw [upto_length]
    cases hm : L.length with
    | zero => rw [hm] at hv; exact hv
    | succ n =>
      rw [hm] at hv
      obtain ⟨x, r, e, h0, h1, h2, h⟩ := hv
      exact ⟨x, r, e, h0, by omega, h2, h⟩
  refine ⟨_, rfl, a, rfl, ⟨_, f14.seq hL⟩, ?_⟩
  refine for_list (xs := L.map V.int) (fun i σ' H' => ∃ t5 t6 t7 left done l, σ' = [some (.ref a), some (.ref b), some (.bl fall), some (.ref rl), some (.ref rs), t5, t6, t7] ∧ Same H H' ∧ H' rl = some (.lst (left.map V.int)) ∧ H' rs = some (.lst (done.map V.int)) ∧ rl ≠ rs ∧
      Left left l ∧ Vl left.length l (L.drop i) ∧ done.length = i ∧ left.length ≤ 20 ∧ ∀ r, SW fall left (L.drop i) r → SW fall (upto L.length) L (done ++ r))
    ⟨none, none, none, upto L.length, [], (L.length : Int), rfl, f14, f4 _ _ upd_same, upd_same, ne_of_none upd_same ns, left_start _, hv', rfl, by rw [upto_length]; exact h20, fun r h => h⟩ (fun i σ' H' _ h => ?_) (fun i v σ' H' hx h => ?_) (fun σ' H' h => ?_)
  · obtain ⟨t5, t6, t7, left, done, l, rfl, gH, _⟩ := h
    exact gH.seq hL
  · obtain ⟨t5, t6, t7, left, done, l, rfl, gH, el, es, hne, hleft, hvl, hdone, hl20, hsw⟩ := h
    obtain ⟨y, hy, rfl⟩ := got_map hx
    have hi : i < L.length := (List.getElem?_eq_some_iff.mp hy).1
    rw [drop_at hy] at hvl hsw
    obtain ⟨n, hn⟩ : ∃ n, left.length = n + 1 := by
      cases hn : left.length with
      | zero => rw [hn] at hvl; cases (show _ = [] from hvl)
      | succ n => exact ⟨n, rfl⟩
    rw [hn] at hvl
    obtain ⟨h', r', e, h0, hle, hln, hvl⟩ := hvl
    cases e
    refine ⟨_, rfl, ?_⟩
    refine ⟨_, _, rl, _, y, t7, left, fall, rfl, LI.of el, hl20, fun hm => hleft.greater h0 hle (by omega) hm, fun x t7 H2 hp g2 => ?_⟩
    have el2 := g2 _ _ el
    have es2 := g2 _ _ es
    have gH2 := gH.trans g2
    obtain ⟨hL2, _, _⟩ := hleft.next h0 hle hp
    have nrl : H rl = none := f12.free nl
    have nrs : H rs = none := f123.free ns
    refine ⟨_, rfl, .inl ⟨rfl, _, SqL.of el2⟩, _, rfl, rl, left, x, rfl, rfl, el2, hp.1, ?_⟩
    have es3 : upd H2 rl (.lst ((left.erase x).map V.int)) rs = some (.lst (done.map V.int)) := by rw [upd_ne hne.symm]; exact es2
    refine ⟨_, rfl, .inl ⟨rfl, _, SqL.of es3⟩, _, rfl, rs, _, _, rfl, rfl, es3, by rw [List.length_map]; exact small1000 (by omega), ?_⟩
    have hle2 : (left.erase x).length = n := by rw [List.length_erase_of_mem hp.1, hn]; rfl
    refine ⟨_, _, _, left.erase x, done ++ [x], y, rfl, same_set (same_set gH2 nrl) nrs, by rw [upd_ne hne, upd_same], by rw [upd_same, List.map_append]; rfl, hne, hL2, by rw [hle2]; exact hvl, by rw [List.length_append, hdone]; rfl, by omega, fun r hr => ?_⟩
    rw [List.append_assoc]
    exact hsw (x :: r) ⟨x, r, rfl, hp, hr⟩
  · obtain ⟨t5, t6, t7, left, done, l, rfl, gH, el, es, hne, hleft, hvl, hdone, hl20, hsw⟩ := h
    rw [List.length_map, List.drop_length] at hsw
    have h := hsw [] rfl
    rw [List.append_nil] at h
    exact ⟨_, rfl, q done h rs H' gH (f123.free ns) es⟩
theorem okc_ways : CompOk (defScope sWaysOn) ["size", "ways", "left"] "last" ["left", "ways"] [2, 1] (scE (retE (subS (subS sWaysOn 1) 0))) := ⟨rfl, by decide +kernel, by decide +kernel, by decide +kernel, by decide +kernel, by decide +kernel, by decide +kernel, by decide +kernel⟩
theorem ok_ways (F : Fun K "ways_on" "ways_on" sWaysOn f fd) (hrange : mg "range" = none) (hsum : mg "sum" = none) (hmin : mg "min" = none) : FnOk P w K mg base CX0 1 f fd ["size"] (spWays K) := by
  have S : FnScope ["size", "ways", "left"] ["size"] (defScope sWaysOn) := ⟨rfl, rfl, rfl, by decide +kernel, rfl, by decide +kernel, by decide +kernel⟩
  refine F.ok (k := 0) S (fun vs H Q E h => ?_) (fun cdv A outer s H vs Q E hr h => ?_)
  · obtain ⟨m, rfl, _⟩ := h
    rfl
  obtain ⟨m, rfl, h1, h20, q⟩ := h
  refine ⟨_, pss_cons (ps_set (i := 1) S.nd rfl (Or.inr rfl) (pe_lst (pa_cons (pe_op op_rep (pe_lst (pa_cons pe_int pa_nil)) (pv 0)) pa_nil)))
    (pss_cons (ps_for PassesOwn.never rfl (pi_range2 rfl hrange (pa_cons pe_int (pa_cons (pe_op op_add (pv 0) pe_int) pa_nil))) (pg_name (i := 2) S.nd rfl (Or.inr rfl))
      (pss_one (ps_expr (pe_bmK (K := K) PySem.F.plainAttrs_list PySem.F.slot_list_append PySem.F.type_list_append mt_append (pv 1) (pa_cons (pe_comp (x := "last") (F := ["left", "ways"]) (is := [2, 1]) okc_ways rfl (pi_range1 rfl hrange (pa_cons (pv 0) pa_nil)) (fun _ _ _ _ _ => pts_nil)
        (fun _ _ _ _ _ => pe_callB (call_sumI (K := K) rfl) rfl hsum PyProof.Rows.boot_sum (pa_cons (pe_slice (sl_listK (K := K)) (pe_ix (ix_listK (K := K)) (pv 2) (pe_un un_neg pe_int) (fun _ _ => rfl)) po_none
          (po_some (pe_callB (call_min2 rfl) rfl hmin PyProof.Rows.boot_min (pa_cons (pe_op op_add (pv 0) pe_int) (pa_cons (pv 1) pa_nil))))) pa_nil))) pa_nil)))))
    (pss_one (ps_ret (pv 1)))), ?_⟩
  refine ⟨(by show 1 ≤ sizeLine; decide), fun r1 n1 => ?_⟩
  have f1 := same_new n1 (.lst [V.int 1])
  refine ⟨_, rfl, r1, _, _, rfl, rfl, upd_same, by omega, by omega, ?_, fun r2 n2 => ?_⟩
  · rw [Int.toNat_natCast]
    show 1 * m ≤ sizeLine
    rw [Nat.one_mul]; exact Nat.le_of_lt (small1000 (by omega))
  rw [Int.toNat_natCast]
  have e0 : (List.replicate m [V.int 1]).flatten = (wrow m 0).map V.int := by
    rw [wrow_zero]
    induction m with
    | zero => rfl
    | succ n ih =>
      clear ih
      simp
  rw [e0]
  have f2 := same_new n2 (.lst ((wrow m 0).map V.int))
  refine ⟨(by show 1 ≤ sizeLine; decide), fun rw0 nw0 => ?_⟩
  have f3 := same_new nw0 (.lst [V.ref r2])
  have f12 := f1.trans f2
  have f13 := f12.trans f3
  have nw : H rw0 = none := f12.free nw0
  refine ⟨_, rfl, _, _, rfl, rfl, _, _, rfl, ⟨by omega, by omega, by omega, by omega⟩, ?_⟩
  have en : ((m : Int) + 1 - 1).toNat = m := by omega
  rw [en]
  refine for_range (n := m) (fun i σ' H' => ∃ t2 as, σ' = [some (.int (m : Int)), some (.ref rw0), t2] ∧ Same H H' ∧ H' rw0 = some (.lst (as.map V.ref)) ∧ Paired (fun b t => H b = none ∧ b ≠ rw0 ∧ H' b = some (.lst (t.map V.int))) as (wtab m (i + 1)))
    ⟨none, [r2], rfl, f13, upd_same, .cons ⟨f1.free n2, ne_of_none upd_same nw0, f3 _ _ upd_same⟩ .nil⟩ (fun i σ' H' hi h => ?_) (fun σ' H' h => ?_)
  · obtain ⟨t2, as, rfl, gH, ew, hP⟩ := h
    obtain ⟨b, hb, nb, hbw, eb⟩ := paired_fst hP (wtab_at (m := m) (n := i + 1) (i := i) (by omega))
    have hlen : as.length = i + 1 := by have := Paired.length hP; unfold wtab at this; simpa using this
    have hlast : as.getLast? = some b := by rw [List.getLast?_eq_getElem?, hlen]; exact hb
    refine ⟨_, rfl, .inl ⟨rfl, _, SqL.of ew⟩, _, rfl, _, rfl, by omega, by omega, ?_⟩
    rw [Int.toNat_natCast]
    refine comp_enc (List.range' 0 m) nv (fun v => .int ((ways (i + 1) v : Nat) : Int)) (fun _ => true) (by rw [List.length_range']; exact small1000 (by omega)) over_from (fun v hv H2 hS N hN => hN H2 (Same.refl _)) (fun v hv _ H2 hS N hN => ?_) (fun l H2 hS hl => ?_)
    · have hv' := List.mem_range'_1.mp hv
      refine ⟨_, rfl, _, rfl, rw0, _, _, _, rfl, rfl, SqL.of (hS _ _ ew), atI_lastR hlast, _, rfl, _, _, rfl, rfl, _, rfl, _, _, rfl, _, rfl, b, _, rfl, LI.of (hS _ _ eb), fun rc nc => ?_⟩
      have ek : (if (1 : Int) + (i : Int) < (v : Int) + 1 then (1 : Int) + (i : Int) else (v : Int) + 1) = ((min (v + 1) (i + 1) : Nat) : Int) := by
        split <;> omega
      rw [ek, cut_to, ← List.map_take]
      refine ⟨rc, _, rfl, LI.of upd_same, ?_⟩
      unfold wrow
      rw [wsum (by omega), ← ways_succ]
      exact hN _ (same_new nc _)
    · rw [all_true, ← List.range_eq_range']
      have e : ((List.range m).map fun v => V.int ((ways (i + 1) v : Nat) : Int)) = (wrow m (i + 1)).map V.int := by
        unfold wrow
        rw [List.map_map]; rfl
      rw [e]
      have f5 := same_new hl (.lst ((wrow m (i + 1)).map V.int))
      have g25 := hS.trans f5
      have hlw : l ≠ rw0 := fun e => by rw [e, hS _ _ ew] at hl; cases hl
      refine ⟨rw0, _, _, rfl, rfl, g25 _ _ ew, by rw [List.length_map]; exact small1000 (by omega), ?_⟩
      refine ⟨_, as ++ [l], rfl, same_set (gH.trans g25) nw, by rw [upd_same, List.map_append]; rfl, ?_⟩
      rw [wtab_succ]
      refine Paired.snoc (Paired.mapP hP fun c t h => ⟨h.1, h.2.1, ?_⟩) ⟨(gH.trans hS).free hl, hlw, ?_⟩
      · rw [upd_ne h.2.1]; exact g25 _ _ h.2.2
      · rw [upd_ne hlw, upd_same]
  · obtain ⟨t2, as, rfl, gH, ew, hP⟩ := h
    exact ⟨_, rfl, q rw0 as H' gH nw ew (Paired.mapP hP fun b t h => ⟨h.1, h.2.2⟩)⟩
theorem okc_nleast : CompOk (defScope sNumLeast) ["least", "ways"] "place" ["least", "ways"] [0, 1] (scE (valE sNumLeast 1)) := ⟨rfl, by decide +kernel, by decide +kernel, by decide +kernel, by decide +kernel, by decide +kernel, by decide +kernel, by decide +kernel⟩
theorem ok_numleast (F : Fun K "number_of_least" "number_of_least" sNumLeast f fd) (G : FnOk P w K mg base CX0 1 g gd ["size"] (spWays K)) (bG : Binds K gd ["size"] []) (kG : PySem.W.keepIn K (.ref g) = true) (mG : mg "ways_on" = some (.ref g))
    (hlen : mg "len" = none) (hrange : mg "range" = none) (hsum : mg "sum" = none) : FnOk P w K mg base CX0 2 f fd ["least"] (spNumLeast K) := by
  have S : FnScope ["least", "ways"] ["least"] (defScope sNumLeast) := ⟨rfl, rfl, rfl, by decide +kernel, rfl, by decide +kernel, by decide +kernel⟩
  refine F.ok (k := 1) S (fun vs H Q E h => ?_) (fun cdv A outer s H vs Q E hr h => ?_)
  · obtain ⟨a, L, rfl, _⟩ := h
    rfl
  obtain ⟨a, L, rfl, hL, h1, h20, hb, q⟩ := h
  refine ⟨_, pss_cons (ps_set (i := 1) S.nd rfl (Or.inr rfl) (pe_call G hr rfl mG kG bG .nil pass0 (pa_cons (pe_callB (call_lenI (K := K)) rfl hlen PySem.boot_len (pa_cons (pv 0) pa_nil)) pa_nil)))
    (pss_one (ps_ret (pe_callB (call_sumI (K := K) rfl) rfl hsum PyProof.Rows.boot_sum (pa_cons (pe_comp (x := "place") (F := ["least", "ways"]) (is := [0, 1]) okc_nleast rfl (pi_range1 rfl hrange (pa_cons (pe_callB (call_lenI (K := K)) rfl hlen PySem.boot_len (pa_cons (pv 0) pa_nil)) pa_nil)) (fun _ _ _ _ _ => pts_nil)
      (fun _ _ _ _ _ => pe_callB (call_sumI (K := K) rfl) rfl hsum PyProof.Rows.boot_sum (pa_cons (pe_slice (sl_listK (K := K)) (pe_ix (ix_listK (K := K)) (pv 2) (pe_op op_sub (pe_op op_sub (pe_callB (call_lenI (K := K)) rfl hlen PySem.boot_len (pa_cons (pv 1) pa_nil)) pe_int) (pv 0)) (fun _ _ => rfl)) po_none
        (po_some (pe_ix (ix_listK (K := K)) (pv 1) (pv 0) (fun _ _ => rfl)))) pa_nil))) pa_nil)))), ?_⟩
  refine ⟨_, rfl, a, L, rfl, hL, L.length, rfl, h1, h20, fun rt as H1 g1 nt et hP => ?_⟩
  have hlen : as.length = L.length + 1 := by have := Paired.length hP; unfold wtab at this; simpa using this
  refine ⟨_, rfl, a, L, rfl, g1.seq hL, _, rfl, by omega, by omega, ?_⟩
  rw [Int.toNat_natCast]
  refine comp_enc (List.range' 0 L.length) nv (fun k => .int ((upW (L.length - 1 - k) (vAt L k).toNat : Nat) : Int)) (fun _ => true) (by rw [List.length_range']; exact small1000 (by omega)) over_from (fun v hv H2 hS N hN => hN H2 (Same.refl _)) (fun k hk _ H2 hS N hN => ?_) (fun l H2 hS hl => ?_)
  · have hk' := List.mem_range'_1.mp hk
    obtain ⟨b, hbb, nb, eb⟩ := paired_fst hP (wtab_at (m := L.length) (n := L.length + 1) (i := L.length - 1 - k) (by omega))
    have hv := hb _ (vAt_mem (row := L) (k := k) (by omega))
    have ev : L.getD (k : Int).toNat 0 = vAt L k := by rw [Int.toNat_natCast]; rfl
    refine ⟨_, rfl, _, rfl, a, L, rfl, hS.seq (g1.seq hL), _, _, rfl, rfl, _, rfl, _, _, rfl, rfl, rt, _, _, _, rfl, rfl, SqL.of (hS _ _ et), atI_refs (k := L.length - 1 - k) (by omega) hbb, _, rfl, _, rfl, a, _, _, _, rfl, rfl, hS.seq (g1.seq hL), atI_ints (by omega) (by omega), _, rfl, b, _, rfl, LI.of (hS _ _ eb), fun rc nc => ?_⟩
    rw [ev, show vAt L k = (((vAt L k).toNat : Nat) : Int) by omega, cut_to, ← List.map_take]
    refine ⟨rc, _, rfl, LI.of upd_same, ?_⟩
    unfold wrow
    rw [wsum (by omega)]
    exact hN _ (same_new nc _)
  · rw [all_true, ← List.range_eq_range']
    have e : ((List.range L.length).map fun k => V.int ((upW (L.length - 1 - k) (vAt L k).toNat : Nat) : Int)) = (((List.range L.length).map fun k => ((upW (L.length - 1 - k) (vAt L k).toNat : Nat) : Int)).map V.int) := by
      rw [List.map_map]; rfl
    rw [e]
    refine ⟨l, _, rfl, LI.of upd_same, ?_⟩
    rw [sum_cast (fun k => upW (L.length - 1 - k) (vAt L k).toNat), ← rnk_sum]
    exact q _ (g1.trans (hS.trans (same_new hl _)))
theorem ok_leastat (F : Fun K "least_at" "least_at" sLeastAt f fd) (G : FnOk P w K mg base CX0 1 g gd ["size"] (spWays K)) (bG : Binds K gd ["size"] []) (kG : PySem.W.keepIn K (.ref g) = true) (mG : mg "ways_on" = some (.ref g))
    (hrange : mg "range" = none) : FnOk P w K mg base CX0 2 f fd ["size", "number"] (spLeastAt K) := by
  have S : FnScope ["size", "number", "ways", "rest", "least", "place", "behind", "here"] ["size", "number"] (defScope sLeastAt) := ⟨rfl, rfl, rfl, by decide +kernel, rfl, by decide +kernel, by decide +kernel⟩
  refine F.ok (k := 1) S (fun vs H Q E h => ?_) (fun cdv A outer s H vs Q E hr h => ?_)
  · obtain ⟨m, n, rfl, _⟩ := h
    rfl
  obtain ⟨m, n, rfl, h1, h20, hn, q⟩ := h
  refine ⟨_, pss_cons (ps_set (i := 2) S.nd rfl (Or.inl rfl) (pe_call G hr rfl mG kG bG .nil pass0 (pa_cons (pv 0) pa_nil)))
    (pss_cons (ps_set (i := 3) S.nd rfl (Or.inl rfl) (pv 1))
    (pss_cons (ps_set (i := 4) S.nd rfl (Or.inl rfl) (pe_lst pa_nil))
    (pss_cons (ps_for PassesOwn.never rfl (pi_range1 rfl hrange (pa_cons (pv 0) pa_nil)) (pg_name (i := 5) S.nd rfl (Or.inl rfl))
      (pss_cons (ps_set (i := 6) S.nd rfl (Or.inl rfl) (pe_ix (ix_listK (K := K)) (pv 2) (pe_op op_sub (pe_op op_sub (pv 0) pe_int) (pv 5)) (fun _ _ => rfl)))
      (pss_cons (ps_set (i := 7) S.nd rfl (Or.inl rfl) pe_int)
      (pss_cons (ps_while PassesOwn.never (pt_cmpR op_ge (pv 3) (pe_ix (ix_listK (K := K)) (pv 6) (pv 7) (fun _ _ => rfl)) (nomark _))
        (pss_cons (ps_aug (i := 3) S.nd rfl (Or.inl rfl) (pe_ix (ix_listK (K := K)) (pv 6) (pv 7) (fun _ _ => rfl)) ip_sub) (pss_one (ps_aug (i := 7) S.nd rfl (Or.inl rfl) pe_int ip_add))))
      (pss_one (ps_expr (pe_bmK (K := K) PySem.F.plainAttrs_list PySem.F.slot_list_append PySem.F.type_list_append mt_append (pv 4) (pa_cons (pv 7) pa_nil))))))))
    (pss_one (ps_ret (pv 4)))))), ?_⟩
  refine ⟨_, rfl, m, rfl, h1, h20, fun rt as H1 g1 nt et hP => ?_⟩
  refine ⟨_, rfl, (by show 0 ≤ sizeLine; decide), fun rl nl => ?_⟩
  have f1 := same_new nl (.lst [])
  have nlH : H rl = none := g1.free nl
  have hlen : as.length = m + 1 := by have := Paired.length hP; unfold wtab at this; simpa using this
  refine ⟨_, rfl, _, rfl, by omega, by omega, ?_⟩
  rw [Int.toNat_natCast]
  have hrtl : rt ≠ rl := ne_of_none et nl
  have hPl : Paired (fun b t => b ≠ rl ∧ upd H1 rl (.lst []) b = some (.lst (t.map V.int))) as (wtab m (m + 1)) := Paired.mapP hP fun b t h => ⟨ne_of_none h.2 nl, f1 _ _ h.2⟩
  refine for_range (n := m) (fun i σ' H' => ∃ (t5 t6 t7 : Option V) (rest : Nat) (A : List Int) (last : Int), σ' = [some (.int (m : Int)), some (.int (n : Int)), some (.ref rt), some (.int (rest : Int)), some (.ref rl), t5, t6, t7] ∧ Same H H' ∧ H' rt = some (.lst (as.map V.ref)) ∧
      Paired (fun b t => b ≠ rl ∧ H' b = some (.lst (t.map V.int))) as (wtab m (m + 1)) ∧ H' rl = some (.lst (A.map V.int)) ∧ A.length = i ∧ 0 ≤ last ∧ last < m ∧ rest < ways (m - i) last.toNat ∧
      ∀ L', Vl (m - i) last L' → Vl m ((m : Int) - 1) (A ++ L') ∧ rnk m (A ++ L') + rest = n + rnk (m - i) L')
    ⟨none, none, none, n, [], (m : Int) - 1, rfl, g1.trans f1, f1 _ _ et, hPl, upd_same, rfl, by omega, by omega, ?_, fun L' h => ⟨h, ?_⟩⟩ (fun i σ' H' hi h => ?_) (fun σ' H' h => ?_)
  · rw [Nat.sub_zero, show ((m : Int) - 1).toNat = m - 1 by omega]; exact hn
  · rw [Nat.sub_zero, List.nil_append]; omega
  · obtain ⟨t5, t6, t7, rest, A, last, rfl, gH, ew, hPl, el, hA, hl0, hlm, hrest, hall⟩ := h
    obtain ⟨b, hb, hbl, eb⟩ := paired_fst hPl (wtab_at (m := m) (n := m + 1) (i := m - 1 - i) (by omega))
    obtain ⟨d, hd⟩ : ∃ d, m - i = d + 1 := ⟨m - i - 1, by omega⟩
    have hd' : m - 1 - i = d := by omega
    rw [hd'] at hb eb
    rw [hd] at hrest hall
    rw [ways_succ] at hrest
    refine ⟨_, rfl, _, rfl, _, _, rfl, rfl, _, rfl, _, _, rfl, rfl, rt, _, _, _, rfl, rfl, SqL.of ew, atI_refs (k := d) (by omega) hb, ?_⟩
    have rowat : ∀ h : Nat, h < m → atI ((wrow m d).map V.int) (h : Int) = some (.int ((ways d h : Nat) : Int)) := fun h hh => atI_nat' rfl (by rw [List.getElem?_map, vAt_get (by rw [wrow_len]; exact hh), wrow_at hh]; rfl)
    refine while_by (fun σ' H2 => H2 = H' ∧ ∃ (here r : Nat), σ' = [some (.int (m : Int)), some (.int (n : Int)), some (.ref rt), some (.int (r : Int)), some (.ref rl), some (.int (0 + (i : Int))), some (.ref b), some (.int (here : Int))] ∧ here < m ∧ here ≤ d ∧ here ≤ last.toNat ∧ upW d here + r = rest)
      (fun (σ' : St) (_ : Hp) => match σ'[7]? with | some (some (V.int h)) => m - h.toNat | _ => 0) ⟨rfl, 0, rest, rfl, by omega, by omega, by omega, by rw [upW_zero]; omega⟩ (fun σ' H2 h => ?_) (fun σ' H2 Q1 Q2 hq h => ?_)
    · obtain ⟨rfl, here, r, rfl, hh1, hh2, hh3, hup⟩ := h
      refine ⟨_, rfl, _, rfl, _, rfl, b, _, _, _, rfl, rfl, LI.of eb, rowat here hh1, _, _, rfl, rfl, _, rfl, ?_⟩
      refine ite2 (fun c => ?_) (fun c => ?_)
      · have c' : ((ways d here : Nat) : Int) ≤ (r : Int) := of_decide_eq_true c
        have hs := upW_succ d here
        have hlt : here + 1 < min (last.toNat + 1) (d + 1) := upW_lt (n := d) (by omega)
        refine ⟨_, rfl, _, rfl, _, rfl, b, _, _, _, rfl, rfl, LI.of eb, rowat here hh1, _, _, rfl, rfl, _, rfl, _, _, rfl, rfl, ?_⟩
        refine ⟨⟨rfl, here + 1, r - ways d here, ?_, by omega, by omega, by omega, by omega⟩, ?_⟩
        · dsimp only
          rw [show ((r : Int) - ((ways d here : Nat) : Int)) = ((r - ways d here : Nat) : Int) by omega]; rfl
        · show m - ((here : Int) + 1).toNat < m - ((here : Int)).toNat
          omega
      · have c' : ¬ ((ways d here : Nat) : Int) ≤ (r : Int) := of_decide_eq_false (Bool.eq_false_iff.mpr c)
        refine ⟨_, rfl, .inl ⟨rfl, _, SqL.of el⟩, _, rfl, rl, _, _, rfl, rfl, el, by rw [List.length_map]; exact small1000 (by omega), ?_⟩
        refine ⟨_, _, _, r, A ++ [(here : Int)], (here : Int), rfl, same_set gH nlH, by rw [upd_ne hrtl]; exact ew, Paired.mapP hPl fun c t h => ⟨h.1, by rw [upd_ne h.1]; exact h.2⟩, by rw [upd_same, List.map_append]; rfl, by rw [List.length_append, hA]; rfl, by omega, by omega, ?_, fun L' hv => ?_⟩
        · rw [show m - (i + 1) = d by omega, Int.toNat_natCast]; omega
        · rw [show m - (i + 1) = d by omega] at hv ⊢
          obtain ⟨v1, v2⟩ := hall ((here : Int) :: L') ⟨_, _, rfl, by omega, by omega, by omega, hv⟩
          rw [List.append_assoc]
          refine ⟨v1, ?_⟩
          have e : rnk (d + 1) ((here : Int) :: L') = upW d here + rnk d L' := rfl
          rw [e] at v2
          show rnk m (A ++ ((here : Int) :: L')) + r = n + rnk d L'
          omega
    · obtain ⟨v1, e1, v2, e2, v3, e3, p, xs, i', v, e4, e5, hs, hat, x', y', e6, e7, b', e8, h⟩ := h
      exact ⟨v1, e1, v2, e2, v3, e3, p, xs, i', v, e4, e5, hs, hat, x', y', e6, e7, b', e8, hq _ _ h⟩
  · obtain ⟨t5, t6, t7, rest, A, last, rfl, gH, ew, hPl, el, hA, hl0, hlm, hrest, hall⟩ := h
    rw [Nat.sub_self] at hrest hall
    obtain ⟨v1, v2⟩ := hall [] rfl
    rw [List.append_nil] at v1 v2
    have e0 : ways 0 last.toNat = 1 := rfl
    have e1 : rnk 0 ([] : List Int) = 0 := rfl
    exact ⟨_, rfl, q A v1 (by omega) rl H' gH nlH el⟩
/-! ### shapeorders.threes where nothing is refused -/
noncomputable def spSize0 : Sp := fun vs H Q _ => ∃ n : Int, vs = [.int n] ∧ 1 ≤ n ∧ n ≤ 20 ∧ Q .non H
noncomputable def spThree0 (K : PySem.W.Frag) : Sp := fun vs H Q _ => ∃ (a : Addr) (ns : List Int), vs = [.ref a] ∧ LI K H a ns ∧ ns.length = 3 ∧ Q .non H
noncomputable def spMany0 : Sp := fun vs H Q _ => ∃ m : Nat, vs = [.int (m : Int)] ∧ 1 ≤ m ∧ m ≤ 20 ∧ ∀ H', Same H H' → Q (.int (ways m (m - 1) : Nat)) H'
noncomputable def spWA0 (K : PySem.W.Frag) : Sp := fun vs H Q _ => ∃ (b : Addr) (o : List Int) (m : Nat) (n : Int), vs = [.int (m : Int), .ref b, .int n] ∧ LI K H b o ∧ o ∈ sixes ∧ 1 ≤ m ∧ m ≤ 20 ∧ 0 ≤ n ∧ n < (ways m (m - 1) : Nat) ∧ ∀ S, Sh S → S.length = m → cnt S o = 0 → ((num o S : Nat) : Int) = n → NewL H Q S
noncomputable def spWithout0 (K : PySem.W.Frag) : Sp := fun vs H Q _ => ∃ (a b : Addr) (S o : List Int), vs = [.ref a, .ref b] ∧ LI K H a S ∧ LI K H b o ∧ Sh S ∧ Sh o ∧ o.length = 3 ∧ 1 ≤ S.length ∧ S.length ≤ 20 ∧ cnt S o = 0 ∧ ∀ H', Same H H' → Q .non H'
noncomputable def spNO0 (K : PySem.W.Frag) : Sp := fun vs H Q _ => ∃ (a b : Addr) (S o : List Int), vs = [.ref a, .ref b] ∧ LI K H a S ∧ LI K H b o ∧ Sh S ∧ 1 ≤ S.length ∧ S.length ≤ 20 ∧ o ∈ sixes ∧ cnt S o = 0 ∧ ∀ H', Same H H' → Q (.int (num o S : Nat)) H'
theorem ok_size0 (F : Fun K "check_size" "check_size" sCheckSize f fd) (hmost : mg "GREATEST_SIZE" = some (.int 20 t20)) : FnOk P w K mg base CX0 1 f fd ["size"] spSize0 := by
  refine F.ok (k := 0) (N := ["size"]) ⟨rfl, rfl, rfl, by decide +kernel, rfl, by decide +kernel, by decide +kernel⟩ (fun vs H Q E h => ?_) (fun cdv A outer s H vs Q E hr h => ?_)
  · obtain ⟨n, rfl, _⟩ := h
    rfl
  obtain ⟨n, rfl, h1, h2, q⟩ := h
  refine ⟨_, pss_one (ps_if (PW.pt (pw_or (pt_cmpR op_lt (pv 0) pe_int (nomark _)) (pw_or1 (pt_cmpR op_gt (pv 0) (pe_glob (v := .int 20) rfl hmost ⟨_, rfl⟩) (nomark _))))) pss_never pss_nil), ?_⟩
  refine ⟨_, rfl, _, _, rfl, rfl, _, rfl, ?_⟩
  rw [no_dec (show ¬ n < 1 by omega)]
  refine iteF ⟨_, rfl, _, _, rfl, rfl, _, rfl, ?_⟩
  rw [no_dec (show ¬ (20 : Int) < n by omega)]
  exact iteF q
theorem ok_three0 (F : Fun K "check_three" "check_three" sCheckThree f fd) (hlen : mg "len" = none) (hR : mg "RISING" = some (.ref aR)) (tR : ∀ H : Hp, SqT K H aR [.int 0, .int 1, .int 2]) : FnOk P w K mg base CX0 1 f fd ["order"] (spThree0 K) := by
  refine F.ok (k := 0) (N := ["order"]) ⟨rfl, rfl, rfl, by decide +kernel, rfl, by decide +kernel, by decide +kernel⟩ (fun vs H Q E h => ?_) (fun cdv A outer s H vs Q E hr h => ?_)
  · obtain ⟨a, ns, rfl, _⟩ := h
    rfl
  obtain ⟨a, ns, rfl, hL, h3, q⟩ := h
  refine ⟨_, pss_one (ps_if (pt_cmpR op_ne (pe_callB (call_lenI (K := K)) rfl hlen PySem.boot_len (pa_cons (pv 0) pa_nil)) (pe_callB (call_lenT (K := K)) rfl hlen PySem.boot_len (pa_cons (pe_glob (v := .ref aR) rfl hR rfl) pa_nil)) (nomark _)) pss_never pss_nil), ?_⟩
  exact ⟨_, rfl, a, ns, rfl, hL, aR, _, rfl, tR H, rfl, _, rfl, iteNS (by rw [h3]; rfl) q⟩
theorem ok_many0 (F : Fun K "many_without" "many_without" sManyWithout f fd) (G : FnOk P w K mg base CX0 1 g gd ["size"] (spWays K)) (bG : Binds K gd ["size"] []) (kG : PySem.W.keepIn K (.ref g) = true) (mG : mg "ways_on" = some (.ref g))
    (Z : FnOk P w K mg base CX0 1 g2 gd2 ["size"] spSize0) (bZ : Binds K gd2 ["size"] []) (kZ : PySem.W.keepIn K (.ref g2) = true) (mZ : mg "check_size" = some (.ref g2)) : FnOk P w K mg base CX0 2 f fd ["size"] spMany0 := by
  refine F.ok (k := 1) (N := ["size"]) ⟨rfl, rfl, rfl, by decide +kernel, rfl, by decide +kernel, by decide +kernel⟩ (fun vs H Q E h => ?_) (fun cdv A outer s H vs Q E hr h => ?_)
  · obtain ⟨n, rfl, _⟩ := h
    rfl
  obtain ⟨m, rfl, h1, h20, q⟩ := h
  refine ⟨_, pss_cons (ps_expr (pe_call Z hr rfl mZ kZ bZ .nil pass0 (pa_cons (pv 0) pa_nil)))
    (pss_one (ps_ret (pe_ix (ix_listK (K := K)) (pe_ix (ix_listK (K := K)) (pe_call G hr rfl mG kG bG .nil pass0 (pa_cons (pv 0) pa_nil)) (pv 0) (fun _ _ => rfl)) (pe_op op_sub (pv 0) pe_int) (fun _ _ => rfl)))), ?_⟩
  refine ⟨_, rfl, _, rfl, by omega, by omega, _, rfl, m, rfl, h1, h20, fun rt as H1 g1 nt et hP => ?_⟩
  obtain ⟨b, hb, _, eb⟩ := paired_fst hP (wtab_at (m := m) (n := m + 1) (i := m) (by omega))
  refine ⟨_, rfl, rt, _, _, _, rfl, rfl, SqL.of et, atI_refs (k := m) rfl hb, _, rfl, _, _, rfl, rfl, b, _, _, _, rfl, rfl, LI.of eb, atI_ints (by omega) (by rw [wrow_len]; omega), ?_⟩
  have e : (wrow m m).getD ((m : Int) - 1).toNat 0 = ((ways m (m - 1) : Nat) : Int) := by
    rw [show ((m : Int) - 1).toNat = m - 1 by omega]
    exact wrow_at (by omega)
  rw [e]
  exact q H1 g1
theorem ok_without0 (F : Fun K "check_without" "check_without" sCheckWithout f fd) (Z : FnOk P w K mg base CX0 8 g2 gd2 ["size"] spSize0) (bZ : Binds K gd2 ["size"] []) (kZ : PySem.W.keepIn K (.ref g2) = true) (mZ : mg "check_size" = some (.ref g2))
    (G : FnOk P w K mg base CX0 8 g gd ["row", "order"] (spFirst K)) (bG : Binds K gd ["row", "order"] []) (kG : PySem.W.keepIn K (.ref g) = true) (mG : mg "first" = some (.ref g)) (hlen : mg "len" = none) : FnOk P w K mg base CX0 9 f fd ["shape", "order"] (spWithout0 K) := by
  refine F.ok (k := 8) (N := ["shape", "order"]) ⟨rfl, rfl, rfl, by decide +kernel, rfl, by decide +kernel, by decide +kernel⟩ (fun vs H Q E h => ?_) (fun cdv A outer s H vs Q E hr h => ?_)
  · obtain ⟨a, b, S, o, rfl, _⟩ := h
    rfl
  obtain ⟨a, b, S, o, rfl, hL, hO, hS, ho, h3, h1, h20, hc, q⟩ := h
  refine ⟨_, pss_cons (ps_expr (pe_call Z hr rfl mZ kZ bZ .nil pass0 (pa_cons (pe_callB (call_lenI (K := K)) rfl hlen PySem.boot_len (pa_cons (pv 0) pa_nil)) pa_nil)))
    (pss_one (ps_if (pt_cmpR op_notN (pe_call G hr rfl mG kG bG .nil pass0 (pa_cons (pv 0) (pa_cons (pv 1) pa_nil))) pe_non (nomark _)) pss_never pss_nil)), ?_⟩
  have ef : firstF S o o.length [] = none := by
    rw [firstF_head, allF_all hS.nodup ho, List.head?_eq_none_iff]
    unfold cnt at hc
    exact List.length_eq_zero_iff.mp hc
  refine ⟨_, rfl, a, S, rfl, hL, _, rfl, by omega, by omega, ?_⟩
  refine ⟨_, rfl, _, rfl, a, b, S, o, rfl, hL, hO, hS.nodup, by omega, ho, by omega, by omega, fun u hu r H1 g1 hT => ?_, fun hu H1 g1 => ⟨rfl, _, rfl, iteF (q H1 g1)⟩⟩
  rw [ef] at hu; cases hu
theorem ok_wa0 (F : Fun K "without_at" "without_at" sWithoutAt f fd)
    (C : FnOk P w K mg base CX0 5 g1 gd1 ["shape"] (spCheckShape K)) (bC : Binds K gd1 ["shape"] []) (kC : PySem.W.keepIn K (.ref g1) = true) (mC : mg "check_shape" = some (.ref g1))
    (T : FnOk P w K mg base CX0 5 g2 gd2 ["order"] (spThree0 K)) (bT : Binds K gd2 ["order"] []) (kT : PySem.W.keepIn K (.ref g2) = true) (mT : mg "check_three" = some (.ref g2))
    (Z : FnOk P w K mg base CX0 5 g3 gd3 ["size"] spSize0) (bZ : Binds K gd3 ["size"] []) (kZ : PySem.W.keepIn K (.ref g3) = true) (mZ : mg "check_size" = some (.ref g3))
    (M : FnOk P w K mg base CX0 5 g4 gd4 ["size"] spMany0) (bM : Binds K gd4 ["size"] []) (kM : PySem.W.keepIn K (.ref g4) = true) (mM : mg "many_without" = some (.ref g4))
    (B : FnOk P w K mg base CX0 5 g gd ["shape", "order"] (spBrought K)) (bB : Binds K gd ["shape", "order"] []) (kB : PySem.W.keepIn K (.ref g) = true) (mB : mg "brought" = some (.ref g))
    (W : FnOk P w K mg base CX0 5 g5 gd5 ["least", "order"] (spShapeWith K)) (bW : Binds K gd5 ["least", "order"] []) (kW : PySem.W.keepIn K (.ref g5) = true) (mW : mg "shape_with" = some (.ref g5))
    (L : FnOk P w K mg base CX0 5 g6 gd6 ["size", "number"] (spLeastAt K)) (bL : Binds K gd6 ["size", "number"] []) (kL : PySem.W.keepIn K (.ref g6) = true) (mL : mg "least_at" = some (.ref g6)) : FnOk P w K mg base CX0 6 f fd ["size", "order", "number"] (spWA0 K) := by
  refine F.ok (k := 5) (N := ["size", "order", "number"]) ⟨rfl, rfl, rfl, by decide +kernel, rfl, by decide +kernel, by decide +kernel⟩ (fun vs H Q E h => ?_) (fun cdv A outer s H vs Q E hr h => ?_)
  · obtain ⟨b, o, m, n, rfl, _⟩ := h
    rfl
  obtain ⟨b, o, m, n, rfl, hO, ho6, h1, h20, hn0, hn, q⟩ := h
  obtain ⟨hos, ho3⟩ := sixes_sh ho6
  refine ⟨_, pss_cons (ps_expr (pe_call C hr rfl mC kC bC .nil pass0 (pa_cons (pv 1) pa_nil)))
    (pss_cons (ps_expr (pe_call T hr rfl mT kT bT .nil pass0 (pa_cons (pv 1) pa_nil)))
    (pss_cons (ps_expr (pe_call Z hr rfl mZ kZ bZ .nil pass0 (pa_cons (pv 0) pa_nil)))
    (pss_cons (ps_if (PW.pt (pw_or (pt_cmpR op_lt (pv 2) pe_int (nomark _)) (pw_or1 (pt_cmpR op_ge (pv 2) (pe_call M hr rfl mM kM bM .nil pass0 (pa_cons (pv 0) pa_nil)) (nomark _))))) pss_never pss_nil)
    (pss_one (ps_ret (pe_call B hr rfl mB kB bB .nil pass0 (pa_cons (pe_call W hr rfl mW kW bW .nil pass0 (pa_cons (pe_call L hr rfl mL kL bL .nil pass0 (pa_cons (pv 0) (pa_cons (pv 2) pa_nil))) (pa_cons (pe_call B hr rfl mB kB bB .nil pass0 (pa_cons (pv 1) (pa_cons (pv 1) pa_nil))) pa_nil))) (pa_cons (pv 1) pa_nil)))))))), ?_⟩
  refine ⟨_, rfl, b, o, rfl, hO, by omega, hos, fun H1 g1 => ?_⟩
  refine ⟨_, rfl, b, o, rfl, g1.seq hO, ho3, _, rfl, _, rfl, by omega, by omega, _, rfl, _, _, rfl, rfl, _, rfl, ?_⟩
  rw [no_dec (show ¬ n < 0 by omega)]
  refine iteF ⟨_, rfl, _, rfl, m, rfl, h1, h20, fun H2 g2 => ⟨_, _, rfl, rfl, _, rfl, ?_⟩⟩
  rw [no_dec (show ¬ ((ways m (m - 1) : Nat) : Int) ≤ n by omega)]
  have g12 := g1.trans g2
  obtain ⟨v, rfl⟩ : ∃ v : Nat, n = (v : Int) := ⟨n.toNat, by omega⟩
  refine iteF ⟨_, rfl, _, rfl, m, v, rfl, h1, h20, by omega, fun Ls hv hrk rL H3 g3 nL eL => ?_⟩
  have g13 := g12.trans g3
  refine ⟨_, rfl, _, rfl, b, b, o, o, rfl, g13.seq hO, g13.seq hO, by omega, hos, ho6, fun rB H4 g4 nB eB => ?_⟩
  rw [br_self ho6] at eB
  have hl : Ls.length = m := hv.length
  refine ⟨rL, rB, Ls, fallOf o, rfl, LI.of (g4 _ _ eL), LI.of eB, by omega, by rw [hl]; exact hv, fun S hS rW H5 g5 nW eW => ?_⟩
  rw [hl] at hS
  obtain ⟨m1, m2, m3, m4⟩ := made ho6 hv hS
  have g15 := (g13.trans g4).trans g5
  have hSs : Sh S ∧ S.length = m := by
    have e1 := br_sh (o := o) m1
    rw [br_br] at e1
    have e2 := br_length o S
    exact ⟨e1, by omega⟩
  refine ⟨_, rfl, rW, b, S, o, rfl, LI.of eW, g15.seq hO, by omega, hSs.1, ho6, fun rX H6 g6 nX eX => ?_⟩
  exact q (br o S) m1 m2 m3 (by omega) rX H6 (g15.trans g6) (g15.free nX) eX
theorem ok_no0 (F : Fun K "number_of" "number_of" sNumberOf f fd)
    (C : FnOk P w K mg base CX0 9 g1 gd1 ["shape"] (spCheckShape K)) (bC : Binds K gd1 ["shape"] []) (kC : PySem.W.keepIn K (.ref g1) = true) (mC : mg "check_shape" = some (.ref g1))
    (T : FnOk P w K mg base CX0 9 g2 gd2 ["order"] (spThree0 K)) (bT : Binds K gd2 ["order"] []) (kT : PySem.W.keepIn K (.ref g2) = true) (mT : mg "check_three" = some (.ref g2))
    (Z : FnOk P w K mg base CX0 9 g3 gd3 ["shape", "order"] (spWithout0 K)) (bZ : Binds K gd3 ["shape", "order"] []) (kZ : PySem.W.keepIn K (.ref g3) = true) (mZ : mg "check_without" = some (.ref g3))
    (B : FnOk P w K mg base CX0 9 g gd ["shape", "order"] (spBrought K)) (bB : Binds K gd ["shape", "order"] []) (kB : PySem.W.keepIn K (.ref g) = true) (mB : mg "brought" = some (.ref g))
    (W : FnOk P w K mg base CX0 9 g5 gd5 ["least"] (spNumLeast K)) (bW : Binds K gd5 ["least"] []) (kW : PySem.W.keepIn K (.ref g5) = true) (mW : mg "number_of_least" = some (.ref g5))
    (L : FnOk P w K mg base CX0 9 g6 gd6 ["shape"] (spLeast K)) (bL : Binds K gd6 ["shape"] []) (kL : PySem.W.keepIn K (.ref g6) = true) (mL : mg "least_numbers" = some (.ref g6)) : FnOk P w K mg base CX0 10 f fd ["shape", "order"] (spNO0 K) := by
  refine F.ok (k := 9) (N := ["shape", "order"]) ⟨rfl, rfl, rfl, by decide +kernel, rfl, by decide +kernel, by decide +kernel⟩ (fun vs H Q E h => ?_) (fun cdv A outer s H vs Q E hr h => ?_)
  · obtain ⟨a, b, S, o, rfl, _⟩ := h
    rfl
  obtain ⟨a, b, S, o, rfl, hL, hO, hS, h1, h20, ho6, hc, q⟩ := h
  obtain ⟨hos, ho3⟩ := sixes_sh ho6
  refine ⟨_, pss_cons (ps_expr (pe_call C hr rfl mC kC bC .nil pass0 (pa_cons (pv 0) pa_nil)))
    (pss_cons (ps_expr (pe_call C hr rfl mC kC bC .nil pass0 (pa_cons (pv 1) pa_nil)))
    (pss_cons (ps_expr (pe_call T hr rfl mT kT bT .nil pass0 (pa_cons (pv 1) pa_nil)))
    (pss_cons (ps_expr (pe_call Z hr rfl mZ kZ bZ .nil pass0 (pa_cons (pv 0) (pa_cons (pv 1) pa_nil))))
    (pss_one (ps_ret (pe_call W hr rfl mW kW bW .nil pass0 (pa_cons (pe_call L hr rfl mL kL bL .nil pass0 (pa_cons (pe_call B hr rfl mB kB bB .nil pass0 (pa_cons (pv 0) (pa_cons (pv 1) pa_nil))) pa_nil)) pa_nil))))))), ?_⟩
  refine ⟨_, rfl, a, S, rfl, hL, by omega, hS, fun H1 g1 => ⟨_, rfl, b, o, rfl, g1.seq hO, by omega, hos, fun H2 g2 => ?_⟩⟩
  have g12 := g1.trans g2
  refine ⟨_, rfl, b, o, rfl, g12.seq hO, ho3, _, rfl, _, rfl, a, b, S, o, rfl, g12.seq hL, g12.seq hO, hS, hos, ho3, h1, h20, hc, fun H3 g3 => ?_⟩
  have g13 := g12.trans g3
  refine ⟨_, rfl, _, rfl, a, b, S, o, rfl, g13.seq hL, g13.seq hO, by omega, hS, ho6, fun rB H4 g4 nB eB => ?_⟩
  refine ⟨rB, _, rfl, LI.of eB, by rw [br_length]; omega, br_sh hS, fun rL H5 g5 nL eL => ?_⟩
  have hlen : (lm (br o S).length (br o S)).length = S.length := by rw [lm_length, br_length]
  refine ⟨rL, _, rfl, LI.of eL, by omega, by omega, fun v hv => ?_, fun H6 g6 => ?_⟩
  · obtain ⟨k, hk, rfl⟩ := List.getElem_of_mem hv
    have hk2 : k < (br o S).length := by rw [lm_length] at hk; exact hk
    obtain ⟨a1, a2, a3⟩ := lm_at (br o S) ((br o S).length : Int) k hk2
    have ev : (lm ((br o S).length : Int) (br o S))[k] = vAt (lm ((br o S).length : Int) (br o S)) k := (vAt_of (List.getElem?_eq_getElem hk)).symm
    rw [ev, hlen]
    rw [br_length] at a2 a1 ⊢
    refine ⟨?_, by omega⟩
    rcases a1 with h | h
    · rw [br_length] at a3; omega
    · exact ((br_sh (o := o) hS).mem.mp (List.mem_of_mem_take h)).1
  · have e : rnk (lm ((br o S).length : Int) (br o S)).length (lm ((br o S).length : Int) (br o S)) = num o S := by
      unfold num
      rw [hlen, br_length]
    rw [e]
    exact q H6 ((g13.trans g4).trans (g5.trans g6))
end
end SO

namespace SO
open PySem L2 PySem.SeqAt
section
set_option maxHeartbeats 450000
variable {P : Program} {w : World} {K : PySem.W.Frag} {mg : Str → Option Value} {base : Heap} {f g g1 g2 g3 g4 g5 g6 : Addr} {fd gd gd1 gd2 gd3 gd4 gd5 gd6 : FuncData} {t30 t4 t12 t20 : Tok} {cE cR cS cO cZ cT cH cN aR : Addr}
noncomputable def spWhole : Sp := fun vs H Q _ => ∃ i : Int, vs = [.int i] ∧ Q (.bl true) H
theorem ok_whole (F : Fun K "_law_whole" "_law_whole" sWhole f fd) (hisi : mg "isinstance" = none) (hint : mg "int" = none) (hbool : mg "bool" = none) (kIB : PySem.W.kitOne K (.type "int") (.type "bool") = some false) :
    FnOk P w K mg base CX0 1 f fd ["found"] spWhole := by
  refine F.ok (k := 0) (N := ["found"]) ⟨rfl, rfl, rfl, by decide +kernel, rfl, by decide +kernel, by decide +kernel⟩ (fun vs H Q E h => ?_) (fun cdv A outer s H vs Q E hr h => ?_)
  · obtain ⟨i, rfl, _⟩ := h
    rfl
  obtain ⟨i, rfl, q⟩ := h
  refine ⟨_, pss_one (ps_ret (pe_and (pe_callB (call_isi (K := K)) rfl hisi PyProof.Rows.boot_isinstance (pa_cons (pv 0) (pa_cons (pe_bltn (v := .ty "int") rfl hint PyProof.Rows.boot_int rfl) pa_nil)))
    (pe_one (pe_not (pe_callB (call_isi (K := K)) rfl hisi PyProof.Rows.boot_isinstance (pa_cons (pv 0) (pa_cons (pe_bltn (v := .ty "bool") rfl hbool PyProof.Rows.boot_bool rfl) pa_nil))))))), ?_⟩
  refine ⟨_, rfl, _, _, _, true, rfl, TyOf.int i, rfl, _, rfl, iteT ?_⟩
  exact ⟨_, rfl, _, _, _, false, rfl, TyOf.int i, kIB, _, rfl, q⟩
noncomputable def spNumbers (K : PySem.W.Frag) : Sp := fun vs H Q _ => ∃ (a b : Addr) (ns ms : List Int), vs = [.ref a, .ref b] ∧ H a = some (.lst (ns.map V.int)) ∧ LI K H b ms ∧ Q (dec (ns = ms)) H
theorem ok_numbers {n : Nat} (F : Fun K "_law_numbers" "_law_numbers" sNumbers f fd) (G : FnOk P w K mg base CX0 n g gd ["found"] spWhole) (bG : Binds K gd ["found"] []) (kG : PySem.W.keepIn K (.ref g) = true) (mG : mg "_law_whole" = some (.ref g))
    (hisi : mg "isinstance" = none) (hlist : mg "list" = none) (hlen : mg "len" = none) : FnOk P w K mg base CX0 (n + 1) f fd ["found", "due"] (spNumbers K) := by
  have S : FnScope ["found", "due", "x"] ["found", "due"] (defScope sNumbers) := ⟨rfl, rfl, rfl, by decide +kernel, rfl, by decide +kernel, by decide +kernel⟩
  refine F.ok S (fun vs H Q E h => ?_) (fun cdv A outer s H vs Q E hr h => ?_)
  · obtain ⟨a, b, ns, ms, rfl, _⟩ := h
    rfl
  obtain ⟨a, b, ns, ms, rfl, ha, hb, q⟩ := h
  refine ⟨_, pss_cons (ps_if (PW.pt (pw_or (pt_not (pt_val (pe_callB (call_isi (K := K)) rfl hisi PyProof.Rows.boot_isinstance (pa_cons (pv 0) (pa_cons (pe_bltn (v := .ty "list") rfl hlist PyProof.Rows.boot_list rfl) pa_nil)))))
      (pw_or1 (pt_cmpR op_ne (pe_callB (call_lenI (K := K)) rfl hlen PySem.boot_len (pa_cons (pv 0) pa_nil)) (pe_callB (call_lenI (K := K)) rfl hlen PySem.boot_len (pa_cons (pv 1) pa_nil)) (nomark _))))) (pss_one (ps_ret pe_bl)) pss_nil)
    (pss_cons (ps_for PassesOwn.never rfl (pi_listK (K := K) (pv 0)) (pg_name (i := 2) S.nd rfl (Or.inl rfl)) (pss_one (ps_if (pt_not (pt_val (pe_call G hr rfl mG kG bG .nil pass0 (pa_cons (pv 2) pa_nil)))) (pss_one (ps_ret pe_bl)) pss_nil)))
    (pss_one (ps_ret (pe_cmpR (op_eqI (K := K) hr.units) (pv 0) (pv 1) (nomark _))))), ?_⟩
  refine ⟨_, rfl, _, _, _, true, rfl, TyOf.lst ha, rfl, _, rfl, iteF ?_⟩
  refine ⟨_, rfl, a, ns, rfl, LI.of ha, _, rfl, b, ms, rfl, hb, rfl, _, rfl, ?_⟩
  refine ite2 (fun c => ?_) (fun c => ?_)
  · have e : false = decide (ns = ms) := (decide_eq_false fun h => by
      rw [h] at c; simp at c).symm
    show Q (.bl false) H
    rw [e]
    exact q
  refine ⟨_, rfl, a, rfl, ⟨_, LI.of ha⟩, ?_⟩
  refine for_list (xs := ns.map V.int) (fun _ σ' H' => ∃ t, σ' = [some (.ref a), some (.ref b), t] ∧ H' = H) ⟨none, rfl, rfl⟩ (fun i σ' H' _ h => ?_) (fun i x σ' H' hx h => ?_) (fun σ' H' h => ?_)
  · obtain ⟨t, rfl, rfl⟩ := h
    exact LI.of ha
  · obtain ⟨t, rfl, rfl⟩ := h
    obtain ⟨i, rfl, _⟩ := mem_ints (List.mem_of_getElem? hx)
    exact ⟨_, rfl, i, rfl, _, rfl, iteF ⟨_, rfl, rfl⟩⟩
  · obtain ⟨t, rfl, rfl⟩ := h
    exact ⟨_, rfl, _, rfl, a, b, ns, ms, rfl, rfl, LI.of ha, hb, q⟩
noncomputable def spCellF (K : PySem.W.Frag) : Sp := fun vs H Q _ => ∃ (a : Addr) (ns : List Int) (k : Int), vs = [.ref a, .int k] ∧ LI K H a ns ∧ 0 ≤ k ∧ Q (.int (ns.getD k.toNat 0)) H
theorem ok_cellF (F : Fun K "_law_cell_at" "_law_cell_at" sCell f fd) (hlen : mg "len" = none) : FnOk P w K mg base CX0 1 f fd ["script", "k"] (spCellF K) := by
  refine F.ok (k := 0) (N := ["script", "k"]) ⟨rfl, rfl, rfl, by decide +kernel, rfl, by decide +kernel, by decide +kernel⟩ (fun vs H Q E h => ?_) (fun cdv A outer s H vs Q E hr h => ?_)
  · obtain ⟨a, ns, k, rfl, _⟩ := h
    rfl
  obtain ⟨a, ns, k, rfl, hL, h0, q⟩ := h
  refine ⟨_, pss_cons (ps_if (pt_cmpR op_lt (pv 1) (pe_callB (call_lenI (K := K)) rfl hlen PySem.boot_len (pa_cons (pv 0) pa_nil)) (nomark _)) (pss_one (ps_ret (pe_ix (ix_listK (K := K)) (pv 0) (pv 1) (fun _ _ => rfl)))) pss_nil) (pss_one (ps_ret pe_int)), ?_⟩
  refine ⟨_, rfl, _, rfl, a, ns, rfl, hL, _, _, rfl, rfl, _, rfl, ?_⟩
  refine ite2 (fun c => ?_) (fun c => ?_)
  · have c' : k < (ns.length : Int) := of_decide_eq_true c
    exact ⟨_, rfl, _, rfl, a, _, k, _, rfl, rfl, hL, atI_ints h0 c', q⟩
  · have c' : ¬ k < (ns.length : Int) := of_decide_eq_false (Bool.eq_false_iff.mpr c)
    have e : ns.getD k.toNat 0 = 0 := by rw [List.getD_eq_getElem?_getD, List.getElem?_eq_none (by omega)]; rfl
    rw [e] at q
    exact q
noncomputable def spThree : Sp := fun vs H Q _ => ∃ c : Int, vs = [.int c] ∧ NewL H Q (sixes.getD (c % 6).toNat [])
theorem ok_three (F : Fun K "_law_three" "_law_three" sThree f fd) (hlist : mg "list" = none) : FnOk P w K mg base CX0 1 f fd ["cell"] spThree := by
  refine F.ok (k := 0) (N := ["cell"]) ⟨rfl, rfl, rfl, by decide +kernel, rfl, by decide +kernel, by decide +kernel⟩ (fun vs H Q E h => ?_) (fun cdv A outer s H vs Q E hr h => ?_)
  · obtain ⟨c, rfl, _⟩ := h
    rfl
  obtain ⟨c, rfl, q⟩ := h
  refine ⟨_, @pss_one _ _ _ (@ps_ret _ _ _ _ (@pe_listS _ _ _ _ _ _ _ _ (call_listK (K := K)) rfl hlist (@pe_ix _ _ _ _ _ _ _ (ix_listK (K := K)) (@pe_lst _ _ _ _ (@pa_l3 _ _ _ _ _ _ _ _ _ _ _ _ _ (@pa_l3 _ _ _ _ _ _ _ _ _ _ _ _ _ (@pa_l3 _ _ _ _ _ _ _ _ _ _ _ _ _ (@pa_l3 _ _ _ _ _ _ _ _ _ _ _ _ _ (@pa_l3 _ _ _ _ _ _ _ _ _ _ _ _ _ (@pa_l3 _ _ _ _ _ _ _ _ _ _ _ _ _ pa_nil))))))) (pe_op op_mod (pv 0) pe_int) (fun _ _ => rfl)))), ?_⟩
  refine ⟨(by show 3 ≤ sizeLine; decide), fun r1 n1 => ?_⟩
  have g1 := same_new n1 (.lst [V.int 0, V.int 1, V.int 2])
  have e1 : upd H r1 (.lst [V.int 0, V.int 1, V.int 2]) r1 = some (.lst ((sixes.getD 0 []).map V.int)) := upd_same
  have gA := g1
  generalize upd H r1 (.lst [V.int 0, V.int 1, V.int 2]) = H1 at gA e1 ⊢
  clear g1 n1
  refine ⟨(by show 3 ≤ sizeLine; decide), fun r2 n2 => ?_⟩
  have g2 := same_new n2 (.lst [V.int 0, V.int 2, V.int 1])
  have e2 : upd H1 r2 (.lst [V.int 0, V.int 2, V.int 1]) r2 = some (.lst ((sixes.getD 1 []).map V.int)) := upd_same
  have e1 := g2 _ _ e1
  have gA := gA.trans g2
  generalize upd H1 r2 (.lst [V.int 0, V.int 2, V.int 1]) = H2 at gA e1 e2 ⊢
  clear g2 n2
  refine ⟨(by show 3 ≤ sizeLine; decide), fun r3 n3 => ?_⟩
  have g3 := same_new n3 (.lst [V.int 1, V.int 0, V.int 2])
  have e3 : upd H2 r3 (.lst [V.int 1, V.int 0, V.int 2]) r3 = some (.lst ((sixes.getD 2 []).map V.int)) := upd_same
  have e1 := g3 _ _ e1
  have e2 := g3 _ _ e2
  have gA := gA.trans g3
  generalize upd H2 r3 (.lst [V.int 1, V.int 0, V.int 2]) = H3 at gA e1 e2 e3 ⊢
  clear g3 n3
  refine ⟨(by show 3 ≤ sizeLine; decide), fun r4 n4 => ?_⟩
  have g4 := same_new n4 (.lst [V.int 1, V.int 2, V.int 0])
  have e4 : upd H3 r4 (.lst [V.int 1, V.int 2, V.int 0]) r4 = some (.lst ((sixes.getD 3 []).map V.int)) := upd_same
  have e1 := g4 _ _ e1
  have e2 := g4 _ _ e2
  have e3 := g4 _ _ e3
  have gA := gA.trans g4
  generalize upd H3 r4 (.lst [V.int 1, V.int 2, V.int 0]) = H4 at gA e1 e2 e3 e4 ⊢
  clear g4 n4
  refine ⟨(by show 3 ≤ sizeLine; decide), fun r5 n5 => ?_⟩
  have g5 := same_new n5 (.lst [V.int 2, V.int 0, V.int 1])
  have e5 : upd H4 r5 (.lst [V.int 2, V.int 0, V.int 1]) r5 = some (.lst ((sixes.getD 4 []).map V.int)) := upd_same
  have e1 := g5 _ _ e1
  have e2 := g5 _ _ e2
  have e3 := g5 _ _ e3
  have e4 := g5 _ _ e4
  have gA := gA.trans g5
  generalize upd H4 r5 (.lst [V.int 2, V.int 0, V.int 1]) = H5 at gA e1 e2 e3 e4 e5 ⊢
  clear g5 n5
  refine ⟨(by show 3 ≤ sizeLine; decide), fun r6 n6 => ?_⟩
  have g6 := same_new n6 (.lst [V.int 2, V.int 1, V.int 0])
  have e6 : upd H5 r6 (.lst [V.int 2, V.int 1, V.int 0]) r6 = some (.lst ((sixes.getD 5 []).map V.int)) := upd_same
  have e1 := g6 _ _ e1
  have e2 := g6 _ _ e2
  have e3 := g6 _ _ e3
  have e4 := g6 _ _ e4
  have e5 := g6 _ _ e5
  have gA := gA.trans g6
  generalize upd H5 r6 (.lst [V.int 2, V.int 1, V.int 0]) = H6 at gA e1 e2 e3 e4 e5 e6 ⊢
  clear g6 n6
  refine ⟨(by show 6 ≤ sizeLine; decide), fun r7 n7 => ?_⟩
  have g7 := same_new n7 (.lst [V.ref r1, V.ref r2, V.ref r3, V.ref r4, V.ref r5, V.ref r6])
  have e7 : upd H6 r7 (.lst [V.ref r1, V.ref r2, V.ref r3, V.ref r4, V.ref r5, V.ref r6]) r7 = some (.lst [V.ref r1, V.ref r2, V.ref r3, V.ref r4, V.ref r5, V.ref r6]) := upd_same
  have e1 := g7 _ _ e1
  have e2 := g7 _ _ e2
  have e3 := g7 _ _ e3
  have e4 := g7 _ _ e4
  have e5 := g7 _ _ e5
  have e6 := g7 _ _ e6
  have gA := gA.trans g7
  generalize upd H6 r7 (.lst [V.ref r1, V.ref r2, V.ref r3, V.ref r4, V.ref r5, V.ref r6]) = H7 at gA e1 e2 e3 e4 e5 e6 e7 ⊢
  clear g7 n7
  refine ⟨_, rfl, _, _, rfl, rfl, (by show (0 : Int) < 6; decide), ?_⟩
  have hb0 := Int.emod_nonneg c (show (6 : Int) ≠ 0 by decide)
  have hb1 := Int.emod_lt_of_pos c (show (0 : Int) < 6 by decide)
  generalize hz : c % 6 = z at hb0 hb1 q
  obtain ⟨rj, hA, hB⟩ : ∃ rj, atI [V.ref r1, V.ref r2, V.ref r3, V.ref r4, V.ref r5, V.ref r6] z = some (.ref rj) ∧ H7 rj = some (.lst ((sixes.getD z.toNat []).map V.int)) := by
    have e : z = 0 ∨ z = 1 ∨ z = 2 ∨ z = 3 ∨ z = 4 ∨ z = 5 := by omega
    rcases e with rfl | rfl | rfl | rfl | rfl | rfl
    · exact ⟨r1, rfl, e1⟩
    · exact ⟨r2, rfl, e2⟩
    · exact ⟨r3, rfl, e3⟩
    · exact ⟨r4, rfl, e4⟩
    · exact ⟨r5, rfl, e5⟩
    · exact ⟨r6, rfl, e6⟩
  rw [← hz] at hA
  refine ⟨r7, _, _, _, rfl, rfl, SqL.of e7, hA, rj, _, rfl, LI.of hB, fun l hl => ?_⟩
  exact q l _ (gA.trans (same_new hl _)) (gA.free hl) upd_same
noncomputable def spHas (K : PySem.W.Frag) : Sp := fun vs H Q _ => ∃ (a b : Addr) (S o : List Int), vs = [.ref a, .ref b] ∧ LI K H a S ∧ LI K H b o ∧ S.Nodup ∧ S.length ≤ 30 ∧ Sh o ∧ o.length = 3 ∧ Q (.bl (decide (cnt S o ≠ 0))) H
theorem iff_bl (a b : Prop) [Decidable a] [Decidable b] : decide (V.bl (decide a) = V.bl (decide b)) = decide (a ↔ b) := by
  rw [bl_eq]
  exact decide_eq_decide.mpr decide_eq_decide
theorem ok_has (F : Fun K "_law_has" "_law_has" sHas f fd) (hlen : mg "len" = none) (hrange : mg "range" = none) : FnOk P w K mg base CX0 1 f fd ["shape", "order"] (spHas K) := by
  have S : FnScope ["shape", "order", "size", "i", "j", "k", "low"] ["shape", "order"] (defScope sHas) := ⟨rfl, rfl, rfl, by decide +kernel, rfl, by decide +kernel, by decide +kernel⟩
  refine F.ok (k := 0) S (fun vs H Q E h => ?_) (fun cdv A outer s H vs Q E hr h => ?_)
  · obtain ⟨a, b, sh, o, rfl, _⟩ := h
    rfl
  obtain ⟨a, b, sh, o, rfl, hL, hO, hn, h30, ho, h3, q⟩ := h
  refine ⟨_, pss_cons (ps_set (i := 2) S.nd rfl (Or.inl rfl) (pe_callB (call_lenI (K := K)) rfl hlen PySem.boot_len (pa_cons (pv 0) pa_nil)))
    (pss_cons (ps_for PassesOwn.never rfl (pi_range1 rfl hrange (pa_cons (pv 2) pa_nil)) (pg_name (i := 3) S.nd rfl (Or.inl rfl))
      (pss_one (ps_for PassesOwn.never rfl (pi_range2 rfl hrange (pa_cons (pe_op op_add (pv 3) pe_int) (pa_cons (pv 2) pa_nil))) (pg_name (i := 4) S.nd rfl (Or.inl rfl))
        (pss_one (ps_if (pt_cmpR op_eq (pe_cmpR op_lt (pe_ix (ix_listK (K := K)) (pv 0) (pv 3) (fun _ _ => rfl)) (pe_ix (ix_listK (K := K)) (pv 0) (pv 4) (fun _ _ => rfl)) (nomark _)) (pe_cmpR op_lt (pe_ix (ix_listK (K := K)) (pv 1) pe_int (fun _ _ => rfl)) (pe_ix (ix_listK (K := K)) (pv 1) pe_int (fun _ _ => rfl)) (nomark _)) (nomark _))
          (pss_one (ps_for PassesOwn.never rfl (pi_range2 rfl hrange (pa_cons (pe_op op_add (pv 4) pe_int) (pa_cons (pv 2) pa_nil))) (pg_name (i := 5) S.nd rfl (Or.inl rfl))
            (pss_cons (ps_set (i := 6) S.nd rfl (Or.inl rfl) (pe_cmpR op_eq (pe_cmpR op_lt (pe_ix (ix_listK (K := K)) (pv 0) (pv 3) (fun _ _ => rfl)) (pe_ix (ix_listK (K := K)) (pv 0) (pv 5) (fun _ _ => rfl)) (nomark _)) (pe_cmpR op_lt (pe_ix (ix_listK (K := K)) (pv 1) pe_int (fun _ _ => rfl)) (pe_ix (ix_listK (K := K)) (pv 1) pe_int (fun _ _ => rfl)) (nomark _)) (nomark _)))
            (pss_one (ps_if (PW.pt (pw_and (pt_val (pv 6)) (pw_and1 (pt_cmpR op_eq (pe_cmpR op_lt (pe_ix (ix_listK (K := K)) (pv 0) (pv 4) (fun _ _ => rfl)) (pe_ix (ix_listK (K := K)) (pv 0) (pv 5) (fun _ _ => rfl)) (nomark _)) (pe_cmpR op_lt (pe_ix (ix_listK (K := K)) (pv 1) pe_int (fun _ _ => rfl)) (pe_ix (ix_listK (K := K)) (pv 1) pe_int (fun _ _ => rfl)) (nomark _)) (nomark _)))))
              (pss_one (ps_ret pe_bl)) pss_nil))))) pss_nil)))))
    (pss_one (ps_ret pe_bl))), ?_⟩
  have at_ : ∀ (k : Nat) (i : Int), i = (k : Int) → k < sh.length → atI (sh.map V.int) i = some (.int (vAt sh k)) := fun k i e hk => atI_nat' e (by rw [List.getElem?_map, vAt_get hk]; rfl)
  have ato : ∀ (k : Nat), k < 3 → atI (o.map V.int) (k : Int) = some (.int (vAt o k)) := fun k hk => atI_nat' rfl (by rw [List.getElem?_map, vAt_get (by omega)]; rfl)
  have found : ∀ i j k, i < j → j < k → k < sh.length → Tr sh o i j k → decide (cnt sh o ≠ 0) = true := fun i j k h1 h2 hk ht => decide_eq_true fun e => (cnt_Tr hn ho h3).mp e i j k h1 h2 hk ht
  refine ⟨_, rfl, a, sh, rfl, hL, _, rfl, _, rfl, by omega, by omega, ?_⟩
  rw [Int.toNat_natCast]
  refine for_range (n := sh.length) (fun i σ' H' => ∃ t3 t4 t5 t6, σ' = [some (.ref a), some (.ref b), some (.int (sh.length : Nat)), t3, t4, t5, t6] ∧ H' = H ∧ ∀ i' j k, i' < i → i' < j → j < k → k < sh.length → ¬ Tr sh o i' j k)
    ⟨none, none, none, none, rfl, rfl, fun i' j k h => absurd h (Nat.not_lt_zero _)⟩ (fun i σ' H' hi h => ?_) (fun σ' H' h => ?_)
  · obtain ⟨t3, t4, t5, t6, rfl, rfl, hno⟩ := h
    refine ⟨_, rfl, _, _, rfl, rfl, _, rfl, _, _, rfl, ⟨by omega, by omega, by omega, by omega⟩, ?_⟩
    have en : (((sh.length : Nat) : Int) - (0 + (i : Int) + 1)).toNat = sh.length - (i + 1) := by omega
    rw [en]
    refine for_range (n := sh.length - (i + 1)) (fun d σ' H2 => ∃ t4 t5 t6, σ' = [some (.ref a), some (.ref b), some (.int (sh.length : Nat)), some (.int (0 + (i : Int))), t4, t5, t6] ∧ H2 = H' ∧ ∀ j k, i < j → j < i + 1 + d → j < k → k < sh.length → ¬ Tr sh o i j k)
      ⟨_, _, _, rfl, rfl, fun j k h1 h2 => by omega⟩ (fun d σ' H2 hd h => ?_) (fun σ' H2 h => ?_)
    · obtain ⟨t4, t5, t6, rfl, rfl, hno2⟩ := h
      have ej : (0 + (i : Int) + 1 + (d : Int)) = ((i + 1 + d : Nat) : Int) := by omega
      refine ⟨_, rfl, _, rfl, a, _, _, _, rfl, rfl, hL, at_ i _ (by omega) hi, _, rfl, _, rfl, a, _, _, _, rfl, rfl, hL, at_ (i + 1 + d) _ (by omega) (by omega), _, _, rfl, rfl, _, rfl, b, _, _, _, rfl, rfl, hO, ato 0 (by decide), _, rfl, b, _, _, _, rfl, rfl, hO, ato 1 (by decide), _, _, rfl, rfl, rfl, _, rfl, ?_⟩
      rw [iff_bl]
      refine ite2 (fun c => ?_) (fun c => ?_)
      · have c1 : (vAt sh i < vAt sh (i + 1 + d) ↔ vAt o 0 < vAt o 1) := of_decide_eq_true c
        refine ⟨_, rfl, _, _, rfl, rfl, _, rfl, _, _, rfl, ⟨by omega, by omega, by omega, by omega⟩, ?_⟩
        have en2 : (((sh.length : Nat) : Int) - (0 + (i : Int) + 1 + (d : Int) + 1)).toNat = sh.length - (i + 1 + d + 1) := by omega
        rw [en2]
        refine for_range (n := sh.length - (i + 1 + d + 1)) (fun e σ' H3 => ∃ t5 t6, σ' = [some (.ref a), some (.ref b), some (.int (sh.length : Nat)), some (.int (0 + (i : Int))), some (.int (0 + (i : Int) + 1 + (d : Int))), t5, t6] ∧ H3 = H2 ∧ ∀ k, i + 1 + d < k → k < i + 1 + d + 1 + e → k < sh.length → ¬ Tr sh o i (i + 1 + d) k)
          ⟨_, _, rfl, rfl, fun k h1 h2 => by omega⟩ (fun e σ' H3 he h => ?_) (fun σ' H3 h => ?_)
        · obtain ⟨t5, t6, rfl, rfl, hno3⟩ := h
          refine ⟨_, rfl, _, rfl, a, _, _, _, rfl, rfl, hL, at_ i _ (by omega) hi, _, rfl, _, rfl, a, _, _, _, rfl, rfl, hL, at_ (i + 1 + d + 1 + e) _ (by omega) (by omega), _, _, rfl, rfl, _, rfl, b, _, _, _, rfl, rfl, hO, ato 0 (by decide), _, rfl, b, _, _, _, rfl, rfl, hO, ato 2 (by decide), _, _, rfl, rfl, rfl, ?_⟩
          rw [iff_bl]
          refine ⟨_, rfl, _, rfl, ?_⟩
          have next : ¬ Tr sh o i (i + 1 + d) (i + 1 + d + 1 + e) → ∀ k, i + 1 + d < k → k < i + 1 + d + 1 + (e + 1) → k < sh.length → ¬ Tr sh o i (i + 1 + d) k := fun hx k h1 h2 hk ht => by
            by_cases hk2 : k = i + 1 + d + 1 + e
            · subst hk2; exact hx ht
            · exact hno3 k h1 (by omega) hk ht
          refine ite2 (fun c => ?_) (fun c => ?_)
          · have c2 : (vAt sh i < vAt sh (i + 1 + d + 1 + e) ↔ vAt o 0 < vAt o 2) := of_decide_eq_true c
            refine ⟨_, rfl, _, rfl, a, _, _, _, rfl, rfl, hL, at_ (i + 1 + d) _ (by omega) (by omega), _, rfl, _, rfl, a, _, _, _, rfl, rfl, hL, at_ (i + 1 + d + 1 + e) _ (by omega) (by omega), _, _, rfl, rfl, _, rfl, b, _, _, _, rfl, rfl, hO, ato 1 (by decide), _, rfl, b, _, _, _, rfl, rfl, hO, ato 2 (by decide), _, _, rfl, rfl, rfl, _, rfl, ?_⟩
            rw [iff_bl]
            by_cases c3 : (vAt sh (i + 1 + d) < vAt sh (i + 1 + d + 1 + e) ↔ vAt o 1 < vAt o 2)
            · rw [decide_eq_true c3]
              refine iteT ?_
              rw [found i (i + 1 + d) (i + 1 + d + 1 + e) (by omega) (by omega) (by omega) ⟨c1, c2, c3⟩] at q
              exact q
            · rw [decide_eq_false c3]
              exact iteF ⟨_, _, rfl, rfl, next fun ht => c3 ht.2.2⟩
          · have c2 : ¬ (vAt sh i < vAt sh (i + 1 + d + 1 + e) ↔ vAt o 0 < vAt o 2) := of_decide_eq_false (Bool.eq_false_iff.mpr c)
            exact iteF ⟨_, _, rfl, rfl, next fun ht => c2 ht.2.1⟩
        · obtain ⟨t5, t6, rfl, rfl, hno3⟩ := h
          refine ⟨_, _, _, rfl, rfl, fun j k h1 h2 h4 hk => ?_⟩
          by_cases hj : j = i + 1 + d
          · subst hj; exact hno3 k h4 (by omega) hk
          · exact hno2 j k h1 (by omega) h4 hk
      · have c1 : ¬ (vAt sh i < vAt sh (i + 1 + d) ↔ vAt o 0 < vAt o 1) := of_decide_eq_false (Bool.eq_false_iff.mpr c)
        refine ⟨_, _, _, rfl, rfl, fun j k h1 h2 h4 hk ht => ?_⟩
        by_cases hj : j = i + 1 + d
        · subst hj; exact c1 ht.1
        · exact hno2 j k h1 (by omega) h4 hk ht
    · obtain ⟨t4, t5, t6, rfl, rfl, hno2⟩ := h
      refine ⟨_, _, _, _, rfl, rfl, fun i' j k h1 h2 h4 hk => ?_⟩
      by_cases hii : i' = i
      · subst hii; exact hno2 j k h2 (by omega) h4 hk
      · exact hno i' j k (by omega) h2 h4 hk
  · obtain ⟨t3, t4, t5, t6, rfl, rfl, hno⟩ := h
    have e : decide (cnt sh o ≠ 0) = false := decide_eq_false (fun hne => hne ((cnt_Tr hn ho h3).mpr fun i j k h1 h2 hk => hno i j k (by omega) h1 h2 hk))
    rw [e] at q
    exact q
/-- the ints of a list -/
noncomputable def intsAt (H : Hp) (a : Addr) : List Int := match H a with
  | some (.lst xs) => xs.map fun v => match v with | .int i => i | _ => 0
  | _ => []
theorem intsAt_of {H : Hp} {a : Addr} {t : List Int} (h : H a = some (.lst (t.map V.int))) : intsAt H a = t := by
  unfold intsAt
  rw [h]
  show (t.map V.int).map _ = t
  rw [List.map_map]
  exact List.map_id' t
noncomputable def Rows (H : Hp) (as : List Addr) (ts : List (List Int)) : Prop := Paired (fun b t => H b = some (.lst (t.map V.int))) as ts
theorem rows_at : ∀ {H : Hp} {as : List Addr} {ts : List (List Int)}, Rows H as ts → as.map (intsAt H) = ts
  | _, _, _, .nil => rfl
  | H, _, _, .cons h r => by rw [List.map_cons, intsAt_of h, rows_at r]
theorem rows_mem : ∀ {H : Hp} {as : List Addr} {ts : List (List Int)}, Rows H as ts → ∀ a ∈ as, H a = some (.lst ((intsAt H a).map V.int))
  | _, _, _, .nil, a, h => by cases h
  | H, _, _, .cons h r, a, ha => by
    rcases List.mem_cons.mp ha with e | e
    · subst e; rw [intsAt_of h]; exact h
    · exact rows_mem r a e
theorem rows_of : ∀ {H : Hp} {as : List Addr}, (∀ a ∈ as, H a = some (.lst ((intsAt H a).map V.int))) → Rows H as (as.map (intsAt H))
  | _, [], _ => .nil
  | H, a :: as, h => .cons (h a List.mem_cons_self) (rows_of fun b hb => h b (List.mem_cons_of_mem _ hb))
theorem Rows.same {H H' : Hp} {as : List Addr} {ts : List (List Int)} (h : Rows H as ts) (g : Same H H') : Rows H' as ts := Paired.mapP h fun _ _ q => g _ _ q
theorem rows_dv {K : PySem.W.Frag} {H : Hp} {a : Addr} : ∀ {as : List Addr} {ts : List (List Int)}, Rows H as ts → H a = some (.lst (as.map V.ref)) → DV K H (.ref a) (dL dI ts) := fun {as ts} h e => by
  refine DV.list_of (SqL.of e) ?_
  clear e
  unfold Rows at h
  induction h with
  | nil => exact .nil
  | cons q _ ih => exact .cons (DV.ints (LI.of q)) ih
noncomputable def spAll (K : PySem.W.Frag) : Sp := fun vs H Q _ => ∃ n : Nat, vs = [.int (n : Int)] ∧ n ≤ 6 ∧ ∀ (ts : List (List Int)), ts.Perm (allP n) → ts.Pairwise (fun a b => HT.lexLt b a = false) → ∀ (r : Addr) (as : List Addr) (H' : Hp), Same H H' → H' r = some (.lst (as.map V.ref)) → Rows H' as ts → Q (.ref r) H'
theorem ok_all (F : Fun K "_law_all" "_law_all" sAll f fd) (hrange : mg "range" = none) (hsorted : mg "sorted" = none) : FnOk P w K mg base CX0 1 f fd ["size"] (spAll K) := by
  have S : FnScope ["size", "found", "k", "longer", "row", "place"] ["size"] (defScope sAll) := ⟨rfl, rfl, rfl, by decide +kernel, rfl, by decide +kernel, by decide +kernel⟩
  refine F.ok (k := 0) S (fun vs H Q E h => ?_) (fun cdv A outer s H vs Q E hr h => ?_)
  · obtain ⟨n, rfl, _⟩ := h
    rfl
  obtain ⟨n, rfl, h6, q⟩ := h
  refine ⟨_, pss_cons (ps_set (i := 1) S.nd rfl (Or.inl rfl) (pe_lst (pa_cons (pe_lst pa_nil) pa_nil)))
    (pss_cons (ps_for PassesOwn.never rfl (pi_range1 rfl hrange (pa_cons (pv 0) pa_nil)) (pg_name (i := 2) S.nd rfl (Or.inl rfl))
      (pss_cons (ps_set (i := 3) S.nd rfl (Or.inl rfl) (pe_lst pa_nil))
      (pss_cons (ps_for PassesOwn.never rfl (pi_listK (K := K) (pv 1)) (pg_name (i := 4) S.nd rfl (Or.inl rfl))
        (pss_one (ps_for PassesOwn.never rfl (pi_range1 rfl hrange (pa_cons (pe_op op_add (pv 2) pe_int) pa_nil)) (pg_name (i := 5) S.nd rfl (Or.inl rfl))
          (pss_one (ps_expr (pe_bmK (K := K) PySem.F.plainAttrs_list PySem.F.slot_list_append PySem.F.type_list_append mt_append (pv 3) (pa_cons (pe_op op_cat (pe_op op_cat (pe_slice (sl_listK (K := K)) (pv 4) po_none (po_some (pv 5))) (pe_lst (pa_cons (pv 2) pa_nil))) (pe_slice (sl_listK (K := K)) (pv 4) (po_some (pv 5)) po_none)) pa_nil)))))))
      (pss_one (ps_set (i := 1) S.nd rfl (Or.inl rfl) (pv 3))))))
    (pss_one (ps_ret (pe_callB (call_sortedL (K := K) hr.units) rfl hsorted PyProof.Rows.boot_sorted (pa_cons (pv 1) pa_nil))))), ?_⟩
  refine ⟨(by show 0 ≤ sizeLine; decide), fun r0 n0 => ⟨(by show 1 ≤ sizeLine; decide), fun r1 n1 => ?_⟩⟩
  have f0 := same_new n0 (.lst [])
  have f1 := same_new n1 (.lst [V.ref r0])
  refine ⟨_, rfl, _, rfl, by omega, by omega, ?_⟩
  rw [Int.toNat_natCast]
  refine for_range (n := n) (fun k σ' H' => ∃ t2 t3 t4 t5 rf as, σ' = [some (.int (n : Int)), some (.ref rf), t2, t3, t4, t5] ∧ Same H H' ∧ H' rf = some (.lst (as.map V.ref)) ∧ Rows H' as (allP k))
    ⟨none, none, none, none, r1, [r0], rfl, f0.trans f1, upd_same, .cons (f1 _ _ upd_same) .nil⟩ (fun k σ' H' hk h => ?_) (fun σ' H' h => ?_)
  · obtain ⟨t2, t3, t4, t5, rf, as, rfl, gH, ef, hR⟩ := h
    have hlk := allP_len (k + 1) (by omega)
    have hwhole : ((allP k).flatMap (grow k)).length ≤ 720 := hlk
    have hlas : as.length = (allP k).length := Paired.length hR
    refine ⟨(by show 0 ≤ sizeLine; decide), fun rl nl => ?_⟩
    have f2 := same_new nl (.lst [])
    have nlH : H rl = none := gH.free nl
    have hrf : rf ≠ rl := ne_of_none ef nl
    refine ⟨_, rfl, rf, rfl, ⟨_, SqL.of (f2 _ _ ef)⟩, ?_⟩
    refine for_list (xs := as.map V.ref) (fun j σ' H2 => ∃ t4 t5 bs, σ' = [some (.int (n : Int)), some (.ref rf), some (.int (0 + (k : Int))), some (.ref rl), t4, t5] ∧ Same H H2 ∧ H2 rf = some (.lst (as.map V.ref)) ∧ Paired (fun b t => b ≠ rl ∧ H2 b = some (.lst (t.map V.int))) as (allP k) ∧ H2 rl = some (.lst (bs.map V.ref)) ∧
        Paired (fun b t => b ≠ rl ∧ H2 b = some (.lst (t.map V.int))) bs (((allP k).take j).flatMap (grow k)))
      ⟨t4, t5, [], rfl, gH.trans f2, f2 _ _ ef, Paired.mapP hR fun b t h => ⟨ne_of_none h nl, f2 _ _ h⟩, upd_same, .nil⟩ (fun j σ' H2 _ h => ?_) (fun j x σ' H2 hx h => ?_) (fun σ' H2 h => ?_)
    · obtain ⟨t4, t5, bs, rfl, gH2, ef2, _⟩ := h
      exact SqL.of ef2
    · obtain ⟨t4, t5, bs, rfl, gH2, ef2, hA, el, hB⟩ := h
      obtain ⟨c, hc, rfl⟩ := got_map hx
      obtain ⟨t, ht, hcl, ec⟩ := paired_at hA hc
      have htl : t.length = k := (allP_sh k t (List.mem_of_getElem? ht)).2
      refine ⟨_, rfl, _, _, rfl, rfl, _, rfl, by omega, by omega, ?_⟩
      rw [show ((0 : Int) + (k : Int) + 1).toNat = k + 1 by omega]
      refine for_range (n := k + 1) (fun p σ' H3 => ∃ t5 cs, σ' = [some (.int (n : Int)), some (.ref rf), some (.int (0 + (k : Int))), some (.ref rl), some (.ref c), t5] ∧ Same H H3 ∧ H3 rf = some (.lst (as.map V.ref)) ∧ Paired (fun b t => b ≠ rl ∧ H3 b = some (.lst (t.map V.int))) as (allP k) ∧ H3 c = some (.lst (t.map V.int)) ∧ H3 rl = some (.lst (cs.map V.ref)) ∧
          Paired (fun b t => b ≠ rl ∧ H3 b = some (.lst (t.map V.int))) cs (((allP k).take j).flatMap (grow k) ++ (grow k t).take p))
        ⟨t5, bs, rfl, gH2, ef2, hA, ec, el, by rw [List.take_zero, List.append_nil]; exact hB⟩ (fun p σ' H3 hp h => ?_) (fun σ' H3 h => ?_)
      · obtain ⟨t5, cs, rfl, gH3, ef3, hA3, ec3, el3, hC⟩ := h
        have hcs : cs.length < 1000 := by
          have z := Paired.length hC
          have z2 := take_flatMap_le (grow k) (allP k) (j + 1)
          rw [take_flatMap_succ ht, List.length_append] at z2
          rw [List.length_append, List.length_take] at z
          omega
        refine ⟨_, rfl, .inl ⟨rfl, _, SqL.of el3⟩, _, rfl, _, rfl, _, rfl, c, _, rfl, LI.of ec3, fun s1 m1 => ?_⟩
        rw [show ((0 : Int) + (p : Int)) = ((p : Nat) : Int) by omega, cut_to, ← List.map_take]
        have u1 := same_new m1 (.lst ((t.take p).map V.int))
        refine ⟨_, rfl, (by show 1 ≤ sizeLine; decide), fun s2 m2 => ?_⟩
        have u2 := same_new m2 (.lst [V.int (0 + (k : Int))])
        refine ⟨s1, s2, _, _, rfl, rfl, u2 _ _ upd_same, upd_same, ?_, fun s3 m3 => ?_⟩
        · rw [List.length_map, List.length_take]
          exact Nat.le_of_lt (small1000 (by simp only [List.length_singleton]; omega))
        have u3 := same_new m3 (.lst ((t.take p).map V.int ++ [V.int (0 + (k : Int))]))
        have u13 := u1.trans (u2.trans u3)
        refine ⟨_, rfl, _, rfl, _, rfl, c, _, rfl, LI.of (u13 _ _ ec3), fun s4 m4 => ?_⟩
        rw [cut_from, ← List.map_drop]
        have u4 := same_new m4 (.lst ((t.drop p).map V.int))
        refine ⟨s3, s4, _, _, rfl, rfl, u4 _ _ upd_same, upd_same, ?_, fun s5 m5 => ?_⟩
        · rw [List.length_append, List.length_map, List.length_map, List.length_take, List.length_drop]
          exact Nat.le_of_lt (small1000 (by simp only [List.length_singleton]; omega))
        have e5 : (t.take p).map V.int ++ [V.int (0 + (k : Int))] ++ (t.drop p).map V.int = (putIn t k p).map V.int := by
          unfold putIn
          rw [List.map_append, List.map_append, show ((0 : Int) + (k : Int)) = (k : Int) by omega]; rfl
        rw [e5]
        have u5 := same_new m5 (.lst ((putIn t k p).map V.int))
        have u15 := u13.trans (u4.trans u5)
        have hne : s5 ≠ rl := fun e => by
          have z := (u13.trans u4) _ _ el3
          rw [← e, m5] at z; cases z
        refine ⟨rl, _, _, rfl, rfl, u15 _ _ el3, by rw [List.length_map]; exact small1000 (by omega), ?_⟩
        have stay : ∀ {b : Addr} {o : HO}, b ≠ rl → H3 b = some o → ∀ o2, upd (upd (upd (upd (upd (upd H3 s1 (.lst ((t.take p).map V.int))) s2 (.lst [V.int (0 + (k : Int))])) s3 (.lst ((t.take p).map V.int ++ [V.int (0 + (k : Int))]))) s4 (.lst ((t.drop p).map V.int))) s5 (.lst ((putIn t k p).map V.int))) rl o2 b = some o := fun hb h o2 => by rw [upd_ne hb]; exact u15 _ _ h
        refine ⟨_, cs ++ [s5], rfl, same_set (gH3.trans u15) nlH, stay hrf ef3 _, Paired.mapP hA3 fun b t h => ⟨h.1, stay h.1 h.2 _⟩, stay hcl ec3 _, by rw [upd_same, List.map_append]; rfl, ?_⟩
        have eg : (grow k t)[p]? = some (putIn t k p) := by unfold grow; rw [List.getElem?_map, List.getElem?_range hp]; rfl
        rw [take_at eg, ← List.append_assoc]
        exact Paired.snoc (Paired.mapP hC fun b t h => ⟨h.1, stay h.1 h.2 _⟩) ⟨hne, by rw [upd_ne hne, upd_same]⟩
      · obtain ⟨t5, cs, rfl, gH3, ef3, hA3, ec3, el3, hC⟩ := h
        have eg : (grow k t).take (k + 1) = grow k t := List.take_of_length_le (by rw [grow_len]; exact Nat.le_refl _)
        rw [eg, ← take_flatMap_succ ht] at hC
        exact ⟨_, _, cs, rfl, gH3, ef3, hA3, el3, hC⟩
    · obtain ⟨t4, t5, bs, rfl, gH2, ef2, hA, el, hB⟩ := h
      rw [List.length_map, hlas, List.take_length] at hB
      exact ⟨_, rfl, _, _, _, _, rl, bs, rfl, gH2, el, Paired.mapP hB fun b t h => h.2⟩
  · obtain ⟨t2, t3, t4, t5, rf, as, rfl, gH, ef, hR⟩ := h
    refine ⟨_, rfl, rf, as, intsAt H', rfl, SqL.of ef, fun a ha => LI.of (rows_mem hR a ha), fun l qs hp hs nl => ?_⟩
    have f9 := same_new nl (.lst (qs.map V.ref))
    have hq : Rows H' qs (qs.map (intsAt H')) := rows_of fun a ha => rows_mem hR a (hp.mem_iff.mp ha)
    refine q (qs.map (intsAt H')) ?_ ?_ l qs _ (gH.trans f9) upd_same (hq.same f9)
    · have := hp.map (intsAt H')
      rw [rows_at hR] at this
      exact this
    · rw [List.pairwise_map]
      exact hs
end
end SO

namespace SO
open PySem L2
noncomputable def spLaw (K : PySem.W.Frag) : Sp := fun vs H Q _ => ∃ (a : Addr) (ns : List Int), vs = [.ref a] ∧ LI K H a ns ∧ ∀ H', Q (.bl true) H'
noncomputable abbrev lawN : List Str := ["script", "size", "order", "due", "count", "some", "n", "found", "told"]
section
variable {P : Program} {w : World} {K : PySem.W.Frag} {mg : Str → Option Value} {base : Heap} {f fCell fWhole fNum fThree fHas fAll fMW fWA fNO : Addr} {fd dCell dWhole dNum dThree dHas dAll dMW dWA dNO : FuncData}
theorem okc_due : CompOk (defScope sLaw) lawN "shape" ["order"] [2] (scE (valE sLaw 2)) := ⟨rfl, by decide +kernel, by decide +kernel, by decide +kernel, by decide +kernel, by decide +kernel, by decide +kernel, by decide +kernel⟩
theorem ok_law (F : Fun K "law" "law" sLaw f fd)
    (gCell : FnOk P w K mg base CX0 11 fCell dCell ["script", "k"] (spCellF K)) (bCell : Binds K dCell ["script", "k"] []) (kCell : PySem.W.keepIn K (.ref fCell) = true) (mCell : mg "_law_cell_at" = some (.ref fCell))
    (gWhole : FnOk P w K mg base CX0 11 fWhole dWhole ["found"] spWhole) (bWhole : Binds K dWhole ["found"] []) (kWhole : PySem.W.keepIn K (.ref fWhole) = true) (mWhole : mg "_law_whole" = some (.ref fWhole))
    (gNum : FnOk P w K mg base CX0 11 fNum dNum ["found", "due"] (spNumbers K)) (bNum : Binds K dNum ["found", "due"] []) (kNum : PySem.W.keepIn K (.ref fNum) = true) (mNum : mg "_law_numbers" = some (.ref fNum))
    (gThree : FnOk P w K mg base CX0 11 fThree dThree ["cell"] spThree) (bThree : Binds K dThree ["cell"] []) (kThree : PySem.W.keepIn K (.ref fThree) = true) (mThree : mg "_law_three" = some (.ref fThree))
    (gHas : FnOk P w K mg base CX0 11 fHas dHas ["shape", "order"] (spHas K)) (bHas : Binds K dHas ["shape", "order"] []) (kHas : PySem.W.keepIn K (.ref fHas) = true) (mHas : mg "_law_has" = some (.ref fHas))
    (gAll : FnOk P w K mg base CX0 11 fAll dAll ["size"] (spAll K)) (bAll : Binds K dAll ["size"] []) (kAll : PySem.W.keepIn K (.ref fAll) = true) (mAll : mg "_law_all" = some (.ref fAll))
    (gMW : FnOk P w K mg base CX0 11 fMW dMW ["size"] spMany0) (bMW : Binds K dMW ["size"] []) (kMW : PySem.W.keepIn K (.ref fMW) = true) (mMW : mg "many_without" = some (.ref fMW))
    (gWA : FnOk P w K mg base CX0 11 fWA dWA ["size", "order", "number"] (spWA0 K)) (bWA : Binds K dWA ["size", "order", "number"] []) (kWA : PySem.W.keepIn K (.ref fWA) = true) (mWA : mg "without_at" = some (.ref fWA))
    (gNO : FnOk P w K mg base CX0 11 fNO dNO ["shape", "order"] (spNO0 K)) (bNO : Binds K dNO ["shape", "order"] []) (kNO : PySem.W.keepIn K (.ref fNO) = true) (mNO : mg "number_of" = some (.ref fNO))
    (hlen : mg "len" = none) (hlist : mg "list" = none) (hrange : mg "range" = none) (hsorted : mg "sorted" = none) : FnOk P w K mg base CX0 12 f fd ["script"] (spLaw K) := by
  have S : FnScope lawN ["script"] (defScope sLaw) := ⟨rfl, rfl, rfl, by decide +kernel, rfl, by decide +kernel, by decide +kernel⟩
  refine F.ok (k := 11) S (fun vs H Q E h => ?_) (fun cdv A outer s H vs Q E hr h => ?_)
  · obtain ⟨a, ns, rfl, _⟩ := h
    rfl
  obtain ⟨a, ns, rfl, hL, q⟩ := h
  have hz0 := Int.emod_nonneg (ns.getD (0 : Int).toNat 0) (show (6 : Int) ≠ 0 by decide)
  have hz1 := Int.emod_lt_of_pos (ns.getD (0 : Int).toNat 0) (show (0 : Int) < 6 by decide)
  obtain ⟨m, hm⟩ : ∃ m : Nat, (1 : Int) + ns.getD (0 : Int).toNat 0 % 6 = (m : Int) := ⟨(1 + ns.getD (0 : Int).toNat 0 % 6).toNat, by omega⟩
  have hm1 : 1 ≤ m := by omega
  have hm6 : m ≤ 6 := by omega
  refine ⟨_, pss_cons (ps_set (i := 1) S.nd rfl (Or.inl rfl) (pe_op op_add pe_int (pe_op op_mod (pe_call gCell hr rfl mCell kCell bCell .nil pass0 (pa_cons (pv 0) (pa_cons pe_int pa_nil))) pe_int)))
    (pss_cons (ps_set (i := 2) S.nd rfl (Or.inr rfl) (pe_call gThree hr rfl mThree kThree bThree .nil pass0 (pa_cons (pe_call gCell hr rfl mCell kCell bCell .nil pass0 (pa_cons (pv 0) (pa_cons pe_int pa_nil))) pa_nil)))
    (pss_cons (ps_setC (i := 3) (x := "shape") (F := ["order"]) (is := [2]) okc_due rfl S.nd rfl (Or.inl rfl) (pi_listK (K := K) (pe_call gAll hr rfl mAll kAll bAll .nil pass0 (pa_cons (pv 1) pa_nil)))
      (fun _ _ _ _ _ => pts_one (pt_not (pt_val (pe_call gHas hr rfl mHas kHas bHas .nil pass0 (pa_cons (pv 0) (pa_cons (pv 1) pa_nil)))))) (fun _ _ _ _ _ => pv 0))
    (pss_cons (ps_set (i := 4) S.nd rfl (Or.inl rfl) (pe_call gMW hr rfl mMW kMW bMW .nil pass0 (pa_cons (pv 1) pa_nil)))
    (pss_cons (ps_if (PW.pt (pw_or (pt_not (pt_val (pe_call gWhole hr rfl mWhole kWhole bWhole .nil pass0 (pa_cons (pv 4) pa_nil)))) (pw_or1 (pt_cmpR op_ne (pv 4) (pe_callB call_lenM rfl hlen PySem.boot_len (pa_cons (pv 3) pa_nil)) (nomark _))))) (pss_one (ps_ret pe_bl)) pss_nil)
    (pss_cons (ps_set (i := 5) S.nd rfl (Or.inl rfl) (pe_lst pa_nil))
    (pss_cons (ps_for PassesOwn.never rfl (pi_range1 rfl hrange (pa_cons (pv 4) pa_nil)) (pg_name (i := 6) S.nd rfl (Or.inl rfl))
      (pss_cons (ps_set (i := 7) S.nd rfl (Or.inl rfl) (pe_call gWA hr rfl mWA kWA bWA .nil pass0 (pa_cons (pv 1) (pa_cons (pe_callTy (call_listK (K := K)) rfl hlist PyProof.Rows.boot_list (pa_cons (pv 2) pa_nil)) (pa_cons (pv 6) pa_nil)))))
      (pss_cons (ps_if (pt_not (pt_val (pe_call gNum hr rfl mNum kNum bNum .nil pass0 (pa_cons (pv 7) (pa_cons (pe_callTy (call_listK (K := K)) rfl hlist PyProof.Rows.boot_list (pa_cons (pv 7) pa_nil)) pa_nil))))) (pss_one (ps_ret pe_bl)) pss_nil)
      (pss_cons (ps_expr (pe_bmK (K := K) PySem.F.plainAttrs_list PySem.F.slot_list_append PySem.F.type_list_append mt_append (pv 5) (pa_cons (pe_callTy (call_listK (K := K)) rfl hlist PyProof.Rows.boot_list (pa_cons (pv 7) pa_nil)) pa_nil)))
      (pss_cons (ps_expr (pe_bmK (K := K) PySem.F.plainAttrs_list PySem.F.slot_list_append PySem.F.type_list_append mt_append (pv 7) (pa_cons pe_int pa_nil)))
      (pss_cons (ps_set (i := 8) S.nd rfl (Or.inl rfl) (pe_call gNO hr rfl mNO kNO bNO .nil pass0 (pa_cons (pe_callTy (call_listK (K := K)) rfl hlist PyProof.Rows.boot_list (pa_cons (pe_ix (ix_listK (K := K)) (pv 5) (pv 6) (fun _ _ => rfl)) pa_nil)) (pa_cons (pe_callTy (call_listK (K := K)) rfl hlist PyProof.Rows.boot_list (pa_cons (pv 2) pa_nil)) pa_nil))))
      (pss_one (ps_if (PW.pt (pw_or (pt_not (pt_val (pe_call gWhole hr rfl mWhole kWhole bWhole .nil pass0 (pa_cons (pv 8) pa_nil)))) (pw_or (pt_cmpR op_ne (pv 8) (pv 6) (nomark _)) (pw_or1 (pt_cmpR (op_neI (K := K) hr.units) (pe_call gWA hr rfl mWA kWA bWA .nil pass0 (pa_cons (pv 1) (pa_cons (pv 2) (pa_cons (pv 6) pa_nil)))) (pe_ix (ix_listK (K := K)) (pv 5) (pv 6) (fun _ _ => rfl)) (nomark _)))))) (pss_one (ps_ret pe_bl)) pss_nil))))))))
    (pss_one (ps_ret (pe_cmpR (op_eqD (K := K) hr.units) (pe_callB (call_sortedL (K := K) hr.units) rfl hsorted PyProof.Rows.boot_sorted (pa_cons (pv 5) pa_nil)) (pv 3) (nomark _)))))))))), ?_⟩
  refine ⟨_, rfl, a, ns, 0, rfl, hL, Int.le_refl 0, _, _, rfl, rfl, (by show (0 : Int) < 6; decide), _, _, rfl, rfl, ?_⟩
  dsimp only
  rw [hm]
  refine ⟨_, rfl, a, ns, 1, rfl, hL, by decide, _, rfl, fun rO H1 g1 nO eO => ?_⟩
  have ho6 : sixes.getD (ns.getD (1 : Int).toNat 0 % 6).toNat [] ∈ sixes := six_get
  generalize sixes.getD (ns.getD (1 : Int).toNat 0 % 6).toNat [] = o at eO ho6
  obtain ⟨hos, ho3⟩ := sixes_sh ho6
  refine ⟨_, rfl, m, rfl, hm6, fun ts hts hsort rA as H2 g2 eA hR => ⟨rA, rfl, ⟨_, SqL.of eA⟩, ?_⟩⟩
  have hlas : as.length ≤ 720 := by
    rw [Paired.length hR, hts.length_eq]
    exact allP_len m (by omega)
  have eO := g2 _ _ eO
  have sh_at : ∀ c ∈ as, Sh (intsAt H2 c) ∧ (intsAt H2 c).length = m := fun c hc => allP_sh m _ (hts.mem_iff.mp (by rw [← rows_at hR]; exact List.mem_map.mpr ⟨c, hc, rfl⟩))
  refine comp_enc as V.ref V.ref (fun c => decide (cnt (intsAt H2 c) o = 0)) (Nat.lt_of_le_of_lt hlas (small1000 (by decide))) (over_list (SqL.of eA)) (fun c hc H3 hS N hN => ?_) (fun c hc _ H3 hS N hN => ⟨_, rfl, hN H3 (Same.refl _)⟩) (fun rD H3 g3 nD => ?_)
  · obtain ⟨hsc, hlc⟩ := sh_at c hc
    refine ⟨_, rfl, _, rfl, c, rO, _, o, rfl, LI.of (hS _ _ (rows_mem hR c hc)), LI.of (hS _ _ eO), hsc.nodup, by omega, hos, ho3, _, rfl, ?_⟩
    have e : (!decide (cnt (intsAt H2 c) o ≠ 0)) = decide (cnt (intsAt H2 c) o = 0) := by
      by_cases h : cnt (intsAt H2 c) o = 0
      · rw [decide_eq_true h, decide_eq_false (fun z => z h)]; rfl
      · rw [decide_eq_false h, decide_eq_true h]; rfl
    show N (!decide (cnt (intsAt H2 c) o ≠ 0)) H3
    rw [e]
    exact hN H3 (Same.refl _)
  -- those that are due
  have hRd : Rows H3 (as.filter fun c => decide (cnt (intsAt H2 c) o = 0)) (ts.filter fun t => decide (cnt t o = 0)) := by
    have z : Rows H2 (as.filter fun c => decide (cnt (intsAt H2 c) o = 0)) ((as.filter fun c => decide (cnt (intsAt H2 c) o = 0)).map (intsAt H2)) := rows_of fun c hc => rows_mem hR c (List.mem_filter.mp hc).1
    have e : (as.filter fun c => decide (cnt (intsAt H2 c) o = 0)).map (intsAt H2) = ts.filter fun t => decide (cnt t o = 0) := by
      rw [← rows_at hR, List.filter_map]; rfl
    rw [e] at z
    exact z.same g3
  generalize (as.filter fun c => decide (cnt (intsAt H2 c) o = 0)) = ds at hRd ⊢
  have f4 := same_new nD (.lst (ds.map V.ref))
  have eD : upd H3 rD (.lst (ds.map V.ref)) rD = some (.lst (ds.map V.ref)) := upd_same
  have hRd := hRd.same f4
  have eO := f4 _ _ (g3 _ _ eO)
  generalize upd H3 rD (.lst (ds.map V.ref)) = H4 at eD hRd eO ⊢
  have hdl : ds.length = (ts.filter fun t => decide (cnt t o = 0)).length := Paired.length hRd
  have hsd : (ts.filter fun t => decide (cnt t o = 0)).Pairwise (fun a b => HT.lexLt b a = false) := hsort.filter _
  refine ⟨_, rfl, m, rfl, hm1, by omega, fun H5 g5 => ?_⟩
  have eO := g5 _ _ eO
  have eD := g5 _ _ eD
  have hRd := hRd.same g5
  have hmany := due_many ho6 hm1 hts
  have hw720 : ways m (m - 1) ≤ 720 := by
    rw [← hmany]
    exact Nat.le_trans (List.length_filter_le _ _) (by rw [hts.length_eq]; exact allP_len m (by omega))
  refine ⟨_, rfl, _, rfl, _, rfl, iteF ⟨_, rfl, _, rfl, rD, _, rfl, eD, rfl, _, rfl, iteNS (by rw [List.length_map, hdl, hmany]) ?_⟩⟩
  refine ⟨(by show 0 ≤ sizeLine; decide), fun rL nL => ?_⟩
  have f6 := same_new nL (.lst [])
  have nDL : rD ≠ rL := ne_of_none eD nL
  have nOL : rO ≠ rL := ne_of_none eO nL
  refine ⟨_, rfl, _, rfl, by omega, by omega, ?_⟩
  rw [Int.toNat_natCast]
  refine for_range (n := ways m (m - 1)) (fun i σ' H' => ∃ (t6 t7 t8 : Option V) (bs : List Addr) (ss : List (List Int)), σ' = [some (.ref a), some (.int (m : Int)), some (.ref rO), some (.ref rD), some (.int ((ways m (m - 1) : Nat) : Int)), some (.ref rL), t6, t7, t8] ∧ H' rO = some (.lst (o.map V.int)) ∧ H' rD = some (.lst (ds.map V.ref)) ∧
      Paired (fun b t => b ≠ rL ∧ H' b = some (.lst (t.map V.int))) ds (ts.filter fun t => decide (cnt t o = 0)) ∧ H' rL = some (.lst (bs.map V.ref)) ∧ Paired (fun b t => b ≠ rL ∧ H' b = some (.lst (t.map V.int))) bs ss ∧ ss.length = i ∧ ∀ n, n < ss.length → ∃ S, ss[n]? = some S ∧ Sh S ∧ S.length = m ∧ cnt S o = 0 ∧ num o S = n)
    ⟨none, none, none, [], [], rfl, f6 _ _ eO, f6 _ _ eD, Paired.mapP hRd fun b t h => ⟨ne_of_none h nL, f6 _ _ h⟩, upd_same, .nil, rfl, fun n h => absurd h (Nat.not_lt_zero n)⟩ (fun i σ' H' hi h => ?_) (fun σ' H' h => ?_)
  · obtain ⟨t6, t7, t8, bs, ss, rfl, eO, eD, hRd, eL, hB, hsl, hss⟩ := h
    have hbl : bs.length = i := (Paired.length hB).trans hsl
    refine ⟨_, rfl, _, rfl, rO, o, rfl, LI.of eO, fun k1 m1 => ?_⟩
    have u1 := same_new m1 (.lst (o.map V.int))
    refine ⟨_, rfl, k1, o, m, 0 + (i : Int), rfl, LI.of upd_same, ho6, hm1, by omega, by omega, by omega, fun S0 hS hlS hSc hSn rF H6 g6 nF eF => ?_⟩
    have g16 := u1.trans g6
    have nFo : ∀ {b : Addr} {x : HO}, H' b = some x → b ≠ rF := fun h => ne_of_none (u1 _ _ h) nF
    have nFL : rF ≠ rL := fun e => nFo eL e.symm
    have nOF := nFo eO
    have nDF := nFo eD
    have hRd := Paired.mapP (G := fun b t => b ≠ rL ∧ b ≠ rF ∧ H6 b = some (.lst (t.map V.int))) hRd fun b t h => ⟨h.1, nFo h.2, g16 _ _ h.2⟩
    have hB := Paired.mapP (G := fun b t => b ≠ rL ∧ b ≠ rF ∧ H6 b = some (.lst (t.map V.int))) hB fun b t h => ⟨h.1, nFo h.2, g16 _ _ h.2⟩
    have eO := g16 _ _ eO
    have eD := g16 _ _ eD
    have eL := g16 _ _ eL
    refine ⟨_, rfl, _, rfl, rF, _, rfl, LI.of eF, fun c1 n1 => ?_⟩
    have u2 := same_new n1 (.lst (S0.map V.int))
    refine ⟨rF, c1, _, _, rfl, u2 _ _ eF, LI.of upd_same, _, rfl, ?_⟩
    rw [decide_eq_true rfl]
    refine iteF ⟨_, rfl, .inl ⟨rfl, _, SqL.of (u2 _ _ eL)⟩, _, rfl, rF, _, rfl, LI.of (u2 _ _ eF), fun rN nN => ?_⟩
    have u3 := same_new nN (.lst (S0.map V.int))
    have u23 := u2.trans u3
    have nNL : rN ≠ rL := (ne_of_none (u2 _ _ eL) nN).symm
    have nNF : rN ≠ rF := (ne_of_none (u2 _ _ eF) nN).symm
    refine ⟨rL, _, _, rfl, rfl, u23 _ _ eL, by rw [List.length_map]; exact small1000 (by omega), ?_⟩
    have eF1 : upd (upd (upd H6 c1 (.lst (S0.map V.int))) rN (.lst (S0.map V.int))) rL (.lst (bs.map V.ref ++ [V.ref rN])) rF = some (.lst (S0.map V.int)) := by rw [upd_ne nFL]; exact u23 _ _ eF
    refine ⟨_, rfl, .inl ⟨rfl, _, SqL.of eF1⟩, rF, _, _, rfl, rfl, eF1, by rw [List.length_map]; exact small1000 (by omega), ?_⟩
    have stay : ∀ {b : Addr} {x : HO}, b ≠ rL → b ≠ rF → H6 b = some x → upd (upd (upd (upd H6 c1 (.lst (S0.map V.int))) rN (.lst (S0.map V.int))) rL (.lst (bs.map V.ref ++ [V.ref rN]))) rF (.lst (S0.map V.int ++ [V.int 0])) b = some x := fun h1 h2 h => by rw [upd_ne h2, upd_ne h1]; exact u23 _ _ h
    have eN : upd (upd (upd (upd H6 c1 (.lst (S0.map V.int))) rN (.lst (S0.map V.int))) rL (.lst (bs.map V.ref ++ [V.ref rN]))) rF (.lst (S0.map V.int ++ [V.int 0])) rN = some (.lst (S0.map V.int)) := by rw [upd_ne nNF, upd_ne nNL, upd_same]
    have eL : upd (upd (upd (upd H6 c1 (.lst (S0.map V.int))) rN (.lst (S0.map V.int))) rL (.lst (bs.map V.ref ++ [V.ref rN]))) rF (.lst (S0.map V.int ++ [V.int 0])) rL = some (.lst ((bs ++ [rN]).map V.ref)) := by rw [upd_ne nFL.symm, upd_same, List.map_append]; rfl
    have eO := stay nOL nOF eO
    have eD := stay nDL nDF eD
    have hRd := Paired.mapP (G := fun b t => b ≠ rL ∧ upd (upd (upd (upd H6 c1 (.lst (S0.map V.int))) rN (.lst (S0.map V.int))) rL (.lst (bs.map V.ref ++ [V.ref rN]))) rF (.lst (S0.map V.int ++ [V.int 0])) b = some (.lst (t.map V.int))) hRd fun b t h => ⟨h.1, stay h.1 h.2.1 h.2.2⟩
    have hB := Paired.snoc (Paired.mapP (G := fun b t => b ≠ rL ∧ upd (upd (upd (upd H6 c1 (.lst (S0.map V.int))) rN (.lst (S0.map V.int))) rL (.lst (bs.map V.ref ++ [V.ref rN]))) rF (.lst (S0.map V.int ++ [V.int 0])) b = some (.lst (t.map V.int))) hB fun b t h => ⟨h.1, stay h.1 h.2.1 h.2.2⟩) ⟨nNL, eN⟩
    generalize upd (upd (upd (upd H6 c1 (.lst (S0.map V.int))) rN (.lst (S0.map V.int))) rL (.lst (bs.map V.ref ++ [V.ref rN]))) rF (.lst (S0.map V.int ++ [V.int 0])) = H7 at eN eL eO eD hRd hB ⊢
    have hat : (bs ++ [rN])[i]? = some rN := by rw [← hbl]; simp
    -- its number again
    refine ⟨_, rfl, _, rfl, rL, _, _, _, rfl, rfl, SqL.of eL, atI_refs (k := i) (by omega) hat, rN, S0, rfl, LI.of eN, fun k3 m3 => ?_⟩
    have u4 := same_new m3 (.lst (S0.map V.int))
    refine ⟨_, rfl, rO, o, rfl, LI.of (u4 _ _ eO), fun k4 m4 => ?_⟩
    have u5 := same_new m4 (.lst (o.map V.int))
    refine ⟨k3, k4, S0, o, rfl, LI.of (u5 _ _ upd_same), LI.of upd_same, hS, by omega, by omega, ho6, hSc, fun H8 g8 => ?_⟩
    have g78 := u4.trans (u5.trans g8)
    refine ⟨_, rfl, _, rfl, _, rfl, iteF ⟨_, rfl, _, rfl, rfl, _, rfl, iteNS (by rw [hSn]) ?_⟩⟩
    refine ⟨_, rfl, _, rfl, _, rfl, rO, o, m, 0 + (i : Int), rfl, LI.of (g78 _ _ eO), ho6, hm1, by omega, by omega, by omega, fun S1 hS1 hS1l hS1c hS1n r9 H9 g9 n9 e9 => ?_⟩
    have e1 : S1 = S0 := num_inj ho6 hS1 hS (by omega) hS1c hSc (by omega)
    have g79 := g78.trans g9
    refine ⟨_, rfl, _, rfl, rL, _, _, _, rfl, rfl, SqL.of (g79 _ _ eL), atI_refs (k := i) (by omega) hat, r9, rN, S1, S0, rfl, rfl, LI.of e9, LI.of (g79 _ _ eN), _, rfl, ?_⟩
    rw [decide_eq_true e1]
    refine iteF ⟨_, _, _, bs ++ [rN], ss ++ [S0], rfl, g79 _ _ eO, g79 _ _ eD, Paired.mapP hRd fun b t h => ⟨h.1, g79 _ _ h.2⟩, g79 _ _ eL, Paired.mapP hB fun b t h => ⟨h.1, g79 _ _ h.2⟩, by rw [List.length_append, hsl]; rfl, fun n hn => ?_⟩
    rw [List.length_append, List.length_singleton] at hn
    by_cases hni : n < ss.length
    · obtain ⟨T, e, rest⟩ := hss n hni
      exact ⟨T, by rw [List.getElem?_append_left hni]; exact e, rest⟩
    · have e : n = ss.length := by omega
      exact ⟨S0, by rw [e]; simp, hS, hlS, hSc, by omega⟩
  · obtain ⟨t6, t7, t8, bs, ss, rfl, eO, eD, hRd, eL, hB, hsl, hss⟩ := h
    have hB : Rows H' bs ss := Paired.mapP hB fun b t h => h.2
    have hRd : Rows H' ds (ts.filter fun t => decide (cnt t o = 0)) := Paired.mapP hRd fun b t h => h.2
    refine ⟨_, rfl, rL, bs, intsAt H', rfl, SqL.of eL, fun b hb => LI.of (rows_mem hB b hb), fun l qs hp hs nl => ?_⟩
    have f9 := same_new nl (.lst (qs.map V.ref))
    have hq : Rows H' qs (qs.map (intsAt H')) := rows_of fun b hb => rows_mem hB b (hp.mem_iff.mp hb)
    refine ⟨_, rfl, _, _, rows_dv (hq.same f9) upd_same, rows_dv (hRd.same f9) (f9 _ _ eD), (fine_dL fine_dI _).shaped, (fine_dL fine_dI _).shaped, ?_⟩
    have pq : (qs.map (intsAt H')).Perm ss := by
      have := hp.map (intsAt H')
      rw [rows_at hB] at this
      exact this
    have e : qs.map (intsAt H') = ts.filter fun t => decide (cnt t o = 0) := sorted_unique (pq.trans (whole_due ho6 hm1 hts hsl hss)) (by rw [List.pairwise_map]; exact hs) hsd
    rw [eqv_dL eqv_dI, decide_eq_true e]
    exact q _
end
end SO

namespace SO
open PySem L2
theorem all_mk {l : PySem.W.OpenLaw} {w : World} {K : PySem.W.Frag} {h : Heap} {mg : Str → Option Value} {fa : Addr} {aR : Addr} {odR : Option Addr} {u0 u1 u2 : Tok} {nR : Nat} {slR : Array (Option Value)} {f_check_row : Addr} {od_check_row an_check_row : Option Addr} {sl_check_row : Array (Option Value)} {oc_check_row kV_check_row dc_check_row pm_check_row cd_check_row ct_check_row : Value} {f_check_shape : Addr} {od_check_shape an_check_shape : Option Addr} {sl_check_shape : Array (Option Value)} {oc_check_shape kV_check_shape dc_check_shape pm_check_shape cd_check_shape ct_check_shape : Value} {f_is_shape : Addr} {od_is_shape an_is_shape : Option Addr} {sl_is_shape : Array (Option Value)} {oc_is_shape kV_is_shape dc_is_shape pm_is_shape cd_is_shape ct_is_shape : Value} {f_backward : Addr} {od_backward an_backward : Option Addr} {sl_backward : Array (Option Value)} {oc_backward kV_backward dc_backward pm_backward cd_backward ct_backward : Value} {f_contrary : Addr} {od_contrary an_contrary : Option Addr} {sl_contrary : Array (Option Value)} {oc_contrary kV_contrary dc_contrary pm_contrary cd_contrary ct_contrary : Value} {f_check_order : Addr} {od_check_order an_check_order : Option Addr} {sl_check_order : Array (Option Value)} {oc_check_order kV_check_order dc_check_order pm_check_order cd_check_order ct_check_order : Value} {f_agrees : Addr} {od_agrees an_agrees : Option Addr} {sl_agrees : Array (Option Value)} {oc_agrees kV_agrees dc_agrees pm_agrees cd_agrees ct_agrees : Value} {f_next_places : Addr} {od_next_places an_next_places : Option Addr} {sl_next_places : Array (Option Value)} {oc_next_places kV_next_places dc_next_places pm_next_places cd_next_places ct_next_places : Value} {f_first_from : Addr} {od_first_from an_first_from : Option Addr} {sl_first_from : Array (Option Value)} {oc_first_from kV_first_from dc_first_from pm_first_from cd_first_from ct_first_from : Value} {f_first : Addr} {od_first an_first : Option Addr} {sl_first : Array (Option Value)} {oc_first kV_first dc_first pm_first cd_first ct_first : Value} {f_check_size : Addr} {od_check_size an_check_size : Option Addr} {sl_check_size : Array (Option Value)} {oc_check_size kV_check_size dc_check_size pm_check_size cd_check_size ct_check_size : Value} {f_check_three : Addr} {od_check_three an_check_three : Option Addr} {sl_check_three : Array (Option Value)} {oc_check_three kV_check_three dc_check_three pm_check_three cd_check_three ct_check_three : Value} {f_check_without : Addr} {od_check_without an_check_without : Option Addr} {sl_check_without : Array (Option Value)} {oc_check_without kV_check_without dc_check_without pm_check_without cd_check_without ct_check_without : Value} {f_brought : Addr} {od_brought an_brought : Option Addr} {sl_brought : Array (Option Value)} {oc_brought kV_brought dc_brought pm_brought cd_brought ct_brought : Value} {f_least_numbers : Addr} {od_least_numbers an_least_numbers : Option Addr} {sl_least_numbers : Array (Option Value)} {oc_least_numbers kV_least_numbers dc_least_numbers pm_least_numbers cd_least_numbers ct_least_numbers : Value} {f_shape_with : Addr} {od_shape_with an_shape_with : Option Addr} {sl_shape_with : Array (Option Value)} {oc_shape_with kV_shape_with dc_shape_with pm_shape_with cd_shape_with ct_shape_with : Value} {f_ways_on : Addr} {od_ways_on an_ways_on : Option Addr} {sl_ways_on : Array (Option Value)} {oc_ways_on kV_ways_on dc_ways_on pm_ways_on cd_ways_on ct_ways_on : Value} {f_number_of_least : Addr} {od_number_of_least an_number_of_least : Option Addr} {sl_number_of_least : Array (Option Value)} {oc_number_of_least kV_number_of_least dc_number_of_least pm_number_of_least cd_number_of_least ct_number_of_least : Value} {f_least_at : Addr} {od_least_at an_least_at : Option Addr} {sl_least_at : Array (Option Value)} {oc_least_at kV_least_at dc_least_at pm_least_at cd_least_at ct_least_at : Value} {f_many_without : Addr} {od_many_without an_many_without : Option Addr} {sl_many_without : Array (Option Value)} {oc_many_without kV_many_without dc_many_without pm_many_without cd_many_without ct_many_without : Value} {f_without_at : Addr} {od_without_at an_without_at : Option Addr} {sl_without_at : Array (Option Value)} {oc_without_at kV_without_at dc_without_at pm_without_at cd_without_at ct_without_at : Value} {f_number_of : Addr} {od_number_of an_number_of : Option Addr} {sl_number_of : Array (Option Value)} {oc_number_of kV_number_of dc_number_of pm_number_of cd_number_of ct_number_of : Value} {f__law_cell_at : Addr} {od__law_cell_at an__law_cell_at : Option Addr} {sl__law_cell_at : Array (Option Value)} {oc__law_cell_at kV__law_cell_at dc__law_cell_at pm__law_cell_at cd__law_cell_at ct__law_cell_at : Value} {f__law_whole : Addr} {od__law_whole an__law_whole : Option Addr} {sl__law_whole : Array (Option Value)} {oc__law_whole kV__law_whole dc__law_whole pm__law_whole cd__law_whole ct__law_whole : Value} {f__law_numbers : Addr} {od__law_numbers an__law_numbers : Option Addr} {sl__law_numbers : Array (Option Value)} {oc__law_numbers kV__law_numbers dc__law_numbers pm__law_numbers cd__law_numbers ct__law_numbers : Value} {f__law_three : Addr} {od__law_three an__law_three : Option Addr} {sl__law_three : Array (Option Value)} {oc__law_three kV__law_three dc__law_three pm__law_three cd__law_three ct__law_three : Value} {f__law_has : Addr} {od__law_has an__law_has : Option Addr} {sl__law_has : Array (Option Value)} {oc__law_has kV__law_has dc__law_has pm__law_has cd__law_has ct__law_has : Value} {f__law_all : Addr} {od__law_all an__law_all : Option Addr} {sl__law_all : Array (Option Value)} {oc__law_all kV__law_all dc__law_all pm__law_all cd__law_all ct__law_all : Value} {f_law : Addr} {od_law an_law : Option Addr} {sl_law : Array (Option Value)} {oc_law kV_law dc_law pm_law cd_law ct_law : Value} {t30 : Tok} {t4 : Tok} {t20 : Tok} (X : K.In h) (G : h.Ns mainGlobals mg) (hfa : mg "law" = some (.ref fa))
    (a_check_row : PySem.W.nsIn K mainGlobals "check_row" = some (some (.ref f_check_row))) (l_check_row : K.lookup f_check_row = some ⟨oc_check_row, od_check_row, .func (PySem.W.fnOf "check_row" "check_row" (defArgs sCheckRow) (defBody sCheckRow) (defScope sCheckRow) .none kV_check_row dc_check_row pm_check_row an_check_row cd_check_row ct_check_row), sl_check_row⟩) (c_check_row : PySem.W.codeIn K cd_check_row "check_row" = true) (k_check_row : PySem.W.keepIn K (.ref f_check_row) = true)
    (a_check_shape : PySem.W.nsIn K mainGlobals "check_shape" = some (some (.ref f_check_shape))) (l_check_shape : K.lookup f_check_shape = some ⟨oc_check_shape, od_check_shape, .func (PySem.W.fnOf "check_shape" "check_shape" (defArgs sCheckShape) (defBody sCheckShape) (defScope sCheckShape) .none kV_check_shape dc_check_shape pm_check_shape an_check_shape cd_check_shape ct_check_shape), sl_check_shape⟩) (c_check_shape : PySem.W.codeIn K cd_check_shape "check_shape" = true) (k_check_shape : PySem.W.keepIn K (.ref f_check_shape) = true)
    (a_is_shape : PySem.W.nsIn K mainGlobals "is_shape" = some (some (.ref f_is_shape))) (l_is_shape : K.lookup f_is_shape = some ⟨oc_is_shape, od_is_shape, .func (PySem.W.fnOf "is_shape" "is_shape" (defArgs sIsShape) (defBody sIsShape) (defScope sIsShape) .none kV_is_shape dc_is_shape pm_is_shape an_is_shape cd_is_shape ct_is_shape), sl_is_shape⟩) (c_is_shape : PySem.W.codeIn K cd_is_shape "is_shape" = true) (k_is_shape : PySem.W.keepIn K (.ref f_is_shape) = true)
    (a_backward : PySem.W.nsIn K mainGlobals "backward" = some (some (.ref f_backward))) (l_backward : K.lookup f_backward = some ⟨oc_backward, od_backward, .func (PySem.W.fnOf "backward" "backward" (defArgs sBackward) (defBody sBackward) (defScope sBackward) .none kV_backward dc_backward pm_backward an_backward cd_backward ct_backward), sl_backward⟩) (c_backward : PySem.W.codeIn K cd_backward "backward" = true) (k_backward : PySem.W.keepIn K (.ref f_backward) = true)
    (a_contrary : PySem.W.nsIn K mainGlobals "contrary" = some (some (.ref f_contrary))) (l_contrary : K.lookup f_contrary = some ⟨oc_contrary, od_contrary, .func (PySem.W.fnOf "contrary" "contrary" (defArgs sContrary) (defBody sContrary) (defScope sContrary) .none kV_contrary dc_contrary pm_contrary an_contrary cd_contrary ct_contrary), sl_contrary⟩) (c_contrary : PySem.W.codeIn K cd_contrary "contrary" = true) (k_contrary : PySem.W.keepIn K (.ref f_contrary) = true)
    (a_check_order : PySem.W.nsIn K mainGlobals "check_order" = some (some (.ref f_check_order))) (l_check_order : K.lookup f_check_order = some ⟨oc_check_order, od_check_order, .func (PySem.W.fnOf "check_order" "check_order" (defArgs sCheckOrder) (defBody sCheckOrder) (defScope sCheckOrder) .none kV_check_order dc_check_order pm_check_order an_check_order cd_check_order ct_check_order), sl_check_order⟩) (c_check_order : PySem.W.codeIn K cd_check_order "check_order" = true) (k_check_order : PySem.W.keepIn K (.ref f_check_order) = true)
    (a_agrees : PySem.W.nsIn K mainGlobals "agrees" = some (some (.ref f_agrees))) (l_agrees : K.lookup f_agrees = some ⟨oc_agrees, od_agrees, .func (PySem.W.fnOf "agrees" "agrees" (defArgs sAgrees) (defBody sAgrees) (defScope sAgrees) .none kV_agrees dc_agrees pm_agrees an_agrees cd_agrees ct_agrees), sl_agrees⟩) (c_agrees : PySem.W.codeIn K cd_agrees "agrees" = true) (k_agrees : PySem.W.keepIn K (.ref f_agrees) = true)
    (a_next_places : PySem.W.nsIn K mainGlobals "next_places" = some (some (.ref f_next_places))) (l_next_places : K.lookup f_next_places = some ⟨oc_next_places, od_next_places, .func (PySem.W.fnOf "next_places" "next_places" (defArgs sNextPlaces) (defBody sNextPlaces) (defScope sNextPlaces) .none kV_next_places dc_next_places pm_next_places an_next_places cd_next_places ct_next_places), sl_next_places⟩) (c_next_places : PySem.W.codeIn K cd_next_places "next_places" = true) (k_next_places : PySem.W.keepIn K (.ref f_next_places) = true)
    (a_first_from : PySem.W.nsIn K mainGlobals "first_from" = some (some (.ref f_first_from))) (l_first_from : K.lookup f_first_from = some ⟨oc_first_from, od_first_from, .func (PySem.W.fnOf "first_from" "first_from" (defArgs sFirstFrom) (defBody sFirstFrom) (defScope sFirstFrom) .none kV_first_from dc_first_from pm_first_from an_first_from cd_first_from ct_first_from), sl_first_from⟩) (c_first_from : PySem.W.codeIn K cd_first_from "first_from" = true) (k_first_from : PySem.W.keepIn K (.ref f_first_from) = true)
    (a_first : PySem.W.nsIn K mainGlobals "first" = some (some (.ref f_first))) (l_first : K.lookup f_first = some ⟨oc_first, od_first, .func (PySem.W.fnOf "first" "first" (defArgs sFirst) (defBody sFirst) (defScope sFirst) .none kV_first dc_first pm_first an_first cd_first ct_first), sl_first⟩) (c_first : PySem.W.codeIn K cd_first "first" = true) (k_first : PySem.W.keepIn K (.ref f_first) = true)
    (a_check_size : PySem.W.nsIn K mainGlobals "check_size" = some (some (.ref f_check_size))) (l_check_size : K.lookup f_check_size = some ⟨oc_check_size, od_check_size, .func (PySem.W.fnOf "check_size" "check_size" (defArgs sCheckSize) (defBody sCheckSize) (defScope sCheckSize) .none kV_check_size dc_check_size pm_check_size an_check_size cd_check_size ct_check_size), sl_check_size⟩) (c_check_size : PySem.W.codeIn K cd_check_size "check_size" = true) (k_check_size : PySem.W.keepIn K (.ref f_check_size) = true)
    (a_check_three : PySem.W.nsIn K mainGlobals "check_three" = some (some (.ref f_check_three))) (l_check_three : K.lookup f_check_three = some ⟨oc_check_three, od_check_three, .func (PySem.W.fnOf "check_three" "check_three" (defArgs sCheckThree) (defBody sCheckThree) (defScope sCheckThree) .none kV_check_three dc_check_three pm_check_three an_check_three cd_check_three ct_check_three), sl_check_three⟩) (c_check_three : PySem.W.codeIn K cd_check_three "check_three" = true) (k_check_three : PySem.W.keepIn K (.ref f_check_three) = true)
    (a_check_without : PySem.W.nsIn K mainGlobals "check_without" = some (some (.ref f_check_without))) (l_check_without : K.lookup f_check_without = some ⟨oc_check_without, od_check_without, .func (PySem.W.fnOf "check_without" "check_without" (defArgs sCheckWithout) (defBody sCheckWithout) (defScope sCheckWithout) .none kV_check_without dc_check_without pm_check_without an_check_without cd_check_without ct_check_without), sl_check_without⟩) (c_check_without : PySem.W.codeIn K cd_check_without "check_without" = true) (k_check_without : PySem.W.keepIn K (.ref f_check_without) = true)
    (a_brought : PySem.W.nsIn K mainGlobals "brought" = some (some (.ref f_brought))) (l_brought : K.lookup f_brought = some ⟨oc_brought, od_brought, .func (PySem.W.fnOf "brought" "brought" (defArgs sBrought) (defBody sBrought) (defScope sBrought) .none kV_brought dc_brought pm_brought an_brought cd_brought ct_brought), sl_brought⟩) (c_brought : PySem.W.codeIn K cd_brought "brought" = true) (k_brought : PySem.W.keepIn K (.ref f_brought) = true)
    (a_least_numbers : PySem.W.nsIn K mainGlobals "least_numbers" = some (some (.ref f_least_numbers))) (l_least_numbers : K.lookup f_least_numbers = some ⟨oc_least_numbers, od_least_numbers, .func (PySem.W.fnOf "least_numbers" "least_numbers" (defArgs sLeast) (defBody sLeast) (defScope sLeast) .none kV_least_numbers dc_least_numbers pm_least_numbers an_least_numbers cd_least_numbers ct_least_numbers), sl_least_numbers⟩) (c_least_numbers : PySem.W.codeIn K cd_least_numbers "least_numbers" = true) (k_least_numbers : PySem.W.keepIn K (.ref f_least_numbers) = true)
    (a_shape_with : PySem.W.nsIn K mainGlobals "shape_with" = some (some (.ref f_shape_with))) (l_shape_with : K.lookup f_shape_with = some ⟨oc_shape_with, od_shape_with, .func (PySem.W.fnOf "shape_with" "shape_with" (defArgs sShapeWith) (defBody sShapeWith) (defScope sShapeWith) .none kV_shape_with dc_shape_with pm_shape_with an_shape_with cd_shape_with ct_shape_with), sl_shape_with⟩) (c_shape_with : PySem.W.codeIn K cd_shape_with "shape_with" = true) (k_shape_with : PySem.W.keepIn K (.ref f_shape_with) = true)
    (a_ways_on : PySem.W.nsIn K mainGlobals "ways_on" = some (some (.ref f_ways_on))) (l_ways_on : K.lookup f_ways_on = some ⟨oc_ways_on, od_ways_on, .func (PySem.W.fnOf "ways_on" "ways_on" (defArgs sWaysOn) (defBody sWaysOn) (defScope sWaysOn) .none kV_ways_on dc_ways_on pm_ways_on an_ways_on cd_ways_on ct_ways_on), sl_ways_on⟩) (c_ways_on : PySem.W.codeIn K cd_ways_on "ways_on" = true) (k_ways_on : PySem.W.keepIn K (.ref f_ways_on) = true)
    (a_number_of_least : PySem.W.nsIn K mainGlobals "number_of_least" = some (some (.ref f_number_of_least))) (l_number_of_least : K.lookup f_number_of_least = some ⟨oc_number_of_least, od_number_of_least, .func (PySem.W.fnOf "number_of_least" "number_of_least" (defArgs sNumLeast) (defBody sNumLeast) (defScope sNumLeast) .none kV_number_of_least dc_number_of_least pm_number_of_least an_number_of_least cd_number_of_least ct_number_of_least), sl_number_of_least⟩) (c_number_of_least : PySem.W.codeIn K cd_number_of_least "number_of_least" = true) (k_number_of_least : PySem.W.keepIn K (.ref f_number_of_least) = true)
    (a_least_at : PySem.W.nsIn K mainGlobals "least_at" = some (some (.ref f_least_at))) (l_least_at : K.lookup f_least_at = some ⟨oc_least_at, od_least_at, .func (PySem.W.fnOf "least_at" "least_at" (defArgs sLeastAt) (defBody sLeastAt) (defScope sLeastAt) .none kV_least_at dc_least_at pm_least_at an_least_at cd_least_at ct_least_at), sl_least_at⟩) (c_least_at : PySem.W.codeIn K cd_least_at "least_at" = true) (k_least_at : PySem.W.keepIn K (.ref f_least_at) = true)
    (a_many_without : PySem.W.nsIn K mainGlobals "many_without" = some (some (.ref f_many_without))) (l_many_without : K.lookup f_many_without = some ⟨oc_many_without, od_many_without, .func (PySem.W.fnOf "many_without" "many_without" (defArgs sManyWithout) (defBody sManyWithout) (defScope sManyWithout) .none kV_many_without dc_many_without pm_many_without an_many_without cd_many_without ct_many_without), sl_many_without⟩) (c_many_without : PySem.W.codeIn K cd_many_without "many_without" = true) (k_many_without : PySem.W.keepIn K (.ref f_many_without) = true)
    (a_without_at : PySem.W.nsIn K mainGlobals "without_at" = some (some (.ref f_without_at))) (l_without_at : K.lookup f_without_at = some ⟨oc_without_at, od_without_at, .func (PySem.W.fnOf "without_at" "without_at" (defArgs sWithoutAt) (defBody sWithoutAt) (defScope sWithoutAt) .none kV_without_at dc_without_at pm_without_at an_without_at cd_without_at ct_without_at), sl_without_at⟩) (c_without_at : PySem.W.codeIn K cd_without_at "without_at" = true) (k_without_at : PySem.W.keepIn K (.ref f_without_at) = true)
    (a_number_of : PySem.W.nsIn K mainGlobals "number_of" = some (some (.ref f_number_of))) (l_number_of : K.lookup f_number_of = some ⟨oc_number_of, od_number_of, .func (PySem.W.fnOf "number_of" "number_of" (defArgs sNumberOf) (defBody sNumberOf) (defScope sNumberOf) .none kV_number_of dc_number_of pm_number_of an_number_of cd_number_of ct_number_of), sl_number_of⟩) (c_number_of : PySem.W.codeIn K cd_number_of "number_of" = true) (k_number_of : PySem.W.keepIn K (.ref f_number_of) = true)
    (a__law_cell_at : PySem.W.nsIn K mainGlobals "_law_cell_at" = some (some (.ref f__law_cell_at))) (l__law_cell_at : K.lookup f__law_cell_at = some ⟨oc__law_cell_at, od__law_cell_at, .func (PySem.W.fnOf "_law_cell_at" "_law_cell_at" (defArgs sCell) (defBody sCell) (defScope sCell) .none kV__law_cell_at dc__law_cell_at pm__law_cell_at an__law_cell_at cd__law_cell_at ct__law_cell_at), sl__law_cell_at⟩) (c__law_cell_at : PySem.W.codeIn K cd__law_cell_at "_law_cell_at" = true) (k__law_cell_at : PySem.W.keepIn K (.ref f__law_cell_at) = true)
    (a__law_whole : PySem.W.nsIn K mainGlobals "_law_whole" = some (some (.ref f__law_whole))) (l__law_whole : K.lookup f__law_whole = some ⟨oc__law_whole, od__law_whole, .func (PySem.W.fnOf "_law_whole" "_law_whole" (defArgs sWhole) (defBody sWhole) (defScope sWhole) .none kV__law_whole dc__law_whole pm__law_whole an__law_whole cd__law_whole ct__law_whole), sl__law_whole⟩) (c__law_whole : PySem.W.codeIn K cd__law_whole "_law_whole" = true) (k__law_whole : PySem.W.keepIn K (.ref f__law_whole) = true)
    (a__law_numbers : PySem.W.nsIn K mainGlobals "_law_numbers" = some (some (.ref f__law_numbers))) (l__law_numbers : K.lookup f__law_numbers = some ⟨oc__law_numbers, od__law_numbers, .func (PySem.W.fnOf "_law_numbers" "_law_numbers" (defArgs sNumbers) (defBody sNumbers) (defScope sNumbers) .none kV__law_numbers dc__law_numbers pm__law_numbers an__law_numbers cd__law_numbers ct__law_numbers), sl__law_numbers⟩) (c__law_numbers : PySem.W.codeIn K cd__law_numbers "_law_numbers" = true) (k__law_numbers : PySem.W.keepIn K (.ref f__law_numbers) = true)
    (a__law_three : PySem.W.nsIn K mainGlobals "_law_three" = some (some (.ref f__law_three))) (l__law_three : K.lookup f__law_three = some ⟨oc__law_three, od__law_three, .func (PySem.W.fnOf "_law_three" "_law_three" (defArgs sThree) (defBody sThree) (defScope sThree) .none kV__law_three dc__law_three pm__law_three an__law_three cd__law_three ct__law_three), sl__law_three⟩) (c__law_three : PySem.W.codeIn K cd__law_three "_law_three" = true) (k__law_three : PySem.W.keepIn K (.ref f__law_three) = true)
    (a__law_has : PySem.W.nsIn K mainGlobals "_law_has" = some (some (.ref f__law_has))) (l__law_has : K.lookup f__law_has = some ⟨oc__law_has, od__law_has, .func (PySem.W.fnOf "_law_has" "_law_has" (defArgs sHas) (defBody sHas) (defScope sHas) .none kV__law_has dc__law_has pm__law_has an__law_has cd__law_has ct__law_has), sl__law_has⟩) (c__law_has : PySem.W.codeIn K cd__law_has "_law_has" = true) (k__law_has : PySem.W.keepIn K (.ref f__law_has) = true)
    (a__law_all : PySem.W.nsIn K mainGlobals "_law_all" = some (some (.ref f__law_all))) (l__law_all : K.lookup f__law_all = some ⟨oc__law_all, od__law_all, .func (PySem.W.fnOf "_law_all" "_law_all" (defArgs sAll) (defBody sAll) (defScope sAll) .none kV__law_all dc__law_all pm__law_all an__law_all cd__law_all ct__law_all), sl__law_all⟩) (c__law_all : PySem.W.codeIn K cd__law_all "_law_all" = true) (k__law_all : PySem.W.keepIn K (.ref f__law_all) = true)
    (a_law : PySem.W.nsIn K mainGlobals "law" = some (some (.ref f_law))) (l_law : K.lookup f_law = some ⟨oc_law, od_law, .func (PySem.W.fnOf "law" "law" (defArgs sLaw) (defBody sLaw) (defScope sLaw) .none kV_law dc_law pm_law an_law cd_law ct_law), sl_law⟩) (c_law : PySem.W.codeIn K cd_law "law" = true) (k_law : PySem.W.keepIn K (.ref f_law) = true)
    (z_len : PySem.W.nsIn K mainGlobals "len" = some none)
    (z_set : PySem.W.nsIn K mainGlobals "set" = some none)
    (z_sorted : PySem.W.nsIn K mainGlobals "sorted" = some none)
    (z_list : PySem.W.nsIn K mainGlobals "list" = some none)
    (z_range : PySem.W.nsIn K mainGlobals "range" = some none)
    (z_isinstance : PySem.W.nsIn K mainGlobals "isinstance" = some none)
    (z_int : PySem.W.nsIn K mainGlobals "int" = some none)
    (z_bool : PySem.W.nsIn K mainGlobals "bool" = some none)
    (z_reversed : PySem.W.nsIn K mainGlobals "reversed" = some none)
    (z_sum : PySem.W.nsIn K mainGlobals "sum" = some none)
    (z_min : PySem.W.nsIn K mainGlobals "min" = some none)
    (z_max : PySem.W.nsIn K mainGlobals "max" = some none)
    (z_tuple : PySem.W.nsIn K mainGlobals "tuple" = some none)
    (m_MOST_NUMBERS : PySem.W.nsIn K mainGlobals "MOST_NUMBERS" = some (some (.int 30 t30)))
    (m_MOST_OF_ORDER : PySem.W.nsIn K mainGlobals "MOST_OF_ORDER" = some (some (.int 4 t4)))
    (m_GREATEST_SIZE : PySem.W.nsIn K mainGlobals "GREATEST_SIZE" = some (some (.int 20 t20)))
    (m_RISING : PySem.W.nsIn K mainGlobals "RISING" = some (some (.ref aR)))
    (kIB : PySem.W.kitOne K (.type "int") (.type "bool") = some false)
    (lR : K.lookup aR = some ⟨.type "tuple", odR, .seq #[.int 0 u0, .int 1 u1, .int 2 u2] nR, slR⟩) :
    ∃ fd : FuncData, (∀ (s : Shared) (v : Value), BindsTo s fd ⟨[v], []⟩ [("script", v)]) ∧ ∀ base : Heap, K.In base → base.Ns mainGlobals mg → FnOk l.prog w K mg base CX0 12 fa fd ["script"] (spLaw K) := by
  have e := hfa.symm.trans (PySem.W.mg_of X G a_law)
  cases e
  have F_check_row := fun_mk (st := sCheckRow) l_check_row c_check_row k_check_row
  have b_check_row := F_check_row.binds (ps := ["row"]) fun _ _ _ _ _ _ us hl => match us, hl with | [_], _ => rfl
  have n_check_row := PySem.W.mg_of X G a_check_row
  have F_check_shape := fun_mk (st := sCheckShape) l_check_shape c_check_shape k_check_shape
  have b_check_shape := F_check_shape.binds (ps := ["shape"]) fun _ _ _ _ _ _ us hl => match us, hl with | [_], _ => rfl
  have n_check_shape := PySem.W.mg_of X G a_check_shape
  have F_is_shape := fun_mk (st := sIsShape) l_is_shape c_is_shape k_is_shape
  have b_is_shape := F_is_shape.binds (ps := ["some"]) fun _ _ _ _ _ _ us hl => match us, hl with | [_], _ => rfl
  have n_is_shape := PySem.W.mg_of X G a_is_shape
  have F_backward := fun_mk (st := sBackward) l_backward c_backward k_backward
  have b_backward := F_backward.binds (ps := ["shape"]) fun _ _ _ _ _ _ us hl => match us, hl with | [_], _ => rfl
  have n_backward := PySem.W.mg_of X G a_backward
  have F_contrary := fun_mk (st := sContrary) l_contrary c_contrary k_contrary
  have b_contrary := F_contrary.binds (ps := ["shape"]) fun _ _ _ _ _ _ us hl => match us, hl with | [_], _ => rfl
  have n_contrary := PySem.W.mg_of X G a_contrary
  have F_check_order := fun_mk (st := sCheckOrder) l_check_order c_check_order k_check_order
  have b_check_order := F_check_order.binds (ps := ["order"]) fun _ _ _ _ _ _ us hl => match us, hl with | [_], _ => rfl
  have n_check_order := PySem.W.mg_of X G a_check_order
  have F_agrees := fun_mk (st := sAgrees) l_agrees c_agrees k_agrees
  have b_agrees := F_agrees.binds (ps := ["row", "order", "taken", "place"]) fun _ _ _ _ _ _ us hl => match us, hl with | [_, _, _, _], _ => rfl
  have n_agrees := PySem.W.mg_of X G a_agrees
  have F_next_places := fun_mk (st := sNextPlaces) l_next_places c_next_places k_next_places
  have b_next_places := F_next_places.binds (ps := ["row", "order", "taken"]) fun _ _ _ _ _ _ us hl => match us, hl with | [_, _, _], _ => rfl
  have n_next_places := PySem.W.mg_of X G a_next_places
  have F_first_from := fun_mk (st := sFirstFrom) l_first_from c_first_from k_first_from
  have b_first_from := F_first_from.binds (ps := ["row", "order", "taken"]) fun _ _ _ _ _ _ us hl => match us, hl with | [_, _, _], _ => rfl
  have n_first_from := PySem.W.mg_of X G a_first_from
  have F_first := fun_mk (st := sFirst) l_first c_first k_first
  have b_first := F_first.binds (ps := ["row", "order"]) fun _ _ _ _ _ _ us hl => match us, hl with | [_, _], _ => rfl
  have n_first := PySem.W.mg_of X G a_first
  have F_check_size := fun_mk (st := sCheckSize) l_check_size c_check_size k_check_size
  have b_check_size := F_check_size.binds (ps := ["size"]) fun _ _ _ _ _ _ us hl => match us, hl with | [_], _ => rfl
  have n_check_size := PySem.W.mg_of X G a_check_size
  have F_check_three := fun_mk (st := sCheckThree) l_check_three c_check_three k_check_three
  have b_check_three := F_check_three.binds (ps := ["order"]) fun _ _ _ _ _ _ us hl => match us, hl with | [_], _ => rfl
  have n_check_three := PySem.W.mg_of X G a_check_three
  have F_check_without := fun_mk (st := sCheckWithout) l_check_without c_check_without k_check_without
  have b_check_without := F_check_without.binds (ps := ["shape", "order"]) fun _ _ _ _ _ _ us hl => match us, hl with | [_, _], _ => rfl
  have n_check_without := PySem.W.mg_of X G a_check_without
  have F_brought := fun_mk (st := sBrought) l_brought c_brought k_brought
  have b_brought := F_brought.binds (ps := ["shape", "order"]) fun _ _ _ _ _ _ us hl => match us, hl with | [_, _], _ => rfl
  have n_brought := PySem.W.mg_of X G a_brought
  have F_least_numbers := fun_mk (st := sLeast) l_least_numbers c_least_numbers k_least_numbers
  have b_least_numbers := F_least_numbers.binds (ps := ["shape"]) fun _ _ _ _ _ _ us hl => match us, hl with | [_], _ => rfl
  have n_least_numbers := PySem.W.mg_of X G a_least_numbers
  have F_shape_with := fun_mk (st := sShapeWith) l_shape_with c_shape_with k_shape_with
  have b_shape_with := F_shape_with.binds (ps := ["least", "order"]) fun _ _ _ _ _ _ us hl => match us, hl with | [_, _], _ => rfl
  have n_shape_with := PySem.W.mg_of X G a_shape_with
  have F_ways_on := fun_mk (st := sWaysOn) l_ways_on c_ways_on k_ways_on
  have b_ways_on := F_ways_on.binds (ps := ["size"]) fun _ _ _ _ _ _ us hl => match us, hl with | [_], _ => rfl
  have n_ways_on := PySem.W.mg_of X G a_ways_on
  have F_number_of_least := fun_mk (st := sNumLeast) l_number_of_least c_number_of_least k_number_of_least
  have b_number_of_least := F_number_of_least.binds (ps := ["least"]) fun _ _ _ _ _ _ us hl => match us, hl with | [_], _ => rfl
  have n_number_of_least := PySem.W.mg_of X G a_number_of_least
  have F_least_at := fun_mk (st := sLeastAt) l_least_at c_least_at k_least_at
  have b_least_at := F_least_at.binds (ps := ["size", "number"]) fun _ _ _ _ _ _ us hl => match us, hl with | [_, _], _ => rfl
  have n_least_at := PySem.W.mg_of X G a_least_at
  have F_many_without := fun_mk (st := sManyWithout) l_many_without c_many_without k_many_without
  have b_many_without := F_many_without.binds (ps := ["size"]) fun _ _ _ _ _ _ us hl => match us, hl with | [_], _ => rfl
  have n_many_without := PySem.W.mg_of X G a_many_without
  have F_without_at := fun_mk (st := sWithoutAt) l_without_at c_without_at k_without_at
  have b_without_at := F_without_at.binds (ps := ["size", "order", "number"]) fun _ _ _ _ _ _ us hl => match us, hl with | [_, _, _], _ => rfl
  have n_without_at := PySem.W.mg_of X G a_without_at
  have F_number_of := fun_mk (st := sNumberOf) l_number_of c_number_of k_number_of
  have b_number_of := F_number_of.binds (ps := ["shape", "order"]) fun _ _ _ _ _ _ us hl => match us, hl with | [_, _], _ => rfl
  have n_number_of := PySem.W.mg_of X G a_number_of
  have F__law_cell_at := fun_mk (st := sCell) l__law_cell_at c__law_cell_at k__law_cell_at
  have b__law_cell_at := F__law_cell_at.binds (ps := ["script", "k"]) fun _ _ _ _ _ _ us hl => match us, hl with | [_, _], _ => rfl
  have n__law_cell_at := PySem.W.mg_of X G a__law_cell_at
  have F__law_whole := fun_mk (st := sWhole) l__law_whole c__law_whole k__law_whole
  have b__law_whole := F__law_whole.binds (ps := ["found"]) fun _ _ _ _ _ _ us hl => match us, hl with | [_], _ => rfl
  have n__law_whole := PySem.W.mg_of X G a__law_whole
  have F__law_numbers := fun_mk (st := sNumbers) l__law_numbers c__law_numbers k__law_numbers
  have b__law_numbers := F__law_numbers.binds (ps := ["found", "due"]) fun _ _ _ _ _ _ us hl => match us, hl with | [_, _], _ => rfl
  have n__law_numbers := PySem.W.mg_of X G a__law_numbers
  have F__law_three := fun_mk (st := sThree) l__law_three c__law_three k__law_three
  have b__law_three := F__law_three.binds (ps := ["cell"]) fun _ _ _ _ _ _ us hl => match us, hl with | [_], _ => rfl
  have n__law_three := PySem.W.mg_of X G a__law_three
  have F__law_has := fun_mk (st := sHas) l__law_has c__law_has k__law_has
  have b__law_has := F__law_has.binds (ps := ["shape", "order"]) fun _ _ _ _ _ _ us hl => match us, hl with | [_, _], _ => rfl
  have n__law_has := PySem.W.mg_of X G a__law_has
  have F__law_all := fun_mk (st := sAll) l__law_all c__law_all k__law_all
  have b__law_all := F__law_all.binds (ps := ["size"]) fun _ _ _ _ _ _ us hl => match us, hl with | [_], _ => rfl
  have n__law_all := PySem.W.mg_of X G a__law_all
  have F_law := fun_mk (st := sLaw) l_law c_law k_law
  have b_law := F_law.binds (ps := ["script"]) fun _ _ _ _ _ _ us hl => match us, hl with | [_], _ => rfl
  have n_law := PySem.W.mg_of X G a_law
  have y_len := PySem.W.mg_none_of X G z_len
  have y_set := PySem.W.mg_none_of X G z_set
  have y_sorted := PySem.W.mg_none_of X G z_sorted
  have y_list := PySem.W.mg_none_of X G z_list
  have y_range := PySem.W.mg_none_of X G z_range
  have y_isinstance := PySem.W.mg_none_of X G z_isinstance
  have y_int := PySem.W.mg_none_of X G z_int
  have y_bool := PySem.W.mg_none_of X G z_bool
  have y_reversed := PySem.W.mg_none_of X G z_reversed
  have y_sum := PySem.W.mg_none_of X G z_sum
  have y_min := PySem.W.mg_none_of X G z_min
  have y_max := PySem.W.mg_none_of X G z_max
  have y_tuple := PySem.W.mg_none_of X G z_tuple
  have v_MOST_NUMBERS := PySem.W.mg_of X G m_MOST_NUMBERS
  have v_MOST_OF_ORDER := PySem.W.mg_of X G m_MOST_OF_ORDER
  have v_GREATEST_SIZE := PySem.W.mg_of X G m_GREATEST_SIZE
  have v_RISING := PySem.W.mg_of X G m_RISING
  refine ⟨PySem.W.fnOf "law" "law" (defArgs sLaw) (defBody sLaw) (defScope sLaw) .none kV_law dc_law pm_law an_law cd_law ct_law, fun s v => .of_eq rfl, fun base _ _ => ?_⟩
  have g_row := (ok_check_row (P := l.prog) (w := w) (base := base) F_check_row y_len y_set v_MOST_NUMBERS)
  have g_is := (ok_is_shape (P := l.prog) (w := w) (base := base) F_is_shape y_len y_sorted y_list y_range v_MOST_NUMBERS)
  have g_sh := ok_check_shape F_check_shape g_is b_is_shape k_is_shape n_is_shape
  have g_or := ok_check_order F_check_order g_sh b_check_shape k_check_shape n_check_shape y_len v_MOST_OF_ORDER
  have g_ag := ok_agrees (P := l.prog) (w := w) (base := base) F_agrees y_len y_range
  have g_nx := ok_next F_next_places g_ag b_agrees k_agrees n_agrees y_len y_range
  have g_ff := ok_first_from F_first_from b_first_from k_first_from n_first_from g_nx b_next_places k_next_places n_next_places y_len
  have g_fi := ok_first F_first (g_row.mono (show 1 ≤ 7 by decide)) b_check_row k_check_row n_check_row (g_or.mono (show 3 ≤ 7 by decide)) b_check_order k_check_order n_check_order g_ff b_first_from k_first_from n_first_from
  have g_sz := ok_size0 (P := l.prog) (w := w) (base := base) F_check_size v_GREATEST_SIZE
  have tR : ∀ H : Hp, SqT K H aR [.int 0, .int 1, .int 2] := fun H => .inr ⟨_, _, _, lR, rfl, rfl, (by show 3 ≤ sizeLine; decide), .cons ⟨_, rfl⟩ (.cons ⟨_, rfl⟩ (.cons ⟨_, rfl⟩ .nil))⟩
  have g_th := ok_three0 (P := l.prog) (w := w) (base := base) F_check_three y_len v_RISING tR
  have g_ba := ok_backward F_backward g_sh b_check_shape k_check_shape n_check_shape y_list y_reversed
  have g_co := ok_contrary F_contrary g_sh b_check_shape k_check_shape n_check_shape y_len
  have g_br := ok_brought F_brought g_co b_contrary k_contrary n_contrary g_ba b_backward k_backward n_backward y_list
  have g_le := ok_least (P := l.prog) (w := w) (base := base) F_least_numbers y_len y_range y_min
  have g_sw := ok_shapewith (P := l.prog) (w := w) (base := base) F_shape_with y_len y_list y_range y_tuple y_min y_max v_RISING tR
  have g_wo := ok_ways (P := l.prog) (w := w) (base := base) F_ways_on y_range y_sum y_min
  have g_nl := ok_numleast F_number_of_least g_wo b_ways_on k_ways_on n_ways_on y_len y_range y_sum
  have g_la := ok_leastat F_least_at g_wo b_ways_on k_ways_on n_ways_on y_range
  have g_mw := ok_many0 F_many_without g_wo b_ways_on k_ways_on n_ways_on g_sz b_check_size k_check_size n_check_size
  have g_cw := ok_without0 F_check_without (g_sz.mono (show 1 ≤ 8 by decide)) b_check_size k_check_size n_check_size g_fi b_first k_first n_first y_len
  have g_wa := ok_wa0 F_without_at (g_sh.mono (show 2 ≤ 5 by decide)) b_check_shape k_check_shape n_check_shape (g_th.mono (show 1 ≤ 5 by decide)) b_check_three k_check_three n_check_three (g_sz.mono (show 1 ≤ 5 by decide)) b_check_size k_check_size n_check_size (g_mw.mono (show 2 ≤ 5 by decide)) b_many_without k_many_without n_many_without (g_br.mono (show 4 ≤ 5 by decide)) b_brought k_brought n_brought (g_sw.mono (show 1 ≤ 5 by decide)) b_shape_with k_shape_with n_shape_with (g_la.mono (show 2 ≤ 5 by decide)) b_least_at k_least_at n_least_at
  have g_no := ok_no0 F_number_of (g_sh.mono (show 2 ≤ 9 by decide)) b_check_shape k_check_shape n_check_shape (g_th.mono (show 1 ≤ 9 by decide)) b_check_three k_check_three n_check_three (g_cw.mono (show 9 ≤ 9 by decide)) b_check_without k_check_without n_check_without (g_br.mono (show 4 ≤ 9 by decide)) b_brought k_brought n_brought (g_nl.mono (show 2 ≤ 9 by decide)) b_number_of_least k_number_of_least n_number_of_least (g_le.mono (show 1 ≤ 9 by decide)) b_least_numbers k_least_numbers n_least_numbers
  have g_ce := ok_cellF (P := l.prog) (w := w) (base := base) F__law_cell_at y_len
  have g_wh := ok_whole (P := l.prog) (w := w) (base := base) F__law_whole y_isinstance y_int y_bool kIB
  have g_nu := ok_numbers F__law_numbers g_wh b__law_whole k__law_whole n__law_whole y_isinstance y_list y_len
  have g_t3 := ok_three (P := l.prog) (w := w) (base := base) F__law_three y_list
  have g_ha := ok_has (P := l.prog) (w := w) (base := base) F__law_has y_len y_range
  have g_al := ok_all (P := l.prog) (w := w) (base := base) F__law_all y_range y_sorted
  exact ok_law F_law (g_ce.mono (show 1 ≤ 11 by decide)) b__law_cell_at k__law_cell_at n__law_cell_at (g_wh.mono (show 1 ≤ 11 by decide)) b__law_whole k__law_whole n__law_whole (g_nu.mono (show 2 ≤ 11 by decide)) b__law_numbers k__law_numbers n__law_numbers (g_t3.mono (show 1 ≤ 11 by decide)) b__law_three k__law_three n__law_three (g_ha.mono (show 1 ≤ 11 by decide)) b__law_has k__law_has n__law_has (g_al.mono (show 1 ≤ 11 by decide)) b__law_all k__law_all n__law_all (g_mw.mono (show 2 ≤ 11 by decide)) b_many_without k_many_without n_many_without (g_wa.mono (show 6 ≤ 11 by decide)) b_without_at k_without_at n_without_at (g_no.mono (show 10 ≤ 11 by decide)) b_number_of k_number_of n_number_of y_len y_list y_range y_sorted
theorem walk {l : PySem.W.OpenLaw} {q : Program} {loose : List Str} {XP : (Str → Option Value) → Heap → Prop} {YP : World → Heap → Prop} {d : DefRec} {K : Params → PySem.W.Frag} (hn : l.most = some 63) (hdf : d.params.defaults = [])
    (hY : ∀ (w : World) (h : Heap), YP w h → (K w.params).In h)
    (F : ∀ (w : World) (mg : Str → Option Value) (fa : Addr) (h : Heap), (K w.params).In h → h.Ns mainGlobals mg → mg d.name = some (.ref fa) →
      ∃ fd : FuncData, (∀ (s : Shared) (u : Value), BindsTo s fd ⟨[u], []⟩ [("script", u)]) ∧ ∀ base : Heap, (K w.params).In base → base.Ns mainGlobals mg → FnOk l.prog w (K w.params) mg base CX0 12 fa fd ["script"] (spLaw (K w.params))) :
    PySem.W.WalkO q loose XP YP l.row.toRowW d [] (fun f vs => PySem.call f vs) :=
  L2.walk_of (n := 63) (k := 12) (x := "script") (CX := fun _ => CX0) (sp := fun w => spLaw (K w.params)) hn (by decide) hdf ⟨rfl, by decide, by decide⟩ hY F (fun _ _ a ns hl _ hS => ⟨a, ns, rfl, hS, fun _ => rfl⟩) fun _ _ _ _ _ z => z
end SO
open PySem PySem.W PyProof.Rows
set_option maxRecDepth 100000 in
set_option maxHeartbeats 0 in
theorem PySem.Challenge.cw_shapeorders_k06_all_without_an_order_holds : PySem.Challenge.rw_shapeorders_k06_all_without_an_order.Holds := by
  w_on; o_law; k_head; (case hw => w_witness2)
  k_fill
  refine SO.walk (l := PySem.Challenge.rw_shapeorders_k06_all_without_an_order) rfl rfl (fun w h Y => PySem.W.kIn_of Y) ?F
  case F =>
    intro w mg fa h KX G hmg
    refine' SO.all_mk KX G hmg ?a_check_row ?l_check_row ?c_check_row ?k_check_row ?a_check_shape ?l_check_shape ?c_check_shape ?k_check_shape ?a_is_shape ?l_is_shape ?c_is_shape ?k_is_shape ?a_backward ?l_backward ?c_backward ?k_backward ?a_contrary ?l_contrary ?c_contrary ?k_contrary ?a_check_order ?l_check_order ?c_check_order ?k_check_order ?a_agrees ?l_agrees ?c_agrees ?k_agrees ?a_next_places ?l_next_places ?c_next_places ?k_next_places ?a_first_from ?l_first_from ?c_first_from ?k_first_from ?a_first ?l_first ?c_first ?k_first ?a_check_size ?l_check_size ?c_check_size ?k_check_size ?a_check_three ?l_check_three ?c_check_three ?k_check_three ?a_check_without ?l_check_without ?c_check_without ?k_check_without ?a_brought ?l_brought ?c_brought ?k_brought ?a_least_numbers ?l_least_numbers ?c_least_numbers ?k_least_numbers ?a_shape_with ?l_shape_with ?c_shape_with ?k_shape_with ?a_ways_on ?l_ways_on ?c_ways_on ?k_ways_on ?a_number_of_least ?l_number_of_least ?c_number_of_least ?k_number_of_least ?a_least_at ?l_least_at ?c_least_at ?k_least_at ?a_many_without ?l_many_without ?c_many_without ?k_many_without ?a_without_at ?l_without_at ?c_without_at ?k_without_at ?a_number_of ?l_number_of ?c_number_of ?k_number_of ?a__law_cell_at ?l__law_cell_at ?c__law_cell_at ?k__law_cell_at ?a__law_whole ?l__law_whole ?c__law_whole ?k__law_whole ?a__law_numbers ?l__law_numbers ?c__law_numbers ?k__law_numbers ?a__law_three ?l__law_three ?c__law_three ?k__law_three ?a__law_has ?l__law_has ?c__law_has ?k__law_has ?a__law_all ?l__law_all ?c__law_all ?k__law_all ?a_law ?l_law ?c_law ?k_law ?z_len ?z_set ?z_sorted ?z_list ?z_range ?z_isinstance ?z_int ?z_bool ?z_reversed ?z_sum ?z_min ?z_max ?z_tuple ?m_MOST_NUMBERS ?m_MOST_OF_ORDER ?m_GREATEST_SIZE ?m_RISING ?kIB ?lR
    (case a_check_row => k_is)
    (case l_check_row => k_is)
    (case c_check_row => k_is)
    (case k_check_row => k_is)
    (case a_check_shape => k_is)
    (case l_check_shape => k_is)
    (case c_check_shape => k_is)
    (case k_check_shape => k_is)
    (case a_is_shape => k_is)
    (case l_is_shape => k_is)
    (case c_is_shape => k_is)
    (case k_is_shape => k_is)
    (case a_backward => k_is)
    (case l_backward => k_is)
    (case c_backward => k_is)
    (case k_backward => k_is)
    (case a_contrary => k_is)
    (case l_contrary => k_is)
    (case c_contrary => k_is)
    (case k_contrary => k_is)
    (case a_check_order => k_is)
    (case l_check_order => k_is)
    (case c_check_order => k_is)
    (case k_check_order => k_is)
    (case a_agrees => k_is)
    (case l_agrees => k_is)
    (case c_agrees => k_is)
    (case k_agrees => k_is)
    (case a_next_places => k_is)
    (case l_next_places => k_is)
    (case c_next_places => k_is)
    (case k_next_places => k_is)
    (case a_first_from => k_is)
    (case l_first_from => k_is)
    (case c_first_from => k_is)
    (case k_first_from => k_is)
    (case a_first => k_is)
    (case l_first => k_is)
    (case c_first => k_is)
    (case k_first => k_is)
    (case a_check_size => k_is)
    (case l_check_size => k_is)
    (case c_check_size => k_is)
    (case k_check_size => k_is)
    (case a_check_three => k_is)
    (case l_check_three => k_is)
    (case c_check_three => k_is)
    (case k_check_three => k_is)
    (case a_check_without => k_is)
    (case l_check_without => k_is)
    (case c_check_without => k_is)
    (case k_check_without => k_is)
    (case a_brought => k_is)
    (case l_brought => k_is)
    (case c_brought => k_is)
    (case k_brought => k_is)
    (case a_least_numbers => k_is)
    (case l_least_numbers => k_is)
    (case c_least_numbers => k_is)
    (case k_least_numbers => k_is)
    (case a_shape_with => k_is)
    (case l_shape_with => k_is)
    (case c_shape_with => k_is)
    (case k_shape_with => k_is)
    (case a_ways_on => k_is)
    (case l_ways_on => k_is)
    (case c_ways_on => k_is)
    (case k_ways_on => k_is)
    (case a_number_of_least => k_is)
    (case l_number_of_least => k_is)
    (case c_number_of_least => k_is)
    (case k_number_of_least => k_is)
    (case a_least_at => k_is)
    (case l_least_at => k_is)
    (case c_least_at => k_is)
    (case k_least_at => k_is)
    (case a_many_without => k_is)
    (case l_many_without => k_is)
    (case c_many_without => k_is)
    (case k_many_without => k_is)
    (case a_without_at => k_is)
    (case l_without_at => k_is)
    (case c_without_at => k_is)
    (case k_without_at => k_is)
    (case a_number_of => k_is)
    (case l_number_of => k_is)
    (case c_number_of => k_is)
    (case k_number_of => k_is)
    (case a__law_cell_at => k_is)
    (case l__law_cell_at => k_is)
    (case c__law_cell_at => k_is)
    (case k__law_cell_at => k_is)
    (case a__law_whole => k_is)
    (case l__law_whole => k_is)
    (case c__law_whole => k_is)
    (case k__law_whole => k_is)
    (case a__law_numbers => k_is)
    (case l__law_numbers => k_is)
    (case c__law_numbers => k_is)
    (case k__law_numbers => k_is)
    (case a__law_three => k_is)
    (case l__law_three => k_is)
    (case c__law_three => k_is)
    (case k__law_three => k_is)
    (case a__law_has => k_is)
    (case l__law_has => k_is)
    (case c__law_has => k_is)
    (case k__law_has => k_is)
    (case a__law_all => k_is)
    (case l__law_all => k_is)
    (case c__law_all => k_is)
    (case k__law_all => k_is)
    (case a_law => k_is)
    (case l_law => k_is)
    (case c_law => k_is)
    (case k_law => k_is)
    (case z_len => k_is)
    (case z_set => k_is)
    (case z_sorted => k_is)
    (case z_list => k_is)
    (case z_range => k_is)
    (case z_isinstance => k_is)
    (case z_int => k_is)
    (case z_bool => k_is)
    (case z_reversed => k_is)
    (case z_sum => k_is)
    (case z_min => k_is)
    (case z_max => k_is)
    (case z_tuple => k_is)
    (case m_MOST_NUMBERS => k_is)
    (case m_MOST_OF_ORDER => k_is)
    (case m_GREATEST_SIZE => k_is)
    (case m_RISING => k_is)
    (case kIB => first | k_is | k_exc | rfl | decide)
    (case lR => first | k_is | k_exc | rfl | decide)
#print axioms PySem.Challenge.cw_shapeorders_k06_all_without_an_order_holds
