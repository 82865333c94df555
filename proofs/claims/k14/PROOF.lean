import PyProof.Rows.All
import Wide.All
import OpenK.AllK
import Wide.FinOn
import Lean
import PyProof.EqAt
import PyProof.EqKinds
import PyProof.TupleCall
import PySem.Challenge.RW_shapeorders_k14_each_refusal_its_own
set_option Elab.async false
set_option linter.all false
set_option maxRecDepth 100000
/-! THE HAND LAYER, for ints, bools, texts, own classes, LISTS and tuples (index, slices, in, append, pop ..), calls, loops. Paste it whole ahead of your own text; what your proof does not reach may be deleted. -/
namespace L2
open PySem PySem.Spec PyProof.Rows

/-- a key: an int or a str -/
abbrev Key := Sum Int Str
def keyIs : Key → Value → Bool
  | .inl k, v => Value.isInt k v
  | .inr x, v => Value.isStrOf x v
def keyH (w : World) : Key → Int
  | .inl k => hashInt k
  | .inr x => hashStr w x
theorem keyIs_shape : ∀ {k : Key} {v : Value}, keyIs k v = true → (∃ i t, k = Sum.inl i ∧ v = Value.int i t) ∨ (∃ x t, k = Sum.inr x ∧ v = Value.str x t)
  | .inl i, v, h => by
    obtain ⟨t, e⟩ := Value.isInt_shape (k := i) (v := v) h
    exact .inl ⟨i, t, rfl, e⟩
  | .inr x, v, h => by
    obtain ⟨t, e⟩ := Value.isStrOf_shape (x := x) (v := v) h
    exact .inr ⟨x, t, rfl, e⟩
theorem key_ll (a b : Int) : decide ((Sum.inl a : Key) = Sum.inl b) = (a == b) := by
  by_cases e : a = b
  · subst e; simp
  · have h : ¬ (Sum.inl a : Key) = Sum.inl b := fun q => e (Sum.inl.inj q)
    rw [decide_eq_false h]
    exact (beq_eq_false_iff_ne.mpr e).symm
theorem key_rr (a b : Str) : decide ((Sum.inr a : Key) = Sum.inr b) = decide (a = b) := by
  by_cases e : a = b
  · subst e; simp
  · have h : ¬ (Sum.inr a : Key) = Sum.inr b := fun q => e (Sum.inr.inj q)
    rw [decide_eq_false h, decide_eq_false e]
theorem key_lr (a : Int) (b : Str) : decide ((Sum.inl a : Key) = Sum.inr b) = false := decide_eq_false (fun q => nomatch q)
theorem key_rl (a : Str) (b : Int) : decide ((Sum.inr a : Key) = Sum.inl b) = false := decide_eq_false (fun q => nomatch q)

def mixKind (prog : Program) (w : World) : PySem.KeyKind prog w Key where
  is := keyIs
  hash := keyH w
  inj := fun v a b ha hb => by
    rcases keyIs_shape ha with ⟨i, t, rfl, rfl⟩ | ⟨x, t, rfl, rfl⟩
    · rcases keyIs_shape hb with ⟨j, u, rfl, e⟩ | ⟨y, u, rfl, e⟩
      · injection e with e1 _; rw [e1]
      · exact nomatch e
    · rcases keyIs_shape hb with ⟨j, u, rfl, e⟩ | ⟨y, u, rfl, e⟩
      · exact nomatch e
      · injection e with e1 _; rw [e1]
  byValue := fun k v h => by
    rcases keyIs_shape h with ⟨i, t, rfl, rfl⟩ | ⟨x, t, rfl, rfl⟩ <;> rfl
  pyHash := fun hv h => by
    rcases keyIs_shape hv with ⟨i, t, rfl, rfl⟩ | ⟨x, t, rfl, rfl⟩
    · exact wpAny_pyHash_int h
    · exact wpAny_pyHash_str h
  eqBool := fun hu hv h => by
    rcases keyIs_shape hu with ⟨i, t, rfl, rfl⟩ | ⟨x, t, rfl, rfl⟩
    · rcases keyIs_shape hv with ⟨j, u, rfl, rfl⟩ | ⟨y, u, rfl, rfl⟩
      · rw [key_ll] at h; exact wpAny_eqBool_int h
      · rw [key_lr] at h; exact SeqAt.EqAt.int_str i t y u _ _ _ _ h
    · rcases keyIs_shape hv with ⟨j, u, rfl, rfl⟩ | ⟨y, u, rfl, rfl⟩
      · rw [key_rl] at h; exact SeqAt.EqAt.str_int x t j u _ _ _ _ h
      · rw [key_rr] at h; exact wpAny_eqBool_str h
  «strs» := fun k x t v h => by
    rcases keyIs_shape h with ⟨i, u, rfl, e⟩ | ⟨y, u, rfl, e⟩
    · exact nomatch e
    · injection e with e1 _
      subst e1
      cases v <;> rfl

end L2

namespace L2
open PySem PySem.Spec PyProof.Rows

/-- a value, without the heap -/
inductive V where
  | non | bl (b : Bool) | int (i : Int) | str (x : Str) | byt (b : Array UInt8) | flt (b : UInt64) | ref (a : Addr) | ty (n : String)
  deriving DecidableEq

def RelV : V → Value → Prop
  | .non, u => u = Value.none
  | .bl b, u => u = Value.bool b
  | .int i, u => ∃ t, u = Value.int i t
  | .str x, u => ∃ t, u = Value.str x t
  | .byt b, u => ∃ t, u = Value.bytes b t
  | .flt b, u => ∃ t, u = Value.float b t
  | .ref a, u => u = Value.ref a
  | .ty n, u => u = Value.type n

abbrev Vals : List V → List Value → Prop := Paired RelV
theorem Vals.length {xs : List V} {us : List Value} (r : Vals xs us) : xs.length = us.length := Paired.length r
theorem Vals.get : ∀ {xs : List V} {us : List Value} {i : Nat} {x : V}, Vals xs us → xs[i]? = some x → ∃ u, us[i]? = some u ∧ RelV x u
  | _, _, _, _, .nil, e => by simp at e
  | _, _, 0, _, .cons r _, e => by simp at e; subst e; exact ⟨_, rfl, r⟩
  | _, _, i + 1, x, .cons _ t, e => by
    obtain ⟨u, h1, h2⟩ := Vals.get (i := i) (x := x) t (by simpa using e)
    exact ⟨u, by simpa using h1, h2⟩
theorem Vals.append : ∀ {xs ys : List V} {us ws : List Value}, Vals xs us → Vals ys ws → Vals (xs ++ ys) (us ++ ws)
  | _, _, _, _, .nil, s => s
  | _, _, _, _, .cons r t, s => .cons r (Vals.append t s)
theorem Vals.take : ∀ {xs : List V} {us : List Value} (n : Nat), Vals xs us → Vals (xs.take n) (us.take n)
  | _, _, 0, _ => .nil
  | _, _, _ + 1, .nil => .nil
  | _, _, n + 1, .cons r t => .cons r (Vals.take n t)
theorem Vals.drop : ∀ {xs : List V} {us : List Value} (n : Nat), Vals xs us → Vals (xs.drop n) (us.drop n)
  | _, _, 0, r => r
  | _, _, _ + 1, .nil => .nil
  | _, _, n + 1, .cons _ t => Vals.drop n t
def RelO : Option V → Option Value → Prop
  | some v, some u => RelV v u
  | none, none => True
  | _, _ => False
def KV {κ : Type} : List (κ × V) → List (κ × Value) → Prop := Paired fun (p : κ × V) (q : κ × Value) => p.1 = q.1 ∧ RelV p.2 q.2

/-- a key of a dict (00_mix): an int or a text -/
def kV : Key → V
  | .inl i => .int i
  | .inr x => .str x

/-- what stands at a tracked address -/
inductive HO where
  /-- a list -/
  | lst (xs : List V)
  /-- a tuple (never changes) -/
  | tup (xs : List V)
  /-- a dict whose keys are ints and texts; one whose keys are tuples of ints and texts (the empty one is both) -/
  | dK (kvs : List (Key × V)) | dT (kvs : List (List Key × V))
  /-- a set of ints: its members, its size -/
  | set (S : Int → Bool) (n : Nat)
  /-- an instance of the class at C, its dict at dx, its attributes -/
  | ins (C dx : Addr) (fs : List (Str × V))
  /-- the dict of the instance at x -/
  | own (x : Addr)
  /-- the dict of an exception -/
  | xd (fs : List (Str × V))
  /-- a bound method, f of x -/
  | met (f x : Addr)
  /-- a range object lo, lo + 1, .. below hi -/
  | rng (lo hi : Int)
  /-- a thing that is known to the object (the script; a dict while a loop walks it): read, never written while it is so -/
  | frz (o : Obj) (u : HO)
  /-- a code object's table -/
  | tbl (ps : Array Value)
  /-- any other thing, by what is true of its one object (a def of one's own: SetO a S n := HO.ext fun h => ..) -/
  | ext (φ : Heap → Prop)

abbrev Hp := Addr → Option HO
def upd (H : Hp) (a : Addr) (o : HO) : Hp := fun b => if b = a then some o else H b
theorem upd_same {H : Hp} {a : Addr} {o : HO} : upd H a o a = some o := by unfold upd; rw [if_pos rfl]
theorem upd_ne {H : Hp} {a b : Addr} {o : HO} (h : b ≠ a) : upd H a o b = H b := by unfold upd; rw [if_neg h]
theorem ne_of_none {H : Hp} {a b : Addr} {o : HO} (h : H a = some o) (h' : H b = none) : a ≠ b := by
  intro e; subst e; rw [h] at h'; cases h'

section
variable (P : Program) (w : World)
def ObjOk (H : Hp) (h : Heap) (a : Addr) : HO → Prop
  | .lst xs => xs.length ≤ sizeLine ∧ ∃ (its : List Value) (n : Nat), Vals xs its ∧ h.get? a = some { cls := .type "list", data := .seq its.toArray n }
  | .tup xs => xs.length ≤ sizeLine ∧ ∃ its : List Value, Vals xs its ∧ IsTup h a its.toArray
  | .dK kvs => kvs.length ≤ sizeLine ∧ (a == sysModules) = false ∧ ∃ vs, KV kvs vs ∧ h.DictOf (mixKind P w) a vs
  | .dT kvs => kvs.length ≤ sizeLine ∧ (a == sysModules) = false ∧ ∃ xs : List (List Key × Addr × Value),
      Paired (fun (p : List Key × V) (q : List Key × Addr × Value) => p.1 = q.1 ∧ H q.2.1 = some (.tup (p.1.map kV)) ∧ RelV p.2 q.2.2) kvs xs ∧
      ∃ o es ep, h.get? a = some o ∧ o.ExactDict ∧ o.data = .dict es ep ∧ es.toList = xs.map (entryOfKey (tupleKind (mixKind P w))) ∧ (xs.map (·.1)).Nodup
  | .set S n => h.SetOf (intKind P w) a S n
  | .ins C dx fs => H dx = some (.own a) ∧ fs.length ≤ 1000 ∧ dx ≠ a ∧ h.get? a = some (PySem.W.instObj C dx) ∧
      ∃ mA, h.Ns1 dx mA ∧ (∀ f, RelO (fs.lookup f) (mA f)) ∧ PySem.Within mA (fs.map (·.1))
  | .own _ => ∃ o, h.get? a = some o
  | .xd fs => ∃ mA, h.Ns1 a mA ∧ ∀ f, RelO (fs.lookup f) (mA f)
  | .rng lo hi => ∃ t u v, h.get? a = some { cls := .type "range", data := .fields #[.int lo t, .int hi u, .int 1 v] }
  | .frz o u => h.get? a = some o ∧ ObjOk H h a u
  | .tbl ps => h.get? a = some { cls := .none, data := .fields ps }
  | .met f x => h.get? a = some (PySem.W.methodObj (.ref f) (.ref x))
  | .ext φ => φ h ∧ (∃ o, h.get? a = some o) ∧ ∀ h1 h2 : Heap, φ h1 → (∀ o, h1.get? a = some o → h2.get? a = some o) → φ h2
/-- the abstract heap is held -/
def HOk (H : Hp) (h : Heap) : Prop := ∀ a o, H a = some o → ObjOk P w H h a o
end

section
variable {P : Program} {w : World} {H H' : Hp} {h h' : Heap} {a : Addr} {o : HO}
theorem ObjOk.lt (x : ObjOk P w H h a o) : a < h.objs.size := by
  cases o with
  | lst xs => obtain ⟨_, _, _, _, e⟩ := x; exact Heap.lt_size e
  | tup xs => obtain ⟨_, _, _, p⟩ := x; exact p.lt
  | dK kvs => obtain ⟨_, _, _, _, o, _, _, e, _⟩ := x; exact Heap.lt_size e
  | dT kvs => obtain ⟨_, _, _, _, o, _, _, e, _⟩ := x; exact Heap.lt_size e
  | set S n => obtain ⟨o, _, _, _, e, _⟩ := x; exact Heap.lt_size e
  | ins C dx fs => obtain ⟨_, _, _, e, _⟩ := x; exact Heap.lt_size e
  | own y => obtain ⟨_, e⟩ := x; exact Heap.lt_size e
  | xd fs => obtain ⟨_, ⟨_, _, _, e, _⟩, _⟩ := x; exact Heap.lt_size e
  | rng lo hi => obtain ⟨_, _, _, e⟩ := x; exact Heap.lt_size e
  | frz ob u => obtain ⟨e, _⟩ := x; exact Heap.lt_size e
  | tbl ps => exact Heap.lt_size (show h.get? a = some _ from x)
  | met f y => exact Heap.lt_size (show h.get? a = some _ from x)
  | ext φ => obtain ⟨_, ⟨_, e⟩, _⟩ := x; exact Heap.lt_size e
theorem Paired.mapP {α β : Type} {F G : α → β → Prop} : ∀ {l₁ : List α} {l₂ : List β}, Paired F l₁ l₂ → (∀ a b, F a b → G a b) → Paired G l₁ l₂
  | _, _, .nil, _ => .nil
  | _, _, .cons r t, f => .cons (f _ _ r) (Paired.mapP t f)
/-- what an object's description leans on: its own object, its own dict, the tuples -/
theorem ObjOk.stay (x : ObjOk P w H h a o) (k : ∀ b u, (b = a ∨ H b = some (.own a)) → h.get? b = some u → h'.get? b = some u)
    (ho : ∀ b, H b = some (.own a) → H' b = some (.own a)) (ht : ∀ b xs, H b = some (.tup xs) → H' b = some (.tup xs)) : ObjOk P w H' h' a o := by
  induction o with
  | lst xs => obtain ⟨z, its, n, r, e⟩ := x; exact ⟨z, its, n, r, k _ _ (.inl rfl) e⟩
  | tup xs => obtain ⟨z, its, r, ob, e, c⟩ := x; exact ⟨z, its, r, ob, k _ _ (.inl rfl) e, c⟩
  | dK kvs => obtain ⟨z, y, vs, r, ob, es, ep, e, c⟩ := x; exact ⟨z, y, vs, r, ob, es, ep, k _ _ (.inl rfl) e, c⟩
  | dT kvs =>
    obtain ⟨z, y, xs, r, ob, es, ep, e, c⟩ := x
    exact ⟨z, y, xs, Paired.mapP r fun p q z => ⟨z.1, ht _ _ z.2.1, z.2.2⟩, ob, es, ep, k _ _ (.inl rfl) e, c⟩
  | set S n => obtain ⟨ob, es, ep, t, e, c⟩ := x; exact ⟨ob, es, ep, t, k _ _ (.inl rfl) e, c⟩
  | ins C dx fs =>
    obtain ⟨d, z, ne, e, mA, ⟨od, es, ep, e2, c⟩, r⟩ := x
    exact ⟨ho _ d, z, ne, k _ _ (.inl rfl) e, mA, ⟨od, es, ep, k _ _ (.inr d) e2, c⟩, r⟩
  | own y => obtain ⟨ob, e⟩ := x; exact ⟨ob, k _ _ (.inl rfl) e⟩
  | xd fs => obtain ⟨mA, ⟨od, es, ep, e, c⟩, r⟩ := x; exact ⟨mA, ⟨od, es, ep, k _ _ (.inl rfl) e, c⟩, r⟩
  | rng lo hi => obtain ⟨t, u, v, e⟩ := x; exact ⟨t, u, v, k _ _ (.inl rfl) e⟩
  | frz ob u ih => obtain ⟨e, q⟩ := x; exact ⟨k _ _ (.inl rfl) e, ih q⟩
  | tbl ps =>
    have e : h.get? a = some { cls := .none, data := .fields ps } := x
    show h'.get? a = some { cls := .none, data := .fields ps }
    exact k a _ (.inl rfl) e
  | met f y =>
    have e : h.get? a = some (PySem.W.methodObj (.ref f) (.ref y)) := x
    show h'.get? a = some (PySem.W.methodObj (.ref f) (.ref y))
    exact k a _ (.inl rfl) e
  | ext φ => obtain ⟨p, ⟨o, e⟩, st⟩ := x; exact ⟨st _ _ p fun o q => k _ _ (.inl rfl) q, ⟨o, k _ _ (.inl rfl) e⟩, st⟩
theorem HOk.lt (x : HOk P w H h) (e : H a = some o) : a < h.objs.size := (x a o e).lt
theorem HOk.fresh (x : HOk P w H h) (e : h.objs.size ≤ a) : H a = none := by
  cases q : H a with
  | none => rfl
  | some u => exact absurd (Nat.lt_of_lt_of_le (x.lt q) e) (Nat.lt_irrefl _)
/-- every object of the heap is kept -/
theorem HOk.kept (x : HOk P w H h) (k : ∀ b u, h.get? b = some u → h'.get? b = some u) : HOk P w H h' := fun a o e =>
  (x a o e).stay (fun b u _ q => k b u q) (fun _ q => q) fun _ _ q => q
/-- a new object is laid and tracked -/
theorem HOk.laid (x : HOk P w H h) (k : ∀ b u, h.get? b = some u → h'.get? b = some u) (hp : h.objs.size ≤ a) (new : ObjOk P w (upd H a o) h' a o) : HOk P w (upd H a o) h' := fun b u e => by
  have hn := x.fresh hp
  by_cases hb : b = a
  · subst hb; rw [upd_same] at e; cases e; exact new
  · rw [upd_ne hb] at e
    exact (x b u e).stay (fun c v _ q => k c v q) (fun c q => by rw [upd_ne (ne_of_none q hn)]; exact q) fun c xs q => by rw [upd_ne (ne_of_none q hn)]; exact q
end

/-- what may be read as u: it is u, or a known u -/
def Rd (H : Hp) (a : Addr) (u : HO) : Prop := H a = some u ∨ ∃ o, H a = some (.frz o u)
theorem Rd.ok {P : Program} {w : World} {H : Hp} {h : Heap} {a : Addr} {u : HO} (r : Rd H a u) (x : HOk P w H h) : ObjOk P w H h a u := by
  rcases r with r | ⟨o, r⟩
  · exact x a u r
  · obtain ⟨_, q⟩ := x a _ r
    exact q
/-- what may be written -/
def Mut : Option HO → Prop
  | some (.lst _) => True
  | some (.dK _) => True
  | some (.dT _) => True
  | some (.set _ _) => True
  | some (.ins _ _ _) => True
  | some (.ext _) => True
  | _ => False
section
variable {P : Program} {w : World} {H : Hp} {h h' : Heap} {x e : Addr} {o' : HO}
/-- the object at e is changed: x itself, or the dict of the instance x -/
theorem HOk.write (ok : HOk P w H h) (mu : Mut (H x)) (he : e = x ∨ H e = some (.own x)) (k : ∀ b u, b ≠ e → h.get? b = some u → h'.get? b = some u) (heo : ∃ u, h'.get? e = some u)
    (new : ObjOk P w (upd H x o') h' x o') : HOk P w (upd H x o') h' := fun b u q => by
  have nown : ∀ c y, H c = some (.own y) → c ≠ x := fun c y r z => by subst z; rw [r] at mu; exact mu
  have ntup : ∀ c xs, H c = some (.tup xs) → c ≠ x := fun c xs r z => by subst z; rw [r] at mu; exact mu
  by_cases hb : b = x
  · subst hb; rw [upd_same] at q; cases q; exact new
  · rw [upd_ne hb] at q
    by_cases hbe : b = e
    · have q' : H b = some (.own x) := by
        rcases he with z | z
        · exact absurd (hbe.trans z) hb
        · rw [hbe]; exact z
      rw [q] at q'; cases q'
      obtain ⟨v, hv⟩ := heo
      exact ⟨v, by rw [hbe]; exact hv⟩
    · refine (ok b u q).stay (fun c v hc r => k c v ?_ r) (fun c r => by rw [upd_ne (nown c b r)]; exact r) fun c xs r => by rw [upd_ne (ntup c xs r)]; exact r
      rcases hc with rfl | hc
      · exact hbe
      · rintro rfl
        rcases he with z | z
        · exact nown c b hc z
        · rw [hc] at z; cases z; exact hb rfl
end

/-! ### kept unless tracked; of the frames at fs (the callers') the slots may change (an exception that passes writes there); of the records at ex (iterators) nothing is said -/
structure Un (fs ex : List Addr) (H H' : Hp) (h h' : Heap) : Prop where
  keep : ∀ b o, h.get? b = some o → H b = none → b ∉ fs → b ∉ ex → h'.get? b = some o
  slot : ∀ b o, h.get? b = some o → H b = none → b ∈ fs → b ∉ ex → ∃ sl, h'.get? b = some { o with slots := sl }
  free : ∀ b o, h.get? b = some o → H b = none → b ∉ ex → H' b = none
  there : ∀ b o, h.get? b = some o → b ∉ ex → ∃ o', h'.get? b = some o'
  tups : ∀ b xs, H b = some (.tup xs) → H' b = some (.tup xs)
  frzs : ∀ b o u, H b = some (.frz o u) → H' b = some (.frz o u)
  tbls : ∀ b ps, H b = some (.tbl ps) → ∃ more, H' b = some (.tbl (ps ++ more))
section
variable {fs fs' ex ex' : List Addr} {H H1 H2 : Hp} {h h1 h2 h' : Heap} {a x e : Addr} {o : HO}
theorem Un.any (u : Un fs ex H H1 h h1) {b : Addr} {ob : Obj} (q : h.get? b = some ob) (n : H b = none) (hx : b ∉ ex) : ∃ sl, h1.get? b = some { ob with slots := sl } := by
  by_cases hb : b ∈ fs
  · exact u.slot b ob q n hb hx
  · exact ⟨ob.slots, u.keep b ob q n hb hx⟩
theorem Un.kept (k : ∀ b u, h.get? b = some u → h'.get? b = some u) : Un fs ex H H h h' :=
  ⟨fun b ob q _ _ _ => k b ob q, fun b ob q _ _ _ => ⟨ob.slots, k b ob q⟩, fun _ _ _ n _ => n, fun b ob q _ => ⟨ob, k b ob q⟩, fun _ _ q => q, fun _ _ _ q => q, fun _ ps q => ⟨#[], by rw [q]; simp⟩⟩
theorem Un.refl : Un fs ex H H h h := Un.kept fun _ _ q => q
theorem Un.laid (k : ∀ b u, h.get? b = some u → h'.get? b = some u) (hp : h.objs.size ≤ a) (hn : H a = none) : Un fs ex H (upd H a o) h h' where
  keep := fun b u q _ _ _ => k b u q
  slot := fun b u q _ _ _ => ⟨u.slots, k b u q⟩
  free := fun b u q n _ => by rw [upd_ne (Nat.ne_of_lt (Nat.lt_of_lt_of_le (Heap.lt_size q) hp))]; exact n
  there := fun b u q _ => ⟨u, k b u q⟩
  tups := fun b xs q => by rw [upd_ne (ne_of_none q hn)]; exact q
  frzs := fun b u xs q => by rw [upd_ne (ne_of_none q hn)]; exact q
  tbls := fun b ps q => ⟨#[], by rw [upd_ne (ne_of_none q hn), q]; simp⟩
theorem Un.write (mu : Mut (H x)) (he : e = x ∨ H e = some (.own x)) (k : ∀ b u, b ≠ e → h.get? b = some u → h'.get? b = some u) (heo : ∃ u, h'.get? e = some u) : Un fs ex H (upd H x o) h h' := by
  have hx : ∀ b, H b = none → b ≠ x := fun b n z => by subst z; rw [n] at mu; exact mu
  have hb : ∀ b, H b = none → b ≠ e := fun b n z => by
    subst z
    rcases he with r | r
    · exact hx b n r
    · rw [n] at r; cases r
  have hm : ∀ b u, H b = some u → ¬ Mut (some u) → b ≠ x := fun b u q nm z => by subst z; rw [q] at mu; exact nm mu
  refine ⟨fun b u q n _ _ => k b u (hb b n) q, fun b u q n _ _ => ⟨u.slots, k b u (hb b n) q⟩, fun b u q n _ => by rw [upd_ne (hx b n)]; exact n, fun b u q _ => ?_,
    fun b xs q => by rw [upd_ne (hm b _ q fun z => z)]; exact q, fun b u xs q => by rw [upd_ne (hm b _ q fun z => z)]; exact q, fun b ps q => ⟨#[], by rw [upd_ne (hm b _ q fun z => z), q]; simp⟩⟩
  by_cases hbe : b = e
  · subst hbe; exact heo
  · exact ⟨u, k b u hbe q⟩
end

/-! ### the heap without what is tracked -/
def trk (h : Heap) (H : Hp) : List Addr := (List.range h.objs.size).filter fun a => (H a).isSome
def hidT (h : Heap) (H : Hp) : Heap := PySem.W.hideAll h (trk h H)
theorem hidT_size (h : Heap) (H : Hp) : (hidT h H).objs.size = h.objs.size := PySem.W.hideAll_size _ _
theorem hidT_get {h : Heap} {H : Hp} {b : Addr} {o : Obj} (e : h.get? b = some o) (n : H b = none) : (hidT h H).get? b = some o :=
  PySem.W.hideAll_get _ e fun hm => by
    have q : (H b).isSome = true := (List.mem_filter.mp hm).2
    rw [n] at q; simp at q
theorem of_hidT {h : Heap} {H : Hp} {b : Addr} {o : Obj} (e : (hidT h H).get? b = some o) : h.get? b = some o ∧ H b = none := by
  have e' : h.get? b = some o := PySem.W.of_hideAll (trk h H) e
  refine ⟨e', ?_⟩
  cases q : H b with
  | none => rfl
  | some x =>
    have hm : b ∈ trk h H := List.mem_filter.mpr ⟨List.mem_range.mpr (Heap.lt_size e'), by simp [q]⟩
    have z : (hidT h H).get? b = none := PySem.W.hideAll_none (trk h H) hm
    rw [z] at e; cases e

/-! ### OpenK's ledger, filled with every new object but one -/
end L2

namespace L2
open PySem PySem.Spec PyProof.Rows

/-- the module's facts, over the base: the heap at the law's entry without what is tracked there -/
structure Mod (K : PySem.W.Frag) (mg : Str → Option Value) (base : Heap) : Prop where
  kin : K.In base
  glob : base.Ns mainGlobals mg
  blt : ∃ mb, base.Ns builtinsNs mb ∧ ∀ x : Str, x ≠ "__name__" → mb x = bootBuiltins x
  nolimit : base.NoLimit

/-- the context: a def's body (or a comprehension's block) running. base: fixed through the whole law; s₀, H₀: the entry; outer: the frames whose slots others may change (a def's callers); stack: all frames that run;
   ex: iterators that were made ahead of the entry and are walked here (a comprehension's); fn: the names whose cells were made at the entry (a def: all; a comprehension's block: its own); calm: not within an except suite; pn: pins that every state bears; xe: what is wanted of an exception that leaves the code -/
structure Cx where
  prog : Program
  w : World
  K : PySem.W.Frag
  mg : Str → Option Value
  base : Heap
  A : Around
  N : List Str
  s₀ : Shared
  H₀ : Hp
  env : Env
  outer : List Env
  stack : List Env
  ex : List Addr
  fn : Str → Bool
  calm : Bool
  pn : List (Addr × Obj)
  xe : Value → Shared → Prop
/-- the callers' frames -/
def frs (l : List Env) : List Addr := l.filterMap (·.frame)
abbrev Cx.fs (X : Cx) : List Addr := frs X.outer

def Vis (sc : Scope) (x : Str) : Prop := sc.names.lookup x = some .local ∨ sc.names.lookup x = some .cell ∨ sc.names.lookup x = some .free
def Loc (sc : Scope) (x : Str) : Prop := sc.names.lookup x = some .local ∨ sc.names.lookup x = some .cell
def Look (env : Env) (h : Heap) (m : Str → Option Value) (x : Str) (u : Value) : Prop :=
  (env.kindOf x = some .local ∧ m x = some u) ∨ ((env.kindOf x = some .cell ∨ env.kindOf x = some .free) ∧ ∃ c, env.cells.lookup x = some c ∧ h.IsCell c (some u))

structure Cx.Ok (X : Cx) : Prop where
  mod : Mod X.K X.mg X.base
  kind : X.env.scope.kind = .function
  glob : X.env.globals = mainGlobals
  blt : X.env.builtins = builtinsNs
  above : X.s₀.heap.objs.size ≤ X.env.locals
  inj : ∀ x y c, X.env.cells.lookup x = some c → X.env.cells.lookup y = some c → x = y
  has : ∀ x, (X.env.kindOf x = some .cell ∨ X.env.kindOf x = some .free) → ∃ c, X.env.cells.lookup x = some c
  cab : ∀ x c, X.fn x = true → X.env.cells.lookup x = some c → X.s₀.heap.objs.size ≤ c
  hd : X.calm = true → X.A.handled = none
  frames : X.A.frames = some X.stack
  stk : X.stack = X.outer ∨ (X.stack = X.env :: X.outer ∧ X.env.frame = some X.env.locals)
  exf : ∀ b ∈ X.ex, b ≠ X.env.locals ∧ ∀ x c, X.env.cells.lookup x = some c → c ≠ b
  bs : ∀ b o, X.base.get? b = some o → X.s₀.heap.get? b = some o ∧ X.H₀ b = none
  bsz : X.base.objs.size ≤ X.s₀.heap.objs.size
  noex : ∀ b o, X.base.get? b = some o → b ∉ X.ex
  exfs : ∀ b ∈ X.ex, b ∉ X.fs
  funs : X.s₀.heap.FunFrames X.base X.outer
  frf : ∀ b ∈ X.fs, X.H₀ b = none

structure Inv (X : Cx) (pins : List (Addr × Obj)) (σ : List (Option V)) (H : Hp) (s : Shared) : Prop where
  ok : X.Ok
  os : s.os = X.s₀.os
  bare : AllBare s.gens
  base : Un X.fs X.ex X.H₀ H X.s₀.heap s.heap
  loc : ∃ m, s.heap.Ns X.env.locals m ∧ ∀ (i : Nat) (x : Str) (v : V), X.N[i]? = some x → σ[i]? = some (some v) → Vis X.env.scope x → ∃ u, RelV v u ∧ Look X.env s.heap m x u
  cell : ∀ x c, X.env.cells.lookup x = some c → ∃ v, s.heap.IsCell c v
  free : H X.env.locals = none
  freeC : ∀ x c, X.env.cells.lookup x = some c → H c = none
  pin : ∀ p ∈ X.pn ++ pins, s.heap.get? p.1 = some p.2 ∧ H p.1 = none ∧ p.1 ≠ X.env.locals ∧ p.1 ∉ X.fs ∧ ∀ v, p.2.data ≠ .cell v
  hok : HOk X.prog X.w H s.heap
  len : σ.length = X.N.length

section
variable {X : Cx} {pins : List (Addr × Obj)} {σ : List (Option V)} {H H' : Hp} {s : Shared} {h' : Heap}

theorem Cx.Ok.nofr (ok : X.Ok) {b : Addr} {o : Obj} (e : X.base.get? b = some o) : b ∉ X.fs := fun hb => by
  have := (ok.funs.mem hb).1
  rw [e] at this; cases this
theorem Inv.bs (I : Inv X pins σ H s) : ∀ b o, X.base.get? b = some o → s.heap.get? b = some o ∧ H b = none := fun b o e =>
  ⟨I.base.keep b o (I.ok.bs b o e).1 (I.ok.bs b o e).2 (I.ok.nofr e) (I.ok.noex b o e), I.base.free b o (I.ok.bs b o e).1 (I.ok.bs b o e).2 (I.ok.noex b o e)⟩
theorem Inv.bk (I : Inv X pins σ H s) : ∀ b o, X.base.get? b = some o → s.heap.get? b = some o := fun b o e => (I.bs b o e).1
theorem Inv.mod (I : Inv X pins σ H s) : Mod X.K X.mg X.base := I.ok.mod
theorem Inv.kIn (I : Inv X pins σ H s) : X.K.In s.heap := I.ok.mod.kin.keeps I.bk
theorem Inv.lt (I : Inv X pins σ H s) : X.env.locals < s.heap.objs.size := let ⟨_, hn, _⟩ := I.loc; hn.lt
theorem Inv.sz (I : Inv X pins σ H s) : X.s₀.heap.objs.size ≤ s.heap.objs.size := Nat.le_trans I.ok.above (Nat.le_of_lt I.lt)
theorem Inv.nofs (I : Inv X pins σ H s) {a : Addr} (h : s.heap.objs.size ≤ a) : a ∉ X.fs := fun hb => by
  obtain ⟨_, o, ho, _⟩ := I.ok.funs.mem hb
  exact absurd (Nat.lt_of_lt_of_le (Heap.lt_size ho) (Nat.le_trans I.sz h)) (Nat.lt_irrefl _)
theorem Inv.cne (I : Inv X pins σ H s) : ∀ x c, X.env.cells.lookup x = some c → c ≠ X.env.locals := fun x c e z => by
  obtain ⟨v, o, ho, hd⟩ := I.cell x c e
  obtain ⟨m, ⟨o', es, ep, ho', hd', _⟩, _⟩ := I.loc
  rw [z, ho'] at ho; cases ho; rw [hd'] at hd; cases hd
theorem Inv.funs (I : Inv X pins σ H s) : s.heap.FunFrames X.base X.outer := by
  have all : ∀ (l : List Env), (∀ b ∈ frs l, b ∈ X.fs) → X.s₀.heap.FunFrames X.base l → s.heap.FunFrames X.base l := by
    intro l
    induction l with
    | nil => intro _ _; trivial
    | cons env r ih =>
      intro hs hl
      obtain ⟨hk, ⟨L, o, hf, hn, ho, hd⟩, hr⟩ := hl
      have hL : L ∈ X.fs := hs L (by unfold frs; rw [List.filterMap_cons, hf]; exact List.mem_cons_self)
      obtain ⟨sl, e⟩ := I.base.slot L o ho (I.ok.frf L hL) hL fun z => I.ok.exfs L z hL
      exact ⟨hk, ⟨L, _, hf, hn, e, hd⟩, ih (fun b hb => hs b (by unfold frs; rw [List.filterMap_cons, hf]; exact List.mem_cons_of_mem _ hb)) hr⟩
  exact all X.outer (fun _ hb => hb) I.ok.funs

/-- the frames that run, for a call -/
theorem Inv.stack (I : Inv X pins σ H s) : s.heap.FunFrames X.base X.stack := by
  rcases I.ok.stk with e | ⟨e, hf⟩
  · rw [e]; exact I.funs
  · rw [e]
    obtain ⟨m, hn, _⟩ := I.loc
    refine .cons (by rw [I.ok.kind]; decide) hf hn ?_ I.funs
    exact Heap.get?_none_of_le (Nat.le_trans I.ok.bsz I.ok.above)
theorem Inv.stkSub (I : Inv X pins σ H s) : ∀ b ∈ frs X.stack, b ∈ X.env.locals :: X.fs := fun b hb => by
  rcases I.ok.stk with e | ⟨e, hf⟩
  · rw [e] at hb; exact List.mem_cons_of_mem _ hb
  · rw [e] at hb
    unfold frs at hb
    rw [List.filterMap_cons, hf] at hb
    exact hb
theorem Inv.stkFree (I : Inv X pins σ H s) : ∀ b ∈ frs X.stack, H b = none := fun b hb => by
  rcases List.mem_cons.mp (I.stkSub b hb) with e | hb
  · rw [e]; exact I.free
  · obtain ⟨_, o, ho, _⟩ := I.ok.funs.mem hb
    exact I.base.free b o ho (I.ok.frf b hb) fun z => I.ok.exfs b z hb

/-- THE STEP: the untracked objects but the frame and the records at ch are kept (the callers' frames up to slots), the frame's map is kept, the new abstract heap is held -/
theorem Inv.step {g' : Array GenState} {t' : Nat} {d' : Drawn} {ch : List Addr} (I : Inv X pins σ H s)
    (hch : ∀ b ∈ ch, (b ∈ X.ex ∨ X.s₀.heap.objs.size ≤ b) ∧ b ≠ X.env.locals ∧ (∀ x c, X.env.cells.lookup x = some c → c ≠ b) ∧ ∀ p ∈ X.pn ++ pins, p.1 ≠ b)
    (keep : ∀ b o, b ≠ X.env.locals → b ∉ X.fs → b ∉ ch → s.heap.get? b = some o → H b = none → h'.get? b = some o)
    (slot : ∀ b o, b ≠ X.env.locals → b ∈ X.fs → b ∉ ch → s.heap.get? b = some o → H b = none → ∃ sl, h'.get? b = some { o with slots := sl }) (free : ∀ b o, b ∉ ch → s.heap.get? b = some o → H b = none → H' b = none)
    (there : ∀ b o, b ∉ ch → s.heap.get? b = some o → ∃ o', h'.get? b = some o')
    (tups : ∀ b xs, H b = some (.tup xs) → H' b = some (.tup xs)) (frzs : ∀ b o u, H b = some (.frz o u) → H' b = some (.frz o u)) (tbls : ∀ b ps, H b = some (.tbl ps) → ∃ more, H' b = some (.tbl (ps ++ more)))
    (ns : ∀ m, s.heap.Ns X.env.locals m → h'.Ns X.env.locals m) (hok : HOk X.prog X.w H' h') (hg : AllBare g') :
    Inv X pins σ H' { s with heap := h', gens := g', drawn := d', toks := t' } := by
  have neL : ∀ b o, X.s₀.heap.get? b = some o → b ≠ X.env.locals := fun b o e => Nat.ne_of_lt (Nat.lt_of_lt_of_le (Heap.lt_size e) I.ok.above)
  have neC : ∀ b o, X.s₀.heap.get? b = some o → b ∉ X.ex → b ∉ ch := fun b o e hx hb => by
    rcases (hch b hb).1 with z | z
    · exact hx z
    · exact absurd (Nat.lt_of_lt_of_le (Heap.lt_size e) z) (Nat.lt_irrefl _)
  have cellK : ∀ x c, X.env.cells.lookup x = some c → ∀ v, s.heap.IsCell c v → h'.IsCell c v := fun x c e v ⟨o, ho, hd⟩ => by
    have nch : c ∉ ch := fun z => (hch c z).2.2.1 x c e rfl
    by_cases hc : c ∈ X.fs
    · obtain ⟨sl, q⟩ := slot c o (I.cne x c e) hc nch ho (I.freeC x c e)
      exact ⟨_, q, hd⟩
    · exact ⟨o, keep c o (I.cne x c e) hc nch ho (I.freeC x c e), hd⟩
  refine ⟨I.ok, I.os, hg, ⟨fun b o e n hb hx => ?_, fun b o e n hb hx => ?_, fun b o e n hx => ?_, fun b o e hx => ?_, fun b xs e => tups b xs (I.base.tups b xs e), fun b o xs e => frzs b o xs (I.base.frzs b o xs e), fun b ps e => ?_⟩, ?_, fun x c e => ?_, ?_, fun x c e => ?_, fun p hp => ?_, hok, I.len⟩
  · exact keep b o (neL b o e) hb (neC b o e hx) (I.base.keep b o e n hb hx) (I.base.free b o e n hx)
  · obtain ⟨sl, e1⟩ := I.base.slot b o e n hb hx
    obtain ⟨sl', e2⟩ := slot b _ (neL b o e) hb (neC b o e hx) e1 (I.base.free b o e n hx)
    exact ⟨sl', e2⟩
  · obtain ⟨o', e1⟩ := I.base.there b o e hx
    exact free b o' (neC b o e hx) e1 (I.base.free b o e n hx)
  · obtain ⟨o', e1⟩ := I.base.there b o e hx
    exact there b o' (neC b o e hx) e1
  · obtain ⟨m1, e1⟩ := I.base.tbls b ps e
    obtain ⟨m2, e2⟩ := tbls b _ e1
    exact ⟨m1 ++ m2, by rw [e2, Array.append_assoc]⟩
  · obtain ⟨m, hn, hl⟩ := I.loc
    refine ⟨m, ns m hn, fun i x v e1 e2 e3 => ?_⟩
    obtain ⟨u, r, l⟩ := hl i x v e1 e2 e3
    refine ⟨u, r, ?_⟩
    rcases l with l | ⟨k, c, e, z⟩
    · exact .inl l
    · exact .inr ⟨k, c, e, cellK x c e _ z⟩
  · obtain ⟨v, z⟩ := I.cell x c e
    exact ⟨v, cellK x c e v z⟩
  · obtain ⟨m, ⟨o, _, _, ho, _⟩, _⟩ := I.loc
    exact free _ o (fun z => (hch _ z).2.1 rfl) ho I.free
  · obtain ⟨v, o, ho, hd⟩ := I.cell x c e
    exact free c o (fun z => (hch c z).2.2.1 x c e rfl) ho (I.freeC x c e)
  · obtain ⟨e, n, ne, nf, d⟩ := I.pin p hp
    have nch : p.1 ∉ ch := fun z => (hch p.1 z).2.2.2 p hp rfl
    exact ⟨keep p.1 p.2 ne nf nch e n, free p.1 p.2 nch e n, ne, nf, d⟩
/-- .. where the frame's own object is kept too -/
theorem Inv.un {t' : Nat} (I : Inv X pins σ H s) (u : Un X.fs [] H H' s.heap h') (hok : HOk X.prog X.w H' h') : Inv X pins σ H' { s with heap := h', toks := t' } := by
  obtain ⟨m, ⟨o, es, ep, ho, r⟩, _⟩ := id I.loc
  obtain ⟨sl, hL⟩ := u.any ho I.free (by simp)
  exact I.step (g' := s.gens) (d' := s.drawn) (ch := []) (fun _ z => nomatch z) (fun b o _ hb _ e n => u.keep b o e n hb (by simp)) (fun b o _ hb _ e n => u.slot b o e n hb (by simp)) (fun b o _ e n => u.free b o e n (by simp)) (fun b o _ e => u.there b o e (by simp)) u.tups u.frzs u.tbls (fun m' hm => by
    obtain ⟨o', es', ep', ho', r'⟩ := hm
    rw [ho] at ho'; cases ho'
    exact ⟨_, es', ep', hL, r'⟩) hok I.bare
/-- behind a call (or a comprehension's block): the slots of this frame may have changed too, the records at ch may have turned -/
theorem Inv.call {g' : Array GenState} {t' : Nat} {d' : Drawn} {ch : List Addr} (I : Inv X pins σ H s) (u : Un (frs X.stack) ch H H' s.heap h') (hok : HOk X.prog X.w H' h') (hg : AllBare g')
    (hch : ∀ b ∈ ch, (b ∈ X.ex ∨ X.s₀.heap.objs.size ≤ b) ∧ b ≠ X.env.locals ∧ (∀ x c, X.env.cells.lookup x = some c → c ≠ b) ∧ ∀ p ∈ X.pn ++ pins, p.1 ≠ b) :
    Inv X pins σ H' { s with heap := h', gens := g', drawn := d', toks := t' } := by
  obtain ⟨m, ⟨o, es, ep, ho, r⟩, _⟩ := id I.loc
  obtain ⟨sl, hL⟩ := u.any ho I.free fun z => (hch _ z).2.1 rfl
  exact I.step (ch := ch) hch (fun b o hL hb hc e n => u.keep b o e n (fun z => (List.mem_cons.mp (I.stkSub b z)).elim hL hb) hc) (fun b o _ _ hc e n => u.any e n hc) (fun b o hc e n => u.free b o e n hc) (fun b o hc e => u.there b o e hc) u.tups u.frzs u.tbls (fun m' hm => by
    obtain ⟨o', es', ep', ho', r'⟩ := hm
    rw [ho] at ho'; cases ho'
    exact ⟨_, es', ep', hL, r'⟩) hok hg
/-- an untracked record of ours (an iterator) has turned -/
theorem Inv.turned {t' : Nat} {it : Addr} (I : Inv X pins σ H s) (k : ∀ b o, b ≠ it → s.heap.get? b = some o → h'.get? b = some o) (hn : H it = none) (hL : it ≠ X.env.locals)
    (h1 : it ∈ X.ex ∨ X.s₀.heap.objs.size ≤ it) (h2 : ∀ x c, X.env.cells.lookup x = some c → c ≠ it) (h3 : ∀ p ∈ X.pn ++ pins, p.1 ≠ it) : Inv X pins σ H { s with heap := h', toks := t' } := by
  have nit : ∀ b u, H b = some u → b ≠ it := fun b u e z => by rw [z, hn] at e; cases e
  refine I.step (g' := s.gens) (d' := s.drawn) (ch := [it]) (fun b hb => ?_) (fun b o _ _ hc e _ => k b o (fun z => hc (by simp [z])) e) (fun b o _ _ hc e _ => ⟨o.slots, k b o (fun z => hc (by simp [z])) e⟩) (fun _ _ _ _ n => n)
    (fun b o hc e => ⟨o, k b o (fun z => hc (by simp [z])) e⟩) (fun _ _ e => e) (fun _ _ _ e => e) (fun b ps e => ⟨#[], by rw [e]; simp⟩) (fun m hm => ?_) (fun b u e => ?_) I.bare
  · have e : b = it := by simpa using hb
    subst e
    exact ⟨h1, hL, h2, h3⟩
  · obtain ⟨o, es, ep, ho, r⟩ := hm
    exact ⟨o, es, ep, k _ o (Ne.symm hL) ho, r⟩
  · refine (I.hok b u e).stay (fun c v hc q => k c v ?_ q) (fun _ q => q) fun _ _ q => q
    rcases hc with z | z
    · rw [z]; exact nit b u e
    · exact nit c _ z
theorem Inv.tok (I : Inv X pins σ H s) (t : Nat) : Inv X pins σ H { s with toks := t } := I.un (h' := s.heap) (t' := t) Un.refl I.hok
/-- all objects kept -/
theorem Inv.kept {t' : Nat} (I : Inv X pins σ H s) (k : ∀ b u, s.heap.get? b = some u → h'.get? b = some u) : Inv X pins σ H { s with heap := h', toks := t' } := I.un (Un.kept k) (I.hok.kept k)
/-- a new object laid and tracked -/
theorem Inv.laid {a : Addr} {o : HO} {t' : Nat} (I : Inv X pins σ H s) (k : ∀ b u, s.heap.get? b = some u → h'.get? b = some u) (hp : s.heap.objs.size ≤ a) (new : ObjOk X.prog X.w (upd H a o) h' a o) :
    Inv X pins σ (upd H a o) { s with heap := h', toks := t' } := I.un (Un.laid k hp (I.hok.fresh hp)) (I.hok.laid k hp new)
/-- an object written -/
theorem Inv.write {x e : Addr} {o : HO} {t' : Nat} (I : Inv X pins σ H s) (mu : Mut (H x)) (he : e = x ∨ H e = some (.own x)) (k : ∀ b u, b ≠ e → s.heap.get? b = some u → h'.get? b = some u) (heo : ∃ u, h'.get? e = some u)
    (new : ObjOk X.prog X.w (upd H x o) h' x o) : Inv X pins σ (upd H x o) { s with heap := h', toks := t' } := I.un (Un.write mu he k heo) (I.hok.write mu he k heo new)
theorem Inv.pins_of {pins' : List (Addr × Obj)} (I : Inv X pins σ H s) (h : ∀ p ∈ pins', s.heap.get? p.1 = some p.2 ∧ H p.1 = none ∧ p.1 ≠ X.env.locals ∧ p.1 ∉ X.fs ∧ ∀ v, p.2.data ≠ .cell v) : Inv X pins' σ H s :=
  ⟨I.ok, I.os, I.bare, I.base, I.loc, I.cell, I.free, I.freeC, fun p hp => (List.mem_append.mp hp).elim (fun z => I.pin p (List.mem_append_left _ z)) (h p), I.hok, I.len⟩

theorem nodup_ix {N : List Str} (hN : N.Nodup) {i j : Nat} {x : Str} (a : N[i]? = some x) (b : N[j]? = some x) : i = j := by
  obtain ⟨h1, e1⟩ := List.getElem?_eq_some_iff.mp a
  obtain ⟨h2, e2⟩ := List.getElem?_eq_some_iff.mp b
  exact (List.getElem_inj hN).mp (e1.trans e2.symm)

/-- a name is stored; what changed -/
theorem store_ok2 {M : Model} {A : Around} {E : Value → Shared → Prop} {i : Nat} {x : Str} {v : V} {u : Value} {Q : Unit → Shared → Prop} (I : Inv X pins σ H s) (hN : X.N.Nodup) (hi : X.N[i]? = some x) (hx : Loc X.env.scope x) (r : RelV v u)
    (h : ∀ s', Inv X pins (σ.set i (some v)) H s' → (∃ a, Heap.SameBut a s.heap s'.heap ∧ (a = X.env.locals ∨ X.env.cells.lookup x = some a)) → Q () s') (hf : X.fn x = true ∨ X.env.scope.names.lookup x = some .local := by first | exact .inl rfl | exact .inr rfl | assumption) : wpAny M A (storeName X.env x u) Q E s := by
  obtain ⟨m, hn, hl⟩ := id I.loc
  have hcls : (X.env.scope.kind == .class || (X.env.scope.kind == .module && X.env.locals != X.env.globals)) = false := by rw [I.ok.kind]; rfl
  have hiσ : i < σ.length := by rw [I.len]; exact (List.getElem?_eq_some_iff.mp hi).1
  have cne := I.cne
  have tracked : ∀ {a : Addr} {h' : Heap}, (∃ o, s.heap.get? a = some o ∧ H a = none) → Heap.SameBut a s.heap h' → HOk X.prog X.w H h' := fun {a h'} ha hs b ob e => by
    obtain ⟨_, _, hfree⟩ := ha
    refine (I.hok b ob e).stay (fun c w' hc q => (hs.2 c ?_).trans q) (fun _ q => q) fun _ _ q => q
    rintro rfl
    rcases hc with rfl | hc
    · rw [hfree] at e; cases e
    · rw [hfree] at hc; cases hc
  rcases hx with hk | hk
  · refine wpAny_storeName_local hk hn (fun h' hn' hs => ?_) hcls
    obtain ⟨oL, _, _, hoL, _⟩ := id hn
    refine h _ ⟨I.ok, I.os, I.bare, ⟨fun b o e n hb hx => ?_, fun b o e n hb hx => ?_, I.base.free, fun b o e hx => ?_, I.base.tups, I.base.frzs, I.base.tbls⟩, ⟨_, hn', fun j y v' e1 e2 e3 => ?_⟩, fun y c e => ?_, I.free, I.freeC, fun p hp => ?_, tracked ⟨oL, hoL, I.free⟩ hs, by simpa using I.len⟩ ⟨_, hs, .inl rfl⟩
    · exact (hs.2 b (Nat.ne_of_lt (Nat.lt_of_lt_of_le (Heap.lt_size e) I.ok.above))).trans (I.base.keep b o e n hb hx)
    · obtain ⟨sl, e1⟩ := I.base.slot b o e n hb hx
      exact ⟨sl, (hs.2 b (Nat.ne_of_lt (Nat.lt_of_lt_of_le (Heap.lt_size e) I.ok.above))).trans e1⟩
    · obtain ⟨o', e1⟩ := I.base.there b o e hx
      exact ⟨o', (hs.2 b (Nat.ne_of_lt (Nat.lt_of_lt_of_le (Heap.lt_size e) I.ok.above))).trans e1⟩
    · by_cases hj : j = i
      · subst hj
        rw [hi] at e1; cases e1
        rw [List.getElem?_set_self hiσ] at e2
        cases e2
        exact ⟨u, r, .inl ⟨hk, by simp⟩⟩
      · rw [List.getElem?_set_ne (Ne.symm hj)] at e2
        obtain ⟨u', r', q⟩ := hl j y v' e1 e2 e3
        refine ⟨u', r', ?_⟩
        rcases q with ⟨k, e⟩ | ⟨k, c, e, z⟩
        · refine .inl ⟨k, ?_⟩
          have : y ≠ x := fun e => hj (nodup_ix hN e1 (e ▸ hi))
          simp [this, e]
        · exact .inr ⟨k, c, e, z.sameBut hs (cne y c e)⟩
    · obtain ⟨w', z⟩ := I.cell y c e
      exact ⟨w', z.sameBut hs (cne y c e)⟩
    · obtain ⟨e, n, ne, nf, d⟩ := I.pin p hp
      exact ⟨(hs.2 p.1 ne).trans e, n, ne, nf, d⟩
  · have hfn : X.fn x = true := by
      rcases hf with z | z
      · exact z
      · rw [z] at hk; cases hk
    obtain ⟨c, hc⟩ := I.ok.has x (.inl hk)
    obtain ⟨w', z⟩ := I.cell x c hc
    refine wpAny_storeName_cell I.ok.kind hk hc z (fun h' hc' hs => ?_)
    obtain ⟨oc, hoc, hocd⟩ := id z
    refine h { s with heap := h' } ⟨I.ok, I.os, I.bare, ⟨fun b o e n hb hx => ?_, fun b o e n hb hx => ?_, I.base.free, fun b o e hx => ?_, I.base.tups, I.base.frzs, I.base.tbls⟩, ⟨m, hn.sameBut hs (Ne.symm (cne x c hc)), fun j y v' e1 e2 e3 => ?_⟩, fun y c' e => ?_, I.free, I.freeC, fun p hp => ?_, tracked ⟨oc, hoc, I.freeC x c hc⟩ hs, by simpa using I.len⟩ ⟨c, hs, .inr hc⟩
    · exact (hs.2 b (Nat.ne_of_lt (Nat.lt_of_lt_of_le (Heap.lt_size e) (I.ok.cab x c hfn hc)))).trans (I.base.keep b o e n hb hx)
    · obtain ⟨sl, e1⟩ := I.base.slot b o e n hb hx
      exact ⟨sl, (hs.2 b (Nat.ne_of_lt (Nat.lt_of_lt_of_le (Heap.lt_size e) (I.ok.cab x c hfn hc)))).trans e1⟩
    · obtain ⟨o', e1⟩ := I.base.there b o e hx
      exact ⟨o', (hs.2 b (Nat.ne_of_lt (Nat.lt_of_lt_of_le (Heap.lt_size e) (I.ok.cab x c hfn hc)))).trans e1⟩
    · by_cases hj : j = i
      · subst hj
        rw [hi] at e1; cases e1
        rw [List.getElem?_set_self hiσ] at e2
        cases e2
        exact ⟨u, r, .inr ⟨.inl hk, c, hc, hc'⟩⟩
      · rw [List.getElem?_set_ne (Ne.symm hj)] at e2
        obtain ⟨u', r', q⟩ := hl j y v' e1 e2 e3
        refine ⟨u', r', ?_⟩
        rcases q with q | ⟨k, c', e, z'⟩
        · exact .inl q
        · refine .inr ⟨k, c', e, z'.sameBut hs ?_⟩
          rintro rfl
          exact hj (nodup_ix hN e1 (I.ok.inj _ _ _ e hc ▸ hi))
    · by_cases hcc : c' = c
      · subst hcc; exact ⟨_, hc'⟩
      · obtain ⟨w2, z2⟩ := I.cell y c' e
        exact ⟨w2, z2.sameBut hs hcc⟩
    · obtain ⟨e, n, ne, nf, d⟩ := I.pin p hp
      refine ⟨(hs.2 p.1 ?_).trans e, n, ne, nf, d⟩
      intro q
      rw [q, hoc] at e
      have q' : oc = p.2 := Option.some.inj e
      exact d w' (by rw [← q']; exact hocd)
theorem store_ok {M : Model} {A : Around} {E : Value → Shared → Prop} {i : Nat} {x : Str} {v : V} {u : Value} {Q : Unit → Shared → Prop} (I : Inv X pins σ H s) (hN : X.N.Nodup) (hi : X.N[i]? = some x) (hx : Loc X.env.scope x) (r : RelV v u)
    (h : ∀ s', Inv X pins (σ.set i (some v)) H s' → Q () s') (hf : X.fn x = true ∨ X.env.scope.names.lookup x = some .local := by first | exact .inl rfl | exact .inr rfl | assumption) : wpAny M A (storeName X.env x u) Q E s :=
  store_ok2 I hN hi hx r (fun s' I' _ => h s' I') hf
/-- behind a call or a block, the state as it is -/
theorem Inv.call' {s' : Shared} {ch : List Addr} (I : Inv X pins σ H s) (ho : s'.os = s.os) (u : Un (frs X.stack) ch H H' s.heap s'.heap) (hok : HOk X.prog X.w H' s'.heap) (hg : AllBare s'.gens)
    (hch : ∀ b ∈ ch, (b ∈ X.ex ∨ X.s₀.heap.objs.size ≤ b) ∧ b ≠ X.env.locals ∧ (∀ x c, X.env.cells.lookup x = some c → c ≠ b) ∧ ∀ p ∈ X.pn ++ pins, p.1 ≠ b) : Inv X pins σ H' s' := by
  obtain ⟨h', g', d', t', o'⟩ := s'
  have e : o' = s.os := ho
  subst e
  exact I.call (g' := g') (t' := t') (d' := d') u hok hg hch
end

/-! ### the judgements -/
/-- an exception: its class, its own dict's address (where it has one), the abstract heap behind it -/
abbrev XK := Value → Option Addr → Hp → Prop
abbrev St := List (Option V)
abbrev VK := V → Hp → Prop
/-- an expression's reading; a test's; an argument list's -/
abbrev TE := St → Hp → VK → Prop
abbrev TT := St → Hp → (Bool → Hp → Prop) → Prop
abbrev TA := St → Hp → (List V → Hp → Prop) → Prop
/-- what is wanted behind a statement -/
structure Ends where
  nx : St → Hp → Prop
  rt : VK
  bk : St → Hp → Prop := fun _ _ => False
  ct : St → Hp → Prop := fun _ _ => False
abbrev TS := Ends → St → Hp → Prop

def EP (X : Cx) (pins : List (Addr × Obj)) (σ : St) (Q : VK) (u : Value) (s' : Shared) : Prop := ∃ v H', Inv X pins σ H' s' ∧ RelV v u ∧ Q v H'
def TP (X : Cx) (pins : List (Addr × Obj)) (σ : St) (Q : Bool → Hp → Prop) (b : Bool) (s' : Shared) : Prop := ∃ H', Inv X pins σ H' s' ∧ Q b H'
def AP (X : Cx) (pins : List (Addr × Obj)) (σ : St) (Q : List V → Hp → Prop) (us : List Value) (s' : Shared) : Prop := ∃ vs H', Inv X pins σ H' s' ∧ Vals vs us ∧ Q vs H'
def SP (X : Cx) (pins : List (Addr × Obj)) (D : Ends) (f : Flow) (s' : Shared) : Prop :=
  match f with
  | .next => ∃ σ' H', Inv X pins σ' H' s' ∧ D.nx σ' H'
  | .brk => ∃ σ' H', Inv X pins σ' H' s' ∧ D.bk σ' H'
  | .cont => ∃ σ' H', Inv X pins σ' H' s' ∧ D.ct σ' H'
  | .ret u => ∃ v σ' H', Inv X pins σ' H' s' ∧ RelV v u ∧ D.rt v H'

def PE (X : Cx) (e : Expr) (t : TE) : Prop :=
  ∀ (pins : List (Addr × Obj)) (s : Shared) (σ : St) (H : Hp) (Q : VK), Inv X pins σ H s → t σ H Q → wpAny (model X.prog X.w) X.A (eval e X.env) (EP X pins σ Q) X.xe s
def PT (X : Cx) (e : Expr) (t : TT) : Prop :=
  ∀ (pins : List (Addr × Obj)) (s : Shared) (σ : St) (H : Hp) (Q : Bool → Hp → Prop), Inv X pins σ H s → t σ H Q → wpAny (model X.prog X.w) X.A (isTrue e X.env (eval e X.env)) (TP X pins σ Q) X.xe s
/-- a test whatever its 'whole' is (and, or) -/
def PW (X : Cx) (e : Expr) (t : TT) : Prop :=
  ∀ (whole : Sem Value) (pins : List (Addr × Obj)) (s : Shared) (σ : St) (H : Hp) (Q : Bool → Hp → Prop), Inv X pins σ H s → t σ H Q → wpAny (model X.prog X.w) X.A (isTrue e X.env whole) (TP X pins σ Q) X.xe s
theorem PW.pt {X : Cx} {e : Expr} {t : TT} (h : PW X e t) : PT X e t := h _
/-- an argument list (no star), from the left -/
def PA (X : Cx) (es : List Expr) (t : TA) : Prop :=
  ∀ (pos : Pos) (pins : List (Addr × Obj)) (s : Shared) (σ : St) (H : Hp) (Q : List V → Hp → Prop), Inv X pins σ H s → t σ H Q → wpAny (model X.prog X.w) X.A (spliced (backTo pos (starEach es X.env))) (AP X pins σ Q) X.xe s
def PS (X : Cx) (st : Stmt) (t : TS) : Prop :=
  ∀ (pins : List (Addr × Obj)) (s : Shared) (σ : St) (H : Hp) (D : Ends), Inv X pins σ H s → t D σ H → wpAny (model X.prog X.w) X.A (exec st X.env) (SP X pins D) X.xe s
def PSs (X : Cx) (st : List Stmt) (t : TS) : Prop :=
  ∀ (pins : List (Addr × Obj)) (s : Shared) (σ : St) (H : Hp) (D : Ends), Inv X pins σ H s → t D σ H → wpAny (model X.prog X.w) X.A (execs st X.env) (SP X pins D) X.xe s
/-- weaken the end -/
theorem thn {α : Type} {t : Sem α} {Q Q' : α → Shared → Prop} {M : Model} {A : Around} {E : Value → Shared → Prop} {s : Shared} (h : wpAny M A t Q E s) (hQ : ∀ a s, Q a s → Q' a s) : wpAny M A t Q' E s := wpAny_mono h hQ fun _ _ x => x
end L2

namespace L2
open PySem PySem.Spec PyProof.Rows
section
variable {X : Cx}

/-! ### names and constants -/
def tVar (i : Nat) : TE := fun σ H Q => ∃ v, σ[i]? = some (some v) ∧ Q v H
def tC (v : V) : TE := fun _ H Q => Q v H
theorem pe_var {i : Nat} {x : Str} {pos : Pos} (hN : X.N[i]? = some x) (hv : Vis X.env.scope x) (hd : (x == ("__debug__" : Str)) = false := by decide) (hcd : (x == ("__classdict__" : Str)) = false := by decide) : PE X (.Name x pos) (tVar i) := by
  intro pins s σ H Q I h
  obtain ⟨v, e, h⟩ := h
  obtain ⟨m, hn, hl⟩ := I.loc
  obtain ⟨u, r, l⟩ := hl i x v hN e hv
  have fin : EP X pins σ Q u s := ⟨v, H, I, r, h⟩
  rcases l with ⟨hk, hm⟩ | ⟨hk, c, hc, hcell⟩
  · exact wpAny_Name (wpAny_loadName_local I.ok.kind hk hn hm fin) hd
  · rcases hk with hk | hk
    · exact wpAny_Name (wpAny_loadName_cell I.ok.kind hk hc hcell fin) hd
    · exact wpAny_Name (wpAny_loadName_free I.ok.kind hk hc hcell fin hcd) hd
theorem pe_int {i j pos} : PE X (.Constant (.int i) j pos) (tC (.int i)) := fun _ _ _ H _ I h => wpAny_Constant_int ⟨.int i, H, I.tok _, ⟨_, rfl⟩, h⟩
theorem pe_bl {b j pos} : PE X (.Constant (.bool b) j pos) (tC (.bl b)) := fun _ _ _ H _ I h => Constant_bool ⟨.bl b, H, I, rfl, h⟩
theorem pe_non {j pos} : PE X (.Constant .none j pos) (tC .non) := fun _ _ _ H _ I h => Constant_none ⟨.non, H, I, rfl, h⟩
theorem pe_str {x j pos} : PE X (.Constant (.str x) j pos) (tC (.str x)) := fun _ _ _ H _ I h => Calls.Constant_str ⟨.str x, H, I.tok _, ⟨_, rfl⟩, h⟩

/-- a global name of the def -/
def Gl (X : Cx) (x : Str) : Prop := X.env.kindOf x = some .globalImplicit
theorem ld_glob {E : Value → Shared → Prop} {pins : List (Addr × Obj)} {s : Shared} {σ : St} {H : Hp} {x : Str} {u : Value} {pos : Pos} {Q : Value → Shared → Prop} (I : Inv X pins σ H s) (hg : Gl X x) (hm : X.mg x = some u) (h : Q u s)
    (hd : (x == ("__debug__" : Str)) = false := by decide) : wpAny (model X.prog X.w) X.A (eval (.Name x pos) X.env) Q E s :=
  Calls.Name_function_global I.ok.kind hg (Calls.loadGlobal_global (by rw [I.ok.glob]; exact I.mod.glob.keeps I.bk) hm h) hd
theorem ld_blt {E : Value → Shared → Prop} {pins : List (Addr × Obj)} {s : Shared} {σ : St} {H : Hp} {x : Str} {u : Value} {pos : Pos} {Q : Value → Shared → Prop} (I : Inv X pins σ H s) (hg : Gl X x) (hm : X.mg x = none) (hv : bootBuiltins x = some u) (h : Q u s)
    (hn : x ≠ "__name__" := by decide) (hd : (x == ("__debug__" : Str)) = false := by decide) : wpAny (model X.prog X.w) X.A (eval (.Name x pos) X.env) Q E s := by
  obtain ⟨mb, h1, h2⟩ := I.mod.blt
  exact Calls.Name_function_global I.ok.kind hg (Calls.loadGlobal_builtin (by rw [I.ok.glob]; exact I.mod.glob.keeps I.bk) hm (by rw [I.ok.blt]; exact h1.keeps I.bk) ((h2 x hn).trans hv) h) hd
/-- a module's constant, a class, a function, as a value -/
theorem pe_glob {x : Str} {v : V} {u : Value} {pos : Pos} (hg : Gl X x) (hm : X.mg x = some u) (r : RelV v u) (hd : (x == ("__debug__" : Str)) = false := by decide) : PE X (.Name x pos) (tC v) :=
  fun _ _ _ H _ I h => ld_glob I hg hm ⟨v, H, I, r, h⟩ hd
theorem pe_bltn {x : Str} {v : V} {u : Value} {pos : Pos} (hg : Gl X x) (hm : X.mg x = none) (hv : bootBuiltins x = some u) (r : RelV v u) (hn : x ≠ "__name__" := by decide) (hd : (x == ("__debug__" : Str)) = false := by decide) : PE X (.Name x pos) (tC v) :=
  fun _ _ _ H _ I h => ld_blt I hg hm hv ⟨v, H, I, r, h⟩ hn hd

/-! ### arithmetic -/
variable {a b : Expr} {ta tb : TE} {pos : Pos}
/-! ### comparisons -/
/-- a comparison as a value, as a test -/
def tB (t : TE) : TT := fun σ H Q => t σ H fun x H1 => ∃ c, x = .bl c ∧ Q c H1
/-- an expression whose value is a bool, as a test -/
theorem pt_val {e : Expr} {t : TE} (h : PE X e t) (he : ∀ whole, isTrue e X.env whole = (do let v ← whole; standAt e.pos; holding [v] (truthy v)) := by intro _; rfl) : PT X e (tB t) := by
  intro pins s σ H Q I hw
  refine isTrue_plain (thn (h pins s σ H _ I hw) fun v s1 ⟨x, H1, I1, r1, q1⟩ => ?_) (he _)
  obtain ⟨d, rfl, q⟩ := q1
  cases r1
  exact wpAny_truthy_bool ⟨H1, I1, q⟩

/-! ### and, or, not -/
variable {tA tB' : TT} {rest : List Expr}
def tAnd (t u : TT) : TT := fun σ H Q => t σ H fun c H1 => if c = true then u σ H1 Q else Q false H1
def tOr (t u : TT) : TT := fun σ H Q => t σ H fun c H1 => if c = true then Q true H1 else u σ H1 Q
def tNot (t : TT) : TT := fun σ H Q => t σ H fun c H1 => Q (!c) H1
theorem pw_and1 (ha : PT X a tA) : PW X (.BoolOp .And [a] pos) tA := by
  intro wh pins s σ H Q I h
  refine isTrue_and (thn (ha pins s σ H Q I h) fun c s1 e => ?_)
  cases c with
  | true => exact isTrue_and_nil e
  | false => exact e
theorem pw_or1 (ha : PT X a tA) : PW X (.BoolOp .Or [a] pos) tA := by
  intro wh pins s σ H Q I h
  refine isTrue_or (thn (ha pins s σ H Q I h) fun c s1 e => ?_)
  cases c with
  | false => exact isTrue_or_nil e
  | true => exact e
theorem pw_and (ha : PT X a tA) (hb : PW X (.BoolOp .And (b :: rest) pos) tB') : PW X (.BoolOp .And (a :: b :: rest) pos) (tAnd tA tB') := by
  intro wh pins s σ H Q I h
  refine isTrue_and (thn (ha pins s σ H _ I h) fun c s1 ⟨H1, I1, q1⟩ => ?_)
  cases c with
  | true => exact hb wh pins s1 σ H1 Q I1 q1
  | false => exact ⟨H1, I1, q1⟩
theorem pw_or (ha : PT X a tA) (hb : PW X (.BoolOp .Or (b :: rest) pos) tB') : PW X (.BoolOp .Or (a :: b :: rest) pos) (tOr tA tB') := by
  intro wh pins s σ H Q I h
  refine isTrue_or (thn (ha pins s σ H _ I h) fun c s1 ⟨H1, I1, q1⟩ => ?_)
  cases c with
  | true => exact ⟨H1, I1, q1⟩
  | false => exact hb wh pins s1 σ H1 Q I1 q1
theorem pt_not (ha : PT X a tA) : PT X (.UnaryOp .Not a pos) (tNot tA) := by
  intro pins s σ H Q I h
  exact isTrue_not (ha pins s σ H (fun c H1 => Q (!c) H1) I h)
/-- .. as values (bools) -/
def tAndV (ta tb : TE) : TE := fun σ H Q => ta σ H fun x H1 => ∃ c, x = .bl c ∧ if c = true then tb σ H1 Q else Q (.bl false) H1
def tOrV (ta tb : TE) : TE := fun σ H Q => ta σ H fun x H1 => ∃ c, x = .bl c ∧ if c = true then Q (.bl true) H1 else tb σ H1 Q
theorem pe_one {op} {t : TE} (h : PE X a t) : PE X (.BoolOp op [a] pos) t := fun pins s σ H Q I hw => BoolOp_one (h pins s σ H Q I hw)
theorem pe_and (ha : PE X a ta) (hb : PE X (.BoolOp .And (b :: rest) pos) tb) : PE X (.BoolOp .And (a :: b :: rest) pos) (tAndV ta tb) := by
  intro pins s σ H Q I h
  refine BoolOp_and (thn (ha pins s σ H _ I h) fun v s1 ⟨x, H1, I1, r1, q1⟩ => ?_)
  obtain ⟨c, rfl, q1⟩ := q1
  cases r1
  refine wpAny_truthy_bool ?_
  cases c with
  | true => exact hb pins s1 σ H1 Q I1 q1
  | false => exact ⟨.bl false, H1, I1, rfl, q1⟩
theorem pe_or (ha : PE X a ta) (hb : PE X (.BoolOp .Or (b :: rest) pos) tb) : PE X (.BoolOp .Or (a :: b :: rest) pos) (tOrV ta tb) := by
  intro pins s σ H Q I h
  refine BoolOp_or (thn (ha pins s σ H _ I h) fun v s1 ⟨x, H1, I1, r1, q1⟩ => ?_)
  obtain ⟨c, rfl, q1⟩ := q1
  cases r1
  refine wpAny_truthy_bool ?_
  cases c with
  | false => exact hb pins s1 σ H1 Q I1 q1
  | true => exact ⟨.bl true, H1, I1, rfl, q1⟩
/-- a if t else b -/
def tIf (t : TT) (ta tb : TE) : TE := fun σ H Q => t σ H fun c H1 => if c = true then ta σ H1 Q else tb σ H1 Q
theorem pe_ifExp {c : Expr} (hc : PT X c tA) (ha : PE X a ta) (hb : PE X b tb) : PE X (.IfExp c a b pos) (tIf tA ta tb) := by
  intro pins s σ H Q I h
  refine wpAny_IfExp (thn (hc pins s σ H _ I h) fun d s1 ⟨H1, I1, q1⟩ => ?_)
  cases d with
  | true => exact ha pins s1 σ H1 Q I1 q1
  | false => exact hb pins s1 σ H1 Q I1 q1
end
end L2

namespace L2
open PySem PySem.Spec PyProof.Rows

/-! ### a list, a tuple that is read: tracked, frozen, or an object of the module -/
def SqL (K : PySem.W.Frag) (H : Hp) (a : Addr) (xs : List V) : Prop :=
  Rd H a (.lst xs) ∨
    ∃ (o : Obj) (its : Array Value) (n : Nat), K.lookup a = some o ∧ o.cls = .type "list" ∧ o.dict = none ∧ o.data = .seq its n ∧ its.size ≤ sizeLine ∧ Vals xs its.toList
def SqT (K : PySem.W.Frag) (H : Hp) (a : Addr) (xs : List V) : Prop :=
  Rd H a (.tup xs) ∨
    ∃ (o : Obj) (its : Array Value) (n : Nat), K.lookup a = some o ∧ o.cls = .type "tuple" ∧ o.data = .seq its n ∧ its.size ≤ sizeLine ∧ Vals xs its.toList
def absV : Value → Option V
  | .none => some .non
  | .bool b => some (.bl b)
  | .int i _ => some (.int i)
  | .str x _ => some (.str x)
  | .bytes b _ => some (.byt b)
  | .float b _ => some (.flt b)
  | .ref a => some (.ref a)
  | .type n => some (.ty n)
  | _ => none
theorem RelV.abs {x : V} {u : Value} (r : RelV x u) : absV u = some x := by
  cases x with
  | non => cases r; rfl
  | bl _ => cases r; rfl
  | int _ => obtain ⟨t, rfl⟩ := r; rfl
  | str _ => obtain ⟨t, rfl⟩ := r; rfl
  | byt _ => obtain ⟨t, rfl⟩ := r; rfl
  | flt _ => obtain ⟨t, rfl⟩ := r; rfl
  | ref _ => cases r; rfl
  | ty _ => cases r; rfl
theorem RelV.inj {x y : V} {u : Value} (r : RelV x u) (q : RelV y u) : x = y := Option.some.inj (r.abs.symm.trans q.abs)
theorem Vals.inj : ∀ {xs ys : List V} {us : List Value}, Vals xs us → Vals ys us → xs = ys
  | _, _, _, .nil, .nil => rfl
  | _, _, _, .cons r t, .cons r' t' => by rw [r.inj r', Vals.inj t t']
section
variable {X : Cx} {pins : List (Addr × Obj)} {σ : St} {H : Hp} {s : Shared} {a : Addr} {xs ys : List V}
theorem SqL.of {K : PySem.W.Frag} (h : H a = some (.lst xs)) : SqL K H a xs := .inl (.inl h)
theorem SqT.of {K : PySem.W.Frag} (h : H a = some (.tup xs)) : SqT K H a xs := .inl (.inl h)
theorem Inv.list (I : Inv X pins σ H s) (h : SqL X.K H a xs) : ∃ its : List Value, Vals xs its ∧ PlainL s.heap a its.toArray ∧ xs.length ≤ sizeLine := by
  rcases h with h | ⟨o, its, n, hk, hc, hd, hs, hz, r⟩
  · obtain ⟨z, its, n, r, e⟩ := h.ok I.hok
    exact ⟨its, r, ⟨_, n, e, rfl, rfl, rfl⟩, z⟩
  · refine ⟨its.toList, r, ⟨o, n, I.kIn a o hk, hc, hd, by simpa using hs⟩, ?_⟩
    have e := r.length
    simp only [Array.length_toList] at e
    omega
theorem Inv.tuple (I : Inv X pins σ H s) (h : SqT X.K H a xs) : ∃ its : List Value, Vals xs its ∧ IsTup s.heap a its.toArray ∧ xs.length ≤ sizeLine := by
  rcases h with h | ⟨o, its, n, hk, hc, hs, hz, r⟩
  · obtain ⟨z, its, r, p⟩ := h.ok I.hok
    exact ⟨its, r, p, z⟩
  · refine ⟨its.toList, r, ⟨o, I.kIn a o hk, hc, n, by simpa using hs⟩, ?_⟩
    have e := r.length
    simp only [Array.length_toList] at e
    omega
theorem Inv.list_inj (I : Inv X pins σ H s) (h : SqL X.K H a xs) (h' : SqL X.K H a ys) : xs = ys := by
  obtain ⟨its, r, ⟨o, n, e, _, _, d⟩, _⟩ := I.list h
  obtain ⟨its', r', ⟨o', n', e', _, _, d'⟩, _⟩ := I.list h'
  rw [e] at e'; cases e'
  rw [d] at d'
  injection d' with d1 _
  have : its = its' := by simpa using congrArg Array.toList d1
  subst this
  exact r.inj r'
end

/-! ### another wish about exceptions -/
abbrev Cx.wish (X : Cx) (E : Value → Shared → Prop) : Cx := { X with xe := E }
/-- no exception leaves -/
abbrev Cx.nox (X : Cx) : Cx := X.wish fun _ _ => False
theorem Cx.Ok.wish {X : Cx} (ok : X.Ok) (E : Value → Shared → Prop) : (X.wish E).Ok :=
  ⟨ok.mod, ok.kind, ok.glob, ok.blt, ok.above, ok.inj, ok.has, ok.cab, ok.hd, ok.frames, ok.stk, ok.exf, ok.bs, ok.bsz, ok.noex, ok.exfs, ok.funs, ok.frf⟩
theorem Cx.Ok.unwish {X : Cx} {E : Value → Shared → Prop} (ok : (X.wish E).Ok) : X.Ok :=
  ⟨ok.mod, ok.kind, ok.glob, ok.blt, ok.above, ok.inj, ok.has, ok.cab, ok.hd, ok.frames, ok.stk, ok.exf, ok.bs, ok.bsz, ok.noex, ok.exfs, ok.funs, ok.frf⟩
section
variable {X : Cx} {pins : List (Addr × Obj)} {σ : St} {H : Hp} {s : Shared} {E : Value → Shared → Prop}
theorem Inv.wish (I : Inv X pins σ H s) (E : Value → Shared → Prop) : Inv (X.wish E) pins σ H s := ⟨I.ok.wish E, I.os, I.bare, I.base, I.loc, I.cell, I.free, I.freeC, I.pin, I.hok, I.len⟩
theorem Inv.unwish (I : Inv (X.wish E) pins σ H s) : Inv X pins σ H s := ⟨I.ok.unwish, I.os, I.bare, I.base, I.loc, I.cell, I.free, I.freeC, I.pin, I.hok, I.len⟩
theorem SP.unwish {D : Ends} {f : Flow} {s' : Shared} (h : SP (X.wish E) pins D f s') : SP X pins D f s' := by
  cases f with
  | next => obtain ⟨σ', H', I, q⟩ := h; exact ⟨σ', H', I.unwish, q⟩
  | brk => obtain ⟨σ', H', I, q⟩ := h; exact ⟨σ', H', I.unwish, q⟩
  | cont => obtain ⟨σ', H', I, q⟩ := h; exact ⟨σ', H', I.unwish, q⟩
  | ret u => obtain ⟨v, σ', H', I, r, q⟩ := h; exact ⟨v, σ', H', I.unwish, r, q⟩
theorem PSs.nox {st : List Stmt} {t : TS} (h : PSs X.nox st t) : PSs X st t := fun pins s σ H D I hw =>
  wpAny_mono (h pins s σ H D (I.wish _) hw) (fun _ _ q => q.unwish) fun _ _ z => False.elim z
end

/-! ### blocks and small statements -/
section
variable {X : Cx} {st : Stmt} {rest : List Stmt} {t u : TS} {e : Expr} {te : TE} {pos : Pos}
def tNext : TS := fun D σ H => D.nx σ H
def tSeq (t u : TS) : TS := fun D σ H => t { D with nx := u D } σ H
theorem pss_nil : PSs X [] tNext := fun _ _ σ H _ I h => wpAny_execs_nil ⟨σ, H, I, h⟩
theorem pss_cons (h1 : PS X st t) (h2 : PSs X rest u) : PSs X (st :: rest) (tSeq t u) := by
  intro pins s σ H D I h
  refine wpAny_execs_cons (thn (h1 pins s σ H { D with nx := u D } I h) fun f s1 q => ?_)
  cases f with
  | next =>
    obtain ⟨σ', H', I', q⟩ := q
    exact h2 pins s1 σ' H' D I' q
  | ret v => exact q
  | brk => exact q
  | cont => exact q
theorem pss_one (h1 : PS X st t) : PSs X [st] t := by
  intro pins s σ H D I h
  refine wpAny_execs_cons (thn (h1 pins s σ H D I h) fun f s1 q => ?_)
  cases f with
  | next => exact wpAny_execs_nil q
  | ret v => exact q
  | brk => exact q
  | cont => exact q
/-- in a def's body nothing is shown -/
theorem Inv.quiet {pins : List (Addr × Obj)} {σ : St} {H : Hp} {s : Shared} (I : Inv X pins σ H s) : interactive X.env = false := by simp [interactive, I.ok.kind]
/-- an expression whose value is dropped -/
def tDrop (te : TE) : TS := fun D σ H => te σ H fun _ H1 => D.nx σ H1
theorem ps_expr (he : PE X e te) (hs : swapsWith e none pos.line X.env = pure false := by rfl) : PS X (.Expr e pos) (tDrop te) := by
  intro pins s σ H D I h
  exact wpAny_Expr_any (thn (he pins s σ H _ I h) fun v s1 ⟨x, H1, I1, r1, q1⟩ => ⟨σ, H1, I1, q1⟩) I.quiet hs
def tRet (te : TE) : TS := fun D σ H => te σ H D.rt
theorem ps_ret (he : PE X e te) : PS X (.Return (some e) pos) (tRet te) := by
  intro pins s σ H D I h
  exact wpAny_Return_some (thn (he pins s σ H _ I h) fun v s1 ⟨x, H1, I1, r1, q1⟩ => ⟨x, σ, H1, I1, r1, q1⟩)
def tIfS (c : TT) (t u : TS) : TS := fun D σ H => c σ H fun b H1 => if b = true then t D σ H1 else u D σ H1
theorem ps_if {c : Expr} {a b : List Stmt} {tc : TT} (hc : PT X c tc) (ha : PSs X a t) (hb : PSs X b u) : PS X (.If c a b pos) (tIfS tc t u) := by
  intro pins s σ H D I h
  refine wpAny_If (thn (hc pins s σ H _ I h) fun d s1 ⟨H1, I1, q1⟩ => ?_)
  cases d with
  | true => exact ha pins s1 σ H1 D I1 q1
  | false => exact hb pins s1 σ H1 D I1 q1
/-- code that the proof never comes to -/
def tNever : TS := fun _ _ _ => False
theorem pss_never {sts : List Stmt} : PSs X sts tNever := fun _ _ _ _ _ _ h => h.elim
end

/-! ### targets -/
abbrev TG := V → St → Hp → (St → Hp → Prop) → Prop
def PG (X : Cx) (target : Expr) (t : TG) : Prop :=
  ∀ (pins : List (Addr × Obj)) (s : Shared) (σ : St) (H : Hp) (v : V) (u : Value) (Q : St → Hp → Prop), Inv X pins σ H s → RelV v u → t v σ H Q →
    wpAny (model X.prog X.w) X.A (assign target X.env u) (fun _ s' => ∃ σ' H', Inv X pins σ' H' s' ∧ Q σ' H') X.xe s
section
variable {X : Cx} {pos : Pos}
def gName (i : Nat) : TG := fun v σ H Q => Q (σ.set i (some v)) H
theorem pg_name {i : Nat} {x : Str} (hN : X.N.Nodup) (hi : X.N[i]? = some x) (hx : Loc X.env.scope x) (hf : X.fn x = true ∨ X.env.scope.names.lookup x = some .local := by first | exact .inl rfl | exact .inr rfl | assumption) : PG X (.Name x pos) (gName i) := by
  intro pins s σ H v u Q I r h
  exact wpAny_assign_Name (store_ok I hN hi hx r (fun s' I' => ⟨_, H, I', h⟩) hf)
/-- target = value -/
def tAsg (te : TE) (g : TG) : TS := fun D σ H => te σ H fun x H1 => g x σ H1 D.nx
/-- name = value -/
theorem ps_set {i : Nat} {x : Str} {e : Expr} {te : TE} {pos' : Pos} (hN : X.N.Nodup) (hi : X.N[i]? = some x) (hx : Loc X.env.scope x) (he : PE X e te) (hs : swapsWith e (some (.Name x pos')) pos.line X.env = pure false := by rfl) (hf : X.fn x = true ∨ X.env.scope.names.lookup x = some .local := by first | exact .inl rfl | exact .inr rfl | assumption) :
    PS X (.Assign [.Name x pos'] e pos) (tAsg te (gName i)) := by
  intro pins s σ H D I h
  refine wpAny_Assign_Name (thn (he pins s σ H _ I h) fun v s1 ⟨y, H1, I1, r1, q1⟩ => ?_) hs
  exact store_ok I1 hN hi hx r1 (fun s2 I2 => ⟨_, H1, I2, q1⟩) hf
end

/-! ### while -/
section
variable {X : Cx} {pos : Pos}
end

/-! ### what a loop or a comprehension walks -/
/-- at turn i: it yields x (the heap may grow), or it stops -/
structure It where
  go : Nat → Hp → Prop
  yld : Nat → Hp → V → Hp → Prop
  stop : Nat → Hp → Prop
/-- the iterator's own objects may turn: they are not the frame's, not pinned, younger than the entry (or a comprehension's own) -/
def FpOk (X : Cx) (pins : List (Addr × Obj)) (H : Hp) (b : Addr) : Prop :=
  H b = none ∧ b ≠ X.env.locals ∧ b ∉ X.fs ∧ (b ∈ X.ex ∨ X.s₀.heap.objs.size ≤ b) ∧ (∀ x c, X.env.cells.lookup x = some c → c ≠ b) ∧ ∀ p ∈ X.pn ++ pins, p.1 ≠ b
theorem Inv.fpOk {X : Cx} {pins : List (Addr × Obj)} {σ : St} {H H' : Hp} {s : Shared} {b : Addr} (I : Inv X pins σ H s) (hb : s.heap.objs.size ≤ b) (hn : H' b = none) : FpOk X pins H' b := by
  refine ⟨hn, Nat.ne_of_gt (Nat.lt_of_lt_of_le I.lt hb), I.nofs hb, .inr (Nat.le_trans I.sz hb), fun x c e z => ?_, fun p hp z => ?_⟩
  · obtain ⟨v, q⟩ := I.cell x c e
    exact absurd (Nat.lt_of_lt_of_le q.lt (by rw [z]; exact hb)) (Nat.lt_irrefl _)
  · exact absurd (Nat.lt_of_lt_of_le (Heap.lt_size (I.pin p hp).1) (by rw [z]; exact hb)) (Nat.lt_irrefl _)
structure Turn (P : Program) (w : World) (K : PySem.W.Frag) (tg : Expr) (J : It) (fp : List Addr) (it : Addr) (tn : Nat → Heap → Prop) : Prop where
  mem : it ∈ fp
  obj : ∀ i h, tn i h → ∀ b ∈ fp, ∃ o, h.get? b = some o ∧ ∀ v, o.data ≠ .cell v
  keep : ∀ i h h', tn i h → (∀ b ∈ fp, ∀ o, h.get? b = some o → h'.get? b = some o) → tn i h'
  item : ∀ (X : Cx), X.prog = P → X.w = w → X.K = K → X.calm = true → ∀ (i : Nat) (pins : List (Addr × Obj)) (s : Shared) (σ : St) (H : Hp) (E : Value → Shared → Prop), Inv X pins σ H s → (∀ b ∈ fp, FpOk X pins H b) → tn i s.heap → J.go i H →
    wpAny (model P w) X.A (pyNext (.ref it)) (fun r s1 => ∃ u, r = some u ∧
      wpAny (model P w) X.A (letOwnedTupleGo tg (.ref it) u) (fun _ s2 => ∃ x H', Inv X pins σ H' s2 ∧ RelV x u ∧ J.yld i H x H' ∧ tn (i + 1) s2.heap ∧ ∀ b ∈ fp, H' b = none) E s1) E s
  done : ∀ (X : Cx), X.prog = P → X.w = w → X.K = K → X.calm = true → ∀ (i : Nat) (pins : List (Addr × Obj)) (s : Shared) (σ : St) (H : Hp) (E : Value → Shared → Prop), Inv X pins σ H s → (∀ b ∈ fp, FpOk X pins H b) → tn i s.heap → J.stop i H →
    wpAny (model P w) X.A (pyNext (.ref it)) (fun r s1 => r = none ∧ Inv X pins σ H s1) E s
  self : ∀ (A : Around) (i : Nat) (s : Shared) (Q : Value → Shared → Prop) (E : Value → Shared → Prop), tn i s.heap → Q (.ref it) s → wpAny (model P w) A (pyIter (.ref it)) Q E s
abbrev TI := St → Hp → (It → Hp → Prop) → Prop
/-- an iterator has come -/
def PIE (X : Cx) (pins : List (Addr × Obj)) (σ : St) (tg : Expr) (R : It → Hp → Prop) (itv : Value) (s2 : Shared) : Prop :=
  ∃ (it : Addr) (fp : List Addr) (tn : Nat → Heap → Prop) (J : It) (H' : Hp), itv = .ref it ∧ Inv X pins σ H' s2 ∧ Turn X.prog X.w X.K tg J fp it tn ∧ tn 0 s2.heap ∧ (∀ b ∈ fp, FpOk X pins H' b) ∧ R J H'
def PI (X : Cx) (tg iter : Expr) (wi : TI) : Prop :=
  ∀ (pins : List (Addr × Obj)) (s : Shared) (σ : St) (H : Hp) (R : It → Hp → Prop), Inv X pins σ H s → wi σ H R →
    wpAny (model X.prog X.w) X.A (eval iter X.env) (fun v s1 => wpAny (model X.prog X.w) X.A (pyIter v) (PIE X pins σ tg R) X.xe s1) X.xe s

/-- the step ahead of the store is nothing for an iterator that keeps no tuple -/
theorem go_of {M : Model} {A : Around} {E : Value → Shared → Prop} {s : Shared} {tg : Expr} {it : Addr} {u : Value} {o : Obj} {n : String} {vs : Array Value} {Q : Unit → Shared → Prop} (ho : s.heap.get? it = some o) (hc : o.cls = .type n) (hd : o.data = .fields vs)
    (hn : ["enumerate", "zip", "dict_itemiterator", "dict_reverseitemiterator", "odict_iterator", "itertools.zip_longest", "itertools.pairwise"].contains n = false) (hQ : Q () s) : wpAny M A (letOwnedTupleGo tg (.ref it) u) Q E s := by
  unfold letOwnedTupleGo
  cases tg <;> first
    | exact wpAny_pure hQ
    | (cases u <;> first
        | exact wpAny_pure hQ
        | (refine wpAny_bind (wpAny_load ho ?_)
           rw [hc, hd]
           show wpAny M A (if (["enumerate", "zip", "dict_itemiterator", "dict_reverseitemiterator", "odict_iterator", "itertools.zip_longest", "itertools.pairwise"].contains n && vs[0]? == some (rawInt _)) = true then _ else _) Q E s
           rw [if_neg (by intro h; rw [hn, Bool.false_and] at h; cases h)]
           exact wpAny_pure hQ))

/-- the list at a, as it stands at each turn (a loop may append to it) -/
def Itl (K : PySem.W.Frag) (a : Addr) : It :=
  ⟨fun i H => ∃ xs x, SqL K H a xs ∧ xs[i]? = some x, fun i H x H' => H' = H ∧ ∀ xs, SqL K H a xs → xs[i]? = some x, fun i H => ∃ xs, SqL K H a xs ∧ xs.length ≤ i⟩
/-- lo, lo + 1, .. (n of them) -/
def Itr (lo : Int) (n : Nat) : It := ⟨fun i _ => i < n, fun i H x H' => H' = H ∧ x = .int (lo + i), fun i _ => n ≤ i⟩
theorem turn_list {P : Program} {w : World} {K : PySem.W.Frag} {tg : Expr} (a it : Addr) : Turn P w K tg (Itl K a) [it] it (fun i h => h.IsListIter it a i) where
  mem := by simp
  obj := fun i h st b hb => by
    have e : b = it := by simpa using hb
    subst e
    obtain ⟨o, e, c, d⟩ := st
    exact ⟨o, e, fun v z => by rw [d] at z; cases z⟩
  keep := fun i h h' st k => st.at fun o e => k it (by simp) o e
  item := by
    intro X hP hw hK hc i pins s σ H E I hf st hg
    subst hP hw hK
    obtain ⟨xs, x, hq, hx⟩ := hg
    obtain ⟨its, rv, p, hz⟩ := I.list hq
    obtain ⟨u, hu, ru⟩ := rv.get hx
    obtain ⟨f0, f1, f2, f3, f4, f5⟩ := hf it (by simp)
    refine wpAny_pyNext_list_item st p.isList (x := u) (by simpa using hu) fun h' st' sb => ?_
    have I1 : Inv X pins σ H { s with heap := h' } := I.turned (t' := s.toks) (fun b o hb e => (sb.2 b hb).trans e) f0 f1 f3 f4 f5
    obtain ⟨o, e, c, d⟩ := id st'
    exact ⟨u, rfl, go_of (s := { s with heap := h' }) e c d (by decide) ⟨x, H, I1, ru, ⟨rfl, fun ys hy => by rw [I.list_inj hy hq]; exact hx⟩, st', fun b hb => (hf b hb).1⟩⟩
  done := by
    intro X hP hw hK hc i pins s σ H E I hf st hg
    subst hP hw hK
    obtain ⟨xs, hq, hx⟩ := hg
    obtain ⟨its, rv, p, hz⟩ := I.list hq
    obtain ⟨f0, f1, f2, f3, f4, f5⟩ := hf it (by simp)
    have hl := rv.length
    exact wpAny_pyNext_list_end (I.ok.hd hc) st p.isList (by simp; omega) fun h' eb => ⟨rfl, I.turned (t' := s.toks) (fun b o hb e => eb b o hb e) f0 f1 f3 f4 f5⟩
  self := fun _ _ _ _ _ st h => wpAny_pyIter_listiter st h
theorem turn_range {P : Program} {w : World} {K : PySem.W.Frag} {tg : Expr} (it : Addr) (lo : Int) (n : Nat) : Turn P w K tg (Itr lo n) [it] it (fun i h => IsRangeIter h it (lo + (i : Nat) * 1) ((n : Int) - (i : Nat)) 1) where
  mem := by simp
  obj := fun i h st b hb => by
    have e : b = it := by simpa using hb
    subst e
    exact ⟨_, st, fun v z => by
      have z' : Data.fields _ = Data.cell v := z
      cases z'⟩
  keep := fun i h h' st k => k it (by simp) _ st
  item := by
    intro X hP hw hK hc i pins s σ H E I hf st hg
    subst hP hw hK
    obtain ⟨f0, f1, f2, f3, f4, f5⟩ := hf it (by simp)
    have W := Walks.range (prog := X.prog) (w := X.w) (I.ok.hd hc) it lo 1 n
    refine W.item i s _ _ hg st fun v h' tk hv st' kk => ?_
    obtain ⟨t, rfl⟩ := hv
    have I1 : Inv X pins σ H { s with heap := h', toks := tk } := I.turned (fun b o hb e => kk b o (by simpa using hb) e) f0 f1 f3 f4 f5
    refine ⟨_, rfl, go_of (s := { s with heap := h', toks := tk }) (n := "range_iterator") st' rfl rfl (by decide) ⟨.int (lo + i), H, I1, ⟨t, ?_⟩, ⟨rfl, rfl⟩, st', fun b hb => (hf b hb).1⟩⟩
    rw [Int.mul_one]
  done := by
    intro X hP hw hK hc i pins s σ H E I hf st hg
    subst hP hw hK
    obtain ⟨f0, f1, f2, f3, f4, f5⟩ := hf it (by simp)
    exact wpAny_pyNext_range_end (I.ok.hd hc) st (by have : n ≤ i := hg; omega) fun h' eb => ⟨rfl, I.turned (t' := s.toks) (fun b o hb e => eb b o hb e) f0 f1 f3 f4 f5⟩
  self := fun _ _ _ _ _ st h => wpAny_pyIter_rangeiter st h
end L2

namespace L2
open PySem PySem.Spec PyProof.Rows
section
variable {X : Cx} {tg : Expr}
def iList (K : PySem.W.Frag) (tl : TE) : TI := fun σ H R => tl σ H fun x H1 => ∃ a, x = .ref a ∧ (∃ xs, SqL K H1 a xs) ∧ R (Itl K a) H1
theorem pi_list {l : Expr} {tl : TE} (hl : PE X l tl) : PI X tg l (iList X.K tl) := by
  intro pins s σ H R I h
  refine thn (hl pins s σ H _ I h) fun v s1 ⟨x, H1, I1, r1, q1⟩ => ?_
  obtain ⟨a, e, ⟨xs, hq⟩, q⟩ := q1
  subst e
  cases r1
  obtain ⟨its, rv, p, hz⟩ := I1.list hq
  refine wpAny_pyIter_list p.isList ?_
  refine ⟨s1.heap.objs.size, [s1.heap.objs.size], _, _, H1, rfl, I1.kept (t' := s1.toks) fun b o e => Heap.get?_push_of_some _ e, turn_list a _, ⟨_, Heap.get?_push_size _ rfl, rfl, rfl⟩, fun b hb => ?_, q⟩
  have e : b = s1.heap.objs.size := by simpa using hb
  subst e
  exact I1.fpOk (Nat.le_refl _) (I1.hok.fresh (Nat.le_refl _))
/-- a range object just made, walked -/
theorem range_it {pins : List (Addr × Obj)} {σ : St} {H : Hp} {s : Shared} {R : It → Hp → Prop} {E : Value → Shared → Prop} {lo hi : Int} {t u v : Tok} {tk : Nat} (I : Inv X pins σ H s) (h1 : -(2 ^ 62) ≤ lo) (h2 : lo < 2 ^ 62) (h3 : -(2 ^ 62) ≤ hi) (h4 : hi < 2 ^ 62)
    (q : R (Itr lo (hi - lo).toNat) H) : wpAny (model X.prog X.w) X.A (pyIter (.ref s.heap.objs.size)) (PIE X pins σ tg R) E { s with heap := s.heap.push { cls := .type "range", data := .fields #[.int lo t, .int hi u, .int 1 v] }, toks := tk } := by
  refine wpAny_pyIter_range (IsRange.new ..) (small_one h1 h2 h3 h4) ?_
  have I1 : Inv X pins σ H { s with heap := s.heap.push { cls := .type "range", data := .fields #[.int lo t, .int hi u, .int 1 v] }, toks := tk } := I.kept fun b o e => Heap.get?_push_of_some _ e
  refine ⟨(s.heap.push { cls := .type "range", data := .fields #[.int lo t, .int hi u, .int 1 v] }).objs.size, [(s.heap.push { cls := .type "range", data := .fields #[.int lo t, .int hi u, .int 1 v] }).objs.size], _, _, H, rfl,
    I1.kept (t' := tk) fun b o e => Heap.get?_push_of_some _ e, turn_range _ lo (hi - lo).toNat, ?_, fun b hb => ?_, q⟩
  · have e1 : lo + ((0 : Nat) : Int) * 1 = lo := by simp
    have e2 : (((hi - lo).toNat : Nat) : Int) - ((0 : Nat) : Int) = Builtin.Range.rangeSize lo hi 1 := by rw [rangeSize_one]; split <;> omega
    show IsRangeIter _ _ (lo + ((0 : Nat) : Int) * 1) ((((hi - lo).toNat : Nat) : Int) - ((0 : Nat) : Int)) 1
    rw [e1, e2]
    exact Heap.get?_push_size _ rfl
  · have e : b = (s.heap.push { cls := .type "range", data := .fields #[.int lo t, .int hi u, .int 1 v] }).objs.size := by simpa using hb
    subst e
    exact I1.fpOk (Nat.le_refl _) (I1.hok.fresh (Nat.le_refl _))
def iRng1 (ta : TA) : TI := fun σ H R => ta σ H fun vs H1 => ∃ j : Int, vs = [.int j] ∧ -(2 ^ 62) ≤ j ∧ j < 2 ^ 62 ∧ R (Itr 0 j.toNat) H1
def iRng2 (ta : TA) : TI := fun σ H R => ta σ H fun vs H1 => ∃ i j : Int, vs = [.int i, .int j] ∧ (-(2 ^ 62) ≤ i ∧ i < 2 ^ 62 ∧ -(2 ^ 62) ≤ j ∧ j < 2 ^ 62) ∧ R (Itr i (j - i).toNat) H1
theorem pi_range1 {a : Expr} {ta : TA} {p pos : Pos} (hg : Gl X "range") (hm : X.mg "range" = none) (ha : PA X [a] ta) (hs : starEach [a] X.env = [(false, eval a X.env)] := by rfl) : PI X tg (.Call (.Name "range" p) [a] [] pos) (iRng1 ta) := by
  intro pins s σ H R I h
  refine Call_ (ld_blt I hg hm boot_range (PyProof.Rows.callWith_type1 (thn (ha pos pins s σ H _ I h) fun us s1 ⟨vs, H1, I1, r1, q1⟩ => ?_) hs rfl))
  obtain ⟨j, e, q1, q2, q⟩ := q1
  subst e
  cases r1 with
  | cons r rr =>
    cases rr
    obtain ⟨t, rfl⟩ := r
    exact call_range_1 (range_it I1 (by omega) (by omega) q1 q2 (by simpa using q))
theorem pi_range2 {a b : Expr} {ta : TA} {p pos : Pos} (hg : Gl X "range") (hm : X.mg "range" = none) (ha : PA X [a, b] ta) (hs : starEach [a, b] X.env = [(false, eval a X.env), (false, eval b X.env)] := by rfl) (hs2 : starEach [b] X.env = [(false, eval b X.env)] := by rfl) :
    PI X tg (.Call (.Name "range" p) [a, b] [] pos) (iRng2 ta) := by
  intro pins s σ H R I h
  refine Call_ (ld_blt I hg hm boot_range (PyProof.Rows.callWith_type1 (thn (ha pos pins s σ H _ I h) fun us s1 ⟨vs, H1, I1, r1, q1⟩ => ?_) (by rw [hs, hs2]) (by rw [hs2]; rfl)))
  obtain ⟨i, j, e, ⟨q1, q2, q3, q4⟩, q⟩ := q1
  subst e
  cases r1 with
  | cons r rr =>
    cases rr with
    | cons r' rr =>
      cases rr
      obtain ⟨t, rfl⟩ := r
      obtain ⟨t', rfl⟩ := r'
      exact call_range_2 (range_it I1 q1 q2 q3 q4 q)

/-! ### for -/
/-- W: the invariant by the turn and a measure; N: what the body is to reach -/
def tFor (wi : TI) (g : TG) (tb : TS) : TS := fun D σ H => wi σ H fun J H1 => ∃ W : Nat → Nat → St → Hp → Prop, (∃ m, W 0 m σ H1) ∧ ∀ i m σ H, W i m σ H →
  (J.stop i H ∧ D.nx σ H) ∨ (J.go i H ∧ ∃ N : St → Hp → Prop, (∀ σ' H', N σ' H' → ∃ m', m' < m ∧ W (i + 1) m' σ' H') ∧ ∀ x H', J.yld i H x H' → g x σ H' fun σ2 H2 => tb { D with nx := N, ct := N, bk := D.nx } σ2 H2)
/-- the records at fp as they stand -/
def pinsAt (fp : List Addr) (h : Heap) : List (Addr × Obj) := fp.filterMap fun b => (h.get? b).map fun o => (b, o)
theorem mem_pinsAt {fp : List Addr} {h : Heap} {b : Addr} {o : Obj} (hb : b ∈ fp) (e : h.get? b = some o) : (b, o) ∈ pinsAt fp h := List.mem_filterMap.mpr ⟨b, hb, by rw [e]; rfl⟩
theorem of_pinsAt {fp : List Addr} {h : Heap} {p : Addr × Obj} (hp : p ∈ pinsAt fp h) : p.1 ∈ fp ∧ h.get? p.1 = some p.2 := by
  obtain ⟨b, hb, e⟩ := List.mem_filterMap.mp hp
  cases q : h.get? b with
  | none => rw [q] at e; cases e
  | some o =>
    rw [q] at e
    have e' : (b, o) = p := Option.some.inj e
    subst e'
    exact ⟨hb, q⟩
theorem Inv.pinned {pins : List (Addr × Obj)} {σ : St} {H : Hp} {s : Shared} {fp : List Addr} (I : Inv X pins σ H s) (hf : ∀ b ∈ fp, FpOk X pins H b) (ho : ∀ b ∈ fp, ∃ o, s.heap.get? b = some o ∧ ∀ v, o.data ≠ .cell v) : Inv X (pins ++ pinsAt fp s.heap) σ H s :=
  I.pins_of fun p hp => (List.mem_append.mp hp).elim (fun z => I.pin p (List.mem_append_right _ z)) fun z => by
    obtain ⟨hb, e⟩ := of_pinsAt z
    obtain ⟨f0, f1, f2, _⟩ := hf p.1 hb
    obtain ⟨o, e', d⟩ := ho p.1 hb
    rw [e] at e'; cases e'
    exact ⟨e, f0, f1, f2, d⟩
theorem Inv.unpinned {pins pl : List (Addr × Obj)} {σ : St} {H : Hp} {s : Shared} (I : Inv X (pins ++ pl) σ H s) : Inv X pins σ H s := I.pins_of fun p hp => I.pin p (List.mem_append_right _ (List.mem_append_left _ hp))
theorem ps_for {iter : Expr} {body : List Stmt} {wi : TI} {g : TG} {tb : TS} {pos : Pos} (hp : PassesOwn (model X.prog X.w) X.A X.env X.xe) (hc : X.calm = true) (hi : PI X tg iter wi) (hg : PG X tg g) (hb : PSs X body tb)
    (hs : ∀ x, foldedSetIterable iter X.env x = pure x := by intro _; rfl) : PS X (.For tg iter body [] pos) (tFor wi g tb) := by
  intro pins s σ H D I h
  refine wpAny_For (thn (hi pins s σ H _ I h) fun v s1 h1 => thn h1 fun itv s2 h2 => ?_) hs
  obtain ⟨it, fp, tn, J, H2, e, I2, T, st2, f2, W, ⟨m0, w0⟩, turn⟩ := h2
  subst e
  -- what stays true of the iterator's objects through the loop
  have stat : ∀ {H' : Hp}, (∀ b ∈ fp, H' b = none) → ∀ b ∈ fp, FpOk X pins H' b := fun hn b hb => ⟨hn b hb, (f2 b hb).2⟩
  refine codeAny_forLoop_any (fun n s' => ∃ i σ' H', Inv X pins σ' H' s' ∧ tn i s'.heap ∧ (∀ b ∈ fp, H' b = none) ∧ W i n σ' H') ?_ m0 ⟨0, σ, H2, I2, st2, fun b hb => (f2 b hb).1, w0⟩
  rintro n s3 ⟨i, σ3, H3, I3, st3, fr3, w3⟩
  rcases turn i n σ3 H3 w3 with ⟨stop, qn⟩ | ⟨go, N, hN, step⟩
  · refine wpAny_passesOwn hp (thn (T.done X rfl rfl rfl hc i pins s3 σ3 H3 X.xe I3 (stat fr3) st3 stop) fun r s4 ⟨hr, I4⟩ => ?_)
    subst hr
    exact wpAny_execs_nil ⟨σ3, H3, I4, qn⟩
  · refine wpAny_passesOwn hp (thn (T.item X rfl rfl rfl hc i pins s3 σ3 H3 X.xe I3 (stat fr3) st3 go) fun r s4 ⟨u, hr, h4⟩ => ?_)
    subst hr
    refine wpAny_passesOwn hp (thn h4 fun _ s5 ⟨x, H5, I5, r5, y5, st5, fr5⟩ => ?_)
    have I5' := I5.pinned (stat fr5) (T.obj _ _ st5)
    refine wpAny_passesOwn hp (thn (hg _ s5 σ3 H5 x u _ I5' r5 (step x H5 y5)) fun _ s6 ⟨σ6, H6, I6, q6⟩ => ?_)
    refine wpAny_passesOwn hp (thn (hb _ s6 σ6 H6 _ I6 q6) fun f s7 q7 => ?_)
    have again : ∀ {σ7 : St} {H7 : Hp}, Inv X (pins ++ pinsAt fp s5.heap) σ7 H7 s7 → N σ7 H7 → ∃ m, m < n ∧ ∃ i σ' H', Inv X pins σ' H' s7 ∧ tn i s7.heap ∧ (∀ b ∈ fp, H' b = none) ∧ W i m σ' H' := fun {σ7 H7} I7 n7 => by
      obtain ⟨m', hm, w7⟩ := hN σ7 H7 n7
      refine ⟨m', hm, i + 1, σ7, H7, I7.unpinned, T.keep _ _ _ st5 fun b hb o e => (I7.pin (b, o) (List.mem_append_right _ (List.mem_append_right _ (mem_pinsAt hb e)))).1, fun b hb => ?_, w7⟩
      obtain ⟨o, e, d⟩ := T.obj _ _ st5 b hb
      exact (I7.pin (b, o) (List.mem_append_right _ (List.mem_append_right _ (mem_pinsAt hb e)))).2.1
    cases f with
    | next => obtain ⟨σ7, H7, I7, n7⟩ := q7; exact again I7 n7
    | cont => obtain ⟨σ7, H7, I7, n7⟩ := q7; exact again I7 n7
    | brk => obtain ⟨σ7, H7, I7, q7⟩ := q7; exact ⟨σ7, H7, I7.unpinned, q7⟩
    | ret v => obtain ⟨x7, σ7, H7, I7, r7, q7⟩ := q7; exact ⟨x7, σ7, H7, I7.unpinned, r7, q7⟩
end

/-! ### the forms one uses -/
/-- over a list that the body leaves as it is -/
theorem for_list {K : PySem.W.Frag} {a : Addr} {xs : List V} {g : TG} {tb : TS} {D : Ends} {σ : St} {H : Hp} (Pv : Nat → St → Hp → Prop) (h0 : Pv 0 σ H) (hl : ∀ i σ H, i ≤ xs.length → Pv i σ H → SqL K H a xs)
    (hs : ∀ i x σ H, xs[i]? = some x → Pv i σ H → g x σ H fun σ2 H2 => tb { D with nx := Pv (i + 1), ct := Pv (i + 1), bk := D.nx } σ2 H2) (hd : ∀ σ H, Pv xs.length σ H → D.nx σ H) :
    ∃ W : Nat → Nat → St → Hp → Prop, (∃ m, W 0 m σ H) ∧ ∀ i m σ H, W i m σ H →
      ((Itl K a).stop i H ∧ D.nx σ H) ∨ ((Itl K a).go i H ∧ ∃ N : St → Hp → Prop, (∀ σ' H', N σ' H' → ∃ m', m' < m ∧ W (i + 1) m' σ' H') ∧ ∀ x H', (Itl K a).yld i H x H' → g x σ H' fun σ2 H2 => tb { D with nx := N, ct := N, bk := D.nx } σ2 H2) := by
  refine ⟨fun i m σ H => m = xs.length - i ∧ i ≤ xs.length ∧ Pv i σ H, ⟨xs.length, by simp, Nat.zero_le _, h0⟩, ?_⟩
  rintro i m σ H ⟨rfl, hi, p⟩
  have q := hl i σ H hi p
  by_cases hlt : i < xs.length
  · refine .inr ⟨⟨xs, xs[i], q, by simp [hlt]⟩, Pv (i + 1), fun σ' H' p' => ⟨xs.length - (i + 1), by omega, rfl, hlt, p'⟩, fun x H' y => ?_⟩
    obtain ⟨e, y⟩ := y
    subst e
    exact hs i x σ _ (y xs q) p
  · have e : i = xs.length := by omega
    subst e
    exact .inl ⟨⟨xs, q, Nat.le_refl _⟩, hd σ H p⟩
theorem for_range {lo : Int} {n : Nat} {g : TG} {tb : TS} {D : Ends} {σ : St} {H : Hp} (Pv : Nat → St → Hp → Prop) (h0 : Pv 0 σ H)
    (hs : ∀ i σ H, i < n → Pv i σ H → g (.int (lo + i)) σ H fun σ2 H2 => tb { D with nx := Pv (i + 1), ct := Pv (i + 1), bk := D.nx } σ2 H2) (hd : ∀ σ H, Pv n σ H → D.nx σ H) :
    ∃ W : Nat → Nat → St → Hp → Prop, (∃ m, W 0 m σ H) ∧ ∀ i m σ H, W i m σ H →
      ((Itr lo n).stop i H ∧ D.nx σ H) ∨ ((Itr lo n).go i H ∧ ∃ N : St → Hp → Prop, (∀ σ' H', N σ' H' → ∃ m', m' < m ∧ W (i + 1) m' σ' H') ∧ ∀ x H', (Itr lo n).yld i H x H' → g x σ H' fun σ2 H2 => tb { D with nx := N, ct := N, bk := D.nx } σ2 H2) := by
  refine ⟨fun i m σ H => m = n - i ∧ i ≤ n ∧ Pv i σ H, ⟨n, by simp, Nat.zero_le _, h0⟩, ?_⟩
  rintro i m σ H ⟨rfl, hi, p⟩
  by_cases hlt : i < n
  · refine .inr ⟨hlt, Pv (i + 1), fun σ' H' p' => ⟨n - (i + 1), by omega, rfl, hlt, p'⟩, fun x H' y => ?_⟩
    obtain ⟨e, y⟩ := y
    subst e y
    exact hs i σ _ hlt p
  · have e : i = n := by omega
    subst e
    exact .inl ⟨Nat.le_refl _, hd σ H p⟩
end L2

namespace L2
open PySem PySem.Spec PyProof.Rows

abbrev R2 := V → V → Hp → VK → Prop
/-- a two-place operation on values: f is binaryOp op, inplaceOp op or compareOp op -/
def OpR (X : Cx) (f : Value → Value → Sem Value) (r : R2) : Prop :=
  ∀ (pins : List (Addr × Obj)) (s : Shared) (σ : St) (H : Hp) (x y : V) (v u : Value) (Q : VK), Inv X pins σ H s → RelV x v → RelV y u → r x y H Q →
    wpAny (model X.prog X.w) X.A (f v u) (EP X pins σ Q) X.xe s
/-- a one-place operation -/
def UnR (X : Cx) (f : Value → Sem Value) (r : V → Hp → VK → Prop) : Prop :=
  ∀ (pins : List (Addr × Obj)) (s : Shared) (σ : St) (H : Hp) (x : V) (v : Value) (Q : VK), Inv X pins σ H s → RelV x v → r x H Q →
    wpAny (model X.prog X.w) X.A (f v) (EP X pins σ Q) X.xe s
/-- a call of a value that is known (a builtin, a type) with values -/
def CallR (X : Cx) (f : Value) (r : List V → Hp → VK → Prop) : Prop :=
  ∀ (pins : List (Addr × Obj)) (s : Shared) (σ : St) (H : Hp) (xs : List V) (us : List Value) (Q : VK), Inv X pins σ H s → Vals xs us → r xs H Q →
    wpAny (model X.prog X.w) X.A (call f us) (EP X pins σ Q) X.xe s
def tOp (r : R2) (ta tb : TE) : TE := fun σ H Q => ta σ H fun x H1 => tb σ H1 fun y H2 => r x y H2 Q
def tUn (r : V → Hp → VK → Prop) (ta : TE) : TE := fun σ H Q => ta σ H fun x H1 => r x H1 Q
/-- ints in, under C, and a value out -/
def rI (C : Int → Int → Prop) (g : Int → Int → V) : R2 := fun x y H Q => ∃ i j, x = .int i ∧ y = .int j ∧ C i j ∧ Q (g i j) H
def rI0 (g : Int → Int → V) : R2 := fun x y H Q => ∃ i j, x = .int i ∧ y = .int j ∧ Q (g i j) H
def rU (g : Int → V) : V → Hp → VK → Prop := fun x H Q => ∃ i, x = .int i ∧ Q (g i) H

section
variable {X : Cx} {a b c : Expr} {ta tb tc : TE} {pos : Pos}

theorem binT (ha : PE X a ta) (hb : PE X b tb) {pins : List (Addr × Obj)} {s : Shared} {σ : St} {H : Hp} {R : V → V → Hp → Prop} (I : Inv X pins σ H s)
    (h : ta σ H fun x H1 => tb σ H1 fun y H2 => R x y H2) {Q : Value → Shared → Prop} {f : Value → Value → Sem Value}
    (hf : ∀ v u s2 x y H2, Inv X pins σ H2 s2 → RelV x v → RelV y u → R x y H2 → wpAny (model X.prog X.w) X.A (f v u) Q X.xe s2) :
    wpAny (model X.prog X.w) X.A (eval a X.env) (fun v s₁ => wpAny (model X.prog X.w) X.A (eval b X.env) (fun u s₂ => wpAny (model X.prog X.w) X.A (f v u) Q X.xe s₂) X.xe s₁) X.xe s := by
  refine thn (ha pins s σ H _ I h) fun v s1 ⟨x, H1, I1, r1, q1⟩ => ?_
  refine thn (hb pins s1 σ H1 _ I1 q1) fun u s2 ⟨y, H2, I2, r2, q2⟩ => ?_
  exact hf v u s2 x y H2 I2 r1 r2 q2

theorem pe_op {op : Operator} {r : R2} (ho : OpR X (binaryOp op) r) (ha : PE X a ta) (hb : PE X b tb) : PE X (.BinOp a op b pos) (tOp r ta tb) := by
  intro pins s σ H Q I h
  exact wpAny_BinOp (binT ha hb I h fun v u s2 x y H2 I2 rx ry q => ho pins s2 σ H2 x y v u Q I2 rx ry q)
theorem pe_un {op : UnaryOp} {r : V → Hp → VK → Prop} (ho : UnR X (unaryOp op) r) (ha : PE X a ta) : PE X (.UnaryOp op a pos) (tUn r ta) := by
  intro pins s σ H Q I h
  exact UnaryOp_ (thn (ha pins s σ H _ I h) fun v s1 ⟨x, H1, I1, r1, q1⟩ => ho pins s1 σ H1 x v Q I1 r1 q1)
/-! ### ints -/
theorem opI {f : Value → Value → Sem Value} {C : Int → Int → Prop} {g : Int → Int → Int}
    (rule : ∀ (i j : Int) (t u : Tok) (s : Shared) (Q : Value → Shared → Prop) (E : Value → Shared → Prop), C i j → Q (.int (g i j) s.toks) { s with toks := s.toks + 1 } → wpAny (model X.prog X.w) X.A (f (.int i t) (.int j u)) Q E s) :
    OpR X f (rI C fun i j => .int (g i j)) := by
  intro pins s σ H x y v u Q I rx ry h
  obtain ⟨i, j, rfl, rfl, hc, q⟩ := h
  obtain ⟨t, rfl⟩ := rx
  obtain ⟨t', rfl⟩ := ry
  exact rule i j t t' s _ _ hc ⟨.int (g i j), H, I.tok _, ⟨_, rfl⟩, q⟩
theorem opI0 {f : Value → Value → Sem Value} {g : Int → Int → Int}
    (rule : ∀ (i j : Int) (t u : Tok) (s : Shared) (Q : Value → Shared → Prop) (E : Value → Shared → Prop), Q (.int (g i j) s.toks) { s with toks := s.toks + 1 } → wpAny (model X.prog X.w) X.A (f (.int i t) (.int j u)) Q E s) :
    OpR X f (rI0 fun i j => .int (g i j)) := by
  intro pins s σ H x y v u Q I rx ry h
  obtain ⟨i, j, rfl, rfl, q⟩ := h
  obtain ⟨t, rfl⟩ := rx
  obtain ⟨t', rfl⟩ := ry
  exact rule i j t t' s _ _ ⟨.int (g i j), H, I.tok _, ⟨_, rfl⟩, q⟩
theorem opB0 {f : Value → Value → Sem Value} {g : Int → Int → Bool}
    (rule : ∀ (i j : Int) (t u : Tok) (s : Shared) (Q : Value → Shared → Prop) (E : Value → Shared → Prop), Q (.bool (g i j)) s → wpAny (model X.prog X.w) X.A (f (.int i t) (.int j u)) Q E s) :
    OpR X f (rI0 fun i j => .bl (g i j)) := by
  intro pins s σ H x y v u Q I rx ry h
  obtain ⟨i, j, rfl, rfl, q⟩ := h
  obtain ⟨t, rfl⟩ := rx
  obtain ⟨t', rfl⟩ := ry
  exact rule i j t t' s _ _ ⟨.bl (g i j), H, I, rfl, q⟩

def CDiv (i j : Int) : Prop := 0 < j ∧ j < 1073741824
def CPow (i j : Int) : Prop := 0 ≤ j ∧ j ≤ 1000000 ∧ i.natAbs < 2 ^ 64
def CMul (i j : Int) : Prop := (-(2 ^ 64) < i ∧ i < 2 ^ 64) ∨ (-(2 ^ 64) < j ∧ j < 2 ^ 64)
theorem CMul.ok {i j : Int} (h : CMul i j) : IntMulOk i j := by
  rcases h with ⟨h1, h2⟩ | ⟨h1, h2⟩
  · exact .of_left (intBits_le_64 h1 h2)
  · exact .of_right (intBits_le_64 h1 h2)
theorem op_add : OpR X (binaryOp .Add) (rI0 fun i j => .int (i + j)) := opI0 fun _ _ _ _ _ _ _ q => add_int q
theorem op_sub : OpR X (binaryOp .Sub) (rI0 fun i j => .int (i - j)) := opI0 fun _ _ _ _ _ _ _ q => sub_int q
theorem op_mul : OpR X (binaryOp .Mult) (rI CMul fun i j => .int (i * j)) := opI fun _ _ _ _ _ _ _ hc q => mul_int q hc.ok
/-- // by a positive divisor -/
theorem op_fdiv : OpR X (binaryOp .FloorDiv) (rI CDiv fun i j => .int (i / j)) := opI fun i j _ _ _ _ _ hc q => by
  have h1 : (0 : Int) < j := hc.1
  have h2 : j < 1073741824 := hc.2
  exact floordiv_int (by omega) (by rw [Int.fdiv_eq_ediv_of_nonneg i (by omega)]; exact q) (.inl (PyProof.noPylong_small (by omega)))
/-- % by a positive divisor of any size -/
theorem op_mod : OpR X (binaryOp .Mod) (rI (fun _ j => 0 < j) fun i j => .int (i % j)) := opI fun i j _ _ _ _ _ hc q => by
  have h1 : (0 : Int) < j := hc
  exact mod_int' (by omega) (by rw [Int.fmod_eq_emod_of_nonneg i (by omega)]; exact q)
theorem op_pow : OpR X (binaryOp .Pow) (rI CPow fun i j => .int (i ^ j.toNat)) := opI fun _ _ _ _ _ _ _ hc q => pow_int_small hc.1 hc.2.1 hc.2.2 q
theorem unI {f : Value → Sem Value} {g : Int → Int}
    (rule : ∀ (i : Int) (t : Tok) (s : Shared) (Q : Value → Shared → Prop) (E : Value → Shared → Prop), Q (.int (g i) s.toks) { s with toks := s.toks + 1 } → wpAny (model X.prog X.w) X.A (f (.int i t)) Q E s) :
    UnR X f (rU fun i => .int (g i)) := by
  intro pins s σ H x v Q I rx h
  obtain ⟨i, rfl, q⟩ := h
  obtain ⟨t, rfl⟩ := rx
  exact rule i t s _ _ ⟨.int (g i), H, I.tok _, ⟨_, rfl⟩, q⟩
theorem un_neg : UnR X (unaryOp .USub) (rU fun i => .int (-i)) := unI fun _ _ _ _ _ q => neg_int q
/-! ### bools among ints: n += (a < b) -/
end

/-! ### comparisons -/
/-- the scalars that == tells apart as data does -/
def scal : V → V → Bool
  | .non, .non => true | .non, .int _ => true | .int _, .non => true | .non, .bl _ => true | .bl _, .non => true | .non, .str _ => true | .str _, .non => true
  | .int _, .int _ => true | .bl _, .bl _ => true | .str _, .str _ => true | .byt _, .byt _ => true
  | .int _, .str _ => true | .str _, .int _ => true | .bl _, .str _ => true | .str _, .bl _ => true
  | _, _ => false
def rEq : R2 := fun x y H Q => scal x y = true ∧ Q (.bl (decide (x = y))) H
def rNe : R2 := fun x y H Q => scal x y = true ∧ Q (.bl (!decide (x = y))) H

theorem dec_int {i j : Int} : decide (V.int i = V.int j) = (i == j) := by
  rw [Bool.eq_iff_iff]
  simp
theorem dec_bl {i j : Bool} : decide (V.bl i = V.bl j) = (i == j) := by
  rw [Bool.eq_iff_iff]
  simp
theorem dec_str {i j : Str} : decide (V.str i = V.str j) = (i == j) := by
  rw [Bool.eq_iff_iff]
  simp
theorem dec_byt {i j : Array UInt8} : decide (V.byt i = V.byt j) = (i.toList == j.toList) := by
  rw [Bool.eq_iff_iff]
  cases i
  cases j
  simp

section
variable {X : Cx} {a b c : Expr} {ta tb tc : TE} {pos : Pos}
theorem fin_bl {pins : List (Addr × Obj)} {σ : St} {H : Hp} {s : Shared} {Q : VK} {k k' : Bool} (I : Inv X pins σ H s) (q : Q (.bl k) H) (e : k = k') : EP X pins σ Q (.bool k') s := by
  subst e
  exact ⟨.bl k, H, I, rfl, q⟩
theorem op_eq : OpR X (compareOp .Eq) rEq := by
  intro pins s σ H x y v u Q I rx ry h
  obtain ⟨hs, q⟩ := h
  cases x with
  | non =>
    cases rx
    cases y with
    | non => cases ry; exact PySem.EqNone.eq_none_none (fin_bl I q (by simp))
    | bl j => cases ry; exact PySem.EqNone.eq_none_bool (fin_bl I q (by simp))
    | int j => obtain ⟨t', rfl⟩ := ry; exact PySem.EqNone.eq_none_int (fin_bl I q (by simp))
    | str j => obtain ⟨t', rfl⟩ := ry; exact PySem.EqNone.eq_none_str (fin_bl I q (by simp))
    | _ => exact absurd (show false = true from hs) Bool.false_ne_true
  | bl i =>
    cases rx
    cases y with
    | non => cases ry; exact PySem.EqNone.eq_bool_none (fin_bl I q (by simp))
    | bl j => cases ry; exact eq_bool (fin_bl I q dec_bl)
    | str j => obtain ⟨t', rfl⟩ := ry; exact PySem.EqMixed.eq_bool_str (fin_bl I q (by simp))
    | _ => exact absurd (show false = true from hs) Bool.false_ne_true
  | int i =>
    obtain ⟨t, rfl⟩ := rx
    cases y with
    | non => cases ry; exact PySem.EqNone.eq_int_none (fin_bl I q (by simp))
    | int j => obtain ⟨t', rfl⟩ := ry; exact eq_int (fin_bl I q dec_int)
    | str j => obtain ⟨t', rfl⟩ := ry; exact PySem.EqMixed.eq_int_str (fin_bl I q (by simp))
    | _ => exact absurd (show false = true from hs) Bool.false_ne_true
  | str i =>
    obtain ⟨t, rfl⟩ := rx
    cases y with
    | non => cases ry; exact PySem.EqNone.eq_str_none (fin_bl I q (by simp))
    | bl j => cases ry; exact PySem.EqMixed.eq_str_bool (fin_bl I q (by simp))
    | int j => obtain ⟨t', rfl⟩ := ry; exact PySem.EqMixed.eq_str_int (fin_bl I q (by simp))
    | str j => obtain ⟨t', rfl⟩ := ry; exact eq_str (fin_bl I q dec_str)
    | _ => exact absurd (show false = true from hs) Bool.false_ne_true
  | byt i =>
    obtain ⟨t, rfl⟩ := rx
    cases y with
    | byt j => obtain ⟨t', rfl⟩ := ry; exact PySem.W.eq_bytes (fin_bl I q dec_byt)
    | _ => exact absurd (show false = true from hs) Bool.false_ne_true
  | _ => cases y <;> exact absurd (show false = true from hs) Bool.false_ne_true
theorem op_ne : OpR X (compareOp .NotEq) rNe := by
  intro pins s σ H x y v u Q I rx ry h
  obtain ⟨hs, q⟩ := h
  cases x with
  | non =>
    cases rx
    cases y with
    | non => cases ry; exact PySem.EqNone.ne_none_none (fin_bl I q (by simp))
    | bl j => cases ry; exact PySem.EqNone.ne_none_bool (fin_bl I q (by simp))
    | int j => obtain ⟨t', rfl⟩ := ry; exact PySem.EqNone.ne_none_int (fin_bl I q (by simp))
    | str j => obtain ⟨t', rfl⟩ := ry; exact PySem.EqNone.ne_none_str (fin_bl I q (by simp))
    | _ => exact absurd (show false = true from hs) Bool.false_ne_true
  | bl i =>
    cases rx
    cases y with
    | non => cases ry; exact PySem.EqNone.ne_bool_none (fin_bl I q (by simp))
    | bl j => cases ry; exact ne_bool (fin_bl I q (congrArg not dec_bl))
    | str j => obtain ⟨t', rfl⟩ := ry; exact PySem.EqMixed.ne_bool_str (fin_bl I q (by simp))
    | _ => exact absurd (show false = true from hs) Bool.false_ne_true
  | int i =>
    obtain ⟨t, rfl⟩ := rx
    cases y with
    | non => cases ry; exact PySem.EqNone.ne_int_none (fin_bl I q (by simp))
    | int j => obtain ⟨t', rfl⟩ := ry; exact ne_int (fin_bl I q (congrArg not dec_int))
    | str j => obtain ⟨t', rfl⟩ := ry; exact PySem.EqMixed.ne_int_str (fin_bl I q (by simp))
    | _ => exact absurd (show false = true from hs) Bool.false_ne_true
  | str i =>
    obtain ⟨t, rfl⟩ := rx
    cases y with
    | non => cases ry; exact PySem.EqNone.ne_str_none (fin_bl I q (by simp))
    | bl j => cases ry; exact PySem.EqMixed.ne_str_bool (fin_bl I q (by simp))
    | int j => obtain ⟨t', rfl⟩ := ry; exact PySem.EqMixed.ne_str_int (fin_bl I q (by simp))
    | str j => obtain ⟨t', rfl⟩ := ry; exact ne_str (fin_bl I q (congrArg not dec_str))
    | _ => exact absurd (show false = true from hs) Bool.false_ne_true
  | byt i =>
    obtain ⟨t, rfl⟩ := rx
    cases y with
    | byt j => obtain ⟨t', rfl⟩ := ry; exact PySem.W.ne_bytes (fin_bl I q (congrArg not dec_byt))
    | _ => exact absurd (show false = true from hs) Bool.false_ne_true
  | _ => cases y <;> exact absurd (show false = true from hs) Bool.false_ne_true

theorem op_lt : OpR X (compareOp .Lt) (rI0 fun i j => .bl (decide (i < j))) := opB0 fun _ _ _ _ _ _ _ q => lt_int q
theorem op_le : OpR X (compareOp .LtE) (rI0 fun i j => .bl (decide (i ≤ j))) := opB0 fun _ _ _ _ _ _ _ q => le_int q
theorem op_gt : OpR X (compareOp .Gt) (rI0 fun i j => .bl (decide (j < i))) := opB0 fun _ _ _ _ _ _ _ q => gt_int q
theorem op_ge : OpR X (compareOp .GtE) (rI0 fun i j => .bl (decide (j ≤ i))) := opB0 fun _ _ _ _ _ _ _ q => ge_int q
theorem op_notN : OpR X (compareOp .IsNot) (fun x y H Q => y = .non ∧ Q (.bl (!decide (x = .non))) H) := by
  intro pins s σ H x y v u Q I rx ry h
  obtain ⟨rfl, q⟩ := h
  cases ry
  refine isnot_none_gen (fin_bl I q ?_)
  cases x <;> first
    | (cases rx; rfl)
    | (obtain ⟨t, rfl⟩ := rx; rfl)

theorem nomark (b : Expr) {op : CmpOp} (h : op ≠ .In := by decide) (h2 : op ≠ .NotIn := by decide) : behindInMarks op b = false := by
  have e1 : (op == CmpOp.In) = false := by cases op <;> first | rfl | exact absurd rfl h
  have e2 : (op == CmpOp.NotIn) = false := by cases op <;> first | rfl | exact absurd rfl h2
  cases b <;> simp [behindInMarks, e1, e2]
/-- a comparison as a value; hm: nomark b, or (for in, not in) by with_unfolding_all rfl -/
theorem pe_cmpR {op : CmpOp} {r : R2} (ho : OpR X (compareOp op) r) (ha : PE X a ta) (hb : PE X b tb) (hm : behindInMarks op b = false) : PE X (.Compare a [op] [b] pos) (tOp r ta tb) := by
  intro pins s σ H Q I h
  exact wpAny_Compare1 (binT ha hb I h fun v u s2 x y H2 I2 rx ry q => ho pins s2 σ H2 x y v u Q I2 rx ry q) hm
/-- a reading of a value as a test -/
def tTest (t : TE) : TT := fun σ H Q => t σ H fun x H' => ∃ k, x = .bl k ∧ Q k H'
theorem pt_cmpR {op : CmpOp} {r : R2} (ho : OpR X (compareOp op) r) (ha : PE X a ta) (hb : PE X b tb) (hm : behindInMarks op b = false) : PT X (.Compare a [op] [b] pos) (tTest (tOp r ta tb)) := by
  intro pins s σ H Q I h
  refine wpAny_isTrue_Compare1 (thn (ha pins s σ H _ I h) fun v s1 ⟨x, H1, I1, r1, q1⟩ => thn (hb pins s1 σ H1 _ I1 q1) fun u s2 ⟨y, H2, I2, r2, q2⟩ =>
    thn (ho pins s2 σ H2 x y v u _ I2 r1 r2 q2) fun c s3 ⟨z, H3, I3, r3, k, e, q3⟩ => ?_) hm
  subst e
  cases r3
  exact wpAny_truthy_bool ⟨H3, I3, q3⟩
/-! ### truth -/
theorem line63 : (sizeLine : Nat) < 2 ^ 63 := by rw [sizeLine_eq]; decide
/-! ### strs and bytes -/
/-! ### scalar builtins, by CallR -/
theorem vals1 {x : V} {us : List Value} (r : Vals [x] us) : ∃ u, us = [u] ∧ RelV x u := by
  cases r with
  | cons r1 r2 => cases r2; exact ⟨_, rfl, r1⟩
theorem vals2 {x y : V} {us : List Value} (r : Vals [x, y] us) : ∃ u w', us = [u, w'] ∧ RelV x u ∧ RelV y w' := by
  cases r with
  | cons r1 r2 =>
    cases r2 with
    | cons r3 r4 => cases r4; exact ⟨_, _, rfl, r1, r3⟩
theorem call_min2 (hc : X.calm = true) : CallR X (.builtin "min") (fun xs H Q => ∃ i j, xs = [.int i, .int j] ∧ Q (.int (if j < i then j else i)) H) := by
  intro pins s σ H xs us Q I r h
  obtain ⟨i, j, rfl, q⟩ := h
  obtain ⟨u, w', rfl, ⟨t, rfl⟩, ⟨t', rfl⟩⟩ := vals2 r
  refine min_two_ints (I.ok.hd hc) fun h' tk k => ⟨_, H, I.kept k, ?_, q⟩
  by_cases hj : j < i
  · rw [if_pos hj, if_pos hj]; exact ⟨_, rfl⟩
  · rw [if_neg hj, if_neg hj]; exact ⟨_, rfl⟩
end
end L2

namespace L2
open PySem PySem.Spec PyProof.Rows

/-! ### an instance, its attributes a map -/
section
variable {prog : Program} {w : World} {A : Around} {E : Value → Shared → Prop} {s : Shared} {K : PySem.W.Frag} {x dx C f : Addr} {mA : Str → Option Value} {name : Str} {v : Value}

end

/-! ### the attributes as a list of pairs -/
section
variable {P : Program} {w : World} {H H' : Hp} {h h' : Heap} {a C dx : Addr} {fs fs' : List (Str × V)}
end

/-! ### what of the text a class must have -/
section
variable {X : Cx} {pins : List (Addr × Obj)} {σ : St} {H : Hp} {s : Shared} {a C dx : Addr} {fs : List (Str × V)} {f : Str} {v : V} {A : Around} {E : Value → Shared → Prop}

end

/-! ### readings and rules -/
section
variable {X : Cx} {o e value : Expr} {f : Str} {pos pos' tpos : Pos} {ta tv : TE}
end

/-! ### isinstance -/
section
variable {X : Cx} {pins : List (Addr × Obj)} {σ : St} {H : Hp} {s : Shared} {A : Around} {E : Value → Shared → Prop} {Q : Value → Shared → Prop} {c : Value} {b : Bool}
end
end L2

namespace L2
open PySem PySem.Spec PyProof.Rows

/-! ### room -/
structure Room (k : Nat) (A : Around) : Prop where
  hd : A.handled = none
  dp : A.depth + 3 * k + 5 < recursionLimit
  un : A.units + 16 * k + 200 < cLine
theorem Room.mono {j k : Nat} {A : Around} (r : Room k A) (h : j ≤ k) : Room j A := ⟨r.hd, by have := r.dp; omega, by have := r.un; omega⟩
theorem Room.deeper {k : Nat} {A : Around} (r : Room (k + 1) A) (env : Env) : Room k (A.deeper env) :=
  ⟨r.hd, by have := r.dp; show A.depth + 1 + 3 * k + 5 < _; omega, by have := r.un; show A.units + 3 + 16 * k + 200 < _; omega⟩
theorem Room.depth {k : Nat} {A : Around} (r : Room k A) : A.depth < recursionLimit := by have := r.dp; omega
theorem Room.units {k : Nat} {A : Around} (r : Room k A) : A.units + 64 < cLine := by have := r.un; omega
/-! ### argument lists and displays -/
def tNil : TA := fun _ H Q => Q [] H
def tCons (ta : TE) (tr : TA) : TA := fun σ H Q => ta σ H fun x H1 => tr σ H1 fun xs H2 => Q (x :: xs) H2
section
variable {X : Cx} {e : Expr} {es : List Expr} {te : TE} {t : TA} {pos : Pos}
theorem pa_nil : PA X [] tNil := fun _ _ _ _ H Q I h => Calls.spliced_nil ⟨[], H, I, .nil, h⟩
theorem pa_cons (ha : PE X e te) (hr : PA X es t) (hs : starEach (e :: es) X.env = (false, eval e X.env) :: starEach es X.env := by rfl) : PA X (e :: es) (tCons te t) := by
  intro pos pins s σ H Q I h
  rw [hs]
  show wpAny _ _ (spliced ((false, eval e X.env) :: backTo pos (starEach es X.env))) _ _ s
  refine Calls.spliced_cons (thn (ha pins s σ H _ I h) fun u s1 ⟨x, H1, I1, r1, q1⟩ => ?_)
  exact thn (hr pos pins s1 σ H1 _ I1 q1) fun us s2 ⟨xs, H2, I2, r2, q2⟩ => ⟨x :: xs, H2, I2, .cons r1 r2, q2⟩

/-- a tuple, a list of written items -/
def tTup (t : TA) : TE := fun σ H Q => t σ H fun xs H1 => xs.length ≤ sizeLine ∧ ∀ p, H1 p = none → Q (.ref p) (upd H1 p (.tup xs))
def tLst (t : TA) : TE := fun σ H Q => t σ H fun xs H1 => xs.length ≤ sizeLine ∧ ∀ p, H1 p = none → Q (.ref p) (upd H1 p (.lst xs))
theorem pe_tup {x1} (h : PA X es t) : PE X (.Tuple es x1 pos) (tTup t) := by
  intro pins s σ H Q I hq
  refine wpAny_Tuple_spliced (thn (h pos pins s σ H _ I hq) fun us s1 ⟨xs, H1, I1, r, z, q⟩ => ⟨by rw [← r.length]; exact z, ?_⟩)
  have hf : H1 s1.heap.objs.size = none := I1.hok.fresh (Nat.le_refl _)
  refine ⟨.ref s1.heap.objs.size, upd H1 s1.heap.objs.size (.tup xs), I1.laid (t' := s1.toks) (fun b u e => Heap.get?_push_of_some _ e) (Nat.le_refl _) ?_, rfl, q _ hf⟩
  exact ⟨z, us, r, ⟨_, Heap.get?_push_size _ rfl, rfl, _, rfl⟩⟩
theorem pe_lst (h : PA X es t) : PE X (.List es pos) (tLst t) := by
  intro pins s σ H Q I hq
  refine wpAny_List_spliced (thn (h pos pins s σ H _ I hq) fun us s1 ⟨xs, H1, I1, r, z, q⟩ => ⟨by rw [← r.length]; exact z, ?_⟩)
  have hf : H1 s1.heap.objs.size = none := I1.hok.fresh (Nat.le_refl _)
  refine ⟨.ref s1.heap.objs.size, upd H1 s1.heap.objs.size (.lst xs), I1.laid (t' := s1.toks) (fun b u e => Heap.get?_push_of_some _ e) (Nat.le_refl _) ?_, rfl, q _ hf⟩
  exact ⟨z, us, 0, r, Heap.get?_push_size _ rfl⟩
end

/-! ### what a def promises -/
/-- a def's promise: the bound arguments in the parameters' order, the heap, the wanted end, the wanted exception -/
abbrev Sp := List V → Hp → VK → XK → Prop
/-- how an exception lies behind a call (file 08 gives it): the callers' frames, abstract heap and state ahead of the call, the wish, the exception, the state -/
abbrev CXT := List Env → Hp → Shared → XK → Value → Shared → Prop

/-- the state at a call -/
structure Env0 (P : Program) (w : World) (K : PySem.W.Frag) (mg : Str → Option Value) (base : Heap) (A : Around) (outer : List Env) (s : Shared) (H : Hp) : Prop where
  frames : A.frames = some outer
  mod : Mod K mg base
  bs : ∀ b o, base.get? b = some o → s.heap.get? b = some o ∧ H b = none
  bsz : base.objs.size ≤ s.heap.objs.size
  funs : s.heap.FunFrames base outer
  frf : ∀ b ∈ frs outer, H b = none
  hok : HOk P w H s.heap
  bare : AllBare s.gens
/-- a call's end -/
def CE (outer : List Env) (P : Program) (w : World) (H : Hp) (s : Shared) (Q : VK) (u : Value) (s' : Shared) : Prop :=
  ∃ v H', s'.os = s.os ∧ AllBare s'.gens ∧ Un (frs outer) [] H H' s.heap s'.heap ∧ HOk P w H' s'.heap ∧ RelV v u ∧ Q v H'
def CR (CX : CXT) (outer : List Env) (P : Program) (w : World) (H : Hp) (s : Shared) (Q : VK) (E : XK) (r : Result) (s' : Shared) : Prop :=
  match r with
  | .ok (.ret u) => CE outer P w H s Q u s'
  | .ok _ => False
  | .error e => CX outer H s E e s'
structure FnOk (P : Program) (w : World) (K : PySem.W.Frag) (mg : Str → Option Value) (base : Heap) (CX : CXT) (k : Nat) (f : Addr) (fd : FuncData) (ps : List Str) (sp : Sp) : Prop where
  len : ∀ vs H Q E, sp vs H Q E → vs.length = ps.length
  run : ∀ (A : Around) (outer : List Env) (s : Shared) (H : Hp) (args : Args) (us : List Value) (vs : List V) (Q : VK) (E : XK), Room k A → Env0 P w K mg base A outer s H → BindsTo s fd args (ps.zip us) → Vals vs us → sp vs H Q E →
    codeAny (model P w) A (.call (.ref f) args) (CR CX outer P w H s Q E) s
theorem FnOk.mono {P : Program} {w : World} {K : PySem.W.Frag} {mg : Str → Option Value} {base : Heap} {CX : CXT} {j k : Nat} {f : Addr} {fd : FuncData} {ps : List Str} {sp : Sp} (F : FnOk P w K mg base CX j f fd ps sp) (h : j ≤ k) :
    FnOk P w K mg base CX k f fd ps sp := ⟨F.len, fun A outer s H args us vs Q E hr => F.run A outer s H args us vs Q E (hr.mono h)⟩
section
variable {X : Cx} {pins : List (Addr × Obj)} {σ : St} {H : Hp} {s s' : Shared}
/-- from a body: what a callee wants -/
theorem Inv.env0 (I : Inv X pins σ H s) : Env0 X.prog X.w X.K X.mg X.base X.A X.stack s H :=
  ⟨I.ok.frames, I.ok.mod, I.bs, Nat.le_trans I.ok.bsz I.sz, I.stack, I.stkFree, I.hok, I.bare⟩
/-- behind a call -/
theorem Inv.after {Q : VK} {u : Value} (I : Inv X pins σ H s) (h : CE X.stack X.prog X.w H s Q u s') : EP X pins σ Q u s' := by
  obtain ⟨v, H', os, bare, un, hok, r, q⟩ := h
  obtain ⟨hh, g, d, t, os'⟩ := s'
  obtain rfl : os' = s.os := os
  exact ⟨v, H', I.call (h' := hh) (g' := g) (d' := d) (t' := t) (ch := []) un hok bare (fun b z => absurd z (by simp)), r, q⟩
end

/-! ### calls -/
/-- f(..): the written arguments, then the defaults dvs; E: what is wanted of an exception -/
def tCall (sp : Sp) (dvs : List V) (E : XK) (t : TA) : TE := fun σ H Q => t σ H fun vs H1 => sp (vs ++ dvs) H1 Q E
/-- how the parameters are bound: us the positional arguments, kw the keywords' values by name, ds the defaults that fill up -/
def Binds (K : PySem.W.Frag) (fd : FuncData) (ps : List Str) (ds : List Value) : Prop :=
  ∀ (s : Shared) (us : List Value), K.In s.heap → (us ++ ds).length = ps.length → BindsTo s fd ⟨us, []⟩ (ps.zip (us ++ ds))
/-- every parameter is given -/
theorem Binds.all {K : PySem.W.Frag} {fd : FuncData} {ps : List Str} (h : ∀ us : List Value, us.length = ps.length → bindArgs fd ⟨us, []⟩ = pure (ps.zip us)) : Binds K fd ps [] := fun s us _ hl => by
  rw [List.append_nil] at hl ⊢
  exact .of_eq (h us hl)

/-- an exception of a callee reaches what this body wants of exceptions -/
def Passes (CX : CXT) (X : Cx) (E : XK) : Prop := ∀ (pins : List (Addr × Obj)) (σ : St) (H : Hp) (s : Shared) (e : Value) (s' : Shared), Inv X pins σ H s → CX X.stack H s E e s' → X.xe e s'

section
variable {X : Cx} {CX : CXT} {k : Nat} {f C : Addr} {fd : FuncData} {ps : List Str} {sp : Sp} {dvs : List V} {ds : List Value} {E : XK} {x m : Str} {p pos apos : Pos} {e o : Expr} {es : List Expr} {ta : TE} {t : TA}

/-- the callee runs -/
theorem run_fn {pins : List (Addr × Obj)} {σ : St} {H : Hp} {s : Shared} {Q : VK} {us : List Value} {vs : List V} (F : FnOk X.prog X.w X.K X.mg X.base CX k f fd ps sp) (hr : Room k X.A) (hb : Binds X.K fd ps ds) (hd : Vals dvs ds) (hx : Passes CX X E)
    (I : Inv X pins σ H s) (r : Vals vs us) (h : sp (vs ++ dvs) H Q E) : wpAny (model X.prog X.w) X.A (call (.ref f) us) (EP X pins σ Q) X.xe s := by
  have r2 : Vals (vs ++ dvs) (us ++ ds) := r.append hd
  have hl : (us ++ ds).length = ps.length := by rw [← r2.length]; exact F.len _ _ _ _ h
  refine wpAny_call (codeAny_mono (F.run X.A X.stack s H ⟨us, []⟩ (us ++ ds) (vs ++ dvs) Q E hr I.env0 (hb s us I.kIn hl) r2 h) fun r s' hq => ?_)
  cases r with
  | error e => exact hx pins σ H s e s' I hq
  | ok fl =>
    cases fl with
    | ret u => exact I.after hq
    | next => exact False.elim hq
    | brk => exact False.elim hq
    | cont => exact False.elim hq

theorem pe_call (F : FnOk X.prog X.w X.K X.mg X.base CX k f fd ps sp) (hr : Room k X.A) (hg : Gl X x) (hm : X.mg x = some (.ref f)) (hk : PySem.W.keepIn X.K (.ref f) = true) (hb : Binds X.K fd ps ds) (hd : Vals dvs ds) (hx : Passes CX X E)
    (ha : PA X (e :: es) t) (hdb : (x == ("__debug__" : Str)) = false := by decide) (he : starEach (e :: es) X.env = (false, eval e X.env) :: starEach es X.env := by rfl) (hpl : (backTo pos (starEach es X.env)).any (·.1) = false := by rfl) :
    PE X (.Call (.Name x p) (e :: es) [] pos) (tCall sp dvs E t) := by
  intro pins s σ H Q I h
  refine wpAny_Call_Name_kw (ld_glob I hg hm ?_ hdb)
  refine PySem.W.callWith_K (h₀ := X.base) I.ok.mod.kin hk (thn (ha pos pins s σ H _ I h) fun us s1 ⟨vs, H1, I1, r, q⟩ => ⟨I1.kIn, ?_⟩) he hpl
  exact run_fn F hr hb hd hx I1 r q
end

/-! ### keywords -/
section
variable {X : Cx} {CX : CXT} {k : Nat} {f C : Addr} {fd : FuncData} {ps ks : List Str} {sp : Sp} {E : XK} {x m : Str} {p pos apos kpos : Pos} {e o : Expr} {es : List Expr} {kws : List Keyword} {te ta : TE} {t tk : TA} {nm : Option Str}
variable {g : List Value → List Value → List Value} {gV : List V → List V → List V}
end

/-! ### a def's body keeps its promise -/
/-- names: the parameters first -/
structure FnScope (N P : List Str) (sc : Scope) : Prop where
  kind : sc.kind = .function
  co : sc.isCoroutine = false
  gen : sc.isGenerator = false
  nd : N.Nodup
  pre : N.take P.length = P
  par : ∀ x ∈ P, sc.names.lookup x = some .local ∨ sc.names.lookup x = some .cell
  nofree : ∀ y ∈ sc.names, y.2 ≠ .free

theorem bindL_out {kindOf : Str → Option NameKind} {x : Str} : ∀ {binds : List (Str × Value)} {m : Str → Option Value}, (∀ v, (x, v) ∉ binds) → bindL kindOf binds m x = m x
  | [], _, _ => rfl
  | (n, v) :: r, m, h => by
    unfold bindL
    rw [bindL_out fun w hw => h w (List.mem_cons_of_mem _ hw)]
    split
    · have : x ≠ n := by rintro rfl; exact h v List.mem_cons_self
      simp [this]
    · rfl
theorem bindC_out {kindOf : Str → Option NameKind} {x : Str} : ∀ {binds : List (Str × Value)} {m : Str → Option Value}, (∀ v, (x, v) ∉ binds) → bindC kindOf binds m x = m x
  | [], _, _ => rfl
  | (n, v) :: r, m, h => by
    unfold bindC
    rw [bindC_out fun w hw => h w (List.mem_cons_of_mem _ hw)]
    split
    · rfl
    · have : x ≠ n := by rintro rfl; exact h v List.mem_cons_self
      simp [this]
theorem bindL_get {kindOf : Str → Option NameKind} {x : Str} {v : Value} : ∀ {P : List Str} {vs : List Value} {i : Nat} {m : Str → Option Value}, P.Nodup → P[i]? = some x → vs[i]? = some v → kindOf x = some .local →
    bindL kindOf (P.zip vs) m x = some v
  | [], _, _, _, _, h, _, _ => by simp at h
  | _ :: _, [], _, _, _, _, h, _ => by simp at h
  | p :: P, w :: vs, 0, m, nd, h1, h2, hk => by
    simp at h1 h2; subst h1; subst h2
    show bindL kindOf ((p, w) :: P.zip vs) m p = _
    unfold bindL
    rw [bindL_out fun v hv => (List.nodup_cons.mp nd).1 (List.of_mem_zip hv).1, if_pos hk]
    simp
  | p :: P, w :: vs, i + 1, m, nd, h1, h2, hk => by
    show bindL kindOf ((p, w) :: P.zip vs) m x = _
    unfold bindL
    exact bindL_get (i := i) (List.nodup_cons.mp nd).2 (by simpa using h1) (by simpa using h2) hk
theorem bindC_get {kindOf : Str → Option NameKind} {x : Str} {v : Value} : ∀ {P : List Str} {vs : List Value} {i : Nat} {m : Str → Option Value}, P.Nodup → P[i]? = some x → vs[i]? = some v → kindOf x ≠ some .local →
    bindC kindOf (P.zip vs) m x = some v
  | [], _, _, _, _, h, _, _ => by simp at h
  | _ :: _, [], _, _, _, _, h, _ => by simp at h
  | p :: P, w :: vs, 0, m, nd, h1, h2, hk => by
    simp at h1 h2; subst h1; subst h2
    show bindC kindOf ((p, w) :: P.zip vs) m p = _
    unfold bindC
    rw [bindC_out fun v hv => (List.nodup_cons.mp nd).1 (List.of_mem_zip hv).1, if_neg hk]
    simp
  | p :: P, w :: vs, i + 1, m, nd, h1, h2, hk => by
    show bindC kindOf ((p, w) :: P.zip vs) m x = _
    unfold bindC
    exact bindC_get (i := i) (List.nodup_cons.mp nd).2 (by simpa using h1) (by simpa using h2) hk

/-- the names' values at the entry -/
def start (N : List Str) (vs : List V) : St := vs.map some ++ List.replicate (N.length - vs.length) none

/-- the context of a def's body, at its entry; an exception leaves the frame, then lies as CX says -/
def cxOf (CX : CXT) (P : Program) (w : World) (K : PySem.W.Frag) (mg : Str → Option Value) (base : Heap) (N : List Str) (qual : Str) (scope : Scope) (f : Addr) (cd : Value) (A : Around) (outer : List Env) (s : Shared) (H : Hp) (E : XK) : Cx where
  prog := P
  w := w
  K := K
  mg := mg
  base := base
  A := A.deeper (envOfC qual scope s.heap.objs.size f cd)
  N := N
  s₀ := s
  H₀ := H
  env := envOfC qual scope s.heap.objs.size f cd
  outer := outer
  stack := envOfC qual scope s.heap.objs.size f cd :: outer
  ex := []
  calm := true
  fn := fun _ => true
  pn := []
  xe := fun e s' => wpAny (model P w) (A.deeper (envOfC qual scope s.heap.objs.size f cd)) (leaving (envOfC qual scope s.heap.objs.size f cd) e) (fun _ s'' => CX outer H s E e s'') (fun e' s'' => CX outer H s E e' s'') s'

theorem cell_has {sc : Scope} {n : Nat} {x : Str} (h : sc.names.lookup x = some .cell) : ∃ c, (cellsFrom n sc.names []).lookup x = some c := by
  have q := PySem.W.cellsFrom_some sc.names n [] (.inl h)
  exact Option.isSome_iff_exists.mp q

theorem inv_start {CX : CXT} {P : Program} {w : World} {K : PySem.W.Frag} {mg : Str → Option Value} {base : Heap} {N ps : List Str} {qual : Str} {scope : Scope} {f : Addr} {cd : Value} {A : Around} {outer : List Env} {s s1 : Shared} {H : Hp} {E : XK} {us : List Value} {vs : List V}
    (S : FnScope N ps scope) (hd : A.handled = none) (e0 : Env0 P w K mg base A outer s H) (hl : vs.length = ps.length) (r : Vals vs us)
    (x : InCallC s s.heap.objs.size (bindL (envOfC qual scope s.heap.objs.size f cd).kindOf (ps.zip us) fun _ => none) (cellsFrom (s.heap.objs.size + 1) scope.names []) (bindC (envOfC qual scope s.heap.objs.size f cd).kindOf (ps.zip us) fun _ => none) s1) :
    Inv (cxOf CX P w K mg base N qual scope f cd A outer s H E) [] (start N vs) H s1 := by
  have hpl : ps.length ≤ N.length := by have := congrArg List.length S.pre; rw [List.length_take] at this; omega
  obtain ⟨h1, tk, rfl, hk⟩ := x.done
  have noA : ∀ b : Addr, b ∉ (cxOf CX P w K mg base N qual scope f cd A outer s H E).ex := fun b z => absurd (show b ∈ ([] : List Addr) from z) (by simp)
  refine ⟨⟨e0.mod, S.kind, rfl, rfl, Nat.le_refl _, fun y z c h1 h2 => ?_, fun y hy => ?_, fun y c _ h => ?_, fun _ => hd, Around.frames_deeper e0.frames, .inr ⟨rfl, rfl⟩, fun b z => absurd z (noA b), e0.bs, e0.bsz, fun b _ _ => noA b, fun b z => absurd z (noA b), e0.funs, e0.frf⟩,
    rfl, e0.bare, Un.kept hk, ⟨_, x.toInCall.ns, fun i y v h1 h2 h3 => ?_⟩, fun y c h => ⟨_, x.cell y c h⟩, e0.hok.fresh (Nat.le_refl _), fun y c h => ?_, fun p hp => absurd (show p ∈ ([] : List (Addr × Obj)) from hp) (by simp), e0.hok.kept hk, ?_⟩
  · exact name_of_addr x.apart (PySem.mem_of_lookup h1) (PySem.mem_of_lookup h2)
  · have hy : scope.names.lookup y = some .cell ∨ scope.names.lookup y = some .free := hy
    rcases hy with hy | hy
    · exact cell_has hy
    · exact absurd rfl (S.nofree _ (PySem.mem_of_lookup hy))
  · exact Nat.le_of_lt (x.above y c (PySem.mem_of_lookup h))
  · have hi : i < vs.length := by
      unfold start at h2
      by_cases hi : i < vs.length
      · exact hi
      · rw [List.getElem?_append_right (by simpa using hi)] at h2
        rw [List.getElem?_replicate] at h2
        split at h2 <;> cases h2
    have ha : vs[i]? = some v := by
      unfold start at h2
      rw [List.getElem?_append_left (by simpa using hi), List.getElem?_map] at h2
      cases e : vs[i]? with
      | none => rw [e] at h2; cases h2
      | some a => rw [e] at h2; cases h2; rfl
    obtain ⟨u, hu, rv⟩ := r.get ha
    have hp : ps[i]? = some y := by
      rw [← S.pre, List.getElem?_take_of_lt (by omega)]; exact h1
    have ndP : ps.Nodup := by rw [← S.pre]; exact S.nd.sublist (List.take_sublist _ _)
    refine ⟨u, rv, ?_⟩
    rcases S.par y (List.mem_of_getElem? hp) with k | k
    · exact .inl ⟨k, bindL_get ndP hp hu k⟩
    · obtain ⟨c, e⟩ := cell_has (n := s.heap.objs.size + 1) k
      refine .inr ⟨.inl k, c, e, ?_⟩
      have q := x.cell y c e
      rw [bindC_get ndP hp hu (by show scope.names.lookup y ≠ _; rw [k]; decide)] at q
      exact q
  · exact e0.hok.fresh (Nat.le_of_lt (x.above y c (PySem.mem_of_lookup h)))
  · unfold start
    show _ = N.length
    rw [List.length_append, List.length_map, List.length_replicate]
    omega

/-- THE RULE: a def (or a method) of the text, by its body. The body's reading t is chosen for each entry; it is run at the parameters' values -/
theorem fn_of {CX : CXT} {P : Program} {w : World} {K : PySem.W.Frag} {mg : Str → Option Value} {base : Heap} {k : Nat} {f : Addr} {name qual : Str} {params : Arguments} {body : List Stmt} {scope : Scope} {dV kV doc pm cdv ct oc : Value} {an od : Option Addr}
    {osl : Array (Option Value)} {N ps : List Str} {sp : Sp} (lk : K.lookup f = some ⟨oc, od, .func (PySem.W.fnOf name qual params body scope dV kV doc pm an cdv ct), osl⟩) (hcd : PySem.W.codeIn K cdv qual = true) (S : FnScope N ps scope)
    (len : ∀ vs H Q E, sp vs H Q E → vs.length = ps.length)
    (hbody : ∀ (A : Around) (outer : List Env) (s : Shared) (H : Hp) (vs : List V) (Q : VK) (E : XK), Room k (A.deeper (envOfC qual scope s.heap.objs.size f cdv)) → sp vs H Q E →
      ∃ t, PSs (cxOf CX P w K mg base N qual scope f cdv A outer s H E) body t ∧ t { nx := fun _ H' => Q .non H', rt := Q } (start N vs) H) :
    FnOk P w K mg base CX (k + 1) f (PySem.W.fnOf name qual params body scope dV kV doc pm an cdv ct) ps sp := by
  refine ⟨len, fun A outer s H args us vs Q E hr e0 hb r hsp => ?_⟩
  have hl := len _ _ _ _ hsp
  have KX : K.In s.heap := e0.mod.kin.keeps fun b o e => (e0.bs b o e).1
  have lim : s.heap.NoLimit := e0.mod.nolimit.keeps fun b o e => (e0.bs b o e).1
  have hkind : ∀ y ∈ ps.zip us, scope.names.lookup y.1 = some .local ∨ (scope.names.lookup y.1 = some .cell ∧ ((cellsFrom (s.heap.objs.size + 1) scope.names []).lookup y.1).isSome = true) := fun ⟨n, v⟩ hy => by
    rcases S.par n (List.of_mem_zip hy).1 with q | q
    · exact .inl q
    · exact .inr ⟨q, PySem.W.cellsFrom_some _ _ _ (.inl q)⟩
  refine codeAny_call_function hr.depth (KX _ _ lk) rfl S.co S.gen rfl (PySem.W.codeRec_of KX hcd) (hb _ _ _ _ ?_)
  refine wpAny_newFunctionEnv_cells S.kind hkind fun env he s1 x => ?_
  subst he
  refine ⟨lim.keeps x.toInCall.keep, codeAny_func ?_⟩
  obtain ⟨t, ht, hq⟩ := hbody A outer s H vs Q E (hr.deeper _) hsp
  have I : Inv (cxOf CX P w K mg base N qual scope f cdv A outer s H E) [] (start N vs) H s1 := inv_start S hr.hd e0 hl r x
  refine wpAny_mono (ht [] s1 (start N vs) H _ I hq) (fun fl s' hs => ?_) fun e s' hs => hs
  have fin : ∀ {σ' : St} {H' : Hp} {v : V} {u : Value}, Inv (cxOf CX P w K mg base N qual scope f cdv A outer s H E) [] σ' H' s' → RelV v u → Q v H' → CE outer P w H s Q u s' :=
    fun {σ' H' v u} J rv q => ⟨v, H', J.os, J.bare, J.base, J.hok, rv, q⟩
  cases fl with
  | ret u =>
    obtain ⟨v, σ', H', J, rv, q⟩ := hs
    exact fin J rv q
  | next =>
    obtain ⟨σ', H', J, q⟩ := hs
    exact fin (v := V.non) (u := Value.none) J rfl q
  | brk =>
    obtain ⟨_, _, _, q⟩ := hs
    exact False.elim q
  | cont =>
    obtain ⟨_, _, _, q⟩ := hs
    exact False.elim q
end L2

namespace L2
open PySem PySem.Spec PyProof.Rows
section
variable {X : Cx} {x : Str} {p pos : Pos} {e : Expr} {es : List Expr} {t : TA} {id T : String} {r : List V → Hp → VK → Prop}

def tCB (r : List V → Hp → VK → Prop) (t : TA) : TE := fun σ H Q => t σ H fun vs H1 => r vs H1 Q
/-- f(e, ..), f a built-in function -/
theorem pe_callB (hc : CallR X (.builtin id) r) (hg : Gl X x) (hm : X.mg x = none) (hv : bootBuiltins x = some (.builtin id)) (ha : PA X (e :: es) t) (hn : x ≠ "__name__" := by decide) (hdb : (x == ("__debug__" : Str)) = false := by decide)
    (he : starEach (e :: es) X.env = (false, eval e X.env) :: starEach es X.env := by rfl) (hpl : (backTo pos (starEach es X.env)).any (·.1) = false := by rfl) : PE X (.Call (.Name x p) (e :: es) [] pos) (tCB r t) := by
  intro pins s σ H Q I h
  refine wpAny_Call_Name_kw (ld_blt I hg hm hv ?_ hn hdb)
  exact PyProof.Rows.callWith_builtin1 (thn (ha pos pins s σ H _ I h) fun us s1 ⟨vs, H1, I1, r1, q1⟩ => hc pins s1 σ H1 vs us Q I1 r1 q1) he hpl
/-- T(e, ..), T a built-in type -/
theorem pe_callTy (hc : CallR X (.type T) r) (hg : Gl X x) (hm : X.mg x = none) (hv : bootBuiltins x = some (.type T)) (ha : PA X (e :: es) t) (hn : x ≠ "__name__" := by decide) (hdb : (x == ("__debug__" : Str)) = false := by decide)
    (he : starEach (e :: es) X.env = (false, eval e X.env) :: starEach es X.env := by rfl) (hpl : (backTo pos (starEach es X.env)).any (·.1) = false := by rfl) : PE X (.Call (.Name x p) (e :: es) [] pos) (tCB r t) := by
  intro pins s σ H Q I h
  refine wpAny_Call_Name_kw (ld_blt I hg hm hv ?_ hn hdb)
  exact PyProof.Rows.callWith_type1 (thn (ha pos pins s σ H _ I h) fun us s1 ⟨vs, H1, I1, r1, q1⟩ => hc pins s1 σ H1 vs us Q I1 r1 q1) he hpl
end
end L2

namespace HT
open PySem PyProof.Rows

section
open PySem.SeqAt
open PySem.AutoSeq1 (wpAny_loadPart')
open PySem.MeetsSeq PySem.MeetsSeq2 PySem.MeetsSeq3

end

section
variable {prog : Program} {w : World} {A : Around} {E : Value → Shared → Prop} {s : Shared}

/-- t + u, t not empty -/
theorem cat_tup {t b : Addr} {vs ws : List Value} {Q : Value → Shared → Prop} (ht : IsTup s.heap t vs.toArray) (hb : IsTup s.heap b ws.toArray) (hv : vs ≠ [])
    (h1 : ws = [] → Q (.ref t) s) (h2 : ws ≠ [] → Q (.ref s.heap.objs.size) { s with heap := s.heap.push { cls := .type "tuple", data := .seq (vs ++ ws).toArray } })
    (hsz : vs.length + ws.length ≤ sizeLine) : wpAny (model prog w) A (binaryOp .Add (.ref t) (.ref b)) Q E s := by
  obtain ⟨⟨cls, dd, data, sl⟩, ho, hc, n, hd⟩ := id ht
  obtain ⟨⟨cls2, dd2, data2, sl2⟩, ho2, hc2, n2, hd2⟩ := id hb
  simp only at hc hd hc2 hd2
  subst hc hd hc2 hd2
  have e : vs.toArray ++ ws.toArray = (vs ++ ws).toArray := by simp
  by_cases hw : ws = []
  · exact concat_meets ⟨_, ho, rfl⟩ ⟨_, ho2, rfl⟩ noFill_tuple_add seq_tuple_add PySem.F.slot_tuple_add PySem.F.entry_tuple_add (PySem.F.args_tuple_add_2 _ _)
      (tuple_addW1 t b vs.toArray ws.toArray n n2 dd dd2 sl sl2 (by simpa using hv) (by simp [hw])) ⟨ho, ho2, h1 hw⟩
  · refine concat_meets ⟨_, ho, rfl⟩ ⟨_, ho2, rfl⟩ noFill_tuple_add seq_tuple_add PySem.F.slot_tuple_add PySem.F.entry_tuple_add (PySem.F.args_tuple_add_2 _ _)
      (tuple_addW2 t b vs.toArray ws.toArray n n2 dd dd2 sl sl2 (by simpa using hv) (by simpa using hw) (by rw [List.size_toArray, List.size_toArray]; exact hsz)) ⟨ho, ho2, ?_⟩
    rw [e]
    exact h2 hw

/-! ### t[a:b], not the whole -/
/-- a slice's bound as a place among n (d where it is left out) -/
def sIx (n d : Nat) : Option Int → Nat
  | none => d
  | some v => if v < 0 then (v + (n : Int)).toNat else min v.toNat n
theorem sIx_none (n d : Nat) : sIx n d none = d := rfl
theorem sIx_nat (n d k : Nat) : sIx n d (some (k : Int)) = min k n := by
  show (if (k : Int) < 0 then ((k : Int) + (n : Int)).toNat else min (k : Int).toNat n) = min k n
  rw [if_neg (by omega), Int.toNat_natCast]
end
end HT

namespace L2
open PySem PySem.Spec PyProof.Rows

/-! ### the parts of a slice -/
abbrev TO := St → Hp → (Option Int → Hp → Prop) → Prop
/-- a slice's part (left out, or an int) -/
def PO (X : Cx) (e : Option Expr) (t : TO) : Prop :=
  ∀ (pins : List (Addr × Obj)) (s : Shared) (σ : St) (H : Hp) (Q : Option Int → Hp → Prop), Inv X pins σ H s → t σ H Q →
    wpAny (model X.prog X.w) X.A (evalPart e X.env) (fun u s' => ∃ o H', Inv X pins σ H' s' ∧ IsPart u o ∧ Q o H') X.xe s
def tNoPart : TO := fun _ H Q => Q none H
def tPart (t : TE) : TO := fun σ H Q => t σ H fun x H1 => ∃ i, x = .int i ∧ Q (some i) H1

theorem intsAre_of {ns : List Int} : ∀ {us : List Value}, Vals (ns.map V.int) us → IntsAre us ns := by
  induction ns with
  | nil => intro us r; rw [List.map_nil] at r; cases r; exact .nil
  | cons n ns ih =>
    intro us r
    rw [List.map_cons] at r
    cases r with
    | cons r1 r2 =>
      obtain ⟨t, e⟩ := r1
      subst e
      exact .cons n t (ih r2)

section
variable {X : Cx} {e : Expr} {te : TE} {lo hi : Option Expr} {tl th : TO} {pos p2 : Pos}

theorem po_none : PO X none tNoPart := by
  intro pins s σ H Q I h
  rw [evalPart_none]
  exact wpAny_pure ⟨none, H, I, .none, h⟩
theorem po_some (h : PE X e te) : PO X (some e) (tPart te) := by
  intro pins s σ H Q I hw
  rw [evalPart_some]
  refine thn (h pins s σ H _ I hw) fun u s1 ⟨x, H1, I1, r1, q1⟩ => ?_
  obtain ⟨i, rfl, q⟩ := q1
  obtain ⟨t, rfl⟩ := r1
  exact ⟨some i, H1, I1, .int i t, q⟩

/-- what a slice of a value is, by values: the slice object stands at sl -/
def SlR (X : Cx) (r : V → Option Int → Option Int → Hp → VK → Prop) : Prop :=
  ∀ (pins : List (Addr × Obj)) (s : Shared) (σ : St) (H : Hp) (x : V) (v vl vu : Value) (lo hi : Option Int) (sl : Addr) (Q : VK), Inv X pins σ H s → RelV x v → s.heap.IsSliceOf sl vl vu .none → IsPart vl lo → IsPart vu hi → r x lo hi H Q →
    ∃ T id, typeLookup (.type T) "__getitem__" = pure (some (.builtin id)) ∧ s.TypeIs v T ∧ wpAny (model X.prog X.w) X.A (getItem v (.ref sl)) (EP X pins σ Q) X.xe s
def tSl (r : V → Option Int → Option Int → Hp → VK → Prop) (te : TE) (tl th : TO) : TE := fun σ H Q => te σ H fun x H1 => tl σ H1 fun l H2 => th σ H2 fun u H3 => r x l u H3 Q
/-- a[lo:hi], any a -/
theorem pe_slice {r : V → Option Int → Option Int → Hp → VK → Prop} (hr : SlR X r) (he : PE X e te) (hl : PO X lo tl) (hu : PO X hi th) : PE X (.Subscript e (.Slice lo hi none p2) pos) (tSl r te tl th) := by
  intro pins s σ H Q I h
  refine Subscript_ (thn (he pins s σ H _ I h) fun v s1 ⟨x, H1, I1, r1, q1⟩ => ?_)
  refine wpAny_Slice (thn (hl pins s1 σ H1 _ I1 q1) fun vl s2 ⟨l, H2, I2, pl, q2⟩ => thn (hu pins s2 σ H2 _ I2 q2) fun vu s3 ⟨u, H3, I3, pu, q3⟩ => ?_)
  rw [evalPart_none]
  refine wpAny_pure ?_
  have I4 : Inv X pins σ H3 { s3 with heap := s3.heap.push { cls := .type "slice", data := .fields #[vl, vu, .none] } } := I3.kept (t' := s3.toks) fun b ob q => Heap.get?_push_of_some _ q
  obtain ⟨T, id, hT, ht, hg⟩ := hr pins { s3 with heap := s3.heap.push { cls := .type "slice", data := .fields #[vl, vu, .none] } } σ H3 x v vl vu l u s3.heap.objs.size Q I4 r1 (Heap.IsSliceOf.new ..) pl pu q3
  show wpAny (model X.prog X.w) X.A (subscriptTail e (.Slice lo hi none p2) v (.ref s3.heap.objs.size)) (EP X pins σ Q) X.xe { s3 with heap := s3.heap.push { cls := .type "slice", data := .fields #[vl, vu, .none] } }
  exact tail_any (ops := [.ref s3.heap.objs.size, v]) ht hT hg (by with_unfolding_all rfl)

/-- the items of xs[lo:hi] -/
def cutV (xs : List V) (lo hi : Option Int) : List V := (xs.drop (HT.sIx xs.length 0 lo)).take (HT.sIx xs.length xs.length hi - HT.sIx xs.length 0 lo)
theorem cutV_length (xs : List V) (lo hi : Option Int) : (cutV xs lo hi).length ≤ xs.length := by
  unfold cutV
  rw [List.length_take, List.length_drop]
  omega
/-! ### t < u, t + u -/
/-- t + u, t not empty: u empty gives t itself -/
def rCatT (K : PySem.W.Frag) : R2 := fun x y H Q => ∃ a b xs ys, x = .ref a ∧ y = .ref b ∧ SqT K H a xs ∧ SqT K H b ys ∧ xs ≠ [] ∧ xs.length + ys.length ≤ sizeLine ∧
  (ys = [] → Q (.ref a) H) ∧ (ys ≠ [] → ∀ p, H p = none → Q (.ref p) (upd H p (.tup (xs ++ ys))))
theorem Vals.nil_iff {xs : List V} {us : List Value} (r : Vals xs us) : us = [] ↔ xs = [] := by
  cases r with
  | nil => simp
  | cons _ _ => simp
theorem op_catT : OpR X (binaryOp .Add) (rCatT X.K) := by
  intro pins s σ H x y v u Q I rx ry h
  obtain ⟨a, b, xs, ys, rfl, rfl, ha, hb, hx, hz, q1, q2⟩ := h
  cases rx
  cases ry
  obtain ⟨its, r1, p1, _⟩ := I.tuple ha
  obtain ⟨its2, r2, p2, _⟩ := I.tuple hb
  refine HT.cat_tup p1 p2 (fun z => hx (r1.nil_iff.mp z)) (fun z => ⟨.ref a, H, I, rfl, q1 (r2.nil_iff.mp z)⟩) (fun z => ?_) (by rw [← r1.length, ← r2.length]; exact hz)
  refine ⟨.ref s.heap.objs.size, _, I.laid (t' := s.toks) (o := .tup (xs ++ ys)) (fun b ob q => Heap.get?_push_of_some _ q) (Nat.le_refl _) ?_, rfl, q2 (fun w => z (r2.nil_iff.mpr w)) _ (I.hok.fresh (Nat.le_refl _))⟩
  exact ⟨by rw [List.length_append]; exact hz, _, r1.append r2, IsTup.new _ _⟩
end
end L2

namespace L2
open PySem PySem.Spec PyProof.Rows

/-! ### places -/
/-- the place that an index of any sign means -/
def ixN (n : Nat) (i : Int) : Option Nat := if 0 ≤ i then (if i < n then some i.toNat else none) else if -(n : Int) ≤ i then some (i + n).toNat else none
def atI {α : Type} (xs : List α) (i : Int) : Option α := (ixN xs.length i).bind fun j => xs[j]?
theorem ixN_seq {n : Nat} {i : Int} {j : Nat} (h : ixN n i = some j) : seqIndex? i n = some j ∧ j < n ∧ -(n : Int) ≤ i ∧ i < n := by
  unfold ixN at h
  by_cases h0 : 0 ≤ i
  · rw [if_pos h0] at h
    by_cases h1 : i < n
    · rw [if_pos h1] at h
      have e : i.toNat = j := Option.some.inj h
      exact ⟨by rw [seqIndex_of h0 h1, e], by omega, by omega, h1⟩
    · rw [if_neg h1] at h; cases h
  · rw [if_neg h0] at h
    by_cases h1 : -(n : Int) ≤ i
    · rw [if_pos h1] at h
      have e : (i + n).toNat = j := Option.some.inj h
      exact ⟨by rw [seqIndex_neg (by omega) h1, e], by omega, h1, by omega⟩
    · rw [if_neg h1] at h; cases h
theorem atI_get {α : Type} {xs : List α} {i : Int} {v : α} (h : atI xs i = some v) : ∃ j, seqIndex? i xs.length = some j ∧ xs[j]? = some v ∧ j < xs.length ∧ -(xs.length : Int) ≤ i ∧ i < xs.length := by
  unfold atI at h
  cases e : ixN xs.length i with
  | none => rw [e] at h; cases h
  | some j =>
    rw [e] at h
    obtain ⟨h1, h2, h3, h4⟩ := ixN_seq e
    exact ⟨j, h1, h, h2, h3, h4⟩
theorem atI_nat {α : Type} {xs : List α} {j : Nat} {v : α} (h : xs[j]? = some v) : atI xs (j : Int) = some v := by
  have hj : j < xs.length := (List.getElem?_eq_some_iff.mp h).1
  have e : ixN xs.length (j : Int) = some j := by
    unfold ixN
    rw [if_pos (by omega), if_pos (by omega)]; simp
  unfold atI; rw [e]; exact h
theorem atI_last {α : Type} (xs : List α) (v : α) : atI (xs ++ [v]) (-1) = some v := by
  have hl : (xs ++ [v]).length = xs.length + 1 := by simp
  have e : ixN (xs ++ [v]).length (-1) = some xs.length := by
    unfold ixN
    rw [hl, if_neg (by decide), if_pos (by omega)]
    congr 1
    omega
  unfold atI
  rw [e]
  show (xs ++ [v])[xs.length]? = some v
  simp

/-! ### what may be subscripted -/
/-- what stands as an index of a plain subscript -/
def PlainIx (b : Expr) : Prop := ∀ o i, subscripted b false o i = operate [o, i] (getItem o i)
/-- a subscript by values -/
def IxR (X : Cx) (r : R2) : Prop :=
  ∀ (value slice : Expr) (pins : List (Addr × Obj)) (s : Shared) (σ : St) (H : Hp) (x y : V) (v u : Value) (Q : VK), Inv X pins σ H s → RelV x v → RelV y u → r x y H Q →
    subscripted slice false v u = operate [v, u] (getItem v u) → wpAny (model X.prog X.w) X.A (subscriptTail value slice v u) (EP X pins σ Q) X.xe s
/-- a call of a builtin's method by values: the receiver, the arguments -/
def MtR (X : Cx) (id : String) (r : V → List V → Hp → VK → Prop) : Prop :=
  ∀ (pins : List (Addr × Obj)) (s : Shared) (σ : St) (H : Hp) (x : V) (xs : List V) (v : Value) (us : List Value) (Q : VK), Inv X pins σ H s → RelV x v → Vals xs us → r x xs H Q →
    wpAny (model X.prog X.w) X.A (call (.builtin id) (v :: us)) (EP X pins σ Q) X.xe s
section
variable {X : Cx} {a b : Expr} {ta tb : TE} {pos : Pos}
/-- a[b] -/
theorem pe_ix {r : R2} (hr : IxR X r) (ha : PE X a ta) (hb : PE X b tb) (hs : PlainIx b) : PE X (.Subscript a b pos) (tOp r ta tb) := by
  intro pins s σ H Q I h
  exact Subscript_ (binT ha hb I h fun v u s2 x y H2 I2 rx ry q => hr a b pins s2 σ H2 x y v u Q I2 rx ry q (hs _ _))

def rIxL (K : PySem.W.Frag) : R2 := fun x y H Q => ∃ p xs i v, x = .ref p ∧ y = .int i ∧ SqL K H p xs ∧ atI xs i = some v ∧ Q v H
def rIxT (K : PySem.W.Frag) : R2 := fun x y H Q => ∃ p xs i v, x = .ref p ∧ y = .int i ∧ SqT K H p xs ∧ atI xs i = some v ∧ Q v H
theorem ix_list : IxR X (rIxL X.K) := by
  intro value slice pins s σ H x y v u Q I rx ry h hs
  obtain ⟨p, xs, i, z, rfl, rfl, hq, he, q⟩ := h
  cases rx
  obtain ⟨t, rfl⟩ := ry
  obtain ⟨its, r, pl, hz⟩ := I.list hq
  obtain ⟨j, h1, h2, h3, h4, h5⟩ := atI_get he
  obtain ⟨w, ew, rw'⟩ := r.get h2
  have hl := r.length
  have hn := line63
  have fin : EP X pins σ Q w s := ⟨z, H, I, rw', q⟩
  by_cases h0 : 0 ≤ i
  · have hj : i.toNat = j := by
      rw [seqIndex_of h0 h5] at h1
      exact Option.some.inj h1
    exact item_listR pl.isList h0 (by omega) (by rw [hj]; simpa using ew) fin hs
  · have hj : (i + (its.toArray.size : Int)).toNat = j := by
      rw [seqIndex_neg (by omega) h4] at h1
      rw [List.size_toArray, ← hl]
      exact Option.some.inj h1
    exact subscriptTail_builtinR (x := w) pl.isList.typeIs slot_list_getitem.lookup
      (wpAny_getItem_list_neg (Q := fun r s' => r = w ∧ EP X pins σ Q r s') pl.isList (by omega) (by rw [List.size_toArray] <;> omega) (by omega) (by rw [hj]; simpa using ew) ⟨rfl, fin⟩) hs
theorem ix_tup : IxR X (rIxT X.K) := by
  intro value slice pins s σ H x y v u Q I rx ry h hs
  obtain ⟨p, xs, i, z, rfl, rfl, hq, he, q⟩ := h
  cases rx
  obtain ⟨t, rfl⟩ := ry
  obtain ⟨its, r, pl, hz⟩ := I.tuple hq
  obtain ⟨j, h1, h2, h3, h4, h5⟩ := atI_get he
  obtain ⟨w, ew, rw'⟩ := r.get h2
  have hl := r.length
  have hn := line63
  have fin : EP X pins σ Q w s := ⟨z, H, I, rw', q⟩
  exact subscriptTail_builtinR (x := w) pl.typeIs slot_tuple_getitem.lookup
    (getItem_tuple (j := j) (Q := fun r s' => r = w ∧ EP X pins σ Q r s') pl (by omega) (by omega) (by rw [List.size_toArray, ← hl]; exact h1) (by simpa using ew) ⟨rfl, fin⟩) hs
/-! ### xs[i] = v, any sign -/
/-! ### slices -/
theorem slice_bounds (lo hi : Option Int) (n : Nat) : (sliceBounds lo hi none n).1 = ((HT.sIx n 0 lo : Nat) : Int) ∧ (sliceBounds lo hi none n).2.1 = ((HT.sIx n n hi : Nat) : Int) ∧ (sliceBounds lo hi none n).2.2 = 1 := by
  refine ⟨?_, ?_, rfl⟩
  · cases lo with
    | none => simp [sliceBounds, HT.sIx]
    | some i =>
      simp only [sliceBounds, HT.sIx, Option.getD_none, show (1 : Int) > 0 by decide, if_true]
      by_cases h : i < 0
      · simp only [h, if_true] <;> omega
      · simp only [h, if_false] <;> omega
  · cases hi with
    | none => simp [sliceBounds, HT.sIx]
    | some i =>
      simp only [sliceBounds, HT.sIx, Option.getD_none, show (1 : Int) > 0 by decide, if_true]
      by_cases h : i < 0
      · simp only [h, if_true] <;> omega
      · simp only [h, if_false] <;> omega
theorem slicePick_cut (its : List Value) (lo hi : Option Int) : slicePick its.toArray lo hi none = ((its.drop (HT.sIx its.length 0 lo)).take (HT.sIx its.length its.length hi - HT.sIx its.length 0 lo)).toArray := by
  obtain ⟨h1, h2, h3⟩ := slice_bounds lo hi its.toArray.size
  unfold slicePick
  rw [h1, h2, h3]
  simp only [sliceRange_one, pick_run, List.size_toArray] <;> rfl
/-- xs[lo:hi] of a list: a new list -/
def rSlL (K : PySem.W.Frag) : V → Option Int → Option Int → Hp → VK → Prop := fun x lo hi H Q => ∃ a xs, x = .ref a ∧ SqL K H a xs ∧ ∀ p, H p = none → Q (.ref p) (upd H p (.lst (cutV xs lo hi)))
theorem sl_list : SlR X (rSlL X.K) := by
  intro pins s σ H x v vl vu lo hi sl Q I rx hs pl pu h
  obtain ⟨a, xs, rfl, hx, q⟩ := h
  cases rx
  obtain ⟨its, r, ht, hz⟩ := I.list hx
  have hlen := r.length
  refine ⟨"list", _, slot_list_getitem.lookup, ht.isList.typeIs, ?_⟩
  refine wpAny_getItem_list_slice ht.isList hs pl pu .none (by simp) ?_ (by rw [List.size_toArray] <;> omega)
  rw [slicePick_cut, ← hlen]
  refine ⟨.ref s.heap.objs.size, _, I.laid (t' := s.toks) (o := .lst (cutV xs lo hi)) (fun b ob q => Heap.get?_push_of_some _ q) (Nat.le_refl _) ?_, rfl, q _ (I.hok.fresh (Nat.le_refl _))⟩
  exact ⟨Nat.le_trans (cutV_length xs lo hi) hz, _, 0, (r.drop (HT.sIx xs.length 0 lo)).take (HT.sIx xs.length xs.length hi - HT.sIx xs.length 0 lo), Heap.get?_push_size _ rfl⟩

/-! ### in, not in: flat items -/
/-! ### len, list(x), tuple(x) of any list or tuple that is read -/
theorem call_len_seq : CallR X (.builtin "len") (fun xs H Q => ∃ p ys, xs = [.ref p] ∧ (SqL X.K H p ys ∨ SqT X.K H p ys) ∧ Q (.int ys.length) H) := by
  intro pins s σ H xs us Q I r h
  obtain ⟨p, ys, rfl, hq, q⟩ := h
  obtain ⟨u, rfl, rx⟩ := vals1 r
  cases rx
  have hn := line63
  rcases hq with hq | hq
  · obtain ⟨its, r', pl, hz⟩ := I.list hq
    have hlen := r'.length
    exact Calls.call_len_list pl.isList (by simp only [List.size_toArray] <;> omega) ⟨.int ys.length, H, I.tok _, ⟨s.toks + 1, by rw [List.size_toArray, hlen]⟩, q⟩
  · obtain ⟨its, r', pl, hz⟩ := I.tuple hq
    have hlen := r'.length
    exact len_tuple pl (by simp only [List.size_toArray] <;> omega) ⟨.int ys.length, H, I.tok _, ⟨s.toks + 1, by rw [List.size_toArray, hlen]⟩, q⟩
/-! ### the call of a builtin's method: o.m(..) -/
/-- the value is of that builtin type -/
def tyV (K : PySem.W.Frag) (T : String) (x : V) (H : Hp) : Prop := match x with
  | .str _ => T = "str"
  | .int _ => T = "int"
  | .ref p => (T = "list" ∧ ∃ xs, SqL K H p xs) ∨ (T = "tuple" ∧ ∃ o, K.lookup p = some o ∧ o.cls = .type "tuple" ∧ o.dict = none) ∨
      (T = "dict" ∧ ((∃ kvs, H p = some (.dK kvs)) ∨ ∃ kvs, H p = some (.dT kvs))) ∨ (T = "set" ∧ ∃ S n, H p = some (.set S n))
  | _ => False
theorem tyV_is {pins : List (Addr × Obj)} {σ : St} {H : Hp} {s : Shared} {T : String} {x : V} {v : Value} (I : Inv X pins σ H s) (r : RelV x v) (ty : tyV X.K T x H) :
    s.TypeIs v T ∧ ∀ a, v = .ref a → ∃ ob, s.heap.get? a = some ob ∧ ob.dict = none := by
  cases x with
  | str z =>
    obtain ⟨t, rfl⟩ := r
    cases (show T = "str" from ty)
    exact ⟨typeIs_str s z t, fun _ e => nomatch e⟩
  | int i =>
    obtain ⟨t, rfl⟩ := r
    cases (show T = "int" from ty)
    exact ⟨typeIs_int s i t, fun _ e => nomatch e⟩
  | ref p =>
    cases r
    rcases ty with ⟨rfl, xs, hq⟩ | ⟨rfl, o, hk, hc, hd⟩ | ⟨rfl, hk⟩ | ⟨rfl, S, n, hk⟩
    · obtain ⟨its, _, pl, _⟩ := I.list hq
      refine ⟨pl.isList.typeIs, fun a e => ?_⟩
      cases e
      obtain ⟨o, n, e, c, hd, _⟩ := pl
      exact ⟨o, e, hd⟩
    · refine ⟨⟨o, I.kIn p o hk, hc⟩, fun a e => ?_⟩
      cases e
      exact ⟨o, I.kIn _ o hk, hd⟩
    · have z : ∃ o, s.heap.get? p = some o ∧ o.ExactDict := by
        rcases hk with ⟨kvs, hk⟩ | ⟨kvs, hk⟩
        · obtain ⟨_, _, _, _, o, _, _, e, ex, _⟩ := I.hok p _ hk
          exact ⟨o, e, ex⟩
        · obtain ⟨_, _, _, _, o, _, _, e, ex, _⟩ := I.hok p _ hk
          exact ⟨o, e, ex⟩
      obtain ⟨o, e, ex⟩ := z
      refine ⟨⟨o, e, ex.1⟩, fun a e2 => ?_⟩
      cases e2
      exact ⟨o, e, ex.2.1⟩
    · obtain ⟨o, _, _, _, e, ex, _⟩ := I.hok p _ hk
      refine ⟨⟨o, e, ex.1⟩, fun a e2 => ?_⟩
      cases e2
      exact ⟨o, e, ex.2.1⟩
  | _ => exact False.elim ty
def tBM (K : PySem.W.Frag) (T : String) (r : V → List V → Hp → VK → Prop) (to : TE) (t : TA) : TE := fun σ H Q => to σ H fun x H1 => tyV K T x H1 ∧ t σ H1 fun xs H2 => r x xs H2 Q
variable {o e : Expr} {es : List Expr} {to : TE} {t : TA} {name : Str} {apos cpos : Pos} {T id : String} {r : V → List V → Hp → VK → Prop}
theorem pe_bm (pa : PlainAttrs T) (slot : Slot T name id) (hty : typeOf (.builtin id) = pure (.type "method_descriptor")) (hm : MtR X id r) (ho : PE X o to) (ha : PA X (e :: es) t)
    (hbase : attributeBase o name X.env (eval o X.env) = eval o X.env := by rfl)
    (hfew : ((backTo cpos (starEach (e :: es) X.env)).all (fun x => !x.1) && (backToKw cpos (keywordEach [] X.env)).all (fun x => x.1.isSome)
      && decide ((e :: es).length + ([] : List Keyword).length + (if ([] : List Keyword).isEmpty then 0 else 1) < 30)) = true := by rfl)
    (hline : (apos.endLine == cpos.line) = true := by rfl) (hs : starEach (e :: es) X.env = (false, eval e X.env) :: starEach es X.env := by rfl) (hplain : (backTo cpos (starEach es X.env)).any (·.1) = false := by rfl) :
    PE X (.Call (.Attribute o name apos) (e :: es) [] cpos) (tBM X.K T r to t) := by
  intro pins s σ H Q I h
  refine wpAny_Call_method_late hbase hfew hline rfl (thn (ho pins s σ H _ I h) fun v s1 ⟨x, H1, I1, r1, ty, q1⟩ => ?_)
  obtain ⟨h1, h2⟩ := tyV_is I1 r1 ty
  refine ⟨T, id, pa, slot, hty, h1, h2, ?_⟩
  have hA := ha cpos pins s1 σ H1 _ I1 q1
  rw [hs] at hA ⊢
  refine Calls.callWith_builtin (by show (false || (backTo cpos (starEach es X.env)).any (·.1)) = false; rw [hplain] <;> rfl) (Calls.evalArgs_plain ?_)
  exact thn hA fun us s2 ⟨vs, H2, I2, r2, q2⟩ => hm pins s2 σ H2 x vs v us Q I2 r1 r2 q2
/- xs.append(e), list.index on a module's tuple .. are MtR facts of 06m -/
end
end L2

namespace L2
open PySem PySem.Spec PyProof.Rows

def MtM (X : Cx) (id : String) (r : V → List V → Hp → VK → Prop) : Prop :=
  ∀ (pins : List (Addr × Obj)) (s : Shared) (σ : St) (H : Hp) (x : V) (xs : List V) (v : Value) (us : List Value) (Q : VK), Inv X pins σ H s → RelV x v → Vals xs us → r x xs H Q →
    wpAny (model X.prog X.w) X.A (call (.builtin id) (v :: us)) (EP X pins σ Q) X.xe s

/-! ### lists of values -/
theorem Vals.one : ∀ {x : V} {us : List Value}, Vals [x] us → ∃ u, us = [u] ∧ RelV x u
  | _, _, .cons r .nil => ⟨_, rfl, r⟩
theorem Vals.rep {xs : List V} {us : List Value} (h : Vals xs us) : ∀ k : Nat, Vals (List.replicate k xs).flatten (List.replicate k us).flatten
  | 0 => .nil
  | k + 1 => by
    rw [List.replicate_succ, List.replicate_succ, List.flatten_cons, List.flatten_cons]
    exact Vals.append h (Vals.rep h k)
theorem foldl_rep (its : List Value) : ∀ (k : Nat) (acc : List Value),
    List.foldl (fun x1 x2 => x1 ++ x2) acc.toArray (List.replicate k its.toArray) = (acc ++ (List.replicate k its).flatten).toArray
  | 0, acc => by simp
  | k + 1, acc => by
    have e : acc.toArray ++ its.toArray = (acc ++ its).toArray := by simp
    have e2 : (acc ++ its) ++ (List.replicate k its).flatten = acc ++ (List.replicate (k + 1) its).flatten := by
      rw [List.replicate_succ, List.flatten_cons, List.append_assoc]
    rw [← e2, ← foldl_rep its k (acc ++ its), ← e, List.replicate_succ, List.foldl_cons]

section
variable {X : Cx} {pins : List (Addr × Obj)} {σ : St} {H : Hp} {s : Shared} {l b : Addr} {xs ys zs : List V}

/-! ### the two steps: a tracked list is rewritten, a new list is laid -/
theorem Inv.lset {its its' : List Value} {n : Nat} {f : Array Value → Array Value} {t' : Nat} (I : Inv X pins σ H s) (hH : H l = some (.lst xs))
    (e : s.heap.get? l = some { cls := .type "list", data := .seq its.toArray n }) (hf : f its.toArray = its'.toArray) (hv : Vals ys its') (hz : ys.length ≤ sizeLine) :
    Inv X pins σ (upd H l (.lst ys)) { s with heap := s.heap.update l (Obj.mapSeq f), toks := t' } := by
  have q := PySem.IsL.update e f
  rw [hf] at q
  refine I.write (x := l) (e := l) (by rw [hH]; exact trivial) (.inl rfl) (fun b' u hb hu => (Heap.get?_update_other s.heap (Obj.mapSeq f) (Ne.symm hb)).trans hu) ⟨_, q⟩ ?_
  exact ⟨hz, its', _, hv, q⟩
theorem Inv.lnew {its : List Value} {t' : Nat} (I : Inv X pins σ H s) (hv : Vals ys its) (hz : ys.length ≤ sizeLine) :
    Inv X pins σ (upd H s.heap.objs.size (.lst ys)) { s with heap := s.heap.push { cls := .type "list", data := .seq its.toArray }, toks := t' } :=
  I.laid (fun _ _ q => Heap.get?_push_of_some _ q) (Nat.le_refl _) ⟨hz, its, 0, hv, Heap.get?_push_size _ rfl⟩
theorem Inv.fresh (I : Inv X pins σ H s) : H s.heap.objs.size = none := I.hok.fresh (Nat.le_refl _)
theorem Inv.lstM (I : Inv X pins σ H s) (hH : H l = some (.lst xs)) : xs.length ≤ sizeLine ∧ ∃ (its : List Value) (n : Nat), Vals xs its ∧ xs.length = its.length ∧ s.heap.get? l = some { cls := .type "list", data := .seq its.toArray n } := by
  obtain ⟨z, its, n, r, e⟩ := I.hok l _ hH
  exact ⟨z, its, n, r, r.length, e⟩

theorem notLongL {n : Nat} (h : n ≤ sizeLine) : Builtin.List.listTooLong n = false := by
  unfold Builtin.List.listTooLong
  exact decide_eq_false (by omega)
end

section
variable {X : Cx}

/-! ### methods -/
def rAppend : V → List V → Hp → VK → Prop := fun x vs H Q => ∃ l xs y, x = .ref l ∧ vs = [y] ∧ H l = some (.lst xs) ∧ xs.length < sizeLine ∧ Q .non (upd H l (.lst (xs ++ [y])))
theorem mt_append : MtM X "list.append" rAppend := by
  intro pins s σ H x vs v us Q I rx rv h
  obtain ⟨l, xs, y, rfl, rfl, hH, hz, q⟩ := h
  cases rx
  obtain ⟨u, rfl, ru⟩ := rv.one
  obtain ⟨z, its, n, r, hl, e⟩ := I.lstM hH
  refine call_meets F.slot_list_append ⟨_, e, rfl⟩ F.entry_list_append (F.args_list_append_2 _ _) (PySem.list_append l its.toArray n u (by rw [List.size_toArray]; omega)) ⟨e, ?_⟩
  refine ⟨.non, _, I.lset (its' := its ++ [u]) hH e (by simp) (r.append (.cons ru .nil)) ?_, rfl, q⟩
  rw [List.length_append, List.length_singleton]
  omega

/-! ### list + list, list += list, list * int -/
def rCat : R2 := fun x y H Q => ∃ l b xs zs, x = .ref l ∧ y = .ref b ∧ H l = some (.lst xs) ∧ H b = some (.lst zs) ∧ xs.length + zs.length ≤ sizeLine ∧ ∀ p, H p = none → Q (.ref p) (upd H p (.lst (xs ++ zs)))
theorem op_cat : OpR X (binaryOp .Add) rCat := by
  intro pins s σ H x y v u Q I rx ry h
  obtain ⟨l, b, xs, zs, rfl, rfl, hH, hB, hz, q⟩ := h
  cases rx
  cases ry
  obtain ⟨z, its, n, r, hl, e⟩ := I.lstM hH
  obtain ⟨z2, its2, n2, r2, hl2, e2⟩ := I.lstM hB
  refine PySem.P.add_list e e2 ?_ (by rw [List.size_toArray, List.size_toArray]; omega)
  have ea : its.toArray ++ its2.toArray = (its ++ its2).toArray := by simp
  rw [ea]
  exact ⟨.ref _, _, I.lnew (t' := s.toks) (r.append r2) (by rw [List.length_append]; omega), rfl, q _ I.fresh⟩
/-- a list times an int (a negative one is nothing) -/
def rRep : R2 := fun x y H Q => ∃ l k xs, x = .ref l ∧ y = .int k ∧ H l = some (.lst xs) ∧ -(2 ^ 63) ≤ k ∧ k < 2 ^ 63 ∧ xs.length * k.toNat ≤ sizeLine ∧
  ∀ p, H p = none → Q (.ref p) (upd H p (.lst (List.replicate k.toNat xs).flatten))
theorem len_rep {α : Type} (xs : List α) (k : Nat) : (List.replicate k xs).flatten.length = k * xs.length := by
  induction k with
  | zero => simp
  | succ k ih => rw [List.replicate_succ, List.flatten_cons, List.length_append, ih, Nat.succ_mul, Nat.add_comm]
theorem op_rep : OpR X (binaryOp .Mult) rRep := by
  intro pins s σ H x y v u Q I rx ry h
  obtain ⟨l, k, xs, rfl, rfl, hH, h1, h2, hz, q⟩ := h
  cases rx
  obtain ⟨t, rfl⟩ := ry
  obtain ⟨z, its, n, r, hl, e⟩ := I.lstM hH
  have hlen : its.toArray.size * k.toNat ≤ sizeLine := by rw [List.size_toArray, ← hl]; exact hz
  have hcap : ¬ its.toArray.size * k.toNat > (2 ^ 63 - 1) / 8 := by
    have : (sizeLine : Nat) ≤ (2 ^ 63 - 1) / 8 := by decide
    omega
  have hfit : ¬ (!Builtin.List.listFitsIndex k) = true := by
    rw [fitsIndex_both h1 h2]
    exact Bool.false_ne_true
  have hlong : ¬ Builtin.List.listTooLong (its.toArray.size * k.toNat) = true := by
    rw [notLongL hlen]
    exact Bool.false_ne_true
  have hnew : List.foldl (fun x1 x2 => x1 ++ x2) #[] (List.replicate (if its.toArray.isEmpty = true then 0 else k.toNat) its.toArray) = (List.replicate k.toNat its).flatten.toArray := by
    have f0 : ∀ m : Nat, List.foldl (fun x1 x2 => x1 ++ x2) #[] (List.replicate m its.toArray) = (List.replicate m its).flatten.toArray := fun m => by
      have := foldl_rep its m []
      rw [List.nil_append] at this
      exact this
    rw [f0]
    cases its with
    | nil => simp
    | cons a r' => rw [if_neg (by simp)]
  refine wpAny_binaryOp_repeat_ref (T := "list") (U := "int") (by decide) ⟨_, e, rfl⟩ (fun s' => typeIs_int s' k t) noFill_list_mul F.fills_int_mul F.slot_int_rmul repeat_list F.slot_int_index.lookup
    (call_meets F.slot_int_rmul (typeIs_int s k t) F.entry_int_rmul (F.args_int_rmul_2 _ _) (int___rmul___int_list k t l its.toArray n)
      ⟨e, rfl, ⟨_, e, rfl⟩, call_meets F.slot_list_mul ⟨_, e, rfl⟩ F.entry_list_mul (F.args_list_mul_2 _ _) (AutoListH.list___mul___list_int_3 l its.toArray n k t hfit hcap hlong) ⟨e, ?_⟩⟩)
  rw [hnew]
  exact ⟨.ref _, _, I.lnew (t' := s.toks) (r.rep k.toNat) (by rw [len_rep, Nat.mul_comm]; exact hz), rfl, q _ I.fresh⟩

/-! ### del xs[i] -/
end

/-! ### xs[a:b] = ys -/
section
variable {prog : Program} {w : World} {A : Around} {E : Value → Shared → Prop} {s : Shared}
end

section
variable {X : Cx}
end
end L2

namespace Att
open PySem PySem.W PySem.Calls PyProof.Rows

/-! ### the script -/
theorem ints_of_wellAll {P : Params} {h : Heap} : ∀ (ns : List Int) (vs : List Value), WellAll P h vs (ns.map WData.int) → IntsAre vs ns := by
  intro ns
  induction ns with
  | nil =>
    intro vs w
    rw [List.map_nil] at w
    cases w
    exact .nil
  | cons n ns ih =>
    intro vs w
    rw [List.map_cons] at w
    cases w with
    | cons a b =>
      cases a
      exact .cons _ _ (ih _ b)

theorem script_of {l : OpenLaw} {n : Nat} (hn : l.most = some n) {P : Params} {h : Heap} {args : List WData} {vals : List Value}
    (hpre : l.row.toRowW.claim.pre args = true) (hwl : WellAll P h vals args) :
    ∃ a vs ns, vals = [Value.ref a] ∧ args = [WData.list (ns.map WData.int)] ∧ h.get? a = some { cls := .type "list", data := .seq vs.toArray } ∧ IntsAre vs ns ∧ ns.length ≤ n := by
  have hsh : WShape.hasAll [] args [.list .int] = true := (pre_splitW hpre).1
  have hc : l.pre.holds [] { args := args } = true := (pre_splitW hpre).2
  obtain ⟨d, r, rfl, h1, h2⟩ := hasAllW_cons hsh
  obtain rfl := hasAllW_nil h2
  obtain ⟨xs, rfl, h3⟩ := hasW_list h1
  obtain ⟨ns, rfl⟩ := items_int h3
  have hlen : ns.length ≤ n := by
    unfold OpenLaw.pre at hc
    have h4 : (WTm.not (.lt (.lit (.int (n : Int))) (.len (.arg 0)))).holds [] { args := [.list (ns.map .int)] } = true := by
      have h4 := (holds_andW hc).1
      rw [hn] at h4
      exact h4
    have h5 := condW_of h4 (w_not (w_lt w_lit (w_len_list (w_arg rfl))))
    rw [List.length_map] at h5
    refine Nat.le_of_not_lt fun q => ?_
    have q' : (n : Int) < ((ns.length : Nat) : Int) := by omega
    first
      | (rw [decide_eq_true q'] at h5; exact absurd h5 (by decide))
      | (simp at h5; omega)
  cases hwl with
  | cons w1 w2 =>
    cases w2
    cases w1 with
    | list ho hall => exact ⟨_, _, ns, rfl, rfl, ho, ints_of_wellAll ns _ hall, hlen⟩

theorem post_true (l : OpenLaw) (args : List WData) : l.row.toRowW.claim.post args (.bool true) args = true :=
  postW_of (r := l.row.toRowW) (X := (true == true))
    (show WShape.has [] (.bool true) .bool = true by first | rfl | decide | simp [WShape.has, WShape.arms, WShape.armsAll])
    (show (WTm.eq .res (.lit (.bool true))).value [] { args := args, res := some (.bool true), after := args } = some (.bool (true == true)) from w_eq_bool (w_res rfl) w_lit) rfl

/-! ### the attachment: holds_open's last premise (the goal 'hc' behind k_head) from a wpAny of the law's body -/
/-- the same from a codeAny of the CALL (for a layer whose function contracts speak of calls) -/
theorem attach_call {l : OpenLaw} {n : Nat} {q : Program} {loose : List Str} {XP : (Str → Option Value) → Heap → Prop} {YP : World → Heap → Prop} {d : DefRec}
    (hn : l.most = some n) (hdf : d.params.defaults = [])
    (call : ∀ (w : World) (s₀ s₁ : Shared) (mg mb : Str → Option Value) (fa : Addr) (o : Obj) (pm cd doc : Value) (a : Addr) (vs : List Value) (ns : List Int),
      Ground q loose [] XP w s₀ mg mb s₁.heap → YP w s₁.heap →
      s₁.heap.get? fa = some o → o.data = .func (docDef d.name d.params d.body d.scope pm cd doc) → s₁.heap.CodeRec cd d.name → mg d.name = some (.ref fa) →
      s₁.heap.get? a = some { cls := .type "list", data := .seq vs.toArray } → IntsAre vs ns → ns.length ≤ n → s₁.gens = #[] →
      codeAny (model l.prog w) callerA (.call (.ref fa) ⟨[.ref a], []⟩) (fun r s' => r = .ok (.ret (.bool true)) ∧ OldK s₁.heap s'.heap ∧ s'.os = s₁.os ∧ AllBare s'.gens) s₁) :
    WalkO q loose XP YP l.row.toRowW d [] (fun f vs => PySem.call f vs) := by
  intro w s₀ s₁ mg mb G Y fa o pm cd doc dV kV ho hd hcd hD hmg hg args vals as hpre hlay hrd hwl hlo
  obtain rfl : dV = .none := Dflts.none hD hdf
  obtain rfl : kV = .none := Dflts.noKw hD
  obtain ⟨a, vs, ns, rfl, rfl, hobj, hints, hlen⟩ := script_of hn hpre hwl
  refine enter_call (codeAny_mono (call w s₀ s₁ mg mb fa o pm cd doc a vs ns G Y ho (fd_plain hd) hcd hmg hobj hints hlen hg) fun r s' hq => ?_)
  obtain ⟨rfl, h2, h3, h4⟩ := hq
  exact ⟨.inl ⟨.bool true, .bool true, [], rfl, fun _ => rfl, .bool true, post_true l _, fun _ => ⟨List.Pairwise.nil, fun _ hm => (nomatch hm)⟩⟩, h2, h3, h4⟩

/-! ### rules over ANY heap (no ledger) from facts about the written part K: the library's own take a ledger (News) for what they write -/
section
variable {prog : Program} {w : World} {A : Around} {E : Value → Shared → Prop} {s : Shared} {K : Frag}

/-! the whole heap as the ledger: makes every rule that writes through a ledger a rule over any heap -/
end
end Att

namespace L2
open PySem PySem.Spec PyProof.Rows

theorem vals_ints : ∀ {vs : List Value} {ns : List Int}, IntsAre vs ns → Vals (ns.map V.int) vs
  | _, _, .nil => .nil
  | _, _, .cons n t h => .cons ⟨t, rfl⟩ (vals_ints h)

/-- nothing is tracked but the script, known to the object (or it is an object of the module) -/
def Only (H : Hp) : Prop := ∀ b, H b = none ∨ ∃ o xs, H b = some (.frz o (.lst xs))

/-- THE HEAD: the law's promise, at the heap behind the top. F, the promise of the law's def, may use that base is part of the heap (so K.In base, base.Ns mainGlobals mg stand in Mod) -/
theorem law_call {P : Program} {w : World} {K : PySem.W.Frag} {mg mb : Str → Option Value} {CX : CXT} {k : Nat} {fa a : Addr} {fd : FuncData} {x : Str} {sp : Sp} {s₁ : Shared} {vs : List Value} {ns : List Int}
    (KX : K.In s₁.heap) (hns : s₁.heap.Ns mainGlobals mg) (hb : s₁.heap.Ns builtinsNs mb) (hbb : ∀ x : Str, x ≠ "__name__" → mb x = bootBuiltins x) (hlim : s₁.heap.NoLimit) (hg : s₁.gens = #[])
    (ha : s₁.heap.get? a = some { cls := .type "list", data := .seq vs.toArray }) (hi : IntsAre vs ns) (hl : ns.length ≤ sizeLine) (hr : Room k callerA)
    (F : ∀ base : Heap, K.In base → base.Ns mainGlobals mg → FnOk P w K mg base CX k fa fd [x] sp) (hbind : ∀ (s : Shared) (u : Value), BindsTo s fd ⟨[u], []⟩ [(x, u)])
    (hsp : ∀ H : Hp, Only H → SqL K H a (ns.map V.int) → sp [.ref a] H (fun v _ => v = .bl true) fun _ _ _ => False)
    (hCX : ∀ H e s', CX [] H s₁ (fun _ _ _ => False) e s' → False) :
    codeAny (model P w) callerA (.call (.ref fa) ⟨[.ref a], []⟩) (fun r s' => r = .ok (.ret (.bool true)) ∧ OldK s₁.heap s'.heap ∧ s'.os = s₁.os ∧ AllBare s'.gens) s₁ := by
  have rv := vals_ints hi
  have lenV := hi.length
  -- from an abstract heap in which nothing but the script may be tracked
  have core : ∀ H : Hp, Only H → SqL K H a (ns.map V.int) → HOk P w H s₁.heap → (∀ b, H b ≠ none → b = a) → (H a ≠ none → K.lookup a = none) →
      codeAny (model P w) callerA (.call (.ref fa) ⟨[.ref a], []⟩) (fun r s' => r = .ok (.ret (.bool true)) ∧ OldK s₁.heap s'.heap ∧ s'.os = s₁.os ∧ AllBare s'.gens) s₁ := by
    intro H hO hS hok hA hK
    have base_of : ∀ {b : Addr} {o : Obj}, s₁.heap.get? b = some o → H b = none → (hidT s₁.heap H).get? b = some o := fun e n => hidT_get e n
    have noA : ∀ {b : Addr} {o : Obj} {es : Array DictEntry} {ep : Nat}, s₁.heap.get? b = some o → o.data = .dict es ep → H b = none := fun {b o es ep} e d => by
      cases q : H b with
      | none => rfl
      | some u =>
        have e' : b = a := hA b (by rw [q]; simp)
        subst e'
        rw [ha] at e; cases e
        have d' : Data.seq vs.toArray _ = Data.dict es ep := d
        cases d'
    have nsK : ∀ {b : Addr} {m : Str → Option Value}, s₁.heap.Ns b m → (hidT s₁.heap H).Ns b m := fun {b m} ⟨o, es, ep, e, d, r⟩ => ⟨o, es, ep, base_of e (noA e d), d, r⟩
    have hKb : K.In (hidT s₁.heap H) := fun b o e => base_of (KX b o e) (by
      cases q : H b with
      | none => rfl
      | some u =>
        have e' : b = a := hA b (by rw [q]; simp)
        subst e'
        rw [hK (by rw [q]; simp)] at e; cases e)
    have hM : Mod K mg (hidT s₁.heap H) := ⟨hKb, nsK hns, ⟨mb, nsK hb, hbb⟩, let ⟨mc, h1, h2⟩ := hlim; ⟨mc, nsK h1, h2⟩⟩
    have e0 : Env0 P w K mg (hidT s₁.heap H) callerA [] s₁ H := ⟨rfl, hM, fun b o e => of_hidT e, Nat.le_of_eq (hidT_size _ _), trivial, fun b hb => absurd (show b ∈ ([] : List Addr) from hb) (by simp), hok, .of_eq hg⟩
    refine codeAny_mono ((F _ hKb (nsK hns)).run callerA [] s₁ H ⟨[.ref a], []⟩ [.ref a] [.ref a] _ _ hr e0 (hbind s₁ (.ref a)) (.cons rfl .nil) (hsp H hO hS)) fun r s' h => ?_
    cases r with
    | error e => exact (hCX H e s' h).elim
    | ok fl =>
      cases fl with
      | next => exact False.elim h
      | brk => exact False.elim h
      | cont => exact False.elim h
      | ret u =>
        obtain ⟨v, H', os, bare, un, hok', r', q⟩ := h
        have q' : v = .bl true := q
        subst q'
        obtain rfl : u = Value.bool true := r'
        refine ⟨rfl, OldK.of_keep fun b o e => ?_, os, bare⟩
        cases q : H b with
        | none => exact un.keep b o e q (by intro z; exact absurd (show b ∈ ([] : List Addr) from z) (by simp)) (by simp)
        | some u =>
          rcases hO b with z | ⟨ob, xs, z⟩
          · rw [q] at z; cases z
          · have z2 := un.frzs b ob _ z
            obtain ⟨e1, _⟩ := hok b _ z
            obtain ⟨e2, _⟩ := hok' b _ z2
            rw [e] at e1; cases e1
            exact e2
  cases hk : K.lookup a with
  | some o =>
    -- the script is one of the module's own objects
    have e := KX a o hk
    rw [ha] at e
    cases e
    refine core (fun _ => none) (fun _ => .inl rfl) (.inr ⟨_, vs.toArray, _, hk, rfl, rfl, rfl, by rw [List.size_toArray, lenV]; exact hl, by simpa using rv⟩) (fun b u z => by have z' : (none : Option HO) = some u := z; cases z') (fun b z => absurd rfl z) fun z => absurd rfl z
  | none =>
    refine core (fun b => if b = a then some (.frz { cls := .type "list", data := .seq vs.toArray } (.lst (ns.map V.int))) else none) (fun b => ?_) (.inl (.inr ⟨{ cls := .type "list", data := .seq vs.toArray }, if_pos rfl⟩)) (fun b u z => ?_) (fun b z => ?_) fun _ => hk
    · by_cases hb : b = a
      · exact .inr ⟨_, _, if_pos hb⟩
      · exact .inl (if_neg hb)
    · by_cases hb : b = a
      · have z' := (if_pos hb).symm.trans z
        cases z'
        subst hb
        exact ⟨ha, by rw [List.length_map]; exact hl, vs, _, rv, ha⟩
      · have z' := (if_neg hb).symm.trans z
        cases z'
    · by_cases hb : b = a
      · exact hb
      · exact absurd (if_neg hb) z
end L2

namespace L2
open PySem PySem.Spec PyProof.Rows

/-- the goal that k_head leaves (case hc), from the law's promise. F gives the function object fd (K's own) once, then the promise over every base -/
theorem walk_of {l : PySem.W.OpenLaw} {n k : Nat} {q : Program} {loose : List Str} {XP : (Str → Option Value) → Heap → Prop} {YP : World → Heap → Prop} {d : DefRec} {K : Params → PySem.W.Frag} {CX : World → CXT} {sp : World → Sp} {x : Str}
    (hn : l.most = some n) (hn2 : n ≤ sizeLine) (hdf : d.params.defaults = []) (hr : Room k callerA)
    (hY : ∀ (w : World) (h : Heap), YP w h → (K w.params).In h)
    (F : ∀ (w : World) (mg : Str → Option Value) (fa : Addr) (h : Heap), (K w.params).In h → h.Ns mainGlobals mg → mg d.name = some (.ref fa) →
      ∃ fd : FuncData, (∀ (s : Shared) (u : Value), BindsTo s fd ⟨[u], []⟩ [(x, u)]) ∧
        ∀ base : Heap, (K w.params).In base → base.Ns mainGlobals mg → FnOk l.prog w (K w.params) mg base (CX w) k fa fd [x] (sp w))
    (hsp : ∀ (w : World) (H : Hp) (a : Addr) (ns : List Int), ns.length ≤ n → Only H → SqL (K w.params) H a (ns.map V.int) → sp w [.ref a] H (fun v _ => v = .bl true) fun _ _ _ => False)
    (hCX : ∀ (w : World) (H : Hp) (s : Shared) (e : Value) (s' : Shared), CX w [] H s (fun _ _ _ => False) e s' → False) :
    PySem.W.WalkO q loose XP YP l.row.toRowW d [] (fun f vs => PySem.call f vs) := by
  refine Att.attach_call hn hdf fun w s₀ s₁ mg mb fa o pm cd doc a vs ns G Y ho hd hcd hmg hobj hints hlen hg => ?_
  have KX := hY w _ Y
  obtain ⟨fd, hb, hF⟩ := F w mg fa _ KX G.T.g hmg
  exact law_call KX G.T.g G.T.b G.T.builtins G.T.nolimit hg hobj hints (Nat.le_trans hlen hn2) hr hF hb (fun H hO hS => hsp w H a ns hlen hO hS) fun H e s' => hCX w H s₁ e s'
end L2

/- THE LAST THEOREM (shape; LID, My.* are yours):
   My.Adr: a structure of the addresses that your layer names (classes, functions); My.Txt K t: a structure (Prop) of the equations over K;
   My.txt_mk : {K} {implicit addresses ..} (e1 : nsIn K mainGlobals "law" = some (some (.ref f))) (e2 : K.lookup f = some ⟨oc, od, .func (fnOf "law" "law" params body scope dV kV doc pm an cdv ct), sl⟩) (e3 : codeIn K cdv "law" = true) .. : ∃ t, My.Txt K t

set_option maxRecDepth 100000 in
set_option maxHeartbeats 0 in
theorem PySem.Challenge.cw_LID_holds : PySem.Challenge.rw_LID.Holds := by
  w_on; o_law; k_head; (case hw => w_witness2)
  k_fill
  refine L2.walk_of (l := PySem.Challenge.rw_LID) (n := 63) (k := 40) (x := "script") (CX := fun w => ..) (sp := fun _ => My.sp_law) rfl (by decide) rfl ⟨rfl, by decide, by decide⟩ (fun w h Y => PySem.W.kIn_of Y) ?F ?S ?C
  case F =>
    intro w mg fa h KX G hmg
    have T : ∃ t, My.Txt (L2.KOf KX) t := by
      dsimp only [L2.KOf]                          -- K must stand as «<heap const> w.params» for k_is
      refine' My.txt_mk ?e1 ?e2 ?e3 ..
      (case e1 => PySem.W.k_is)                    -- in the order: a name -> its address -> its object -> its parts
      (case e2 => PySem.W.k_is)
      ..
    obtain ⟨t, T⟩ := T
    have e0 := hmg.symm.trans (PySem.W.mg_of KX G T.law)
    cases e0                                       -- fa is the law's own address
    exact ⟨_, fun s u => .of_eq rfl, fun base kb nb => My.law_fn T kb nb⟩     -- if «.of_eq rfl» comes too early: refine' ⟨_, ?b, fun base kb nb => My.law_fn T kb nb⟩; exact fun s u => .of_eq rfl
  case S => exact fun w H a ns hl hO hS => ..
  case C => exact ..
(the tactic k_is has no namespace: write k_is) -/

/-! SHORT WORDS over the layer: a def of the text, its body, what a loop and a test want. -/
namespace L2
open PySem PySem.Spec PyProof.Rows

/-! ### the text by places -/
def defArgs (s : Stmt) : Arguments := match s with
  | .FunctionDef _ a _ _ _ _ _ _ _ _ => a
  | _ => { posonlyargs := [], args := [], vararg := none, kwonlyargs := [], kw_defaults := [], kwarg := none, defaults := [] }
def defBody (s : Stmt) : List Stmt := match s with
  | .FunctionDef _ _ b _ _ _ _ _ _ _ => b
  | _ => []
def defScope (s : Stmt) : Scope := match s with
  | .FunctionDef _ _ _ _ _ _ sc _ _ _ => sc
  | _ => { kind := .function, names := [], isGenerator := false, isCoroutine := false }

/-! ### no exception leaves a def -/
abbrev CX0 : CXT := fun _ _ _ _ _ _ => False
abbrev E0 : XK := fun _ _ _ => False
theorem pass0 {X : Cx} : Passes CX0 X E0 := fun _ _ _ _ _ _ _ h => h.elim

/-! ### a def (or method) of the text as it stands behind the top -/
structure Fun (K : PySem.W.Frag) (x qual : Str) (st : Stmt) (f : Addr) (fd : FuncData) : Prop where
  ex : ∃ (oc : Value) (od : Option Addr) (kV doc pm : Value) (an : Option Addr) (cdv ct : Value) (osl : Array (Option Value)),
    fd = PySem.W.fnOf x qual (defArgs st) (defBody st) (defScope st) .none kV doc pm an cdv ct ∧ K.lookup f = some ⟨oc, od, .func fd, osl⟩ ∧ PySem.W.codeIn K cdv qual = true
  kp : PySem.W.keepIn K (.ref f) = true
section
variable {P : Program} {w : World} {K : PySem.W.Frag} {mg : Str → Option Value} {base : Heap}
/-- THE RULE for a def: its body as a term of rules, and the reading of that term -/
theorem Fun.ok {x qual : Str} {st : Stmt} {f : Addr} {fd : FuncData} {N ps : List Str} {k : Nat} {sp : Sp} (F : Fun K x qual st f fd) (S : FnScope N ps (defScope st)) (len : ∀ vs H Q E, sp vs H Q E → vs.length = ps.length)
    (hbody : ∀ (cdv : Value) (A : Around) (outer : List Env) (s : Shared) (H : Hp) (vs : List V) (Q : VK) (E : XK), Room k (A.deeper (envOfC qual (defScope st) s.heap.objs.size f cdv)) → sp vs H Q E →
      ∃ t, PSs (cxOf CX0 P w K mg base N qual (defScope st) f cdv A outer s H E).nox (defBody st) t ∧ t { nx := fun _ H' => Q .non H', rt := Q } (start N vs) H) : FnOk P w K mg base CX0 (k + 1) f fd ps sp := by
  obtain ⟨oc, od, kV, doc, pm, an, cdv, ct, osl, rfl, lk, hcd⟩ := F.ex
  refine fn_of lk hcd S len fun A outer s H vs Q E hr hsp => ?_
  obtain ⟨t, h, q⟩ := hbody cdv A outer s H vs Q E hr hsp
  exact ⟨t, h.nox, q⟩
/-- how its arguments bind (no defaults): h is «fun _ _ _ _ _ _ us hl => match us, hl with | [_, _], _ => rfl», one _ a parameter -/
theorem Fun.binds {x qual : Str} {st : Stmt} {f : Addr} {fd : FuncData} {ps : List Str} (F : Fun K x qual st f fd)
    (h : ∀ (kV doc pm : Value) (an : Option Addr) (cdv ct : Value) (us : List Value), us.length = ps.length → bindArgs (PySem.W.fnOf x qual (defArgs st) (defBody st) (defScope st) .none kV doc pm an cdv ct) ⟨us, []⟩ = pure (ps.zip us)) : Binds K fd ps [] := by
  obtain ⟨oc, od, kV, doc, pm, an, cdv, ct, osl, rfl, lk, hcd⟩ := F.ex
  exact .all (h kV doc pm an cdv ct)
theorem fun_mk {x qual : Str} {st : Stmt} {f : Addr} {oc : Value} {od an : Option Addr} {osl : Array (Option Value)} {kV doc pm cdv ct : Value} (l : K.lookup f = some ⟨oc, od, .func (PySem.W.fnOf x qual (defArgs st) (defBody st) (defScope st) .none kV doc pm an cdv ct), osl⟩)
    (c : PySem.W.codeIn K cdv qual = true) (k : PySem.W.keepIn K (.ref f) = true) : Fun K x qual st f (PySem.W.fnOf x qual (defArgs st) (defBody st) (defScope st) .none kV doc pm an cdv ct) := ⟨⟨oc, od, kV, doc, pm, an, cdv, ct, osl, rfl, l, c⟩, k⟩
end
theorem small1000 {n : Nat} (h : n ≤ 1000) : n < sizeLine := Nat.lt_of_le_of_lt h (by decide)

/-! ### expressions in short: the name that stands in the i-th slot -/
section
variable {X : Cx}
theorem pv (i : Nat) {x : Str} {pos : Pos} (hN : X.N[i]? = some x := by rfl) (hv : Vis X.env.scope x := by first | exact Or.inl rfl | exact Or.inr (Or.inl rfl) | exact Or.inr (Or.inr rfl)) (hd : (x == ("__debug__" : Str)) = false := by decide)
    (hcd : (x == ("__classdict__" : Str)) = false := by decide) : PE X (.Name x pos) (tVar i) := pe_var hN hv hd hcd
end

/-! ### tests -/
theorem iteF {A B : Prop} (h : B) : if false = true then A else B := by
  rw [if_neg Bool.false_ne_true]
  exact h
theorem iteT {A B : Prop} (h : A) : if true = true then A else B := by
  rw [if_pos rfl]
  exact h
theorem ite2 {c A B : Prop} [Decidable c] (h1 : c → A) (h2 : ¬ c → B) : if c then A else B := by
  by_cases h : c
  · rw [if_pos h]
    exact h1 h
  · rw [if_neg h]
    exact h2 h
theorem iteNS {c A B : Prop} [Decidable c] (hc : c) (h : B) : if (!decide c) = true then A else B := by
  rw [decide_eq_true hc]
  exact iteF h

/-! ### heaps -/
/-- all that was tracked is as it was -/
def Same (H H' : Hp) : Prop := ∀ b o, H b = some o → H' b = some o
theorem Same.refl (H : Hp) : Same H H := fun _ _ h => h
theorem Same.trans {H H1 H2 : Hp} (a : Same H H1) (b : Same H1 H2) : Same H H2 := fun c o h => b c o (a c o h)
theorem Same.free {H H' : Hp} (e : Same H H') {l : Addr} (h : H' l = Option.none) : H l = Option.none := by
  cases q : H l with
  | none => rfl
  | some o =>
    rw [e l o q] at h
    cases h
theorem Same.seq {K : PySem.W.Frag} {H H' : Hp} {a : Addr} {xs : List V} (e : Same H H') (h : SqL K H a xs) : SqL K H' a xs := by
  rcases h with (h | ⟨o, h⟩) | h
  · exact .inl (.inl (e _ _ h))
  · exact .inl (.inr ⟨o, e _ _ h⟩)
  · exact .inr h

end L2

namespace SO
/-! the mathematics: shapes -/
theorem all_true {α : Type} (l : List α) : l.filter (fun _ => true) = l := List.filter_eq_self.mpr fun _ _ => rfl
theorem no_dec {p : Prop} [Decidable p] (h : ¬ p) : decide p = false := decide_eq_false h
def rk (row : List Int) (x : Int) : Int := ((row.filter (fun y => decide (y < x))).length : Nat)
def ranks (row : List Int) : List Int := row.map (rk row)
def upto (n : Nat) : List Int := (List.range n).map (fun (k : Nat) => (k : Int))
def Sh (xs : List Int) : Prop := xs.Perm (upto xs.length)
instance (xs : List Int) : Decidable (Sh xs) := inferInstanceAs (Decidable (xs.Perm _))

theorem upto_length (n : Nat) : (upto n).length = n := by simp [upto]
theorem mem_upto {n : Nat} {x : Int} : x ∈ upto n ↔ 0 ≤ x ∧ x < n := by
  unfold upto
  rw [List.mem_map]
  simp only [List.mem_range]
  constructor
  · rintro ⟨k, hk, rfl⟩; omega
  · intro h; exact ⟨x.toNat, by omega, by omega⟩
theorem nodup_map_of_inj {α β : Type} (f : α → β) : ∀ {l : List α}, (∀ x ∈ l, ∀ y ∈ l, f x = f y → x = y) → l.Nodup → (l.map f).Nodup
  | [], _, _ => by simp
  | a :: r, hi, hn => by
    rw [List.nodup_cons] at hn
    refine List.nodup_cons.mpr ⟨fun hm => ?_, nodup_map_of_inj f (fun x hx y hy => hi x (List.mem_cons_of_mem _ hx) y (List.mem_cons_of_mem _ hy)) hn.2⟩
    have ⟨b, hb, e⟩ := List.mem_map.mp hm
    have := hi b (List.mem_cons_of_mem _ hb) a List.mem_cons_self e
    subst this
    exact hn.1 hb
theorem upto_nodup (n : Nat) : (upto n).Nodup := nodup_map_of_inj _ (fun x _ y _ h => by omega) List.nodup_range
theorem upto_sorted (n : Nat) : (upto n).Pairwise (· ≤ ·) := by
  unfold upto
  rw [List.pairwise_map]
  exact List.pairwise_lt_range.imp (fun h => by omega)
theorem upto_get {n k : Nat} (h : k < n) : (upto n)[k]? = some (k : Int) := by
  unfold upto
  rw [List.getElem?_map, List.getElem?_range h]; rfl
theorem Sh.nodup {xs : List Int} (h : Sh xs) : xs.Nodup := h.nodup_iff.mpr (upto_nodup _)
theorem Sh.mem {xs : List Int} (h : Sh xs) {x : Int} : x ∈ xs ↔ 0 ≤ x ∧ x < xs.length := (h.mem_iff).trans mem_upto
theorem filter_length_mono {p q : Int → Bool} (h : ∀ x, p x = true → q x = true) : ∀ l : List Int, (l.filter p).length ≤ (l.filter q).length
  | [] => by simp
  | a :: r => by
    have ih := filter_length_mono h r
    simp only [List.filter_cons]
    by_cases hp : p a = true
    · rw [if_pos hp, if_pos (h a hp)]; simp; exact ih
    · rw [if_neg hp]
      split
      · simp; omega
      · exact ih
theorem filter_length_lt {p q : Int → Bool} (h : ∀ x, p x = true → q x = true) {z : Int} (hz : p z = false) (hz' : q z = true) : ∀ l : List Int, z ∈ l → (l.filter p).length < (l.filter q).length
  | [], hm => by cases hm
  | a :: r, hm => by
    simp only [List.filter_cons]
    by_cases e : a = z
    · subst e
      have := filter_length_mono h r
      rw [if_neg (by rw [hz]; simp), if_pos hz']
      simp; omega
    · have hm' : z ∈ r := by
        rcases List.mem_cons.mp hm with h1 | h1
        · exact absurd h1.symm e
        · exact h1
      have ih := filter_length_lt h hz hz' r hm'
      by_cases hp : p a = true
      · rw [if_pos hp, if_pos (h a hp)]; simp; exact ih
      · rw [if_neg hp]
        split
        · simp; omega
        · exact ih
theorem rk_lt {row : List Int} {x y : Int} (hx : x ∈ row) (h : x < y) : rk row x < rk row y := by
  unfold rk
  have := filter_length_lt (p := fun z => decide (z < x)) (q := fun z => decide (z < y)) (fun z hz => by
    have : z < x := of_decide_eq_true hz
    exact decide_eq_true (by omega)) (z := x) (by simp) (by simpa using h) row hx
  omega
theorem ranks_length (row : List Int) : (ranks row).length = row.length := by simp [ranks]
theorem rk_upto {n : Nat} : ∀ {k : Nat}, k ≤ n → rk (upto n) (k : Int) = k := by
  intro k hk
  unfold rk upto
  rw [List.filter_map, List.length_map]
  have : ((fun y : Int => decide (y < (k : Int))) ∘ fun (j : Nat) => (j : Int)) = fun j : Nat => decide (j < k) := by
    funext j
    simp
  rw [this]
  have : (List.range n).filter (fun j => decide (j < k)) = List.range k := by
    have e : n = k + (n - k) := by omega
    rw [e, List.range_add, List.filter_append]
    have h1 : (List.range k).filter (fun j => decide (j < k)) = List.range k := List.filter_eq_self.mpr (fun j hj => by simpa using hj)
    have h2 : ((List.range (n - k)).map (k + ·)).filter (fun j => decide (j < k)) = [] := by
      rw [List.filter_eq_nil_iff]
      intro j hj
      obtain ⟨i, _, rfl⟩ := List.mem_map.mp hj
      simp
    rw [h1, h2, List.append_nil]
  rw [this, List.length_range]
theorem rk_perm {a b : List Int} (h : a.Perm b) (x : Int) : rk a x = rk b x := by
  unfold rk
  rw [(h.filter _).length_eq]
theorem ranks_self {xs : List Int} (h : Sh xs) : ranks xs = xs := by
  unfold ranks
  conv => rhs; rw [← List.map_id xs]
  refine List.map_congr_left fun x hx => ?_
  have hb := h.mem.mp hx
  rw [rk_perm h]
  have e : x = ((x.toNat : Nat) : Int) := by omega
  rw [e, rk_upto (by omega)]; rfl
theorem sorted_eq_upto {s xs : List Int} (hp : s.Perm xs) (hs : s.Pairwise (· ≤ ·)) {n : Nat} : (s = upto n) ↔ xs.Perm (upto n) := by
  constructor
  · intro e; rw [← e]; exact hp.symm
  · intro h
    have h2 : s.Perm (upto n) := hp.trans h
    exact h2.eq_of_pairwise (fun a b _ _ h1 h2 => Int.le_antisymm h1 h2) hs (upto_sorted n)

/-! backward, contrary, turned over -/
end SO

namespace SO
/-! orders within rows -/
def vAt (row : List Int) (k : Nat) : Int := row.getD k 0
theorem vAt_get {row : List Int} {k : Nat} (h : k < row.length) : row[k]? = some (vAt row k) := by
  unfold vAt
  simp [List.getD_eq_getElem?_getD, List.getElem?_eq_getElem h]
theorem vAt_of {row : List Int} {k : Nat} {v : Int} (h : row[k]? = some v) : vAt row k = v := by
  unfold vAt
  rw [List.getD_eq_getElem?_getD, h]; rfl
theorem vAt_mem {row : List Int} {k : Nat} (h : k < row.length) : vAt row k ∈ row := List.mem_of_getElem? (vAt_get h)
theorem vAt_inj {row : List Int} (hn : row.Nodup) {i j : Nat} (hi : i < row.length) (hj : j < row.length) (h : vAt row i = vAt row j) : i = j := by
  have h1 := vAt_get hi
  rw [h, ← vAt_get hj] at h1
  exact (List.getElem?_inj hi hn).mp h1
def startOf (t : List Nat) : Nat := match t.getLast? with
  | none => 0
  | some l => l + 1
def agr (row order : List Int) (t : List Nat) (p : Nat) : Bool :=
  (List.range t.length).all fun k => decide (decide (vAt row (t.getD k 0) < vAt row p) = decide (vAt order k < vAt order t.length))
def froms (n : Nat) (t : List Nat) : List Nat := List.range' (startOf t) (n - startOf t)
theorem mem_froms {n : Nat} {t : List Nat} {p : Nat} : p ∈ froms n t ↔ startOf t ≤ p ∧ p < n := by
  unfold froms
  rw [List.mem_range'_1]
  omega
def nextP (row order : List Int) (t : List Nat) : List Nat := (froms row.length t).filter (agr row order t)
def allF (row order : List Int) : Nat → List Nat → List (List Nat)
  | 0, t => [t]
  | d + 1, t => (nextP row order t).flatMap fun p => allF row order d (t ++ [p])
def firstF (row order : List Int) : Nat → List Nat → Option (List Nat)
  | 0, t => some t
  | d + 1, t => (nextP row order t).findSome? fun p => firstF row order d (t ++ [p])
theorem firstF_head (row order : List Int) : ∀ (d : Nat) (t : List Nat), firstF row order d t = (allF row order d t).head?
  | 0, t => rfl
  | d + 1, t => by
    show (nextP row order t).findSome? _ = ((nextP row order t).flatMap _).head?
    rw [List.head?_flatMap]
    congr 1
    funext p
    exact firstF_head row order d (t ++ [p])
def comb (n : Nat) : Nat → List Nat → List (List Nat)
  | 0, t => [t]
  | d + 1, t => (froms n t).flatMap fun p => comb n d (t ++ [p])
def okP (row order : List Int) (t : List Nat) : Bool := decide (ranks (t.map (vAt row)) = order)
/-- all pairs of t stand as in the order -/
def Agree (row order : List Int) (t : List Nat) : Prop := ∀ i j, i < j → j < t.length → (vAt row (t.getD i 0) < vAt row (t.getD j 0) ↔ vAt order i < vAt order j)
/-- rising, below n -/
def Rises (n : Nat) (t : List Nat) : Prop := t.Pairwise (· < ·) ∧ ∀ p ∈ t, p < n
theorem Rises.nil (n : Nat) : Rises n [] := ⟨List.Pairwise.nil, fun _ h => nomatch h⟩
theorem Rises.snoc {n : Nat} {t : List Nat} {p : Nat} (h : Rises n t) (hp : startOf t ≤ p) (hn : p < n) : Rises n (t ++ [p]) := by
  refine ⟨?_, fun q hq => ?_⟩
  · rw [List.pairwise_append]
    refine ⟨h.1, by simp, fun a ha b hb => ?_⟩
    have hb' : b = p := by simpa using hb
    subst hb'
    unfold startOf at hp
    cases e : t.getLast? with
    | none =>
      have : t = [] := List.getLast?_eq_none_iff.mp e
      subst this; cases ha
    | some l =>
      rw [e] at hp
      have hp' : l + 1 ≤ b := hp
      obtain ⟨u, hu⟩ := List.getLast?_eq_some_iff.mp e
      subst hu
      obtain ha | ha := List.mem_append.mp ha
      · have := (List.pairwise_append.mp h.1).2.2 a ha l (by simp)
        omega
      · have : a = l := by simpa using ha
        omega
  · obtain hq | hq := List.mem_append.mp hq
    · exact h.2 q hq
    · have : q = p := by simpa using hq
      omega
theorem getD_snoc_lt {t : List Nat} {p k : Nat} (h : k < t.length) : (t ++ [p]).getD k 0 = t.getD k 0 := by
  rw [List.getD_eq_getElem?_getD, List.getD_eq_getElem?_getD, List.getElem?_append_left h]
theorem getD_snoc_eq {t : List Nat} {p : Nat} : (t ++ [p]).getD t.length 0 = p := by
  rw [List.getD_eq_getElem?_getD, List.getElem?_append_right (Nat.le_refl _)]; simp
theorem agree_snoc {row order : List Int} {t : List Nat} {p : Nat} : Agree row order (t ++ [p]) ↔ Agree row order t ∧ agr row order t p = true := by
  unfold agr
  rw [List.all_eq_true]
  constructor
  · intro h
    refine ⟨fun i j hij hj => ?_, fun k hk => ?_⟩
    · have := h i j hij (by rw [List.length_append]; omega)
      rw [getD_snoc_lt (by omega), getD_snoc_lt (by omega)] at this
      exact this
    · have hk' : k < t.length := List.mem_range.mp hk
      have := h k t.length hk' (by rw [List.length_append]; simp)
      rw [getD_snoc_lt hk', getD_snoc_eq] at this
      exact decide_eq_true (decide_eq_decide.mpr this)
  · rintro ⟨h1, h2⟩ i j hij hj
    rw [List.length_append, List.length_singleton] at hj
    by_cases hjt : j < t.length
    · rw [getD_snoc_lt (by omega), getD_snoc_lt (by omega)]
      exact h1 i j hij hjt
    · have e : j = t.length := by omega
      subst e
      rw [getD_snoc_lt hij, getD_snoc_eq]
      exact decide_eq_decide.mp (of_decide_eq_true (h2 i (List.mem_range.mpr hij)))
/-- ranks are the order just where all pairs agree -/
theorem filter_count {α : Type} (p : α → Bool) : ∀ l : List α, (l.filter p).length = ((List.range l.length).filter fun k => match l[k]? with | some x => p x | none => false).length
  | [] => rfl
  | a :: r => by
    rw [List.length_cons, List.range_succ_eq_map, List.filter_cons, List.filter_cons]
    have ih := filter_count p r
    have e : ((List.range r.length).map Nat.succ).filter (fun k => match (a :: r)[k]? with | some x => p x | none => false) =
        ((List.range r.length).filter fun k => match r[k]? with | some x => p x | none => false).map Nat.succ := by
      rw [List.filter_map]; congr 1
    rw [e]
    by_cases hp : p a = true
    · rw [if_pos hp, if_pos (show (match (a :: r)[0]? with | some x => p x | none => false) = true from hp), List.length_cons, List.length_cons, List.length_map, ih]
    · rw [if_neg hp, if_neg (show ¬ (match (a :: r)[0]? with | some x => p x | none => false) = true from hp), List.length_map, ih]
theorem rk_range (vs : List Int) (x : Int) : rk vs x = (((List.range vs.length).filter fun k => decide (vAt vs k < x)).length : Nat) := by
  unfold rk
  rw [filter_count]
  congr 2
  apply List.filter_congr
  intro k hk
  rw [vAt_get (List.mem_range.mp hk)]
theorem ranks_get {vs : List Int} {k : Nat} (h : k < vs.length) : (ranks vs)[k]? = some (rk vs (vAt vs k)) := by
  unfold ranks
  rw [List.getElem?_map, vAt_get h]; rfl
theorem rk_lt_iff {vs : List Int} {i j : Nat} (hi : i < vs.length) (hj : j < vs.length) : rk vs (vAt vs i) < rk vs (vAt vs j) ↔ vAt vs i < vAt vs j := by
  constructor
  · intro h
    rcases Int.lt_trichotomy (vAt vs i) (vAt vs j) with h1 | h1 | h1
    · exact h1
    · rw [h1] at h; omega
    · have := rk_lt (vAt_mem hj) h1; omega
  · exact rk_lt (vAt_mem hi)
/-- two rows that stand alike have one shape -/
theorem ranks_congr {us vs : List Int} (hl : us.length = vs.length) (h : ∀ i j, i < us.length → j < us.length → (vAt us i < vAt us j ↔ vAt vs i < vAt vs j)) : ranks us = ranks vs := by
  apply List.ext_getElem?
  intro k
  by_cases hk : k < us.length
  · rw [ranks_get hk, ranks_get (by omega), rk_range, rk_range, ← hl]
    congr 3
    apply List.filter_congr
    intro i hi
    exact decide_eq_decide.mpr (h i k (List.mem_range.mp hi) hk)
  · rw [List.getElem?_eq_none (by rw [ranks_length]; omega), List.getElem?_eq_none (by rw [ranks_length]; omega)]
theorem ranks_iff {vs order : List Int} (hn : vs.Nodup) (ho : Sh order) (hl : vs.length = order.length) : ranks vs = order ↔ ∀ i j, i < j → j < vs.length → (vAt vs i < vAt vs j ↔ vAt order i < vAt order j) := by
  constructor
  · intro e i j hij hj
    have hr : ∀ k, k < vs.length → vAt order k = rk vs (vAt vs k) := fun k hk => by
      have := ranks_get hk
      rw [e] at this
      exact vAt_of this
    rw [hr i (by omega), hr j hj]
    exact (rk_lt_iff (by omega) hj).symm
  · intro h
    rw [← ranks_self ho]
    refine ranks_congr hl fun i j hi hj => ?_
    rcases Nat.lt_trichotomy i j with q | q | q
    · exact h i j q hj
    · subst q; simp
    · have h1 := h j i q hi
      have n1 : vAt vs i ≠ vAt vs j := fun e => by have := vAt_inj hn hi hj e; omega
      have n2 : vAt order i ≠ vAt order j := fun e => by have := vAt_inj ho.nodup (by omega) (by omega) e; omega
      omega
theorem vals_get {row : List Int} {t : List Nat} {k : Nat} (h : k < t.length) : vAt (t.map (vAt row)) k = vAt row (t.getD k 0) := by
  apply vAt_of
  rw [List.getElem?_map, List.getD_eq_getElem?_getD, List.getElem?_eq_getElem h]; rfl
theorem Rises.nodup {n : Nat} {t : List Nat} (h : Rises n t) : t.Nodup := h.1.imp (fun q => Nat.ne_of_lt q)
theorem vals_nodup {row : List Int} (hn : row.Nodup) {t : List Nat} (h : Rises row.length t) : (t.map (vAt row)).Nodup :=
  nodup_map_of_inj' hn h
where nodup_map_of_inj' {row : List Int} (hn : row.Nodup) {t : List Nat} (h : Rises row.length t) : (t.map (vAt row)).Nodup :=
  nodup_map_of_inj _ (fun _ hx _ hy e => vAt_inj hn (h.2 _ hx) (h.2 _ hy) e) h.nodup
theorem okP_iff {row order : List Int} (hn : row.Nodup) (ho : Sh order) {t : List Nat} (hr : Rises row.length t) (hl : t.length = order.length) : okP row order t = true ↔ Agree row order t := by
  unfold okP
  rw [decide_eq_true_iff, ranks_iff (vals_nodup hn hr) ho (by rw [List.length_map]; exact hl)]
  rw [List.length_map]
  constructor
  · intro h i j hij hj
    have := h i j hij hj
    rw [vals_get (by omega), vals_get hj] at this
    exact this
  · intro h i j hij hj
    rw [vals_get (by omega), vals_get hj]
    exact h i j hij hj
theorem comb_prefix {n : Nat} : ∀ (d : Nat) (t u : List Nat), u ∈ comb n d t → ∃ v, u = t ++ v ∧ v.length = d
  | 0, t, u, h => by
    have : u = t := by simpa [comb] using h
    exact ⟨[], by rw [this, List.append_nil], rfl⟩
  | d + 1, t, u, h => by
    have h' : u ∈ (froms n t).flatMap fun p => comb n d (t ++ [p]) := h
    obtain ⟨p, _, hp⟩ := List.mem_flatMap.mp h'
    obtain ⟨v, e, hv⟩ := comb_prefix d (t ++ [p]) u hp
    exact ⟨p :: v, by rw [e, List.append_assoc]; rfl, by rw [List.length_cons, hv]⟩
theorem comb_rises {n : Nat} : ∀ (d : Nat) (t u : List Nat), Rises n t → u ∈ comb n d t → Rises n u
  | 0, t, u, ht, h => by
    have : u = t := by simpa [comb] using h
    rw [this]; exact ht
  | d + 1, t, u, ht, h => by
    have h' : u ∈ (froms n t).flatMap fun p => comb n d (t ++ [p]) := h
    obtain ⟨p, hp0, hp⟩ := List.mem_flatMap.mp h'
    have hf := mem_froms.mp hp0
    exact comb_rises d (t ++ [p]) u (ht.snoc hf.1 hf.2) hp
theorem agree_prefix {row order : List Int} {t v : List Nat} (h : Agree row order (t ++ v)) : Agree row order t := fun i j hij hj => by
  have := h i j hij (by rw [List.length_append]; omega)
  rw [List.getD_eq_getElem?_getD, List.getD_eq_getElem?_getD, List.getElem?_append_left (by omega), List.getElem?_append_left (by omega)] at this
  rw [List.getD_eq_getElem?_getD, List.getD_eq_getElem?_getD]
  exact this
theorem filter_flatMap' {α β : Type} (p : β → Bool) (f : α → List β) : ∀ l : List α, (l.flatMap f).filter p = l.flatMap fun x => (f x).filter p
  | [] => rfl
  | a :: r => by rw [List.flatMap_cons, List.flatMap_cons, List.filter_append, filter_flatMap' p f r]
theorem flatMap_filter_drop {α β : Type} (q : α → Bool) (f : α → List β) : ∀ l : List α, (∀ x ∈ l, q x = false → f x = []) → l.flatMap f = (l.filter q).flatMap f
  | [], _ => rfl
  | a :: r, h => by
    have ih := flatMap_filter_drop q f r fun x hx => h x (List.mem_cons_of_mem _ hx)
    rw [List.flatMap_cons, List.filter_cons]
    by_cases hq : q a = true
    · rw [if_pos hq, List.flatMap_cons, ih]
    · rw [if_neg hq, h a List.mem_cons_self (by simpa using hq), List.nil_append, ih]
theorem flatMap_congr' {α β : Type} {f g : α → List β} : ∀ {l : List α}, (∀ x ∈ l, f x = g x) → l.flatMap f = l.flatMap g
  | [], _ => rfl
  | a :: r, h => by rw [List.flatMap_cons, List.flatMap_cons, h a List.mem_cons_self, flatMap_congr' fun x hx => h x (List.mem_cons_of_mem _ hx)]
/-- the search gives just the places at which the order stands, in order -/
theorem allF_eq {row order : List Int} (hn : row.Nodup) (ho : Sh order) : ∀ (d : Nat) (t : List Nat), Rises row.length t → Agree row order t → t.length + d = order.length → allF row order d t = (comb row.length d t).filter (okP row order)
  | 0, t, hr, ha, hl => by
    show [t] = [t].filter (okP row order)
    rw [List.filter_cons, if_pos ((okP_iff hn ho hr (by omega)).mpr ha)]; rfl
  | d + 1, t, hr, ha, hl => by
    show (nextP row order t).flatMap _ = ((froms row.length t).flatMap _).filter _
    rw [filter_flatMap', flatMap_filter_drop (agr row order t) (fun x => (comb row.length d (t ++ [x])).filter (okP row order)) (froms row.length t)]
    · refine flatMap_congr' fun p hp => ?_
      obtain ⟨hp1, hp2⟩ := List.mem_filter.mp hp
      have hf := mem_froms.mp hp1
      exact allF_eq hn ho d (t ++ [p]) (hr.snoc hf.1 hf.2) (agree_snoc.mpr ⟨ha, hp2⟩) (by rw [List.length_append, List.length_singleton]; omega)
    · intro p hp hq
      have hf := mem_froms.mp hp
      rw [List.filter_eq_nil_iff]
      intro u hu hok
      have hru := comb_rises d (t ++ [p]) u (hr.snoc hf.1 hf.2) hu
      obtain ⟨v, e, hv⟩ := comb_prefix d (t ++ [p]) u hu
      have := (okP_iff hn ho hru (by rw [e, List.length_append, List.length_append, List.length_singleton, hv]; omega)).mp hok
      rw [e] at this
      have := (agree_snoc.mp (agree_prefix this)).2
      rw [this] at hq; cases hq
theorem allF_all {row order : List Int} (hn : row.Nodup) (ho : Sh order) : allF row order order.length [] = (comb row.length order.length []).filter (okP row order) :=
  allF_eq hn ho _ [] (Rises.nil _) (fun _ _ _ h => absurd h (Nat.not_lt_zero _)) (by simp)
/-! level by level -/
end SO

namespace SO
/-! how often an order stands, from each side -/
def cnt (row order : List Int) : Nat := ((comb row.length order.length []).filter (okP row order)).length
/-! backward -/
/-! contrary -/
/-! turned over -/
/-! the six orders of three -/
end SO

namespace SO
/-! shapes by putting in; lengths; levels -/
theorem froms_len (n : Nat) (t : List Nat) : (froms n t).length ≤ n := by
  unfold froms; rw [List.length_range']; omega
theorem findSome_none {α β : Type} {f : α → Option β} {l : List α} (h : ∀ x ∈ l, f x = none) : l.findSome? f = none := List.findSome?_eq_none_iff.mpr h
theorem findSome_at {α β : Type} {f : α → Option β} {l : List α} {i : Nat} {x : α} {b : β} (hx : l[i]? = some x) (hb : ∀ y ∈ l.take i, f y = none) (h : f x = some b) : l.findSome? f = some b := by
  obtain ⟨hi, e⟩ := List.getElem?_eq_some_iff.mp hx
  have hl : l = l.take i ++ x :: l.drop (i + 1) := by
    conv => lhs; rw [← List.take_append_drop i l, List.drop_eq_getElem_cons hi, e]
  rw [hl, List.findSome?_append, findSome_none hb, Option.none_or, List.findSome?_cons, h]
theorem mem_take_succ {α : Type} {l : List α} {i : Nat} {x y : α} (hx : l[i]? = some x) (h : y ∈ l.take (i + 1)) : y ∈ l.take i ∨ y = x := by
  obtain ⟨hi, e⟩ := List.getElem?_eq_some_iff.mp hx
  rw [List.take_succ_eq_append_getElem hi, List.mem_append, e] at h
  rcases h with h | h
  · exact .inl h
  · right; simpa using h
theorem startOf_pos {t : List Nat} (h : 0 < t.length) : startOf t = t.getD (t.length - 1) 0 + 1 := by
  unfold startOf
  rw [List.getLast?_eq_getElem?, List.getD_eq_getElem?_getD]
  rw [List.getElem?_eq_getElem (show t.length - 1 < t.length by omega)]
  rfl
theorem startOf_le_n {n : Nat} {t : List Nat} (h : Rises n t) : startOf t ≤ n := by
  unfold startOf
  cases e : t.getLast? with
  | none => exact Nat.zero_le _
  | some l => exact h.2 l (List.mem_of_getLast? e)
end SO

namespace SO
/-! wrong pairs, falls, the exchange -/
/-! the way back -/
end SO

namespace SO
/-! wrong pairs from each side -/
/-! double counts -/
end SO

namespace SO
/-! a list is a shape just where each number below its length stands in it -/
end SO

namespace SO
/-! the parts of a row, as the program makes them -/
end SO

namespace SO
/-! in how many ways least numbers go on, and their numbers -/
def ways : Nat → Nat → Nat
  | 0, _ => 1
  | n + 1, last => ((List.range (min (last + 1) (n + 1))).map (ways n)).sum
def upW (n k : Nat) : Nat := ((List.range k).map (ways n)).sum
theorem ways_succ (n last : Nat) : ways (n + 1) last = upW n (min (last + 1) (n + 1)) := rfl
end SO

namespace SO
/-! shapes by their least numbers -/
/-! what the program picks -/
/-! an order brought to one of the two, and a shape likewise -/
end SO

namespace SO
theorem sum_cast (g : Nat → Nat) : ∀ l : List Nat, (l.map fun k => ((g k : Nat) : Int)).sum = ((l.map g).sum : Nat)
  | [] => rfl
  | a :: r => by rw [List.map_cons, List.sum_cons, sum_cast g r, List.map_cons, List.sum_cons]; omega
end SO

namespace SO
theorem wsum {m n k : Nat} (hk : k ≤ m) : (((List.range m).map fun v => ((ways n v : Nat) : Int)).take k).sum = ((upW n k : Nat) : Int) := by
  rw [← List.map_take, List.take_range, Nat.min_eq_left hk, sum_cast]
  rfl
end SO

namespace SO
/-! the counts of threes, as a table made row by row -/
end SO
namespace SO
end SO
namespace SO
end SO

namespace SO
/-! how many have so many falls, how many so many wrong pairs: row by row -/
end SO

namespace L2
open PySem PySem.Spec PyProof.Rows

/-! ### comprehensions: the block's environment -/
def closOf (scope : Scope) (env : Env) : List (Str × Addr) :=
  scope.names.foldl (fun cs y => if (y.2 == .free) = true then (y.1, (env.cells.lookup y.1).getD 0) :: cs else cs) []
theorem clos_fold {env : Env} (f : Str × NameKind → List (Str × Addr) → Sem (ForInStep (List (Str × Addr))))
    (hf : ∀ n k cs, f (n, k) cs = if (k == .free) = true then (do let c ← cellOf env n; pure (.yield ((n, c) :: cs))) else pure (.yield cs)) :
    ∀ (names : List (Str × NameKind)) (acc : List (Str × Addr)), (∀ y ∈ names, y.2 = .free → ∃ c, env.cells.lookup y.1 = some c) →
      forIn names acc f = pure (names.foldl (fun cs y => if (y.2 == .free) = true then (y.1, (env.cells.lookup y.1).getD 0) :: cs else cs) acc)
  | [], acc, _ => by rw [List.forIn_nil]; rfl
  | (n, k) :: r, acc, h => by
    rw [List.forIn_cons, hf, List.foldl_cons]
    have hr : ∀ y ∈ r, y.2 = .free → ∃ c, env.cells.lookup y.1 = some c := fun y hy => h y (List.mem_cons_of_mem _ hy)
    by_cases hk : (k == NameKind.free) = true
    · obtain ⟨c, hc⟩ := h (n, k) List.mem_cons_self (by simpa using hk)
      have hc' : env.cells.lookup n = some c := hc
      have e : cellOf env n = pure c := by unfold cellOf; rw [hc']
      rw [if_pos hk, if_pos hk, e, pure_bind, pure_bind]
      have e2 : (env.cells.lookup n).getD 0 = c := by rw [hc']; rfl
      show forIn r ((n, c) :: acc) f = _
      rw [clos_fold f hf r ((n, c) :: acc) hr]
      show pure (List.foldl _ ((n, c) :: acc) r) = pure (List.foldl _ ((n, (env.cells.lookup n).getD 0) :: acc) r)
      rw [e2]
    · rw [if_neg hk, if_neg hk, pure_bind]
      exact clos_fold f hf r acc hr
theorem closureFor_of {scope : Scope} {env : Env} (h : ∀ y ∈ scope.names, y.2 = .free → ∃ c, env.cells.lookup y.1 = some c) : closureFor scope env = pure (closOf scope env) := by
  simp only [closureFor]
  rw [clos_fold _ (fun n k cs => by cases hk : k == NameKind.free <;> simp [hk]) _ _ h]
  rfl
theorem mem_clos {env : Env} : ∀ (names : List (Str × NameKind)) (acc : List (Str × Addr)) (x : Str) (c : Addr),
    (x, c) ∈ names.foldl (fun cs y => if (y.2 == .free) = true then (y.1, (env.cells.lookup y.1).getD 0) :: cs else cs) acc → (x, c) ∈ acc ∨ ((x, NameKind.free) ∈ names ∧ c = (env.cells.lookup x).getD 0)
  | [], acc, x, c, h => .inl h
  | (n, k) :: r, acc, x, c, h => by
    rw [List.foldl_cons] at h
    rcases mem_clos r _ x c h with h1 | h1
    · by_cases hk : (k == NameKind.free) = true
      · rw [if_pos hk] at h1
        rcases List.mem_cons.mp h1 with e | h2
        · injection e with e1 e2
          have hk' : k = .free := by simpa using hk
          subst hk'; subst e1
          exact .inr ⟨List.mem_cons_self, e2⟩
        · exact .inl h2
      · rw [if_neg hk] at h1
        exact .inl h1
    · exact .inr ⟨List.mem_cons_of_mem _ h1.1, h1.2⟩
theorem clos_has {env : Env} : ∀ (names : List (Str × NameKind)) (acc : List (Str × Addr)) (x : Str), ((x, NameKind.free) ∈ names ∨ (acc.lookup x).isSome = true) →
    ((names.foldl (fun cs y => if (y.2 == .free) = true then (y.1, (env.cells.lookup y.1).getD 0) :: cs else cs) acc).lookup x).isSome = true
  | [], acc, x, h => h.elim (fun e => nomatch e) id
  | (n, k) :: r, acc, x, h => by
    rw [List.foldl_cons]
    refine clos_has r _ x ?_
    have grow : (acc.lookup x).isSome = true → (((if (k == NameKind.free) = true then (n, (env.cells.lookup n).getD 0) :: acc else acc) : List (Str × Addr)).lookup x).isSome = true := fun ha => by
      split
      · rw [List.lookup_cons]
        split
        · rfl
        · exact ha
      · exact ha
    rcases h with h | h
    · rcases List.mem_cons.mp h with e | h
      · injection e with e1 e2
        subst e1; subst e2
        right
        show (List.lookup x (if (NameKind.free == NameKind.free) = true then (x, (env.cells.lookup x).getD 0) :: acc else acc)).isSome = true
        rw [if_pos (by decide), List.lookup_cons, beq_self_eq_true]
        rfl
      · exact .inl h
    · exact .inr (grow h)
/-- cells: the new ones over the closure's -/
theorem mem_cellsFrom : ∀ (names : List (Str × NameKind)) (n : Nat) (acc : List (Str × Addr)) (x : Str) (c : Addr), (x, c) ∈ cellsFrom n names acc → ((x, NameKind.cell) ∈ names ∧ n ≤ c) ∨ (x, c) ∈ acc
  | [], _, _, _, _, h => .inr h
  | (y, k) :: r, n, acc, x, c, h => by
    unfold cellsFrom at h
    split at h
    · rename_i hk
      have hk' : k = .cell := by simpa using hk
      rcases mem_cellsFrom r (n + 1) _ x c h with ⟨h1, h2⟩ | h1
      · exact .inl ⟨List.mem_cons_of_mem _ h1, by omega⟩
      · rcases List.mem_cons.mp h1 with e | h2
        · injection e with e1 e2
          subst e1; subst e2; subst hk'
          exact .inl ⟨List.mem_cons_self, Nat.le_refl _⟩
        · exact .inr h2
    · rcases mem_cellsFrom r n _ x c h with ⟨h1, h2⟩ | h1
      · exact .inl ⟨List.mem_cons_of_mem _ h1, h2⟩
      · exact .inr h1
theorem cellsFrom_inj : ∀ (names : List (Str × NameKind)) (n : Nat) (acc : List (Str × Addr)), (∀ x y c, (x, c) ∈ acc → (y, c) ∈ acc → x = y) → (∀ x c, (x, c) ∈ acc → c < n) →
    ∀ x y c, (x, c) ∈ cellsFrom n names acc → (y, c) ∈ cellsFrom n names acc → x = y
  | [], _, _, hi, _ => hi
  | (z, k) :: r, n, acc, hi, hl => by
    unfold cellsFrom
    split
    · refine cellsFrom_inj r (n + 1) _ (fun x y c h1 h2 => ?_) (fun x c h => ?_)
      · rcases List.mem_cons.mp h1 with e | h1
        · rcases List.mem_cons.mp h2 with e' | h2
          · injection e with e1 _; injection e' with e2 _; rw [e1, e2]
          · injection e with _ e1
            exact absurd (hl _ _ h2) (by rw [e1]; exact Nat.lt_irrefl _)
        · rcases List.mem_cons.mp h2 with e' | h2
          · injection e' with _ e1
            exact absurd (hl _ _ h1) (by rw [e1]; exact Nat.lt_irrefl _)
          · exact hi x y c h1 h2
      · rcases List.mem_cons.mp h with e | h
        · injection e with _ e1
          rw [e1]; exact Nat.lt_succ_self _
        · exact Nat.lt_succ_of_lt (hl _ _ h)
    · exact cellsFrom_inj r n acc hi hl
theorem cellsFrom_not : ∀ (names : List (Str × NameKind)) (n : Nat) (acc : List (Str × Addr)) (x : Str), (x, NameKind.cell) ∉ names → (cellsFrom n names acc).lookup x = acc.lookup x
  | [], _, _, _, _ => rfl
  | (z, k) :: r, n, acc, x, h => by
    have hr : (x, NameKind.cell) ∉ r := fun q => h (List.mem_cons_of_mem _ q)
    unfold cellsFrom
    split
    · rename_i hk
      have hk' : k = .cell := by simpa using hk
      rw [cellsFrom_not r (n + 1) _ x hr, List.lookup_cons]
      split
      · rename_i hz
        have e : x = z := by simpa using hz
        subst e; subst hk'
        exact absurd List.mem_cons_self h
      · rfl
    · exact cellsFrom_not r n acc x hr
theorem cellsFrom_is : ∀ (names : List (Str × NameKind)) (h : Heap) (acc : List (Str × Addr)), (∀ x c, (x, c) ∈ acc → ∃ v, h.IsCell c v) → ∀ x c, (x, c) ∈ cellsFrom h.objs.size names acc → ∃ v, (pushCells h names).IsCell c v
  | [], _, _, ha => ha
  | (z, k) :: r, h, acc, ha => by
    unfold cellsFrom pushCells
    split
    · have := cellsFrom_is r (h.push { cls := .type "cell", data := .cell none }) ((z, h.objs.size) :: acc) (fun x c hm => by
        obtain e | hm := List.mem_cons.mp hm
        · cases e; exact ⟨_, _, Heap.get?_push_size _ rfl, rfl⟩
        · obtain ⟨v, q⟩ := ha x c hm
          exact ⟨v, q.keeps fun b o e => Heap.get?_push_of_some _ e⟩)
      rw [Heap.size_push] at this
      exact this
    · exact cellsFrom_is r h acc ha
theorem newCompEnv {M : Model} {A : Around} {E : Value → Shared → Prop} {s : Shared} {scope : Scope} {globals : Addr} {cl : List (Str × Addr)} {qual : Str} {outer : Env} {Q : Env → Shared → Prop}
    (hQ : Q { scope, locals := s.heap.objs.size, globals, cells := cellsFrom (s.heap.objs.size + 1) scope.names cl, qual, func := none, code := outer.code, frame := outer.frame, builtins := outer.builtins }
      { s with heap := pushCells (s.heap.push { cls := .type "dict", data := .dict #[] }) scope.names }) :
    wpAny M A (newFunctionEnv scope globals cl [] qual none .none (some outer)) Q E s := by
  simp only [newFunctionEnv, Option.isSome_some, ↓reduceIte]
  have each : ∀ kd : NameKind, (kd == .cell) = true ∨ (kd == .cell) = false := fun kd => by cases kd <;> decide
  refine wpAny_bind (wpAny_alloc (wpAny_bind (wpAny_layCells _ (fun _ kd _ => by rcases each kd with z | z <;> simp [z]) _ _ _ _ ?_)))
  rw [show ({ s with heap := s.heap.push { cls := .type "dict", data := .dict #[] } } : Shared).heap.objs.size = s.heap.objs.size + 1 from Heap.size_push ..]
  first
    | exact wpAny_pure hQ
    | (rw [List.forIn_nil]; exact wpAny_bind (wpAny_pure (wpAny_pure hQ)))
    | (refine wpAny_bind ?_; rw [List.forIn_nil]; exact wpAny_pure (wpAny_pure hQ))
    | (simp only [List.forIn_nil]; exact wpAny_bind (wpAny_pure (wpAny_pure hQ)))
theorem relabel_lookup {env : Env} {x : Str} : ∀ (names : List (Str × NameKind)),
    (names.map fun (n, k) => if (k == NameKind.free && env.scope.kind == .function && env.kindOf n == some .cell) then (n, NameKind.cell) else (n, k)).lookup x =
      (names.lookup x).map fun k => if (k == NameKind.free && env.scope.kind == .function && env.kindOf x == some .cell) then NameKind.cell else k
  | [] => rfl
  | y :: r => by
    obtain ⟨n, k⟩ := y
    have ih := relabel_lookup (env := env) (x := x) r
    rw [List.map_cons]
    by_cases e : x = n
    · subst e
      by_cases c : (k == NameKind.free && env.scope.kind == .function && env.kindOf x == some .cell) = true <;> simp only [c, ↓reduceIte, Bool.false_eq_true, List.lookup_cons, beq_self_eq_true, Option.map_some]
    · have ne : (x == n) = false := beq_eq_false_iff_ne.mpr e
      rw [List.lookup_cons (b := k), ne, ← ih]
      dsimp only
      split <;> rw [List.lookup_cons, ne]

/-- the context of a comprehension's block -/
def compCx (X : Cx) (N : List Str) (scope : Scope) (cs : List (Str × Addr)) (C : Addr) (s₀ : Shared) (H₀ : Hp) (ex : List Addr) : Cx :=
  { prog := X.prog, w := X.w, K := X.K, mg := X.mg, base := X.base, A := X.A, N := N, s₀ := s₀, H₀ := H₀, env := compEnvC scope cs C X.env, outer := X.stack, stack := X.stack, ex := ex,
    fn := fun x => scope.names.lookup x == some .cell, calm := X.calm, pn := [], xe := fun _ _ => False }
/-- what is asked of the block's names: x the target, F the free names that are read, at the places is of the outer names -/
structure CompOk (fs : Scope) (NX : List Str) (x : Str) (F : List Str) (is : List Nat) (scope : Scope) : Prop where
  kind : scope.kind = .function
  keys : ∀ y ∈ scope.names, y.2 = .free → (y.1, NameKind.cell) ∉ scope.names
  loc : ∀ y ∈ scope.names, y.2 = .local → scope.names.lookup y.1 = some .local
  tgt : scope.names.lookup x = some .local ∨ scope.names.lookup x = some .cell
  nd : (x :: F).Nodup
  free : ∀ y ∈ scope.names, y.2 = .free → fs.names.lookup y.1 = some .cell ∨ fs.names.lookup y.1 = some .free
  fr : ∀ y ∈ F, scope.names.lookup y = some .free
  at' : is.map (fun i => NX[i]?) = F.map some
def pick (σ : St) (is : List Nat) : St := is.map fun i => (σ[i]?).join
theorem mem_of_lookupK {l : List (Str × NameKind)} {n : Str} {c : NameKind} (h : l.lookup n = some c) : (n, c) ∈ l := mem_of_lookup h

section
variable {X : Cx} {x : Str} {F : List Str} {is : List Nat} {scope fs : Scope} {NX : List Str}
theorem comp_start {pins : List (Addr × Obj)} {σ : St} {H : Hp} {s : Shared} {fp : List Addr} {o : Obj} (ho : ∀ v, o.data ≠ .cell v) (hof : o.isFreed = false) (K : CompOk fs NX x F is scope) (hfs : X.env.scope = fs) (hNX : X.N = NX) (I : Inv X pins σ H s) (hf : ∀ b ∈ fp, FpOk X pins H b)
    (hlt : ∀ b ∈ fp, b < s.heap.objs.size) :
    Inv (compCx X (x :: F) scope (cellsFrom (s.heap.objs.size + 1 + 1) scope.names (closOf scope X.env)) (s.heap.objs.size + 1) s H fp) [(s.heap.objs.size, o)] (none :: pick σ is) H
      { s with heap := pushCells ((s.heap.push o).push { cls := .type "dict", data := .dict #[] }) scope.names } := by
  subst hfs; subst hNX
  have hfree : ∀ y ∈ scope.names, y.2 = .free → ∃ c, X.env.cells.lookup y.1 = some c := fun y hy h => I.ok.has y.1 (K.free y hy h)
  have kp : ∀ b u, s.heap.get? b = some u → (pushCells ((s.heap.push o).push { cls := .type "dict", data := .dict #[] }) scope.names).get? b = some u := fun b u e =>
    pushCells_keeps _ _ b u (Heap.get?_push_of_some _ (Heap.get?_push_of_some _ e))
  have hsz : ((s.heap.push o).push { cls := .type "dict", data := .dict #[] }).objs.size = s.heap.objs.size + 1 + 1 := by rw [Heap.size_push, Heap.size_push]
  have cl_old : ∀ y c, (y, c) ∈ closOf scope X.env → X.env.cells.lookup y = some c := fun y c h => by
    rcases mem_clos _ _ y c h with h | ⟨h1, h2⟩
    · exact nomatch h
    · obtain ⟨c', e⟩ := hfree _ h1 rfl
      have e' : X.env.cells.lookup y = some c' := e
      rw [e'] at h2
      rw [e', h2]; rfl
  have cl_lt : ∀ y c, (y, c) ∈ closOf scope X.env → c < s.heap.objs.size := fun y c h => by
    obtain ⟨v, q⟩ := I.cell y c (cl_old y c h)
    exact q.lt
  have cases_of : ∀ y c, (cellsFrom (s.heap.objs.size + 1 + 1) scope.names (closOf scope X.env)).lookup y = some c → s.heap.objs.size + 1 + 1 ≤ c ∨ X.env.cells.lookup y = some c := fun y c h => by
    rcases mem_cellsFrom _ _ _ y c (mem_of_lookup h) with ⟨_, q⟩ | q
    · exact .inl q
    · exact .inr (cl_old y c q)
  refine ⟨⟨I.ok.mod, K.kind, I.ok.glob, I.ok.blt, ?_, ?_, ?_, ?_, I.ok.hd, I.ok.frames, .inl rfl, ?_, ?_, ?_, ?_, ?_, ?_, ?_⟩, rfl, I.bare, Un.kept kp, ?_, ?_, ?_, ?_, ?_, I.hok.kept kp, ?_⟩
  · show s.heap.objs.size ≤ s.heap.objs.size + 1
    omega
  · intro y z c h1 h2
    refine cellsFrom_inj scope.names _ (closOf scope X.env) (fun u v c g1 g2 => I.ok.inj u v c (cl_old _ _ g1) (cl_old _ _ g2)) (fun u c g => Nat.lt_succ_of_lt (Nat.lt_succ_of_lt (cl_lt _ _ g))) y z c (mem_of_lookup h1) (mem_of_lookup h2)
  · intro y hy
    have hy' : (relabel scope X.env).names.lookup y = some .cell ∨ (relabel scope X.env).names.lookup y = some .free := hy
    have q : scope.names.lookup y = some .cell ∨ scope.names.lookup y = some .free := by
      have e : (relabel scope X.env).names.lookup y = _ := relabel_lookup (env := X.env) (x := y) scope.names
      rw [e] at hy'
      cases hq : scope.names.lookup y with
      | none => rw [hq] at hy'; rcases hy' with z | z <;> cases z
      | some k =>
        rw [hq] at hy'
        by_cases hk : k = .free
        · subst hk; exact .inr rfl
        · have hk' : (k == NameKind.free) = false := by simpa using hk
          rw [Option.map_some] at hy'
          simp only [hk', Bool.false_and, Bool.false_eq_true, if_false] at hy'
          rcases hy' with z | z
          · exact .inl z
          · exact .inr z
    refine Option.isSome_iff_exists.mp (PySem.W.cellsFrom_some scope.names _ _ ?_)
    rcases q with q | q
    · exact .inl q
    · exact .inr (clos_has scope.names [] y (.inl (mem_of_lookup q)))
  · intro y c hy h
    have hy' : (scope.names.lookup y == some NameKind.cell) = true := hy
    have hm : (y, NameKind.cell) ∈ scope.names := mem_of_lookup (by simpa using hy')
    rcases mem_cellsFrom _ _ _ y c (mem_of_lookup h) with ⟨_, q⟩ | q
    · exact Nat.le_trans (Nat.le_trans (Nat.le_succ _) (Nat.le_succ _)) q
    · rcases mem_clos _ _ y c q with z | ⟨z, _⟩
      · exact nomatch z
      · exact absurd hm (K.keys _ z rfl)
  · intro b hb
    refine ⟨?_, fun y c h z => ?_⟩
    · exact Nat.ne_of_lt (Nat.lt_succ_of_lt (hlt b hb))
    · subst z
      rcases cases_of y c h with q | q
      · exact absurd (Nat.lt_of_lt_of_le (Nat.lt_succ_of_lt (Nat.lt_succ_of_lt (hlt c hb))) q) (Nat.lt_irrefl _)
      · exact (hf c hb).2.2.2.2.1 y c q rfl
  · exact I.bs
  · exact Nat.le_trans I.ok.bsz I.sz
  · intro b ob e hb
    rcases (hf b hb).2.2.2.1 with z | z
    · exact I.ok.noex b ob e z
    · exact absurd (Nat.lt_of_lt_of_le (Heap.lt_size e) (Nat.le_trans I.ok.bsz z)) (Nat.lt_irrefl _)
  · intro b hb hs
    rcases List.mem_cons.mp (I.stkSub b hs) with z | z
    · exact (hf b hb).2.1 z
    · exact (hf b hb).2.2.1 z
  · exact I.stack
  · exact I.stkFree
  · refine ⟨fun _ => none, ?_, fun i y v h1 h2 h3 => ?_⟩
    · show (pushCells ((s.heap.push o).push { cls := .type "dict", data := .dict #[] }) scope.names).Ns (s.heap.objs.size + 1) (fun _ => none)
      have q := Heap.Ns.new (s.heap.push o) (.type "dict")
      rw [Heap.size_push] at q
      exact q.keeps (pushCells_keeps _ _)
    · cases i with
      | zero =>
        have h2' : (none : Option V) = some v := by
          have : (some (none : Option V)) = some (some v) := h2
          exact Option.some.inj this
        cases h2'
      | succ j =>
        have g1 : F[j]? = some y := h1
        have g2 : (pick σ is)[j]? = some (some v) := h2
        unfold pick at g2
        rw [List.getElem?_map] at g2
        cases ei : is[j]? with
        | none => rw [ei] at g2; cases g2
        | some k =>
          rw [ei, Option.map_some] at g2
          have g3 : (σ[k]?).join = some v := Option.some.inj g2
          have g4 : σ[k]? = some (some v) := by
            cases eσ : σ[k]? with
            | none => rw [eσ] at g3; cases g3
            | some z => rw [eσ] at g3; have : z = some v := g3; rw [this]
          have g5 : X.N[k]? = some y := by
            have e := congrArg (fun l => l[j]?) K.at'
            simp only [List.getElem?_map, ei, g1, Option.map_some] at e
            exact Option.some.inj e
          have hyF : y ∈ F := List.mem_of_getElem? g1
          have hy := K.fr y hyF
          have hym := mem_of_lookupK hy
          have hvis := K.free _ hym rfl
          obtain ⟨m, hn, hl⟩ := I.loc
          obtain ⟨u, r, l⟩ := hl k y v g5 g4 (.inr hvis)
          refine ⟨u, r, ?_⟩
          rcases l with ⟨lk, _⟩ | ⟨lk, c, hc, hcell⟩
          · have lk' : X.env.scope.names.lookup y = some .local := lk
            rcases hvis with z | z
            · rw [z] at lk'; cases lk'
            · rw [z] at lk'; cases lk'
          · refine .inr ⟨?_, c, ?_, hcell.keeps kp⟩
            · show (relabel scope X.env).names.lookup y = some .cell ∨ (relabel scope X.env).names.lookup y = some .free
              have e : (relabel scope X.env).names.lookup y = _ := relabel_lookup (env := X.env) (x := y) scope.names
              rw [e, hy, Option.map_some]
              split
              · exact .inl rfl
              · exact .inr rfl
            · show (cellsFrom (s.heap.objs.size + 1 + 1) scope.names (closOf scope X.env)).lookup y = some c
              rw [cellsFrom_not _ _ _ y (K.keys _ hym rfl)]
              obtain ⟨c', e⟩ := Option.isSome_iff_exists.mp (clos_has (env := X.env) scope.names [] y (.inl hym))
              have e' : (closOf scope X.env).lookup y = some c' := e
              rw [e']
              have := cl_old y c' (mem_of_lookup e')
              rw [hc] at this
              exact this.symm
  · intro y c h
    have h' : (cellsFrom (s.heap.objs.size + 1 + 1) scope.names (closOf scope X.env)).lookup y = some c := h
    have := cellsFrom_is scope.names ((s.heap.push o).push { cls := .type "dict", data := .dict #[] }) (closOf scope X.env) (fun u c g => by
      obtain ⟨v, q⟩ := I.cell u c (cl_old u c g)
      exact ⟨v, q.keeps fun b ob e => Heap.get?_push_of_some _ (Heap.get?_push_of_some _ e)⟩) y c (by rw [hsz]; exact mem_of_lookup h')
    exact this
  · exact I.hok.fresh (Nat.le_succ _)
  · intro y c h
    rcases cases_of y c h with q | q
    · exact I.hok.fresh (by omega)
    · exact I.freeC y c q
  · intro p hp
    have hp' : p ∈ [(s.heap.objs.size, o)] := hp
    have e : p = (s.heap.objs.size, o) := by simpa using hp'
    subst e
    refine ⟨pushCells_keeps _ _ _ _ (Heap.get?_push_of_some _ ?_), I.hok.fresh (Nat.le_refl _), ?_, fun hs => ?_, ho⟩
    · exact Heap.get?_push_size _ hof
    · exact Nat.ne_of_lt (Nat.lt_succ_self _)
    · rcases List.mem_cons.mp (I.stkSub _ hs) with z | z
      · exact absurd I.lt (by rw [← z]; exact Nat.lt_irrefl _)
      · exact I.nofs (Nat.le_refl _) z
  · show (none :: pick σ is).length = (x :: F).length
    have e := congrArg List.length K.at'
    rw [List.length_map, List.length_map] at e
    unfold pick
    rw [List.length_cons, List.length_cons, List.length_map, e]
end
end L2

namespace L2
open PySem PySem.Spec PyProof.Rows

/-- an untracked object is tracked from here on -/
theorem HOk.track {P : Program} {w : World} {H : Hp} {h : Heap} {a : Addr} {o : HO} (x : HOk P w H h) (hn : H a = none) (new : ObjOk P w (upd H a o) h a o) : HOk P w (upd H a o) h := fun b u e => by
  by_cases hb : b = a
  · subst hb; rw [upd_same] at e; cases e; exact new
  · rw [upd_ne hb] at e
    exact (x b u e).stay (fun _ _ _ q => q) (fun c q => by rw [upd_ne (ne_of_none q hn)]; exact q) fun c xs q => by rw [upd_ne (ne_of_none q hn)]; exact q
theorem Un.track {fs ex : List Addr} {H H1 : Hp} {h h1 : Heap} {a : Addr} {o : HO} (u : Un fs ex H H1 h h1) (ha : h.objs.size ≤ a) (hn : H1 a = none) : Un fs ex H (upd H1 a o) h h1 where
  keep := u.keep
  slot := u.slot
  free := fun b ob q n hx => by
    rw [upd_ne (Nat.ne_of_lt (Nat.lt_of_lt_of_le (Heap.lt_size q) ha))]
    exact u.free b ob q n hx
  there := u.there
  tups := fun b xs q => by
    have := u.tups b xs q
    rw [upd_ne (ne_of_none this hn)]; exact this
  frzs := fun b ob xs q => by
    have := u.frzs b ob xs q
    rw [upd_ne (ne_of_none this hn)]; exact this
  tbls := fun b ps q => by
    obtain ⟨m, e⟩ := u.tbls b ps q
    exact ⟨m, by rw [upd_ne (ne_of_none e hn)]; exact e⟩

/-- a comprehension's turns, the step ahead of the store kept -/
theorem compLoop_go {prog : Program} {w : World} {A : Around} {R : Result → Shared → Prop} {s : Shared} {elt target iter : Expr} {ifs : List Expr} {scope : Scope} {pos : Pos} {it acc : Value} {env : Env}
    (I : Nat → Shared → Prop)
    (turn : ∀ n s, I n s → wpAny (model prog w) A (pyNext it)
      (fun r s₁ => match r with
        | none => R (.ok .next) s₁
        | some v => wpAny (model prog w) A (letOwnedTupleGo target it v)
            (fun _ s₁' => wpAny (model prog w) A (assign target env v)
              (fun _ s₂ => wpAny (model prog w) A (forIn ifs true fun c r => if r = true then do let ok ← isTrue c env (eval c env); pure (ForInStep.yield ok) else pure (ForInStep.yield r))
                (fun ok s₃ =>
                  if ok = true then
                    wpAny (model prog w) A (eval elt env)
                      (fun x s₄ => wpAny (model prog w) A (call (.builtin "list.append") [acc, x]) (fun _ s₅ => ∃ m, m < n ∧ I m s₅) (fun _ _ => False) s₄)
                      (fun _ _ => False) s₃
                  else ∃ m, m < n ∧ I m s₃)
                (fun _ _ => False) s₂)
              (fun _ _ => False) s₁')
            (fun _ _ => False) s₁)
      (fun _ _ => False) s)
    (n : Nat) (h : I n s) : codeAny (model prog w) A (.compLoop (.ListComp elt [⟨target, iter, ifs, 0⟩] scope pos) 0 it acc env) R s := by
  apply codeAny_loop rfl I ?_ n h
  intro n s hI
  show wpAny _ A (Sem.onRaise (compTurn (.ListComp elt [⟨target, iter, ifs, 0⟩] scope pos) 0 it acc env) (fun x => do noteFrame x env; theTreesLotGoes x)) _ _ s
  refine wpAny_noted ?_
  rw [compTurn_list]
  refine wpAny_bind (wpAny_standAt (wpAny_bind (wpAny_mono (turn n s hI) (fun r s₁ h₁ => ?_) fun _ _ f => f.elim)))
  cases r with
  | none => exact wpAny_pure h₁
  | some v =>
    refine wpAny_bind (wpAny_mono h₁ (fun _ s₁' h₁' => ?_) fun _ _ f => f.elim)
    refine wpAny_bind (wpAny_mono h₁' (fun _ s₂ h₂ => ?_) fun _ _ f => f.elim)
    refine wpAny_bind (wpAny_mono h₂ (fun ok s₃ h₃ => ?_) fun _ _ f => f.elim)
    cases ok with
    | false => apply wpAny_pure; exact ⟨rfl, h₃⟩
    | true =>
      refine wpAny_bind (wpAny_bind (wpAny_mono h₃ (fun x s₄ h₄ => ?_) fun _ _ f => f.elim))
      refine wpAny_bind (wpAny_mono h₄ (fun _ s₅ h₅ => ?_) fun _ _ f => f.elim)
      exact wpAny_pure (wpAny_pure ⟨rfl, h₅⟩)

/-- the tests of a comprehension -/
def PTs (X : Cx) (ifs : List Expr) (t : TT) : Prop :=
  ∀ (pins : List (Addr × Obj)) (s : Shared) (σ : St) (H : Hp) (Q : Bool → Hp → Prop), Inv X pins σ H s → t σ H Q →
    wpAny (model X.prog X.w) X.A (forIn ifs true fun c r => if r = true then do let ok ← isTrue c X.env (eval c X.env); pure (ForInStep.yield ok) else pure (ForInStep.yield r)) (TP X pins σ Q) X.xe s
def tNoTest : TT := fun _ H Q => Q true H
theorem pts_nil {X : Cx} : PTs X [] tNoTest := fun _ _ _ H _ I h => wpAny_tests_nil ⟨H, I, h⟩
theorem pts_one {X : Cx} {c : Expr} {t : TT} (h : PT X c t) : PTs X [c] t := fun pins s σ H Q I q => wpAny_tests_one (h pins s σ H Q I q)

/-- a comprehension's turns: W by the turn, a measure, what is collected, the heap -/
def CompW (tc : TT) (te : TE) (is : List Nat) (σ : St) (Q : VK) (J : It) (H1 : Hp) : Prop :=
  ∃ W : Nat → Nat → List V → Hp → Prop, (∃ m, W 0 m [] H1) ∧ ∀ i m ys H, W i m ys H →
    (J.stop i H ∧ ys.length ≤ sizeLine ∧ ∀ l, H l = none → Q (.ref l) (upd H l (.lst ys))) ∨
    (J.go i H ∧ ys.length < sizeLine ∧ ∃ N : List V → Hp → Prop, (∀ ys' H', N ys' H' → ∃ m', m' < m ∧ W (i + 1) m' ys' H') ∧ ∀ x H', J.yld i H x H' → tc (some x :: pick σ is) H' fun b H2 =>
      if b = true then te (some x :: pick σ is) H2 fun v H3 => N (ys ++ [v]) H3 else N ys H2)
def tComp (wi : TI) (tc : TT) (te : TE) (is : List Nat) : TE := fun σ H Q => wi σ H (CompW tc te is σ Q)

def plist (us : List Value) (n : Nat) : Obj := { cls := .type "list", data := .seq us.toArray n }

section
variable {X : Cx} {x : Str} {F : List Str} {is : List Nat} {scope fs : Scope} {NX : List Str}
theorem comp_block {elt iter : Expr} {px pos : Pos} {ifs : List Expr} {tc : TT} {te : TE} {J : It} {tn : Nat → Heap → Prop} {fp : List Addr} {it : Addr} {pins : List (Addr × Obj)} {σ : St} {H : Hp} {s : Shared} {Qv : VK}
    {E : Value → Shared → Prop} {R : Value → Addr → Result → Shared → Prop} {W : Nat → Nat → List V → Hp → Prop}
    (K : CompOk fs NX x F is scope) (hfs : X.env.scope = fs) (hNX : X.N = NX) (hcalm : X.calm = true)
    (ht : ∀ cs C s₀ H₀ ex, PTs (compCx X (x :: F) scope cs C s₀ H₀ ex) ifs tc) (he : ∀ cs C s₀ H₀ ex, PE (compCx X (x :: F) scope cs C s₀ H₀ ex) elt te)
    (I : Inv X pins σ H s) (T : Turn X.prog X.w X.K (.Name x px) J fp it tn) (st : tn 0 s.heap) (hf : ∀ b ∈ fp, FpOk X pins H b) (w0 : ∃ m, W 0 m [] H)
    (turn : ∀ i m ys H, W i m ys H →
      (J.stop i H ∧ ys.length ≤ sizeLine ∧ ∀ l, H l = none → Qv (.ref l) (upd H l (.lst ys))) ∨
      (J.go i H ∧ ys.length < sizeLine ∧ ∃ N : List V → Hp → Prop, (∀ ys' H', N ys' H' → ∃ m', m' < m ∧ W (i + 1) m' ys' H') ∧ ∀ y H', J.yld i H y H' → tc (some y :: pick σ is) H' fun b H2 =>
        if b = true then te (some y :: pick σ is) H2 fun v H3 => N (ys ++ [v]) H3 else N ys H2))
    (fin : ∀ (s' : Shared) (H' : Hp) (l C : Addr) (m : Str → Option Value), Inv X pins σ H' s' → s'.heap.Ns C m → FpOk X pins H' C → Qv (.ref l) H' → R (.ref l) C (.ok .next) s') :
    wpAny (model X.prog X.w) X.A (newList [])
      (fun acc s₃ => wpAny (model X.prog X.w) X.A (newFunctionEnv scope X.env.globals (closOf scope X.env) [] X.env.qual none .none (some X.env))
        (fun cenv s₄ => codeAny (model X.prog X.w) X.A (.compStart (.ListComp elt [⟨.Name x px, iter, ifs, 0⟩] scope pos) 0 (.ref it) acc { cenv with scope := relabel scope X.env }) (R acc cenv.locals) s₄) E s₃) E s := by
  obtain ⟨m0, w0⟩ := w0
  have hlt : ∀ b ∈ fp, b < s.heap.objs.size := fun b hb => by
    obtain ⟨o, e, _⟩ := T.obj 0 _ st b hb
    exact Heap.lt_size e
  refine wpAny_newObj_type (newCompEnv ?_)
  dsimp only
  rw [Heap.size_push]
  have I0 := comp_start (o := { cls := .type "list", dict := none, data := .seq ([] : List Value).toArray }) (fun v z => by cases z) rfl K hfs hNX I hf hlt
  generalize hcs : cellsFrom (s.heap.objs.size + 1 + 1) scope.names (closOf scope X.env) = cs at I0 ⊢
  generalize hs4 : ({ s with heap := pushCells ((s.heap.push { cls := .type "list", dict := none, data := .seq ([] : List Value).toArray }).push { cls := .type "dict", data := .dict #[] }) scope.names } : Shared) = s4 at I0 ⊢
  have st4 : tn 0 s4.heap := T.keep 0 _ _ st fun b _ o e => by
    rw [← hs4]
    exact pushCells_keeps _ _ b o (Heap.get?_push_of_some _ (Heap.get?_push_of_some _ e))
  clear hs4
  -- what stays true of the iterator's objects in the block
  have stat : ∀ {H' : Hp} {u : Obj}, (∀ b ∈ fp, H' b = none) → ∀ b ∈ fp, FpOk (compCx X (x :: F) scope cs (s.heap.objs.size + 1) s H fp) [(s.heap.objs.size, u)] H' b := fun {H' u} hn b hb => by
    refine ⟨hn b hb, ?_, fun hs => ?_, .inl hb, fun y c h z => ?_, fun p hp z => ?_⟩
    · exact Nat.ne_of_lt (Nat.lt_succ_of_lt (hlt b hb))
    · exact I0.ok.exfs b hb hs
    · exact (I0.ok.exf b hb).2 y c h z
    · have hp' : p ∈ [(s.heap.objs.size, u)] := hp
      have e : p = (s.heap.objs.size, u) := by simpa using hp'
      subst e
      have z' : s.heap.objs.size = b := z
      exact absurd (hlt b hb) (by rw [← z']; exact Nat.lt_irrefl _)
  have loop : codeAny (model X.prog X.w) X.A (.compLoop (.ListComp elt [⟨.Name x px, iter, ifs, 0⟩] scope pos) 0 (.ref it) (.ref s.heap.objs.size) (compCx X (x :: F) scope cs (s.heap.objs.size + 1) s H fp).env) (R (.ref s.heap.objs.size) (s.heap.objs.size + 1)) s4 := by
    refine compLoop_go (fun n s' => ∃ i ys us c t H', Inv (compCx X (x :: F) scope cs (s.heap.objs.size + 1) s H fp) [(s.heap.objs.size, plist us c)] (t :: pick σ is) H' s' ∧ W i n ys H' ∧ Vals ys us ∧ tn i s'.heap ∧ ∀ b ∈ fp, H' b = none) ?_ m0
      ⟨0, [], [], 0, none, H, I0, w0, .nil, st4, fun b hb => (hf b hb).1⟩
    rintro n s1 ⟨i, ys, us, c, t, H1, I1, w1, r1, st1, fr1⟩
    rcases turn i n ys H1 w1 with ⟨stop, hz, q⟩ | ⟨go, hz, N, hN, step⟩
    · refine thn (T.done (compCx X (x :: F) scope cs (s.heap.objs.size + 1) s H fp) rfl rfl rfl hcalm i _ s1 _ H1 _ I1 (stat fr1) st1 stop) fun r s2 ⟨hr, I2⟩ => ?_
      subst hr
      show R (.ref s.heap.objs.size) (s.heap.objs.size + 1) (.ok .next) s2
      obtain ⟨e2, n2, _, _, _⟩ := I2.pin (s.heap.objs.size, plist us c) (by show _ ∈ [(s.heap.objs.size, plist us c)]; simp)
      obtain ⟨m, hn, _⟩ := I2.loc
      have hC : H1 (s.heap.objs.size + 1) = none := I2.free
      have I3 : Inv X pins σ (upd H1 s.heap.objs.size (.lst ys)) s2 := by
        refine I.call' (ch := fp) I2.os (Un.track I2.base (Nat.le_refl _) n2) (HOk.track I2.hok n2 ⟨hz, us, c, r1, e2⟩) I2.bare fun b hb => ?_
        obtain ⟨_, f1, _, f3, f4, f5⟩ := hf b hb
        exact ⟨f3, f1, f4, f5⟩
      exact fin s2 _ _ _ m I3 hn (I.fpOk (Nat.le_succ _) (by rw [upd_ne (Nat.ne_of_gt (Nat.lt_succ_self _))]; exact hC)) (q _ n2)
    · refine thn (T.item (compCx X (x :: F) scope cs (s.heap.objs.size + 1) s H fp) rfl rfl rfl hcalm i _ s1 _ H1 (fun _ _ => False) I1 (stat fr1) st1 go) fun r s2 ⟨u, hr, h2⟩ => ?_
      subst hr
      refine thn h2 fun _ s3 ⟨xv, H3, I3, r3, y3, st3, fr3⟩ => ?_
      have I3' := I3.pinned (stat fr3) (T.obj _ _ st3)
      have hloc : Loc (compCx X (x :: F) scope cs (s.heap.objs.size + 1) s H fp).env.scope x := by
        have e : (relabel scope X.env).names.lookup x = _ := relabel_lookup (env := X.env) (x := x) scope.names
        rcases K.tgt with z | z
        · left
          show (relabel scope X.env).names.lookup x = some .local
          rw [e, z]; rfl
        · right
          show (relabel scope X.env).names.lookup x = some .cell
          rw [e, z]; rfl
      have hfn : (compCx X (x :: F) scope cs (s.heap.objs.size + 1) s H fp).fn x = true ∨ (compCx X (x :: F) scope cs (s.heap.objs.size + 1) s H fp).env.scope.names.lookup x = some .local := by
        rcases K.tgt with z | z
        · right
          have e : (relabel scope X.env).names.lookup x = _ := relabel_lookup (env := X.env) (x := x) scope.names
          show (relabel scope X.env).names.lookup x = some .local
          rw [e, z]; rfl
        · left
          show (scope.names.lookup x == some NameKind.cell) = true
          rw [z]; rfl
      refine wpAny_assign_Name (store_ok (i := 0) I3' K.nd rfl hloc r3 (fun s5 I5 => ?_) hfn)
      have I5' : Inv (compCx X (x :: F) scope cs (s.heap.objs.size + 1) s H fp) ([(s.heap.objs.size, plist us c)] ++ pinsAt fp s3.heap) (some xv :: pick σ is) H3 s5 := I5
      have back : ∀ {H7 : Hp} {s7 : Shared}, Inv (compCx X (x :: F) scope cs (s.heap.objs.size + 1) s H fp) ([(s.heap.objs.size, plist us c)] ++ pinsAt fp s3.heap) (some xv :: pick σ is) H7 s7 → tn (i + 1) s7.heap ∧ (∀ b ∈ fp, H7 b = none) ∧
          s7.heap.get? s.heap.objs.size = some (plist us c) ∧ H7 s.heap.objs.size = none := fun {H7 s7} I7 => by
        refine ⟨T.keep _ _ _ st3 fun b hb o e => (I7.pin (b, o) (List.mem_append_right _ (List.mem_append_right _ (mem_pinsAt hb e)))).1, fun b hb => ?_, ?_⟩
        · obtain ⟨o, e, _⟩ := T.obj _ _ st3 b hb
          exact (I7.pin (b, o) (List.mem_append_right _ (List.mem_append_right _ (mem_pinsAt hb e)))).2.1
        · have q := I7.pin (s.heap.objs.size, plist us c) (List.mem_append_right _ (List.mem_append_left _ (by simp)))
          exact ⟨q.1, q.2.1⟩
      refine thn (ht cs (s.heap.objs.size + 1) s H fp _ s5 _ H3 _ I5' (step xv H3 y3)) fun b s7 ⟨H7, I7, q7⟩ => ?_
      cases b with
      | false =>
        rw [if_neg Bool.false_ne_true] at q7 ⊢
        obtain ⟨m', hm, w7⟩ := hN _ _ q7
        obtain ⟨st7, fr7, _, _⟩ := back I7
        exact ⟨m', hm, i + 1, ys, us, c, some xv, H7, I7.unpinned, w7, r1, st7, fr7⟩
      | true =>
        rw [if_pos rfl] at q7 ⊢
        refine thn (he cs (s.heap.objs.size + 1) s H fp _ s7 _ H7 _ I7 q7) fun y s8 ⟨v, H8, I8, r8, q8⟩ => ?_
        obtain ⟨m', hm, w8⟩ := hN _ _ q8
        obtain ⟨st8, fr8, e8, n8⟩ := back I8
        have hl := r1.length
        refine wpAny_list_append_plain (hsz := by rw [List.size_toArray]; omega) (show s8.heap.PlainList s.heap.objs.size us.toArray from ⟨c, e8⟩) fun h9 hp9 hs9 => ?_
        obtain ⟨c9, e9⟩ := hp9
        have e9' : h9.get? s.heap.objs.size = some (plist (us ++ [y]) c9) := by
          rw [e9]; unfold plist; simp
        have I8n : Inv (compCx X (x :: F) scope cs (s.heap.objs.size + 1) s H fp) [] (some xv :: pick σ is) H8 s8 := I8.pins_of fun p hp => nomatch hp
        have I9 : Inv (compCx X (x :: F) scope cs (s.heap.objs.size + 1) s H fp) [] (some xv :: pick σ is) H8 { s8 with heap := h9 } := by
          refine I8n.turned (t' := s8.toks) (it := s.heap.objs.size) (fun b o hb e => (hs9.2 b hb).trans e) n8 ?_ (.inr (Nat.le_refl _)) (fun y' c' hc z => ?_) (fun p hp => nomatch hp)
          · exact Nat.ne_of_lt (Nat.lt_succ_self _)
          · obtain ⟨v', o', ho', hd'⟩ := I8n.cell y' c' hc
            rw [z, e8] at ho'
            cases ho'
            cases hd'
        have I9' : Inv (compCx X (x :: F) scope cs (s.heap.objs.size + 1) s H fp) [(s.heap.objs.size, plist (us ++ [y]) c9)] (some xv :: pick σ is) H8 { s8 with heap := h9 } := I9.pins_of fun p hp => by
          have e : p = (s.heap.objs.size, plist (us ++ [y]) c9) := by simpa using hp
          subst e
          obtain ⟨_, _, q3, q4, _⟩ := I8.pin (s.heap.objs.size, plist us c) (List.mem_append_right _ (List.mem_append_left _ (by simp)))
          exact ⟨e9', n8, q3, q4, fun v' z => by cases z⟩
        refine ⟨m', hm, i + 1, ys ++ [v], us ++ [y], c9, some xv, H8, I9', w8, Vals.append r1 (.cons r8 .nil), T.keep _ _ _ st8 fun b hb o e => (hs9.2 b fun z => ?_).trans e, fr8⟩
        exact absurd (hlt b hb) (by rw [z]; exact Nat.lt_irrefl _)
  exact codeAny_compStart_list loop (T.self X.A 0 _ _ _ st4 loop)

theorem pe_comp {elt iter : Expr} {px pos : Pos} {ifs : List Expr} {wi : TI} {tc : TT} {te : TE} (K : CompOk fs NX x F is scope) (hcalm : X.calm = true) (hi : PI X (.Name x px) iter wi)
    (ht : ∀ cs C s₀ H₀ ex, PTs (compCx X (x :: F) scope cs C s₀ H₀ ex) ifs tc) (he : ∀ cs C s₀ H₀ ex, PE (compCx X (x :: F) scope cs C s₀ H₀ ex) elt te)
    (hfs : X.env.scope = fs := by rfl) (hNX : X.N = NX := by rfl) (hs : ∀ y, foldedSetIterable iter X.env y = pure y := by intro _; rfl) :
    PE X (.ListComp elt [⟨.Name x px, iter, ifs, 0⟩] scope pos) (tComp wi tc te is) := by
  intro pins s σ H Q I h
  have hfree : ∀ y ∈ scope.names, y.2 = .free → ∃ c, X.env.cells.lookup y.1 = some c := fun y hy h => I.ok.has y.1 (by rw [Env.kindOf, hfs]; exact K.free y hy h)
  rw [eval_ListComp]
  refine wpAny_comprehension_free (use := none) rfl hs (closureFor_of hfree) K.kind K.loc (thn (hi pins s σ H _ I h) fun v s1 h1 => thn h1 fun itv s2 h2 => ?_)
  obtain ⟨it, fp, tn, J, H2, e, I2, T, st2, f2, W, w0, turn⟩ := h2
  subst e
  refine comp_block (R := fun acc C => compPost (model X.prog X.w) X.A X.xe none (EP X pins σ Q) acc C) K hfs hNX hcalm ht he I2 T st2 f2 w0 turn fun s' H' l C m I' ns fC q => ?_
  obtain ⟨g0, g1, g2, g3, g4, g5⟩ := fC
  exact ⟨m, ns, fun h' hs' => ⟨.ref l, H', I'.turned (t' := s'.toks) (fun b o hb e => (hs'.2 b hb).trans e) g0 g1 g3 g4 g5, rfl, q⟩⟩

end

/-! ### the forms one uses: what is met is a function of the item, the heap only grows -/
theorem comp_over {J : It} {tc : TT} {te : TE} {is : List Nat} {σ : St} {H0 H : Hp} {Qv : VK} (xs : List V) (f : V → V) (p : V → Bool) (hz : xs.length < sizeLine) (h0 : Same H0 H)
    (hgo : ∀ i H, Same H0 H → i < xs.length → J.go i H) (hstop : ∀ H, Same H0 H → J.stop xs.length H)
    (hy : ∀ i H x H', Same H0 H → i < xs.length → J.yld i H x H' → H' = H ∧ xs[i]? = some x)
    (hc : ∀ x ∈ xs, ∀ H1, Same H0 H1 → ∀ N : Bool → Hp → Prop, (∀ H2, Same H0 H2 → N (p x) H2) → tc (some x :: pick σ is) H1 N)
    (he : ∀ x ∈ xs, p x = true → ∀ H1, Same H0 H1 → ∀ N : V → Hp → Prop, (∀ H2, Same H0 H2 → N (f x) H2) → te (some x :: pick σ is) H1 N)
    (hd : ∀ l H', Same H0 H' → H' l = none → Qv (.ref l) (upd H' l (.lst ((xs.filter p).map f)))) :
    CompW tc te is σ Qv J H := by
  refine ⟨fun i m ys H => m = xs.length - i ∧ i ≤ xs.length ∧ Same H0 H ∧ ys = ((xs.take i).filter p).map f, ⟨_, rfl, Nat.zero_le _, h0, by simp⟩, ?_⟩
  rintro i m ys H1 ⟨rfl, hi, hS, rfl⟩
  have hlen : (((xs.take i).filter p).map f).length ≤ i := by
    rw [List.length_map]
    exact Nat.le_trans (List.length_filter_le _ _) (by rw [List.length_take]; omega)
  by_cases hlt : i < xs.length
  · refine .inr ⟨hgo i H1 hS hlt, by omega, fun ys' H' => Same H0 H' ∧ ys' = ((xs.take (i + 1)).filter p).map f, fun ys' H' h => ⟨xs.length - (i + 1), by omega, rfl, hlt, h.1, h.2⟩, fun x H' hyl => ?_⟩
    obtain ⟨rfl, hx⟩ := hy i H1 x H' hS hlt hyl
    have hm : x ∈ xs := List.mem_of_getElem? hx
    have et := take_succ_filter p xs i x hx
    refine hc x hm _ hS _ fun H2 hS2 => ?_
    by_cases hp : p x = true
    · rw [if_pos hp]
      rw [if_pos hp] at et
      refine he x hm hp _ hS2 _ fun H3 hS3 => ⟨hS3, ?_⟩
      rw [et, List.map_append]; rfl
    · rw [if_neg hp]
      rw [if_neg hp] at et
      refine ⟨hS2, ?_⟩
      rw [et, List.append_nil]
  · have e : i = xs.length := by omega
    subst e
    refine .inl ⟨hstop H1 hS, by omega, fun l hl => ?_⟩
    rw [List.take_length]
    exact hd l H1 hS hl
theorem comp_range {n : Nat} {tc : TT} {te : TE} {is : List Nat} {σ : St} {H : Hp} {Qv : VK} (f : V → V) (p : V → Bool) (hz : n < sizeLine)
    (hc : ∀ x ∈ (SO.upto n).map V.int, ∀ H1, Same H H1 → ∀ N : Bool → Hp → Prop, (∀ H2, Same H H2 → N (p x) H2) → tc (some x :: pick σ is) H1 N)
    (he : ∀ x ∈ (SO.upto n).map V.int, p x = true → ∀ H1, Same H H1 → ∀ N : V → Hp → Prop, (∀ H2, Same H H2 → N (f x) H2) → te (some x :: pick σ is) H1 N)
    (hd : ∀ l H', Same H H' → H' l = none → Qv (.ref l) (upd H' l (.lst ((((SO.upto n).map V.int).filter p).map f)))) :
    CompW tc te is σ Qv (Itr 0 n) H := by
  have hl : ((SO.upto n).map V.int).length = n := by rw [List.length_map, SO.upto_length]
  refine comp_over ((SO.upto n).map V.int) f p (by rw [hl]; exact hz) (Same.refl H) (fun i H1 _ hi => ?_) (fun H1 _ => ?_) (fun i H1 x H' _ hi hy => ?_) hc he hd
  · rw [hl] at hi; exact hi
  · show n ≤ _
    rw [hl]; exact Nat.le_refl n
  · obtain ⟨e, rfl⟩ := hy
    rw [hl] at hi
    refine ⟨e, ?_⟩
    rw [List.getElem?_map, SO.upto_get hi, Option.map_some]
    congr 2; omega
end L2

namespace PySem
section
variable {prog : Program} {w : World} {A : Around} {E : Value → Shared → Prop} {s : Shared}
end
end PySem

namespace L2
open PySem PySem.Spec PyProof.Rows
/-- a list of ints that may be read -/
abbrev LI (K : PySem.W.Frag) (H : Hp) (a : Addr) (ns : List Int) : Prop := SqL K H a (ns.map V.int)
theorem LI.of {K : PySem.W.Frag} {H : Hp} {a : Addr} {ns : List Int} (h : H a = some (.lst (ns.map V.int))) : LI K H a ns := SqL.of h
theorem vals_of_get : ∀ (xs : List V) (us : List Value), xs.length = us.length → (∀ (j : Nat) (u : Value), us[j]? = some u → ∃ x, xs[j]? = some x ∧ RelV x u) → Vals xs us
  | [], [], _, _ => .nil
  | [], u :: us, h, _ => nomatch h
  | x :: xs, [], h, _ => nomatch h
  | x :: xs, u :: us, h, hg => by
    obtain ⟨y, e, r⟩ := hg 0 u rfl
    have e' : x = y := by simpa using e
    subst e'
    exact .cons r (vals_of_get xs us (by simpa using h) fun j v hv => by
      obtain ⟨z, ez, rz⟩ := hg (j + 1) v (by simpa using hv)
      exact ⟨z, by simpa using ez, rz⟩)
theorem dedup_le : ∀ (l acc : List Int), (l.foldl step_dedup acc).length ≤ acc.length + l.length
  | [], acc => by simp
  | a :: r, acc => by
    rw [List.foldl_cons]
    have := dedup_le r (step_dedup acc a)
    have h2 : (step_dedup acc a).length ≤ acc.length + 1 := by
      unfold step_dedup
      split
      · omega
      · simp
    rw [List.length_cons]; omega
theorem dedup_iff : ∀ (l acc : List Int), acc.Nodup → ((l.foldl step_dedup acc).length = acc.length + l.length ↔ (acc ++ l).Nodup)
  | [], acc, h => by simp [h]
  | a :: r, acc, h => by
    rw [List.foldl_cons]
    by_cases ha : a ∈ acc
    · have e : step_dedup acc a = acc := by
        unfold step_dedup
        rw [if_pos (by simpa using ha)]
      rw [e]
      have := dedup_le r acc
      constructor
      · intro q; rw [List.length_cons] at q; omega
      · intro q
        rw [List.nodup_append] at q
        exact absurd rfl (q.2.2 a ha a List.mem_cons_self)
    · have e : step_dedup acc a = acc ++ [a] := by
        unfold step_dedup
        rw [if_neg (by simpa using ha)]
      rw [e]
      have hn : (acc ++ [a]).Nodup := by
        rw [List.nodup_append]
        refine ⟨h, by simp, fun x hx y hy z => ?_⟩
        have : y = a := by simpa using hy
        subst this; subst z
        exact ha hx
      have ih := dedup_iff r (acc ++ [a]) hn
      rw [List.length_append, List.length_singleton, List.append_assoc] at ih
      rw [List.length_cons, show acc.length + (r.length + 1) = acc.length + 1 + r.length by omega]
      exact ih
theorem firstMet_list (ns : List Int) : firstMet (fun i => ns.getD i 0) ns.length = ns.foldl step_dedup [] := by
  unfold firstMet
  congr 1
  apply List.ext_getElem?
  intro i
  by_cases h : i < ns.length
  · rw [List.getElem?_map, List.getElem?_range h, Option.map_some, List.getD_eq_getElem?_getD, List.getElem?_eq_getElem h]; rfl
  · rw [List.getElem?_eq_none (by simpa using h), List.getElem?_eq_none (by omega)]
section
variable {X : Cx} {K : PySem.W.Frag} {pins : List (Addr × Obj)} {σ : St} {H : Hp} {s : Shared}
theorem Inv.ints {a : Addr} {ns : List Int} (I : Inv X pins σ H s) (h : LI X.K H a ns) : ∃ us : List Value, IntsAre us ns ∧ s.heap.IsList a us.toArray ∧ ns.length ≤ sizeLine ∧ us.length = ns.length := by
  obtain ⟨its, r, pl, hz⟩ := I.list h
  have hi := intsAre_of r
  exact ⟨its, hi, pl.isList, by simpa using hz, hi.length⟩
theorem call_lenI (hK : X.K = K := by rfl) : CallR X (.builtin "len") (fun xs H Q => ∃ p ns, xs = [.ref p] ∧ LI K H p ns ∧ Q (.int (ns.length : Nat)) H) := by
  subst hK
  intro pins s σ H xs us Q I r h
  obtain ⟨p, ns, e, hq, q⟩ := h
  exact call_len_seq pins s σ H xs us Q I r ⟨p, _, e, .inl hq, by rw [List.length_map]; exact q⟩
theorem call_lenS : CallR X (.builtin "len") (fun xs H Q => ∃ p S n, xs = [.ref p] ∧ H p = some (.set S n) ∧ n < 4096 ∧ Q (.int (n : Nat)) H) := by
  intro pins s σ H xs us Q I r h
  obtain ⟨p, S, n, rfl, hp, hn, q⟩ := h
  obtain ⟨u, rfl, rx⟩ := vals1 r
  cases rx
  have hS : s.heap.SetOf (intKind X.prog X.w) p S n := I.hok p _ hp
  obtain ⟨o, es, ep, t, ho, hex, hd, _, _, _, hf, hsz⟩ := hS
  exact call_len_set ho hex hd hf (by omega) ⟨.int (n : Nat), H, I.tok _, ⟨_, by rw [hsz]⟩, q⟩
theorem call_sortedI (hK : X.K = K := by rfl) : CallR X (.builtin "sorted") (fun xs H Q => ∃ p ns, xs = [.ref p] ∧ LI K H p ns ∧ ns.length < 64 ∧
    ∀ (l : Addr) (ms : List Int), ms.Perm ns → ms.Pairwise (· ≤ ·) → H l = none → Q (.ref l) (upd H l (.lst (ms.map V.int)))) := by
  subst hK
  intro pins s σ H xs us Q I r h
  obtain ⟨p, ns, rfl, hq, h64, q⟩ := h
  obtain ⟨u, rfl, rx⟩ := vals1 r
  cases rx
  obtain ⟨vs, hi, hl, hz, hlen⟩ := I.ints hq
  refine sorted_ints hl hi (by omega) fun out ms a1 a2 a3 => ?_
  have ⟨e, he⟩ := sortedAll_at s.heap vs out
  refine ⟨.ref (s.heap.objs.size + 1), _, I.laid (t' := s.toks) (o := .lst (ms.map V.int)) (fun b u z => sortedAll_old z) (Nat.le_succ _) ?_, rfl, q _ _ a2 a3 (I.hok.fresh (Nat.le_succ _))⟩
  refine ⟨?_, out.toList, e, vals_ints a1, ?_⟩
  · rw [List.length_map, a2.length_eq]; exact hz
  · rw [Array.toArray_toList]; exact he
theorem call_setI (hc : X.calm = true) (hK : X.K = K := by rfl) : CallR X (.type "set") (fun xs H Q => ∃ p ns, xs = [.ref p] ∧ LI K H p ns ∧ ns.length < 1000 ∧
    ∀ l S n, (n = ns.length ↔ ns.Nodup) → n ≤ ns.length → H l = none → Q (.ref l) (upd H l (.set S n))) := by
  subst hK
  intro pins s σ H xs us Q I r h
  obtain ⟨p, ns, rfl, hq, h64, q⟩ := h
  obtain ⟨u, rfl, rx⟩ := vals1 r
  cases rx
  obtain ⟨vs, hi, hl, hz, hlen⟩ := I.ints hq
  refine PySem.call_set_list (ns := ns) (I.ok.hd hc) hl (by simpa using hi) (by rw [List.size_toArray, hlen]; unfold scanBound; omega) fun h' tk hS hk => ?_
  refine ⟨.ref s.heap.objs.size, _, I.laid (o := .set _ _) (fun b o z => hk b o (Heap.lt_size z) z) (Nat.le_refl _) hS, rfl, q _ _ _ ?_ ?_ (I.hok.fresh (Nat.le_refl _))⟩
  · rw [List.size_toArray, hlen, firstMet_list]
    have z := dedup_iff ns [] List.nodup_nil
    rw [List.nil_append, List.length_nil, Nat.zero_add] at z
    exact z
  · rw [List.size_toArray]
    have := firstMet_length_le (fun i => ns.getD i 0) vs.length
    omega
theorem call_rangeV : CallR X (.type "range") (fun xs H Q => ∃ j : Int, xs = [.int j] ∧ ∀ l, H l = none → Q (.ref l) (upd H l (.rng 0 j))) := by
  intro pins s σ H xs us Q I r h
  obtain ⟨j, rfl, q⟩ := h
  obtain ⟨u, rfl, t, rfl⟩ := vals1 r
  exact call_range_1 ⟨.ref s.heap.objs.size, _, I.laid (o := .rng 0 j) (fun b o z => Heap.get?_push_of_some _ z) (Nat.le_refl _) ⟨_, _, _, Heap.get?_push_size _ rfl⟩, rfl, q _ (I.hok.fresh (Nat.le_refl _))⟩
theorem call_listRng (hc : X.calm = true) : CallR X (.type "list") (fun xs H Q => ∃ (p : Addr) (j : Int), xs = [.ref p] ∧ H p = some (.rng 0 j) ∧ 0 ≤ j ∧ j ≤ 1000 ∧
    ∀ l, H l = none → Q (.ref l) (upd H l (.lst ((SO.upto j.toNat).map V.int)))) := by
  intro pins s σ H xs us Q I r h
  obtain ⟨p, j, rfl, hp, h0, h1, q⟩ := h
  obtain ⟨u, rfl, rx⟩ := vals1 r
  cases rx
  obtain ⟨t, u, v, e⟩ := I.hok p _ hp
  have hz : j.toNat ≤ sizeLine := Nat.le_trans (by omega : j.toNat ≤ 1000) (by decide)
  refine call_list_range (n := j.toNat) (I.ok.hd hc) e (small_one (by decide) (by decide) (by omega) (by omega)) (by rw [rangeSize_one]; split <;> omega) (by omega) fun h' tk acc c kp hS hacc => ?_
  refine ⟨.ref s.heap.objs.size, _, I.laid (o := .lst ((SO.upto j.toNat).map V.int)) kp (Nat.le_refl _) ⟨?_, acc.toList, c, ?_, ?_⟩, rfl, q _ (I.hok.fresh (Nat.le_refl _))⟩
  · rw [List.length_map, SO.upto_length]; exact hz
  · refine vals_of_get _ _ (by rw [List.length_map, SO.upto_length, Array.length_toList]; exact hacc.1.symm) fun k w hw => ?_
    rw [Array.getElem?_toList] at hw
    obtain ⟨tk, rfl⟩ := hacc.2 k w hw
    have hk : k < j.toNat := by
      exact hacc.1 ▸ (Array.getElem?_eq_some_iff.mp hw).1
    exact ⟨.int (k : Int), by rw [List.getElem?_map, SO.upto_get hk]; rfl, tk, by simp⟩
  · rw [Array.toArray_toList]; exact hS
/-- == and != of lists of ints -/
def rEqI (K : PySem.W.Frag) : R2 := fun x y H Q => ∃ p q ns ms, x = .ref p ∧ y = .ref q ∧ LI K H p ns ∧ LI K H q ms ∧ Q (.bl (decide (ns = ms))) H
theorem op_eqI (hu : X.A.units + 64 < cLine) (hK : X.K = K := by rfl) : OpR X (compareOp .Eq) (rEqI K) := by
  subst hK
  intro pins s σ H x y v u Q I rx ry h
  obtain ⟨p, q, ns, ms, rfl, rfl, h1, h2, hq⟩ := h
  cases rx; cases ry
  obtain ⟨us, hi, hl, _, _⟩ := I.ints h1
  obtain ⟨ws, hi', hl', _, _⟩ := I.ints h2
  exact PySem.W.eq_intsK hl hi hl' hi' hu ⟨.bl _, H, I, rfl, hq⟩
/-- xs[i] of a list of ints; of any list -/
theorem ix_listK (hK : X.K = K := by rfl) : IxR X (rIxL K) := by subst hK; exact ix_list
theorem pi_listK {tg l : Expr} {tl : TE} (hl : PE X l tl) (hK : X.K = K := by rfl) : PI X tg l (iList K tl) := by subst hK; exact pi_list hl
end
end L2

namespace L2
open PySem PySem.Spec PyProof.Rows
theorem same_new {H : Hp} {p : Addr} (h : H p = none) (o : HO) : Same H (upd H p o) := fun b u q => by rw [upd_ne (ne_of_none q h)]; exact q
end L2
namespace L2
open PySem PySem.Spec PyProof.Rows
section
variable {X : Cx} {K : PySem.W.Frag}
theorem pe_bmK {o e : Expr} {es : List Expr} {to : TE} {t : TA} {name : Str} {apos cpos : Pos} {T id : String} {r : V → List V → Hp → VK → Prop} (pa : PlainAttrs T) (slot : Slot T name id) (hty : typeOf (.builtin id) = pure (.type "method_descriptor"))
    (hm : MtR X id r) (ho : PE X o to) (ha : PA X (e :: es) t) (hK : X.K = K := by rfl)
    (hbase : attributeBase o name X.env (eval o X.env) = eval o X.env := by rfl)
    (hfew : ((backTo cpos (starEach (e :: es) X.env)).all (fun x => !x.1) && (backToKw cpos (keywordEach [] X.env)).all (fun x => x.1.isSome)
      && decide ((e :: es).length + ([] : List Keyword).length + (if ([] : List Keyword).isEmpty then 0 else 1) < 30)) = true := by rfl)
    (hline : (apos.endLine == cpos.line) = true := by rfl) (hs : starEach (e :: es) X.env = (false, eval e X.env) :: starEach es X.env := by rfl) (hplain : (backTo cpos (starEach es X.env)).any (·.1) = false := by rfl) :
    PE X (.Call (.Attribute o name apos) (e :: es) [] cpos) (tBM K T r to t) := by
  subst hK
  exact pe_bm pa slot hty hm ho ha hbase hfew hline hs hplain
end
theorem atI_ints {ns : List Int} {k : Int} (h0 : 0 ≤ k) (h : k < ns.length) : atI (ns.map V.int) k = some (.int (ns.getD k.toNat 0)) := by
  have hk : k.toNat < ns.length := by omega
  have e := (Int.toNat_of_nonneg (show 0 ≤ k by omega)).symm
  have q : atI (ns.map V.int) ((k.toNat : Nat) : Int) = some (.int (ns.getD k.toNat 0)) := atI_nat (by
    rw [List.getElem?_map, List.getElem?_eq_getElem hk, List.getD_eq_getElem?_getD, List.getElem?_eq_getElem hk]; rfl)
  rw [← e] at q
  exact q
theorem atI_nat' {α : Type} {xs : List α} {k : Int} {j : Nat} {v : α} (e : k = (j : Int)) (h : xs[j]? = some v) : atI xs k = some v := by
  subst e; exact atI_nat h
end L2

namespace L2
open PySem PySem.Spec PyProof.Rows
section
variable {X : Cx} {K : PySem.W.Frag}
theorem ix_tupK (hK : X.K = K := by rfl) : IxR X (rIxT K) := by subst hK; exact ix_tup
theorem call_lenT (hK : X.K = K := by rfl) : CallR X (.builtin "len") (fun xs H Q => ∃ p ys, xs = [.ref p] ∧ SqT K H p ys ∧ Q (.int (ys.length : Nat)) H) := by
  subst hK
  intro pins s σ H xs us Q I r h
  obtain ⟨p, ys, e, hq, q⟩ := h
  exact call_len_seq pins s σ H xs us Q I r ⟨p, ys, e, .inr hq, q⟩
/-- t + (y,) -/
def rCat1 (K : PySem.W.Frag) : R2 := fun x y H Q => ∃ a b xs v, x = .ref a ∧ y = .ref b ∧ SqT K H a xs ∧ SqT K H b [v] ∧ xs.length < sizeLine ∧
  (xs = [] → Q (.ref b) H) ∧ (xs ≠ [] → ∀ p, H p = none → Q (.ref p) (upd H p (.tup (xs ++ [v]))))
theorem op_cat1 (hK : X.K = K := by rfl) : OpR X (binaryOp .Add) (rCat1 K) := by
  subst hK
  intro pins s σ H x y v u Q I rx ry h
  obtain ⟨a, b, xs, w', rfl, rfl, ha, hb, hz, q1, q2⟩ := h
  by_cases hx : xs = []
  · subst hx
    cases rx; cases ry
    obtain ⟨its, r1, p1, _⟩ := I.tuple ha
    obtain ⟨its2, r2, p2, _⟩ := I.tuple hb
    cases r1
    obtain ⟨⟨cls, dd, data, sl⟩, ho, hc, n, hd⟩ := id p1
    obtain ⟨⟨cls2, dd2, data2, sl2⟩, ho2, hc2, n2, hd2⟩ := id p2
    have hc' : cls = .type "tuple" := hc
    have hd' : data = .seq ([] : List Value).toArray n := hd
    have hc2' : cls2 = .type "tuple" := hc2
    have hd2' : data2 = .seq its2.toArray n2 := hd2
    subst hc'; subst hd'; subst hc2'; subst hd2'
    exact concat_meets ⟨_, ho, rfl⟩ ⟨_, ho2, rfl⟩ noFill_tuple_add seq_tuple_add PySem.F.slot_tuple_add PySem.F.entry_tuple_add (PySem.F.args_tuple_add_2 _ _)
      (tuple_addW0 a b ([] : List Value).toArray its2.toArray n n2 dd dd2 sl sl2 (by simp)) ⟨ho, ho2, ⟨.ref b, H, I, rfl, q1 rfl⟩⟩
  · exact op_catT pins s σ H _ _ v u Q I rx ry ⟨a, b, xs, [w'], rfl, rfl, ha, hb, hx, Nat.succ_le_of_lt hz, (fun e => nomatch e), fun _ => q2 hx⟩
/-- sum(xs) of ints -/
theorem call_sumI (hc : X.calm = true) (hK : X.K = K := by rfl) : CallR X (.builtin "sum") (fun xs H Q => ∃ p ns, xs = [.ref p] ∧ LI K H p ns ∧ Q (.int ns.sum) H) := by
  subst hK
  intro pins s σ H xs us Q I r h
  obtain ⟨p, ns, rfl, hq, q⟩ := h
  obtain ⟨u, rfl, rx⟩ := vals1 r
  cases rx
  obtain ⟨vs, hi, hl, hz, hlen⟩ := I.ints hq
  have hall := hi.allInts
  obtain ⟨zs, hzs⟩ := hall.items
  refine sum_intListG (xs := zs) (I.ok.hd hc) (by rw [← hzs]; exact hl) fun h' tk t' hk => ?_
  refine ⟨.int ns.sum, H, I.kept hk, ⟨t', ?_⟩, q⟩
  have e1 : numsOf vs.toArray.toList = ns := by rw [show vs.toArray.toList = vs from rfl, hi.numsOf]
  rw [preSum_eq, List.take_of_length_le (by simp), ← e1, hzs, nums_intItems]
end
end L2

namespace L2
open PySem PySem.Spec PyProof.Rows PySem.SeqAt
/-! ### nested data, compared -/
inductive DV (K : PySem.W.Frag) (H : Hp) : V → PyData → Prop
  | non : DV K H .non .none
  | bl (b : Bool) : DV K H (.bl b) (.bool b)
  | int (i : Int) : DV K H (.int i) (.int i)
  | lst {a : Addr} {xs : List V} {ds : List PyData} (hs : SqL K H a xs) (hl : xs.length = ds.length) (hx : ∀ (i : Nat) (x : V) (d : PyData), xs[i]? = some x → ds[i]? = some d → DV K H x d) : DV K H (.ref a) (.list ds)
  | tup {a : Addr} {xs : List V} {ds : List PyData} (hs : SqT K H a xs) (hl : xs.length = ds.length) (hx : ∀ (i : Nat) (x : V) (d : PyData), xs[i]? = some x → ds[i]? = some d → DV K H x d) : DV K H (.ref a) (.tuple ds)
theorem readsAll_of {h : Heap} : ∀ (us : List Value) (ds : List PyData), us.length = ds.length → (∀ (i : Nat) (u : Value) (d : PyData), us[i]? = some u → ds[i]? = some d → ∃ as, Reads h u d as) → ∃ as, ReadsAll h us ds as
  | [], [], _, _ => ⟨_, .nil⟩
  | [], u :: us, h, _ => nomatch h
  | x :: xs, [], h, _ => nomatch h
  | u :: us, d :: ds, h, hx => by
    obtain ⟨as, r⟩ := hx 0 u d rfl rfl
    obtain ⟨bs, q⟩ := readsAll_of us ds (by simpa using h) fun i v e hv he => hx (i + 1) v e (by simpa using hv) (by simpa using he)
    exact ⟨_, .cons r q⟩
section
variable {X : Cx} {K : PySem.W.Frag} {pins : List (Addr × Obj)} {σ : St} {H : Hp} {s : Shared}
theorem DV.reads {x : V} {d : PyData} (h : DV K H x d) (hK : X.K = K) (I : Inv X pins σ H s) : ∀ {u : Value}, RelV x u → ∃ as, Reads s.heap u d as := by
  subst hK
  induction h with
  | non => intro u r; cases r; exact ⟨_, .none⟩
  | bl b => intro u r; cases r; exact ⟨_, .bool b⟩
  | int i => intro u r; obtain ⟨t, rfl⟩ := r; exact ⟨_, .int i t⟩
  | lst hs hl hx ih =>
    intro u r; cases r
    obtain ⟨its, rv, pl, _⟩ := I.list hs
    obtain ⟨o, ho, hc, n, hd⟩ := pl.isList
    have hlen := rv.length
    obtain ⟨as, q⟩ := readsAll_of its _ (hlen.symm.trans hl) fun i v e hv he => by
      have hi : i < its.length := (List.getElem?_eq_some_iff.mp hv).1
      have hxi := List.getElem?_eq_getElem (l := _) (show i < _ from hlen ▸ hi)
      obtain ⟨v', hv', rv'⟩ := Vals.get rv hxi
      rw [hv] at hv'
      cases hv'
      exact ih i _ e hxi he rv'
    exact ⟨_, .list ho hc hd (by simpa using q)⟩
  | tup hs hl hx ih =>
    intro u r; cases r
    obtain ⟨its, rv, pl, _⟩ := I.tuple hs
    obtain ⟨o, ho, hc, n, hd⟩ := id pl
    have hlen := rv.length
    obtain ⟨as, q⟩ := readsAll_of its _ (hlen.symm.trans hl) fun i v e hv he => by
      have hi : i < its.length := (List.getElem?_eq_some_iff.mp hv).1
      have hxi := List.getElem?_eq_getElem (l := _) (show i < _ from hlen ▸ hi)
      obtain ⟨v', hv', rv'⟩ := Vals.get rv hxi
      rw [hv] at hv'
      cases hv'
      exact ih i _ e hxi he rv'
    exact ⟨_, .tuple ho hc hd (by simpa using q)⟩
def rEqD (K : PySem.W.Frag) : R2 := fun x y H Q => ∃ d e, DV K H x d ∧ DV K H y e ∧ shaped d = true ∧ shaped e = true ∧ Q (.bl (PyData.eqv d e)) H
theorem op_eqD (hu : X.A.units + 64 < cLine) (hK : X.K = K := by rfl) : OpR X (compareOp .Eq) (rEqD K) := by
  intro pins s σ H x y v u Q I rx ry h
  obtain ⟨d, e, h1, h2, s1, s2, q⟩ := h
  obtain ⟨as, r1⟩ := h1.reads hK I rx
  obtain ⟨bs, r2⟩ := h2.reads hK I ry
  exact eq_dataH r1 r2 s1 s2 hu ⟨.bl _, H, I, rfl, q⟩
end
/-! the data one meets -/
def dB (bs : List Bool) : PyData := .list (bs.map .bool)
def dL {α : Type} (f : α → PyData) (xs : List α) : PyData := .list (xs.map f)
theorem eqvAll_map {α : Type} [DecidableEq α] (f : α → PyData) (hf : ∀ x y, PyData.eqv (f x) (f y) = decide (x = y)) : ∀ xs ys : List α, PyData.eqvAll (xs.map f) (ys.map f) = decide (xs = ys)
  | [], l => by cases l <;> simp [PyData.eqvAll]
  | x :: xs, [] => by simp [PyData.eqvAll]
  | x :: xs, y :: ys => by
    rw [List.map_cons, List.map_cons, PyData.eqvAll, hf, eqvAll_map f hf xs ys]
    rw [← Bool.decide_and]; exact decide_eq_decide.mpr (by rw [List.cons.injEq])
theorem eqv_dB (a b : List Bool) : PyData.eqv (dB a) (dB b) = decide (a = b) := by
  unfold dB; rw [PyData.eqv]
  exact eqvAll_map _ (fun i j => by rw [PyData.eqv]; exact Bool.beq_eq_decide_eq i j) a b
/-- laid well, at most m deep -/
def Fine (m : Nat) (d : PyData) : Prop := PyData.canLay0 d = true ∧ PyData.depth d ≤ m
theorem canLayAll0_map {α : Type} {f : α → PyData} (hf : ∀ x, PyData.canLay0 (f x) = true) : ∀ xs : List α, PyData.canLayAll0 (xs.map f) = true
  | [] => by rw [List.map_nil, PyData.canLayAll0]
  | x :: xs => by simp [PyData.canLayAll0, hf x, canLayAll0_map hf xs]
theorem depthAll_map {α : Type} {f : α → PyData} {m : Nat} (hf : ∀ x, PyData.depth (f x) ≤ m) : ∀ xs : List α, PyData.depthAll (xs.map f) ≤ m
  | [] => by rw [List.map_nil, PyData.depthAll]; exact Nat.zero_le m
  | x :: xs => by
    have h1 := depthAll_map hf xs
    have h2 := hf x
    simp only [List.map_cons, PyData.depthAll]
    omega
theorem fine_bool (i : Bool) : Fine 1 (.bool i) := ⟨by simp [PyData.canLay0], by simp only [PyData.depth]; omega⟩
theorem fine_list {α : Type} {f : α → PyData} {m : Nat} (hf : ∀ x, Fine m (f x)) (xs : List α) : Fine (m + 1) (.list (xs.map f)) :=
  ⟨by simp only [PyData.canLay0]; exact canLayAll0_map (fun x => (hf x).1) xs, by
    have := depthAll_map (fun x => (hf x).2) xs
    simp only [PyData.depth]; omega⟩
theorem Fine.shaped {m : Nat} {d : PyData} (h : Fine m d) (hm : m ≤ 64 := by decide) : shaped d = true := by
  show (PyData.canLay0 d && decide (PyData.depth d ≤ 64)) = true
  rw [Bool.and_eq_true]
  exact ⟨h.1, decide_eq_true (Nat.le_trans h.2 hm)⟩
theorem fine_dB (a : List Bool) : Fine 2 (dB a) := fine_list fine_bool a
section
variable {K : PySem.W.Frag} {H : Hp} {a : Addr}
theorem DV.list_of {α : Type} {f : α → PyData} {xs : List V} {ys : List α} (hs : SqL K H a xs) (r : Paired (fun x y => DV K H x (f y)) xs ys) : DV K H (.ref a) (dL f ys) := by
  refine .lst hs (by rw [List.length_map]; exact r.length) fun i x d hx hd => ?_
  rw [List.getElem?_map] at hd
  clear hs
  induction r generalizing i with
  | nil => simp at hx
  | cons h _ ih =>
    cases i with
    | zero => simp at hx hd; subst hx; subst hd; exact h
    | succ i => exact ih i (by simpa using hx) (by simpa using hd)
theorem paired_map {α : Type} {e : α → V} {f : α → PyData} (h : ∀ x, DV K H (e x) (f x)) : ∀ xs : List α, Paired (fun x y => DV K H x (f y)) (xs.map e) xs
  | [] => .nil
  | x :: xs => .cons (h x) (paired_map h xs)
end
/-! tuples of places -/
def nv (k : Nat) : V := .int (k : Int)
def TN (H : Hp) (a : Addr) (t : List Nat) : Prop := H a = some (.tup (t.map nv))
theorem atI_nv {t : List Nat} {k : Int} (h0 : 0 ≤ k) (h : k < t.length) : atI (t.map nv) k = some (nv (t.getD k.toNat 0)) := by
  have hk : k.toNat < t.length := by omega
  have e := (Int.toNat_of_nonneg (show 0 ≤ k by omega)).symm
  have q : atI (t.map nv) ((k.toNat : Nat) : Int) = some (nv (t.getD k.toNat 0)) := atI_nat (by
    rw [List.getElem?_map, List.getElem?_eq_getElem hk, List.getD_eq_getElem?_getD, List.getElem?_eq_getElem hk]; rfl)
  rw [← e] at q
  exact q
section
variable {X : Cx} {K : PySem.W.Frag}
theorem PE.imp {e : Expr} {t t' : TE} (h : PE X e t) (i : ∀ σ H Q, t' σ H Q → t σ H Q) : PE X e t' := fun pins s σ H Q I q => h pins s σ H Q I (i σ H Q q)
theorem call_lenN : CallR X (.builtin "len") (fun xs H Q => ∃ p t, xs = [.ref p] ∧ TN H p t ∧ Q (.int (t.length : Nat)) H) := by
  intro pins s σ H xs us Q I r h
  obtain ⟨p, t, e, hq, q⟩ := h
  exact call_len_seq pins s σ H xs us Q I r ⟨p, _, e, .inr (SqT.of hq), by rw [List.length_map]; exact q⟩
/-- told + (k,) -/
def tSnoc (i j : Nat) : TE := fun σ H Q => ∃ c t p, σ[i]? = some (some (.ref c)) ∧ σ[j]? = some (some (nv p)) ∧ TN H c t ∧ t.length < 1000 ∧ ∀ r H', Same H H' → TN H' r (t ++ [p]) → Q (.ref r) H'
theorem pe_snoc (K : PySem.W.Frag) {i j : Nat} {e1 e2 : Expr} {k : Nat} {pos pos' : Pos} (h1 : PE X e1 (tVar i)) (h2 : PE X e2 (tVar j)) (hK : X.K = K := by rfl)
    (hs : starEach [e2] X.env = [(false, eval e2 X.env)] := by rfl) : PE X (.BinOp e1 .Add (.Tuple [e2] k pos') pos) (tSnoc i j) := by
  refine PE.imp (pe_op (op_cat1 (K := K) hK) h1 (pe_tup (pa_cons h2 pa_nil hs))) fun σ H Q ⟨c, t, p, hc, hp, ht, hz, q⟩ => ?_
  refine ⟨_, hc, _, hp, (by show 1 ≤ sizeLine; decide), fun r hr => ?_⟩
  have g1 : Same H (upd H r (.tup [nv p])) := same_new hr _
  have ht1 : TN (upd H r (.tup [nv p])) c t := g1 _ _ ht
  refine ⟨c, r, _, _, rfl, rfl, SqT.of ht1, SqT.of upd_same, by rw [List.length_map]; exact small1000 (by omega), fun e => ?_, fun e r2 hr2 => ?_⟩
  · have : t = [] := by simpa using e
    subst this
    exact q r _ g1 upd_same
  · have g2 := same_new hr2 (.tup (t.map nv ++ [nv p]))
    exact q r2 _ (g1.trans g2) (by unfold TN; rw [upd_same, List.map_append]; rfl)
end
/-! a comprehension's items and what is met -/
structure Over (J : It) (H0 : Hp) (vs : List V) : Prop where
  go : ∀ i H, Same H0 H → i < vs.length → J.go i H
  stop : ∀ H, Same H0 H → J.stop vs.length H
  yld : ∀ i H x H', Same H0 H → i < vs.length → J.yld i H x H' → H' = H ∧ vs[i]? = some x
theorem over_range {lo : Int} {n : Nat} {H : Hp} : Over (Itr lo n) H ((List.range n).map fun k : Nat => V.int (lo + k)) := by
  have hl : ((List.range n).map fun k : Nat => V.int (lo + k)).length = n := by simp
  refine ⟨fun i H1 _ hi => ?_, fun H1 _ => ?_, fun i H1 x H' _ hi hy => ?_⟩
  · rw [hl] at hi; exact hi
  · show n ≤ _
    rw [hl]; exact Nat.le_refl n
  · obtain ⟨e, rfl⟩ := hy
    rw [hl] at hi
    exact ⟨e, by rw [List.getElem?_map, List.getElem?_range hi]; rfl⟩
theorem over_from {lo n : Nat} {H : Hp} : Over (Itr (lo : Int) n) H ((List.range' lo n).map nv) := by
  have e : (List.range' lo n).map nv = (List.range n).map fun k : Nat => V.int ((lo : Int) + k) := by
    rw [List.range'_eq_map_range, List.map_map]
    apply List.map_congr_left; intro k _
    show V.int ((lo + k : Nat) : Int) = _
    rw [Int.natCast_add]
  rw [e]; exact over_range
theorem comp_rel {J : It} {tc : TT} {te : TE} {is : List Nat} {σ : St} {H : Hp} {Qv : VK} {α : Type} (xs : List α) (enc : α → V) (R : Hp → α → V → Prop) (p : α → Bool) (hz : xs.length < sizeLine)
    (ov : Over J H (xs.map enc)) (mono : ∀ H1 H2 x v, Same H1 H2 → R H1 x v → R H2 x v)
    (hc : ∀ x ∈ xs, ∀ H1, Same H H1 → ∀ N : Bool → Hp → Prop, (∀ H2, Same H1 H2 → N (p x) H2) → tc (some (enc x) :: pick σ is) H1 N)
    (he : ∀ x ∈ xs, p x = true → ∀ H1, Same H H1 → ∀ N : V → Hp → Prop, (∀ v H2, Same H1 H2 → R H2 x v → N v H2) → te (some (enc x) :: pick σ is) H1 N)
    (hd : ∀ l vs H', Same H H' → H' l = none → Paired (R H') (xs.filter p) vs → Qv (.ref l) (upd H' l (.lst vs))) :
    CompW tc te is σ Qv J H := by
  have hlm : (xs.map enc).length = xs.length := List.length_map ..
  refine ⟨fun i m ys H1 => m = xs.length - i ∧ i ≤ xs.length ∧ Same H H1 ∧ Paired (R H1) ((xs.take i).filter p) ys, ⟨_, rfl, Nat.zero_le _, Same.refl H, .nil⟩, ?_⟩
  rintro i m ys H1 ⟨rfl, hi, hS, hP⟩
  have hlen : ys.length ≤ i := by
    rw [← hP.length]
    exact Nat.le_trans (List.length_filter_le _ _) (by rw [List.length_take]; omega)
  by_cases hlt : i < xs.length
  · refine .inr ⟨ov.go i H1 hS (by omega), by omega, fun ys' H' => Same H H' ∧ Paired (R H') ((xs.take (i + 1)).filter p) ys', fun ys' H' h => ⟨xs.length - (i + 1), by omega, rfl, hlt, h.1, h.2⟩, fun v H' hyl => ?_⟩
    obtain ⟨rfl, hv⟩ := ov.yld i H1 v H' hS (by omega) hyl
    rw [List.getElem?_map, List.getElem?_eq_getElem hlt] at hv
    have hv' : enc xs[i] = v := by simpa using hv
    subst hv'
    have hm : xs[i] ∈ xs := List.getElem_mem hlt
    have et : (xs.take (i + 1)).filter p = (xs.take i).filter p ++ (if p xs[i] = true then [xs[i]] else []) := by
      rw [List.take_succ_eq_append_getElem hlt, List.filter_append, List.filter_cons]; rfl
    refine hc _ hm _ hS _ fun H2 g2 => ?_
    by_cases hp : p xs[i] = true
    · rw [if_pos hp]
      rw [if_pos hp] at et
      refine he _ hm hp _ (hS.trans g2) _ fun v H3 g3 r3 => ⟨hS.trans (g2.trans g3), ?_⟩
      rw [et]
      exact Paired.snoc (Paired.mapP hP fun x v r => mono _ _ x v (g2.trans g3) r) r3
    · rw [if_neg hp]
      rw [if_neg hp] at et
      refine ⟨hS.trans g2, ?_⟩
      rw [et, List.append_nil]
      exact Paired.mapP hP fun x v r => mono _ _ x v g2 r
  · have e : i = xs.length := by omega
    subst e
    rw [List.take_length] at hP
    refine .inl ⟨?_, by omega, fun l hl => hd l ys H1 hS hl hP⟩
    have := ov.stop H1 hS
    rw [hlm] at this
    exact this
theorem paired_eq {α β : Type} {g : α → β} : ∀ {xs : List α} {vs : List β}, Paired (fun x v => v = g x) xs vs → vs = xs.map g
  | _, _, .nil => rfl
  | _, _, .cons h r => by rw [List.map_cons, paired_eq r, h]
theorem comp_enc {J : It} {tc : TT} {te : TE} {is : List Nat} {σ : St} {H : Hp} {Qv : VK} {α : Type} (xs : List α) (enc res : α → V) (p : α → Bool) (hz : xs.length < sizeLine)
    (ov : Over J H (xs.map enc))
    (hc : ∀ x ∈ xs, ∀ H1, Same H H1 → ∀ N : Bool → Hp → Prop, (∀ H2, Same H1 H2 → N (p x) H2) → tc (some (enc x) :: pick σ is) H1 N)
    (he : ∀ x ∈ xs, p x = true → ∀ H1, Same H H1 → ∀ N : V → Hp → Prop, (∀ H2, Same H1 H2 → N (res x) H2) → te (some (enc x) :: pick σ is) H1 N)
    (hd : ∀ l H', Same H H' → H' l = none → Qv (.ref l) (upd H' l (.lst ((xs.filter p).map res)))) :
    CompW tc te is σ Qv J H :=
  comp_rel xs enc (fun _ x v => v = res x) p hz ov (fun _ _ _ _ _ h => h) hc (fun x hx hp H1 hS N hN => he x hx hp H1 hS N fun H2 g => hN _ H2 g rfl) fun l vs H' hS hl hP => by
    rw [paired_eq hP]; exact hd l H' hS hl
end L2

namespace L2
open PySem PySem.Spec PyProof.Rows PySem.SeqAt
/-! arguments that are long written lists: no test left to be found by itself -/
section
variable {X : Cx} {es l : List Expr} {te : TE} {t : TA} {i : Int} {k : Nat} {p : Pos} {a b : Expr}
theorem pa_consL (ha : PE X (.List l p) te) (hr : PA X es t) : PA X (.List l p :: es) (tCons te t) := pa_cons ha hr rfl
theorem pa_consI (hr : PA X es t) : PA X (.Constant (.int i) k p :: es) (tCons (tC (.int i)) t) := pa_cons pe_int hr rfl
theorem pa_consS (ha : PE X (.Subscript a b p) te) (hr : PA X es t) : PA X (.Subscript a b p :: es) (tCons te t) := pa_cons ha hr rfl
end
end L2

namespace L2
open PySem PySem.Spec PyProof.Rows
section
variable {X : Cx} {K : PySem.W.Frag}
theorem sl_listK (hK : X.K = K := by rfl) : SlR X (rSlL K) := by subst hK; exact sl_list
end
theorem int_eq (u v : Int) : decide (V.int u = V.int v) = decide (u = v) := decide_eq_decide.mpr ⟨fun h => by injection h, fun h => by rw [h]⟩
theorem cut_to (xs : List V) (k : Nat) : cutV xs none (some (k : Int)) = xs.take k := by
  unfold cutV
  rw [HT.sIx_nat, HT.sIx_none, List.drop_zero, Nat.sub_zero]
  by_cases h : k ≤ xs.length
  · rw [Nat.min_eq_left h]
  · have hk : xs.length ≤ k := by omega
    rw [Nat.min_eq_right hk, List.take_of_length_le hk, List.take_length]
end L2
namespace L2
end L2

namespace L2
open PySem PySem.Spec PyProof.Rows
/-! ### exceptions of the program's own classes: a frame is left -/
/-- an address that holds a record is no frame's -/
theorem rec_off {base h : Heap} {fr : List Env} {a : Addr} {o : Obj} {fs : Array Value} (F : h.FunFrames base fr) (x : h.get? a = some o) (xd : o.data = .fields fs) : a ∉ frs fr := by
  intro m
  obtain ⟨_, p, y, no⟩ := F.mem m
  have : o = p := Option.some.inj (x.symm.trans y)
  exact no fs (this ▸ xd)
/-- an entry O is laid at the end, the record at e is written, then the entry: what stands where -/
theorem entry_laid {g : Heap} {e : Addr} {oe O : Obj} {vs ts : Array Value} (x : g.get? e = some oe) (xd : oe.data = .fields vs) (yd : O.data = .fields ts) (yf : O.isFreed = false) (u v : Array Value → Array Value) :
    g.objs.size ≠ e ∧ (g.push O).get? e = some oe ∧
    ((g.push O).update e (Obj.mapFields u)).get? e = some (oe.mapFields u) ∧
    ((g.push O).update e (Obj.mapFields u)).get? g.objs.size = some O ∧
    (((g.push O).update e (Obj.mapFields u)).update g.objs.size (Obj.mapFields v)).get? e = some (oe.mapFields u) ∧
    (((g.push O).update e (Obj.mapFields u)).update g.objs.size (Obj.mapFields v)).get? g.objs.size = some (O.mapFields v) ∧
    ∀ b o, b ≠ e → g.get? b = some o → (((g.push O).update e (Obj.mapFields u)).update g.objs.size (Obj.mapFields v)).get? b = some o := by
  have far : ∀ {b : Addr} {o : Obj}, g.get? b = some o → g.objs.size ≠ b := fun z => (Nat.ne_of_lt (Heap.lt_size z)).symm
  have p1 := Heap.get?_push_of_some O x
  have p2 := Heap.get?_update_self (Obj.mapFields u) p1 (Obj.isFreed_of_fields (Obj.data_mapFields xd u))
  have p3 : ((g.push O).update e (Obj.mapFields u)).get? g.objs.size = some O := by
    rw [Heap.get?_update_other _ _ (far x).symm]
    exact Heap.get?_push_size g yf
  refine ⟨far x, p1, p2, p3, ?_, Heap.get?_update_self _ p3 (Obj.isFreed_of_fields (Obj.data_mapFields yd v)), fun b o ne z => ?_⟩
  · rw [Heap.get?_update_other _ _ (far x), p2]
  · rw [Heap.get?_update_other _ _ (far z), Heap.get?_update_other _ _ ne.symm, Heap.get?_push_of_some O z]
section
variable {M : Model} {A : Around} {s : Shared} {E : Value → Shared → Prop}
/-- what is known once the frame is noted: keep speaks of what stays, T' is the new entry -/
def Noted (fr : List Env) (e : Addr) (oe : Obj) (off : Addr → Prop) (h h' : Heap) (T' : Addr) (oT' : Obj) (ts' : Array Value) : Prop :=
  (∀ b o, b ∉ frs fr → b ≠ e → ¬ off b → h.get? b = some o → h'.get? b = some o) ∧ (∀ b o, b ∈ frs fr → h.get? b = some o → ∃ sl, h'.get? b = some { o with slots := sl }) ∧
  h.objs.size ≤ T' ∧ T' ≠ e ∧ h'.get? T' = some oT' ∧ oT'.data = .fields ts' ∧ ts'[3]? = some .none ∧ h'.get? e = some (oe.mapFields (·.setIfInBounds 1 (.ref T')))
theorem entry_X {base : Heap} {env : Env} {outer : List Env} {L e : Addr} {oe : Obj} {vs : Array Value} {head : Value} {more : Bool} {Q : Unit → Shared → Prop}
    (fA : A.frames = some (env :: outer)) (fF : s.heap.FunFrames base (env :: outer)) (fL : env.frame = some L)
    (x : s.heap.get? e = some oe) (xd : oe.data = .fields vs) (xs : 1 < vs.size)
    (q : ∀ h' T' oT' ts', Noted (env :: outer) e oe (fun _ => False) s.heap h' T' oT' ts' → Q () { s with heap := h' }) :
    wpAny M A (frameOf env >>= fun a => entryPlaceOf L more >>= fun pl => EntryCells.newEntry head a .none (rawInt L) .none pl >>= fun b => setField (.ref e) 1 b) (fun _ s' => wpAny M A (setFlight (.ref e) none) Q E s') E s := by
  have out := rec_off fF x xd
  refine wpAny_bind (wpAny_frameOf_fun fA fF fL fun g G => wpAny_bind (wpAny_entryPlaceOf fun pl P => wpAny_bind ?_))
  obtain ⟨G1, G2, G3⟩ := G
  have y := (G2 e out).trans x
  unfold EntryCells.newEntry
  unfold newFields
  refine wpAny_newObj_type ?_ (P.sizeOk5 _ _ _ _ _)
  obtain ⟨z1, z2, z3, z4, z5, z6, z7⟩ := entry_laid y xd (O := ⟨.type "traceback", none, .fields _, #[]⟩) rfl rfl (fun z => z.setIfInBounds 1 (.ref g.objs.size)) (fun z => z.setIfInBounds 3 .none)
  refine wpAny_setField z2 xd xs ?_
  unfold setFlight
  refine wpAny_bind (wpAny_field z3 (Obj.data_mapFields xd _) (x := .ref g.objs.size) (by simp [xs]) ?_)
  rw [if_pos (by simp)]
  refine wpAny_setField z4 rfl ?_ (q _ g.objs.size _ _ ⟨fun b o n1 n2 _ w => z7 b o n2 ((G2 b n1).trans w), fun b o n w => ?_, Nat.le_of_eq G1.symm, z1, z6, Obj.data_mapFields rfl _, ?_, z5⟩)
  · simp only [List.size_toArray, List.length_append, List.length_cons]; omega
  · obtain ⟨sl, w'⟩ := G3 b o w
    exact ⟨sl, z7 b _ (fun c => out (c ▸ n)) w'⟩
  · rcases P with rfl | ⟨_, _, _, _, _, _, _, rfl⟩ <;> simp
theorem note_X {base : Heap} {env : Env} {outer : List Env} {L e : Addr} {oe : Obj} {vs : Array Value} {head : Value} {Q : Unit → Shared → Prop}
    (fA : A.frames = some (env :: outer)) (fF : s.heap.FunFrames base (env :: outer)) (fL : env.frame = some L)
    (x : s.heap.get? e = some oe) (xd : oe.data = .fields vs) (x1 : vs[1]? = some head)
    (hh : head = .none ∨ ∃ T oT ts, head = .ref T ∧ T ≠ e ∧ s.heap.get? T = some oT ∧ oT.data = .fields ts ∧ ts[3]? = some .none)
    (q : ∀ h' T' oT' ts', Noted (env :: outer) e oe (fun b => head = .ref b) s.heap h' T' oT' ts' → Q () { s with heap := h' }) :
    wpAny M A (noteFrame (.ref e) env) (fun _ s' => wpAny M A (setFlight (.ref e) none) Q E s') E s := by
  have in1 := (Array.getElem?_eq_some_iff.mp x1).1
  unfold noteFrame
  simp only [fL]
  refine wpAny_bind (wpAny_field x xd x1 ?_)
  rcases hh with rfl | ⟨T, oT, ts, rfl, ne, y, yd, y3⟩
  · rw [if_neg (by decide)]
    exact entry_X fA fF fL x xd in1 fun h' T' oT' ts' N => q h' T' oT' ts' ⟨fun b o n1 n2 _ => N.1 b o n1 n2 id, N.2⟩
  · have nl : (Value.none == rawInt L) = false := by simp [rawInt]
    rw [if_pos (by simp)]
    refine wpAny_bind (wpAny_field y yd y3 ?_)
    rw [nl, if_neg Bool.false_ne_true]
    refine wpAny_bind (wpAny_setField y yd (Array.getElem?_eq_some_iff.mp y3).1 ?_)
    generalize hg : s.heap.update T (Obj.mapFields fun z => z.setIfInBounds 3 Value.none) = g
    have same : ∀ b, b ≠ T → g.get? b = s.heap.get? b := fun b n => by rw [← hg, Heap.get?_update_other _ _ n.symm]
    have size : g.objs.size = s.heap.objs.size := by rw [← hg, Heap.size_update]
    have out := rec_off fF y yd
    have fF' : g.FunFrames base (env :: outer) := fF.of_keeps fun b o z no => ⟨o, (same b fun c => no ts (by rw [c, y] at z; cases z; exact yd)).trans z, rfl⟩
    refine entry_X (s := { s with heap := g }) fA fF' fL ((same e ne.symm).trans x) xd in1 fun h' T' oT' ts' N => q h' T' oT' ts' ?_
    obtain ⟨N1, N2, N3, N4⟩ := N
    exact ⟨fun b o n1 n2 n3 z => N1 b o n1 n2 id ((same b fun c => n3 (by rw [c])).trans z), fun b o n z => N2 b o n ((same b fun c => out (c ▸ n)).trans z), size ▸ N3, N4⟩
end
end L2

namespace L2
open PySem PySem.Spec PyProof.Rows
/-- an exception of the class at C in flight; h0: the heap ahead of what raised it -/
structure Fly (H' : Hp) (h0 h' : Heap) (e C : Addr) : Prop where
  new : h0.get? e = none
  free : H' e = none
  obj : ∃ oe vs T oT ts, h'.get? e = some oe ∧ oe.cls = .ref C ∧ oe.dict = none ∧ oe.data = .fields vs ∧ vs[1]? = some (.ref T) ∧ T ≠ e ∧ h0.get? T = none ∧ H' T = none ∧ h'.get? T = some oT ∧ oT.data = .fields ts ∧ ts[3]? = some .none
def CX1 (P : Program) (w : World) : CXT := fun outer H s E e s' => ∃ ea C H', e = .ref ea ∧ s'.os = s.os ∧ AllBare s'.gens ∧ Un (frs outer) [] H H' s.heap s'.heap ∧ HOk P w H' s'.heap ∧ Fly H' s.heap s'.heap ea C ∧ E (.ref C) none H'
theorem dict_mapFields (o : Obj) (f : Array Value → Array Value) : (o.mapFields f).dict = o.dict := by
  obtain ⟨c, d, dt, sl⟩ := o
  cases dt <;> rfl
section
variable {X : Cx} {pins : List (Addr × Obj)} {σ : St} {H H' : Hp} {s s2 : Shared}
/-- the frame is noted: what stood stands, the exception flies on -/
theorem left_X {e C : Addr} {oe : Obj} {vs : Array Value} {head : Value} {Q : Unit → Shared → Prop} {E' : Value → Shared → Prop} (I : Inv X pins σ H s) (hst : X.stack = X.env :: X.outer) (hfL : X.env.frame = some X.env.locals)
    (hos : s2.os = s.os) (hg : AllBare s2.gens) (un : Un (frs X.stack) [] H H' s.heap s2.heap) (hok : HOk X.prog X.w H' s2.heap) (hne : s.heap.get? e = none) (hHe : H' e = none)
    (he : s2.heap.get? e = some oe) (hc : oe.cls = .ref C) (hdi : oe.dict = none) (hd : oe.data = .fields vs) (h1 : vs[1]? = some head)
    (hh : head = .none ∨ ∃ T oT ts, head = .ref T ∧ T ≠ e ∧ s.heap.get? T = none ∧ H' T = none ∧ s2.heap.get? T = some oT ∧ oT.data = .fields ts ∧ ts[3]? = some .none)
    (q : ∀ (s3 : Shared) (oe' oT' : Obj) (vs' ts' : Array Value) (T' : Addr), s3.os = s.os → AllBare s3.gens → Un (frs X.stack) [] H H' s.heap s3.heap → HOk X.prog X.w H' s3.heap → s3.heap.get? e = some oe' → oe'.cls = .ref C → oe'.dict = none → oe'.data = .fields vs' → vs'[1]? = some (.ref T') → T' ≠ e →
      s.heap.get? T' = none → s2.heap.objs.size ≤ T' → H' T' = none → s3.heap.get? T' = some oT' → oT'.data = .fields ts' → ts'[3]? = some .none → Q () s3) :
    wpAny (model X.prog X.w) X.A (noteFrame (.ref e) X.env) (fun _ s' => wpAny (model X.prog X.w) X.A (setFlight (.ref e) none) Q E' s') E' s2 := by
  have I2 : Inv X pins σ H' s2 := I.call' (ch := []) hos un hok hg (fun b z => absurd z (by simp))
  have hfr : X.A.frames = some (X.env :: X.outer) := by rw [I.ok.frames, hst]
  have hl : s2.heap.FunFrames X.base (X.env :: X.outer) := by rw [← hst]; exact I2.stack
  have hsf := I2.stkFree
  have hsub : ∀ b, b ∈ frs (X.env :: X.outer) → b ∈ frs X.stack := fun b hb => by rw [hst]; exact hb
  refine note_X hfr hl hfL he hd h1 (hh.imp id fun ⟨T, oT, ts, a1, a2, _, _, a3, a4, a5⟩ => ⟨T, oT, ts, a1, a2, a3, a4, a5⟩) fun h' T' oT' ts' ⟨k1, k2, k3, k4, k5, k6, k7, k8⟩ => ?_
  have hne1 : ∀ b o, s.heap.get? b = some o → b ≠ e := fun b o z w' => by rw [w', hne] at z; cases z
  have hneT : ∀ b o, s.heap.get? b = some o → head ≠ .ref b := fun b o hb z => by
    rcases hh with rfl | ⟨T, oT, ts, rfl, _, hT, _⟩
    · cases z
    · cases z; rw [hT] at hb; cases hb
  have hT'n : H' T' = none := hok.fresh k3
  refine q { s2 with heap := h' } _ oT' _ ts' T' hos hg ⟨fun b o z hb hf _ => ?_, fun b o z hb hf _ => ?_, fun b o z hb hx => un.free b o z hb hx, fun b o z hx => ?_, un.tups, un.frzs, un.tbls⟩ (fun a o z => ?_) k8 ?_ ?_ (Obj.data_mapFields hd _) ?_ k4 ?_ k3 hT'n k5 k6 k7
  · have hb2 := un.keep b o z hb hf (by simp)
    exact k1 b o (fun w' => hf (hsub b w')) (hne1 b o z) (hneT b o z) hb2
  · obtain ⟨sl, hb2⟩ := un.slot b o z hb hf (by simp)
    obtain ⟨sl2, hb3⟩ := k2 b _ (by rw [← hst]; exact hf) hb2
    exact ⟨sl2, hb3⟩
  · obtain ⟨o', ho'⟩ := un.there b o z hx
    by_cases hf : b ∈ frs (X.env :: X.outer)
    · obtain ⟨sl2, hb3⟩ := k2 b _ hf ho'
      exact ⟨_, hb3⟩
    · exact ⟨_, k1 b o' hf (hne1 b o z) (hneT b o z) ho'⟩
  · refine (hok a o z).stay (fun b u hb hu => ?_) (fun c q => q) (fun c xs q => q)
    have hbs : H' b ≠ none := by
      rcases hb with rfl | hb
      · rw [z]; exact fun w' => nomatch w'
      · rw [hb]; exact fun w' => nomatch w'
    refine k1 b u (fun w' => hbs (hsf b (hsub b w'))) (fun w' => hbs (by rw [w']; exact hHe)) (fun w' => ?_) hu
    rcases hh with rfl | ⟨T, oT, ts, rfl, _, _, hHT, _⟩
    · cases w'
    · cases w'; exact hbs hHT
  · rw [Obj.cls_mapFields]; exact hc
  · rw [dict_mapFields]; exact hdi
  · have hsz : 1 < vs.size := (Array.getElem?_eq_some_iff.mp h1).1
    simp [hsz]
  · cases hq : s.heap.get? T' with
    | none => rfl
    | some o =>
      obtain ⟨o', ho'⟩ := un.there T' o hq (by simp)
      exact absurd (Heap.lt_size ho') (Nat.not_lt.mpr k3)
end
/-- what a body of a def hands to its caller -/
theorem Inv.flown {X : Cx} {pins : List (Addr × Obj)} {σ : St} {H H' : Hp} {s s3 : Shared} {e C : Addr} {E : XK} (I : Inv X pins σ H s) (hex : X.ex = []) (hos : s3.os = s.os) (hg : AllBare s3.gens) (un : Un (frs X.stack) [] H H' s.heap s3.heap)
    (hok : HOk X.prog X.w H' s3.heap) (fl : Fly H' s.heap s3.heap e C) (hE : E (.ref C) none H') : CX1 X.prog X.w X.outer X.H₀ X.s₀ E (.ref e) s3 := by
  have J : Inv X pins σ H' s3 := I.call' (ch := []) hos un hok hg (fun b z => absurd z (by simp))
  have hb := J.base
  rw [hex] at hb
  obtain ⟨n1, n2, oe, vs, T, oT, ts, a1, a2, a3, a4, a5, a6, a7, a8, a9, a10, a11⟩ := fl
  have old : ∀ b, s.heap.get? b = none → X.s₀.heap.get? b = none := fun b hb => by
    cases hq : X.s₀.heap.get? b with
    | none => rfl
    | some o =>
      obtain ⟨o', ho'⟩ := I.base.there b o hq (by rw [hex]; simp)
      rw [hb] at ho'; cases ho'
  exact ⟨e, C, H', rfl, J.os, J.bare, hb, J.hok, ⟨old e n1, n2, oe, vs, T, oT, ts, a1, a2, a3, a4, a5, a6, old T a7, a8, a9, a10, a11⟩, hE⟩
theorem ObjOk.there {P : Program} {w : World} {H : Hp} {h : Heap} {a : Addr} {o : HO} (x : ObjOk P w H h a o) : ∃ ob, h.get? a = some ob := by
  cases o with
  | lst xs => obtain ⟨_, _, _, _, e⟩ := x; exact ⟨_, e⟩
  | tup xs => obtain ⟨_, _, _, p⟩ := x; obtain ⟨o, e, _⟩ := id p; exact ⟨_, e⟩
  | dK kvs => obtain ⟨_, _, _, _, o, _, _, e, _⟩ := x; exact ⟨_, e⟩
  | dT kvs => obtain ⟨_, _, _, _, o, _, _, e, _⟩ := x; exact ⟨_, e⟩
  | set S n => obtain ⟨o, _, _, _, e, _⟩ := x; exact ⟨_, e⟩
  | ins C dx fs => obtain ⟨_, _, _, e, _⟩ := x; exact ⟨_, e⟩
  | own y => exact x
  | xd fs => obtain ⟨_, ⟨_, _, _, e, _⟩, _⟩ := x; exact ⟨_, e⟩
  | rng lo hi => obtain ⟨_, _, _, e⟩ := x; exact ⟨_, e⟩
  | frz ob u => obtain ⟨e, _⟩ := x; exact ⟨_, e⟩
  | tbl ps => exact ⟨_, (show h.get? a = some _ from x)⟩
  | met f y => exact ⟨_, (show h.get? a = some _ from x)⟩
  | ext φ => obtain ⟨_, e, _⟩ := x; exact e
theorem HOk.none_of {P : Program} {w : World} {H : Hp} {h : Heap} {a : Addr} (x : HOk P w H h) (e : h.get? a = none) : H a = none := by
  cases hq : H a with
  | none => rfl
  | some o =>
    obtain ⟨ob, z⟩ := (x a o hq).there
    rw [e] at z; cases z
/-- an own exception class of the text -/
theorem own_obj {K : PySem.W.Frag} {h : Heap} {C : Addr} {bmB : List Value} {newId : String} (X : K.In h) (q : PySem.W.excIn K C bmB newId = true) :
    ∃ bm N nm q bs hdct sn sub ab col dd k0 k1 k2 k3 k5 mN, h.get? C = some (excClassObj nm q C N bs bm hdct sn sub ab col dd k0 k1 k2 k3 k5 newId) ∧ h.Ns N mN ∧ mN "__init__" = none ∧ OwnTail h bmB bm := by
  rw [PySem.W.excIn] at q
  split at q
  case h_2 => exact nomatch q
  next dd cd sl at0 =>
  split at q
  case h_2 => exact nomatch q
  next c bm s0 s1 s2 s3 i s5 em es =>
  simp only [beq_iff_eq, Bool.and_eq_true] at q
  obtain ⟨⟨⟨⟨⟨q1, q2⟩, q3⟩, q4⟩, q5⟩, q6⟩ := q
  cases cd with | _ nm bs mro ns qn hd sn sub ab col del =>
  have em' : mro = .ref c :: bm := em
  have es' : sl = #[s0, s1, s2, s3, some (.builtin i), s5] := by rw [← Array.toArray_toList (xs := sl), es]
  have q3' : del = false := by simpa using q3
  rw [em', es', q3', q1, q2] at at0
  exact ⟨bm, ns, nm, qn, bs, hd, sn, sub, ab, col, dd, s0, s1, s2, s3, s5, _, X _ _ at0, .of_isNs (PySem.W.isNs_of_in X q5), PySem.W.nsMap_none_of_in X q5 q6, PySem.W.tail_of_in X q4⟩
section
variable {P : Program} {w : World} {K : PySem.W.Frag} {mg : Str → Option Value} {base : Heap} {N : List Str} {qual : Str} {scope : Scope} {f : Addr} {cd : Value} {A : Around} {outer : List Env} {s₀ : Shared} {H₀ : Hp} {E : XK}
/-- a callee's exception goes on through this body -/
theorem pass1 : Passes (CX1 P w) (cxOf (CX1 P w) P w K mg base N qual scope f cd A outer s₀ H₀ E) E := by
  rintro pins σ H s e s' I ⟨ea, C, H', rfl, hos, hg, un, hok, fl, hE⟩
  obtain ⟨n1, n2, oe, vs, T, oT, ts, a1, a2, a3, a4, a5, a6, a7, a8, a9, a10, a11⟩ := fl
  show wpAny (model P w) (A.deeper (envOfC qual scope s₀.heap.objs.size f cd)) (leaving (envOfC qual scope s₀.heap.objs.size f cd) (.ref ea)) _ _ s'
  unfold leaving
  exact wpAny_bind (left_X (X := cxOf (CX1 P w) P w K mg base N qual scope f cd A outer s₀ H₀ E) I rfl rfl hos hg un hok n1 n2 a1 a2 a3 a4 a5 (.inr ⟨T, oT, ts, rfl, a6, a7, a8, a9, a10, a11⟩)
    fun s3 oe' oT' vs' ts' T' b1 b2 b3 b4 c1 c2 c3 c4 c5 c6 c7 c8 c9 c10 c11 c12 => I.flown rfl b1 b2 b3 b4 ⟨n1, n2, oe', vs', T', oT', ts', c1, c2, c3, c4, c5, c6, c7, c9, c10, c11, c12⟩ hE)
theorem Fun.okX {x : Str} {st : Stmt} {fd : FuncData} {N ps : List Str} {k : Nat} {sp : Sp} (F : Fun K x qual st f fd) (S : FnScope N ps (defScope st)) (len : ∀ vs H Q E, sp vs H Q E → vs.length = ps.length)
    (hbody : ∀ (cdv : Value) (A : Around) (outer : List Env) (s : Shared) (H : Hp) (vs : List V) (Q : VK) (E : XK), Room k (A.deeper (envOfC qual (defScope st) s.heap.objs.size f cdv)) → sp vs H Q E →
      ∃ t, PSs (cxOf (CX1 P w) P w K mg base N qual (defScope st) f cdv A outer s H E) (defBody st) t ∧ t { nx := fun _ H' => Q .non H', rt := Q } (start N vs) H) : FnOk P w K mg base (CX1 P w) (k + 1) f fd ps sp := by
  obtain ⟨oc, od, kV, doc, pm, an, cdv, ct, osl, rfl, lk, hcd⟩ := F.ex
  exact fn_of lk hcd S len fun A outer s H vs Q E hr hsp => hbody cdv A outer s H vs Q E hr hsp
/-- raise C('..') -/
def tRaise (E : XK) (C : Addr) : TS := fun _ _ H => E (.ref C) none H
theorem ps_raise {x : Str} {C : Addr} {bm : List Value} {newId B initId : String} {np cpos cp pos : Pos} {k : Nat} {txt : Str} (FB : ExcBaseFacts B newId initId bm) (hd : A.handled = none) (hC : PySem.W.excIn K C bm newId = true) (hm : mg x = some (.ref C))
    (hx : scope.names.lookup x = some .globalImplicit := by rfl) (hdb : (x == ("__debug__" : Str)) = false := by decide) :
    PS (cxOf (CX1 P w) P w K mg base N qual scope f cd A outer s₀ H₀ E) (.Raise (some (.Call (.Name x np) [.Constant (.str txt) k cp] [] cpos)) none pos) (tRaise E C) := by
  intro pins s σ H D I h
  obtain ⟨tl, N', nm, q, bs, hdct, sn, sub, ab, col, dd, k0, k1, k2, k3, k5, mN, hCo, hN, hni, T⟩ := own_obj I.ok.mod.kin hC
  refine wpAny_Raise_call_subT (C := C) (nm := nm) (q := q) (N := N') (bs := bs) (bm := tl) (hdct := hdct) (sn := sn) (sub := sub) (ab := ab) (col := col) (dd := dd) (k0 := k0) (k1 := k1) (k2 := k2) (k3 := k3) (k5 := k5)
    FB (mN := mN) (T.hasType FB.hasBase) hd rfl hni (ld_glob I hx hm ⟨rfl, ?_⟩ hdb)
  refine Calls.evalArgs_plain (thn ((pa_cons pe_str pa_nil : PA (cxOf (CX1 P w) P w K mg base N qual scope f cd A outer s₀ H₀ E) [.Constant (.str txt) k cp] _) cpos pins s σ H (fun vs H1 => vs.length = 1 ∧ H1 = H) I ⟨rfl, rfl⟩) fun us s2 ⟨vs, H1, I2, r2, e1, e2⟩ => ?_)
  subst e2
  refine ⟨rfl, by rw [← r2.length, e1]; decide, I2.bk _ _ hCo, hN.keeps I2.bk, T.keeps I2.bk, fun h' e hme => ?_⟩
  obtain ⟨t, ht, _, _⟩ := hme.there
  show wpAny (model P w) (A.deeper (envOfC qual scope s₀.heap.objs.size f cd)) (leaving (envOfC qual scope s₀.heap.objs.size f cd) (.ref e)) _ _ _
  unfold leaving
  exact wpAny_bind (left_X (X := cxOf (CX1 P w) P w K mg base N qual scope f cd A outer s₀ H₀ E) (s2 := { s2 with heap := h' }) I2 rfl rfl rfl I2.bare (Un.kept hme.keeps) (I2.hok.kept hme.keeps) hme.new (I2.hok.none_of hme.new) ht rfl rfl rfl rfl (.inl rfl)
    fun s3 oe' oT' vs' ts' T' b1 b2 b3 b4 c1 c2 c3 c4 c5 c6 c7 c8 c9 c10 c11 c12 => I2.flown rfl b1 b2 b3 b4 ⟨hme.new, I2.hok.none_of hme.new, oe', vs', T', oT', ts', c1, c2, c3, c4, c5, c6, c7, c9, c10, c11, c12⟩ h)
end
end L2

namespace PySem.W
open PyProof.Rows PySem PySem.Calls PySem.Spec
section
variable {prog : Program} {w : World} {A : Around} {E : Value → Shared → Prop} {s : Shared} {K : Frag} {x D : Addr} {ox : Obj}
theorem xc_find (hcls : (clsIn K D).isSome = true) (ha : findIn K (.ref D) "__class__" = some (some (.builtin "object.__class__"))) (hn : specialIn K (.builtin "object.__class__") "__get__" = some (some (.builtin "getset_descriptor.__get__")))
    (htk : takesIn K (.builtin "object.__class__") = some true) : findObj K D none "__class__" = some (.bind (.builtin "getset_descriptor.__get__") (.builtin "object.__class__")) := by
  cases ec : clsIn K D with
  | none => rw [ec] at hcls; exact nomatch hcls
  | some cd => simp [findObj, ec, ha, hn, htk]
/-- the reading that exceptions answer names with -/
abbrev gaId : String := "BaseException.__getattribute__"
theorem xc_check {M : Model} {nm : Value} {Q : Unit → Shared → Prop} (X : K.In s.heap) (I : InstAt s.heap x ox D none) (hb : mroIn K D (.type "BaseException") = some true) (q : Q () s) :
    wpAny M A (checkBuiltinCall gaId ⟨[.ref x, nm], []⟩) Q E s := by
  have id2 : builtinKind gaId = some .slot ∧ splitId gaId = some ("BaseException", "__getattribute__") := ⟨by decide +kernel, by decide +kernel⟩
  have isA : Looks M s.heap (isInstance (.ref x) (.type "BaseException")) true := I.type.andThen (looks_mroIn X hb)
  have ar := F.args_bexc_ga (.ref x) nm
  cases s
  rw [checkBuiltinCall, id2.1]
  simp only [id2.2]
  refine wpAny_bind (isA.at ?_)
  repeat any_goals (first | assumption | wp_step)
theorem xc_entry {tk : Tok} {Q : Fin → Shared → Prop} (X : K.In s.heap) (I : InstAt s.heap x ox D none) (hcls : (clsIn K D).isSome = true) (ha : findIn K (.ref D) "__class__" = some (some (.builtin "object.__class__"))) (hn : specialIn K (.builtin "object.__class__") "__get__" = some (some (.builtin "getset_descriptor.__get__")))
    (htk : takesIn K (.builtin "object.__class__") = some true) (hm : mroIn K D (.type "object") = some true) (hq : Q (.done (.ret (.ref D))) s) :
    wpAny (model prog w) A (Builtin.«object.__getattribute__» ⟨[.ref x, .str "__class__" tk], []⟩) Q E s := by
  have seen := looks_find (M := model prog w) X I (xc_find hcls ha hn htk)
  have kind := I.type (M := model prog w)
  cases s
  refine wpAny_bind (wpAny_pure (wpAny_bind (wpAny_pure (wpAny_bind (kind.at (wpAny_bind (seen.at ?_)))))))
  show wpAny _ _ (holding _ (call (.builtin "getset_descriptor.__get__") [.builtin "object.__class__", .ref x, .ref D]) >>= _) _ _ _
  exact wpAny_bind (wpAny_holding (wpAny_call (class_get (ox := ox) (od := none) X I hm (wpAny_pure hq))))
theorem xc_class {Q : Option Value → Shared → Prop} (X : K.In s.heap) (I : InstAt s.heap x ox D none) (hga : findIn K (.ref D) "__getattribute__" = some (some (.builtin "BaseException.__getattribute__"))) (hk : findIn K (.ref D) "__getattr__" = some none)
    (hcls : (clsIn K D).isSome = true) (ha : findIn K (.ref D) "__class__" = some (some (.builtin "object.__class__"))) (hn : specialIn K (.builtin "object.__class__") "__get__" = some (some (.builtin "getset_descriptor.__get__")))
    (htk : takesIn K (.builtin "object.__class__") = some true) (hm : mroIn K D (.type "object") = some true) (hb : mroIn K D (.type "BaseException") = some true) (h : Q (some (.ref D)) { s with toks := s.toks + 1 }) :
    wpAny (model prog w) A (getAttr? (.ref x) "__class__") Q E s := by
  have kind := I.type (M := model prog w)
  have reads := looks_findIn (M := model prog w) X hga
  have noHook := looks_findIn (M := model prog w) X hk
  have other : (Value.builtin gaId == .builtin "object.__getattribute__") = false := by decide +kernel
  obtain ⟨hh, g, d, t, os⟩ := s
  unfold getAttr?
  apply wpAny_bind
  apply wpAny_mkText
  unfold getAttrBy?
  apply wpAny_bind
  refine wpAny_attempt (wpAny_holding ?_)
  refine wpAny_bind (kind.at (wpAny_bind (reads.at ?_)))
  show wpAny _ _ (if (onTheHeap (Value.ref D) && Value.builtin gaId == .builtin "object.__getattribute__") = true then _ else _) _ _ _
  rw [other, Bool.and_false, if_neg Bool.false_ne_true]
  unfold getAttrByItsOwn
  refine wpAny_bind ?_
  show wpAny _ _ (if onTheHeap (Value.ref D) = true then typeLookup (Value.ref D) "__getattr__" else pure none) _ _ _
  rw [if_pos (show onTheHeap (Value.ref D) = true from rfl)]
  refine noHook.at (wpAny_bind (wpAny_attempt (wpAny_holding ?_)))
  show wpAny _ _ (boundAndCalled _ _ _) _ _ _
  unfold boundAndCalled
  rw [PySem.F.attr_ValueError.ga.bind (.ref x)]
  refine wpAny_bind (wpAny_pure ?_)
  show wpAny _ _ (call (.builtin "BaseException.__getattribute__") [.ref x, .str "__class__" t]) _ _ _
  refine wpAny_call (codeAny_call_builtin PySem.F.attr_ValueError.ga.plain PySem.F.entry_bexc_ga ?_)
  refine xc_check (s := ⟨hh, g, d, t + 1, os⟩) X I hb ?_
  refine xc_entry (s := ⟨hh, g, d, t + 1, os⟩) X I hcls ha hn htk hm ?_
  exact handed_on rfl (wpAny_pure h)
/-- an exception of an own class, asked for its kind -/
structure ExcK (K : Frag) (D : Addr) : Prop where
  ga : findIn K (.ref D) "__getattribute__" = some (some (.builtin "BaseException.__getattribute__"))
  gx : findIn K (.ref D) "__getattr__" = some none
  cls : (clsIn K D).isSome = true
  ca : findIn K (.ref D) "__class__" = some (some (.builtin "object.__class__"))
  gs : specialIn K (.builtin "object.__class__") "__get__" = some (some (.builtin "getset_descriptor.__get__"))
  tk : takesIn K (.builtin "object.__class__") = some true
  mo : mroIn K D (.type "object") = some true
  mb : mroIn K D (.type "BaseException") = some true
/-- a class of the reading stands there as a class -/
theorem cls_there (z : (clsIn K D).isSome = true) : ∃ c d cd sl, K.lookup D = some ⟨c, d, .cls cd, sl⟩ := by
  rw [clsIn] at z
  split at z
  · next at0 => exact ⟨_, _, _, _, at0⟩
  · exact nomatch z
theorem kitx_exc (Z : ExcK K D) : KitX K (.ref x) (.ref D) (fun h => ∃ ox, InstAt h x ox D none) where
  ty := fun _ _ _ ⟨_, I⟩ => I.type
  it := fun _ _ X _ _ _ _ _ kp q => by
    obtain ⟨_, _, _, _, at0⟩ := cls_there Z.cls
    rw [isType, loadHead]
    exact wpAny_bind (wpAny_loadPart (kp _ _ (X _ _ at0)) (wpAny_pure q))
  ne := fun _ tp _ _ _ _ X held => by
    obtain ⟨_, _, _, _, at0⟩ := cls_there Z.cls
    cases same : (Value.ref D == Value.ref tp) with
    | false => rfl
    | true =>
      obtain rfl : D = tp := by simpa using same
      exact nomatch (X _ _ at0).symm.trans held
  ca := fun X ⟨_, I⟩ k => xc_class X I Z.ga Z.gx Z.cls Z.ca Z.gs Z.tk Z.mo Z.mb k
end
end PySem.W
namespace L2
open PySem PySem.Spec PyProof.Rows
/-- an exception object that a handler has taken -/
def excO (e C : Addr) : HO := .ext fun h => ∃ o, PySem.W.InstAt h e o C none
def clsV : V → Value
  | .ty n => .type n
  | .ref a => .ref a
  | _ => .none
section
variable {X : Cx} {K : PySem.W.Frag}
/-- isinstance(e, C): e a taken exception -/
theorem call_isX (hK : X.K = K := by rfl) : CallR X (.builtin "isinstance") (fun xs H Q => ∃ e C y b, xs = [.ref e, y] ∧ H e = some (excO e C) ∧ PySem.W.ExcK K C ∧ ((∃ n, y = .ty n) ∨ ∃ a, y = .ref a) ∧ PySem.W.kitOne K (.ref C) (clsV y) = some b ∧ Q (.bl b) H) := by
  subst hK
  intro pins s σ H xs us Q I r h
  obtain ⟨e, C, y, b, rfl, he, Z, hy, hk, q⟩ := h
  obtain ⟨u, w', rfl, rx, ry⟩ := vals2 r
  cases (show u = Value.ref e from rx)
  have hw : w' = clsV y := by
    rcases hy with ⟨n, rfl⟩ | ⟨a, rfl⟩
    · exact ry
    · exact ry
  subst hw
  obtain ⟨h1, _, _⟩ := I.hok e _ he
  exact PySem.W.kia_one (PySem.W.kitx_exc Z) I.kIn h1 hk (fun z => nomatch z) fun tk => ⟨.bl b, H, I.tok tk, rfl, q⟩
end
end L2

namespace L2
open PySem PySem.Spec PyProof.Rows
/-! ### try, with one handler by an own class -/
def PassesS (CX : CXT) (X : Cx) (Hx : St → Value → Hp → Prop) : Prop := ∀ (pins : List (Addr × Obj)) (σ : St) (H : Hp) (s : Shared) (e : Value) (s' : Shared), Inv X pins σ H s → CX X.stack H s (fun cls _ H' => Hx σ cls H') e s' → X.xe e s'
def tCallX (sp : Sp) (dvs : List V) (Hx : St → Value → Hp → Prop) (t : TA) : TE := fun σ H Q => t σ H fun vs H1 => sp (vs ++ dvs) H1 Q fun cls _ H' => Hx σ cls H'
section
variable {X : Cx} {CX : CXT} {k : Nat} {f : Addr} {fd : FuncData} {ps : List Str} {sp : Sp} {dvs : List V} {ds : List Value} {Hx : St → Value → Hp → Prop} {x : Str} {p pos : Pos} {e : Expr} {es : List Expr} {t : TA}
theorem pe_callX (F : FnOk X.prog X.w X.K X.mg X.base CX k f fd ps sp) (hr : Room k X.A) (hg : Gl X x) (hm : X.mg x = some (.ref f)) (hk : PySem.W.keepIn X.K (.ref f) = true) (hb : Binds X.K fd ps ds) (hd : Vals dvs ds) (hx : PassesS CX X Hx)
    (ha : PA X (e :: es) t) (hdb : (x == ("__debug__" : Str)) = false := by decide) (he : starEach (e :: es) X.env = (false, eval e X.env) :: starEach es X.env := by rfl) (hpl : (backTo pos (starEach es X.env)).any (·.1) = false := by rfl) :
    PE X (.Call (.Name x p) (e :: es) [] pos) (tCallX sp dvs Hx t) := by
  intro pins s σ H Q I h
  refine wpAny_Call_Name_kw (ld_glob I hg hm ?_ hdb)
  refine PySem.W.callWith_K (h₀ := X.base) I.ok.mod.kin hk (thn (ha pos pins s σ H _ I h) fun us s1 ⟨vs, H1, I1, r, q⟩ => ⟨I1.kIn, ?_⟩) he hpl
  have r2 : Vals (vs ++ dvs) (us ++ ds) := r.append hd
  have hl : (us ++ ds).length = ps.length := by rw [← r2.length]; exact F.len _ _ _ _ q
  refine wpAny_call (codeAny_mono (F.run X.A X.stack s1 H1 ⟨us, []⟩ (us ++ ds) (vs ++ dvs) Q _ hr I1.env0 (hb s1 us I1.kIn hl) r2 q) fun r s' hq => ?_)
  cases r with
  | error e => exact hx pins σ H1 s1 e s' I1 hq
  | ok fl =>
    cases fl with
    | ret u => exact I1.after hq
    | next => exact False.elim hq
    | brk => exact False.elim hq
    | cont => exact False.elim hq
end
/-- the context within a try's body; within a handler's suite -/
abbrev Cx.tried (X : Cx) (pn : List (Addr × Obj)) (E : Value → Shared → Prop) : Cx := { X with pn := pn, xe := E }
abbrev Cx.caught (X : Cx) (A' : Around) : Cx := { X with A := A', calm := false, xe := fun _ _ => False }
section
variable {X : Cx} {pins : List (Addr × Obj)} {σ : St} {H : Hp} {s : Shared} {E : Value → Shared → Prop} {A' : Around}
theorem Cx.Ok.tried {pn : List (Addr × Obj)} (o : X.Ok) : (X.tried pn E).Ok :=
  ⟨o.mod, o.kind, o.glob, o.blt, o.above, o.inj, o.has, o.cab, o.hd, o.frames, o.stk, o.exf, o.bs, o.bsz, o.noex, o.exfs, o.funs, o.frf⟩
theorem Cx.Ok.caught (o : X.Ok) (hf : A'.frames = some X.stack) : (X.caught A').Ok :=
  ⟨o.mod, o.kind, o.glob, o.blt, o.above, o.inj, o.has, o.cab, (fun z => nomatch z), hf, o.stk, o.exf, o.bs, o.bsz, o.noex, o.exfs, o.funs, o.frf⟩
theorem Inv.tried (I : Inv X pins σ H s) (E : Value → Shared → Prop) : Inv (X.tried (X.pn ++ pins) E) [] σ H s :=
  ⟨I.ok.tried, I.os, I.bare, I.base, I.loc, I.cell, I.free, I.freeC, fun p hp => I.pin p (by simpa using hp), I.hok, I.len⟩
theorem Inv.untried {pn pins' : List (Addr × Obj)} (o : X.Ok) (I : Inv (X.tried (X.pn ++ pins) E) pins' σ H s) : Inv X pins σ H s :=
  ⟨o, I.os, I.bare, I.base, I.loc, I.cell, I.free, I.freeC, fun p hp => I.pin p (List.mem_append_left _ hp), I.hok, I.len⟩
theorem Inv.caught (I : Inv X pins σ H s) (hf : A'.frames = some X.stack) : Inv (X.caught A') pins σ H s :=
  ⟨I.ok.caught hf, I.os, I.bare, I.base, I.loc, I.cell, I.free, I.freeC, I.pin, I.hok, I.len⟩
theorem Inv.uncaught (o : X.Ok) (I : Inv (X.caught A') pins σ H s) : Inv X pins σ H s :=
  ⟨o, I.os, I.bare, I.base, I.loc, I.cell, I.free, I.freeC, I.pin, I.hok, I.len⟩
/-- a new object is tracked from here on -/
theorem Inv.track {a : Addr} {o : HO} (I : Inv X pins σ H s) (hn : H a = none) (h0 : X.s₀.heap.get? a = none) (hL : a ≠ X.env.locals) (hc : ∀ x c, X.env.cells.lookup x = some c → c ≠ a) (hp : ∀ p ∈ X.pn ++ pins, p.1 ≠ a) (new : ObjOk X.prog X.w (upd H a o) s.heap a o) : Inv X pins σ (upd H a o) s := by
  have hne : ∀ b ob, X.s₀.heap.get? b = some ob → b ≠ a := fun b ob z w' => by rw [w', h0] at z; cases z
  refine ⟨I.ok, I.os, I.bare, ⟨I.base.keep, I.base.slot, fun b ob q n hx => ?_, I.base.there, fun b xs q => ?_, fun b ob xs q => ?_, fun b ps q => ?_⟩, I.loc, I.cell, ?_, fun x c z => ?_, fun p hpp => ?_, HOk.track I.hok hn new, I.len⟩
  · rw [upd_ne (hne b ob q)]; exact I.base.free b ob q n hx
  · have := I.base.tups b xs q
    rw [upd_ne (ne_of_none this hn)]; exact this
  · have := I.base.frzs b ob xs q
    rw [upd_ne (ne_of_none this hn)]; exact this
  · obtain ⟨m, e⟩ := I.base.tbls b ps q
    exact ⟨m, by rw [upd_ne (ne_of_none e hn)]; exact e⟩
  · rw [upd_ne (Ne.symm hL)]; exact I.free
  · rw [upd_ne (hc x c z)]; exact I.freeC x c z
  · obtain ⟨e, n, ne, nf, d⟩ := I.pin p hpp
    exact ⟨e, by rw [upd_ne (hp p hpp)]; exact n, ne, nf, d⟩
/-- a local name is gone -/
theorem Inv.unbound {i : Nat} {x : Str} {m : Str → Option Value} {u : Option Value} {h' : Heap} (I : Inv X pins σ H s) (hN : X.N.Nodup) (hi : X.N[i]? = some x) (hk : X.env.scope.names.lookup x = some .local) (hn : s.heap.Ns X.env.locals m) (hl : ∀ (i : Nat) (x : Str) (v : V), X.N[i]? = some x → σ[i]? = some (some v) → Vis X.env.scope x → ∃ u, RelV v u ∧ Look X.env s.heap m x u)
    (hn' : h'.Ns X.env.locals (fun y => if y = x then u else m y)) (hs : Heap.SameBut X.env.locals s.heap h') : Inv X pins (σ.set i none) H { s with heap := h' } := by
  have hiσ : i < σ.length := by rw [I.len]; exact (List.getElem?_eq_some_iff.mp hi).1
  have cne := I.cne
  obtain ⟨oL, _, _, hoL, _⟩ := id hn
  have tracked : HOk X.prog X.w H h' := fun b ob e => by
    refine (I.hok b ob e).stay (fun c w' hc q => (hs.2 c ?_).trans q) (fun _ q => q) fun _ _ q => q
    rintro rfl
    rcases hc with rfl | hc
    · rw [I.free] at e; cases e
    · rw [I.free] at hc; cases hc
  refine ⟨I.ok, I.os, I.bare, ⟨fun b o e n hb hx => ?_, fun b o e n hb hx => ?_, I.base.free, fun b o e hx => ?_, I.base.tups, I.base.frzs, I.base.tbls⟩, ⟨_, hn', fun j y v' e1 e2 e3 => ?_⟩, fun y c e => ?_, I.free, I.freeC, fun p hp => ?_, tracked, by simpa using I.len⟩
  · exact (hs.2 b (Nat.ne_of_lt (Nat.lt_of_lt_of_le (Heap.lt_size e) I.ok.above))).trans (I.base.keep b o e n hb hx)
  · obtain ⟨sl, e1⟩ := I.base.slot b o e n hb hx
    exact ⟨sl, (hs.2 b (Nat.ne_of_lt (Nat.lt_of_lt_of_le (Heap.lt_size e) I.ok.above))).trans e1⟩
  · obtain ⟨o', e1⟩ := I.base.there b o e hx
    exact ⟨o', (hs.2 b (Nat.ne_of_lt (Nat.lt_of_lt_of_le (Heap.lt_size e) I.ok.above))).trans e1⟩
  · by_cases hj : j = i
    · subst hj
      rw [List.getElem?_set_self hiσ] at e2
      cases e2
    · rw [List.getElem?_set_ne (Ne.symm hj)] at e2
      obtain ⟨u', r', q⟩ := hl j y v' e1 e2 e3
      refine ⟨u', r', ?_⟩
      rcases q with ⟨k, e⟩ | ⟨k, c, e, z⟩
      · refine .inl ⟨k, ?_⟩
        have : y ≠ x := fun e => hj (nodup_ix hN e1 (e ▸ hi))
        simp [this, e]
      · exact .inr ⟨k, c, e, z.sameBut hs (cne y c e)⟩
  · obtain ⟨w', z⟩ := I.cell y c e
    exact ⟨w', z.sameBut hs (cne y c e)⟩
  · obtain ⟨e, n, ne, nf, d⟩ := I.pin p hp
    exact ⟨(hs.2 p.1 ne).trans e, n, ne, nf, d⟩
end
/-- does the handler's class take it -/
theorem excMatches_K {K : PySem.W.Frag} {M : Model} {A : Around} {E : Value → Shared → Prop} {s : Shared} {e C D : Addr} {oe : Obj} {bm : List Value} {newId : String} {Q : Bool → Shared → Prop} (X : K.In s.heap) (he : s.heap.get? e = some oe) (hcls : oe.cls = .ref C)
    (hD : PySem.W.excIn K D bm newId = true) (hbase : bm.contains (.type "BaseException") = true) (hm : PySem.W.mroIn K C (.ref D) = some true) (hq : Q true s) : wpAny M A (excMatches (.ref e) (.ref D)) Q E s := by
  have L := PySem.W.looks_mroIn (M := M) X hm
  obtain ⟨tl, N', nm, q, bs, hdct, sn, sub, ab, col, dd, k0, k1, k2, k3, k5, mN, hCo, hN, hni, T⟩ := own_obj X hD
  obtain ⟨h, g, d, t, os⟩ := s
  have hcB : (Value.ref D :: tl).contains (.type "BaseException") = true := by rw [List.contains_cons, T.hasType hbase, Bool.or_true]
  have f := tc_notTuple
  unfold excMatches
  repeat (first | (with_reducible refine wpAny_loadPart_at he ?_; rw [hcls]) | with_reducible refine wpAny_loadPart_at hCo ?_ | (with_reducible refine wpAny_isSubtype_exc hCo ?_; rw [hcB]) | with_reducible refine L.at ?_ | wp_step)
  exact hq
/-- what a handler's suite is run for -/
def Hand (K : PySem.W.Frag) (i : Nat) (D0 : Addr) (ts : TS) (D : Ends) : St → Value → Hp → Prop := fun σ cls H => ∃ C, cls = .ref C ∧ PySem.W.mroIn K C (.ref D0) = some true ∧
  ∀ e, H e = none → ts { nx := fun σ' H' => D.nx (σ'.set i none) H', rt := fun _ _ => False } (σ.set i (some (.ref e))) (upd H e (excO e C))
def tTry (K : PySem.W.Frag) (i : Nat) (D0 : Addr) (tb : (St → Value → Hp → Prop) → TS) (ts : TS) : TS := fun D σ H => tb (Hand K i D0 ts D) D σ H
theorem ps_try {X : Cx} {K : PySem.W.Frag} {body suite : List Stmt} {b₀ : Stmt} {x n : Str} {i : Nat} {D0 : Addr} {bm : List Value} {newId : String} {np hpos pos : Pos} {tb : (St → Value → Hp → Prop) → TS} {ts : TS}
    (hst : X.stack = X.env :: X.outer) (hfL : X.env.frame = some X.env.locals) (hex : X.ex = [])
    (hb : ∀ (Hx : St → Value → Hp → Prop) (pn : List (Addr × Obj)) (xe : Value → Shared → Prop), PassesS (CX1 X.prog X.w) (X.tried pn xe) Hx → PSs (X.tried pn xe) body (tb Hx))
    (hg : Gl X x) (hm : X.mg x = some (.ref D0)) (hD : PySem.W.excIn X.K D0 bm newId = true) (hbase : bm.contains (.type "BaseException") = true)
    (hN : X.N.Nodup) (hi : X.N[i]? = some n) (hloc : X.env.scope.names.lookup n = some .local)
    (hs : ∀ v : Option Value, PSs (X.caught (X.A.mark v)) (b₀ :: suite) ts) (hK : X.K = K := by rfl) (hdb : (x == ("__debug__" : Str)) = false := by decide) :
    PS X (.Try body [.ExceptHandler (some (.Name x np)) (some n) (b₀ :: suite) hpos] [] [] pos) (tTry K i D0 tb ts) := by
  subst hK
  intro pins s σ H D I h
  refine wpAny_Try_except ?_
  have hp : PassesS (CX1 X.prog X.w) (X.tried (X.pn ++ pins) (fun e s₁ => wpAny (model X.prog X.w) X.A (noteFrame e X.env) (fun _ s₂ => wpAny (model X.prog X.w) X.A (setFlight e none) (fun _ s₃ => wpAny (model X.prog X.w) X.A (handleBy e X.env [.ExceptHandler (some (.Name x np)) (some n) (b₀ :: suite) hpos]) (SP X pins D) X.xe s₃) X.xe s₂) X.xe s₁))
      (Hand X.K i D0 ts D) := by
    rintro pins' σ' H1 s1 e s2 J ⟨ea, C, H', rfl, hos, hg', un, hok, fl, hE⟩
    obtain ⟨n1, n2, oe, vs, T, oT, tvs, a1, a2, a3, a4, a5, a6, a7, a8, a9, a10, a11⟩ := fl
    obtain ⟨C', hC', hmro, hand⟩ := hE
    cases hC'
    have J0 : Inv X pins σ' H1 s1 := J.untried (pn := X.pn) I.ok
    have J2 : Inv X pins σ' H' s2 := J0.call' (ch := []) hos un hok hg' (fun b z => absurd z (by simp))
    refine left_X (X := X) J0 hst hfL hos hg' un hok n1 n2 a1 a2 a3 a4 a5 (.inr ⟨T, oT, tvs, rfl, a6, a7, a8, a9, a10, a11⟩) fun s3 oe' oT' vs' ts' T' b1 b2 b3 b4 c1 c2 c3 c4 c5 c6 c7 c8 c9 c10 c11 c12 => ?_
    have J3 : Inv X pins σ' H' s3 := J0.call' (ch := []) b1 b3 b4 b2 (fun b z => absurd z (by simp))
    have hfm : (X.A.mark (some (.ref ea))).frames = some X.stack := J3.ok.frames
    have J3' := J3.caught hfm
    refine wpAny_handleBy_cons (codeAny_handlers_test ?_) (by intro q; cases q)
    refine ld_glob (X := X.caught (X.A.mark (some (.ref ea)))) J3' hg hm (excMatches_K J3.kIn c1 c2 hD hbase hmro ?_) hdb
    apply codeAny_handlers_suite_as
    unfold setFlight
    refine wpAny_bind (wpAny_field c1 c4 c5 ?_)
    rw [if_pos (show (Value.ref T' != Value.none) = true from by simp)]
    refine wpAny_setField c10 c11 (Array.getElem?_eq_some_iff.mp c12).1 ?_
    have ltT : ∀ {b : Addr} {o : Obj}, s2.heap.get? b = some o → b ≠ T' := fun {b o} z => Nat.ne_of_lt (Nat.lt_of_lt_of_le (Heap.lt_size z) c8)
    have other : ∀ b, b ≠ T' → (s3.heap.update T' (Obj.mapFields (·.setIfInBounds 3 ((none : Option Addr).elim Value.none fun f => rawInt f)))).get? b = s3.heap.get? b := fun b hb => Heap.get?_update_other _ _ (Ne.symm hb)
    have J4 : Inv X pins σ' H' { s3 with heap := s3.heap.update T' (Obj.mapFields (·.setIfInBounds 3 ((none : Option Addr).elim Value.none fun f => rawInt f))) } := by
      refine J3.turned (t' := s3.toks) (it := T') (fun b o hb z => (other b hb).trans z) c9 ?_ (.inr (Nat.le_trans J2.sz c8)) (fun y c hc => ?_) (fun p hpp => ?_)
      · exact (Nat.ne_of_lt (Nat.lt_of_lt_of_le J2.lt c8)).symm
      · obtain ⟨_, o, ho, _⟩ := J2.cell y c hc
        exact ltT ho
      · exact ltT (J2.pin p hpp).1
    have J4' := J4.caught hfm
    have ce : ∀ {b : Addr} {o : Obj}, s1.heap.get? b = some o → b ≠ ea := fun {b o} z w' => by rw [w', n1] at z; cases z
    have hLe : X.env.locals ≠ ea := by
      obtain ⟨m, ⟨o, _, _, ho, _⟩, _⟩ := J0.loc
      exact ce ho
    have hce : ∀ y c, X.env.cells.lookup y = some c → c ≠ ea := fun y c hc => by
      obtain ⟨_, o, ho, _⟩ := J0.cell y c hc
      exact ce ho
    refine store_ok2 (X := X.caught (X.A.mark (some (.ref ea)))) (v := .ref ea) (u := .ref ea) J4' hN hi (Or.inl hloc) rfl (fun s5 I5 ⟨a, sb, ha⟩ => ?_) (.inr hloc)
    have hae : ea ≠ a := by
      rcases ha with z | z
      · rw [z]; exact hLe.symm
      · exact (hce _ _ z).symm
    have ge : s5.heap.get? ea = some oe' := (sb.2 ea hae).trans ((other ea (Ne.symm c6)).trans c1)
    have It : PySem.W.InstAt s5.heap ea oe' C none := ⟨ge, c2, by unfold PySem.W.notCls; rw [c4], by rw [c3]; trivial⟩
    have h0 : X.s₀.heap.get? ea = none := by
      cases hq : X.s₀.heap.get? ea with
      | none => rfl
      | some o =>
        obtain ⟨o', ho'⟩ := J0.base.there ea o hq (by rw [hex]; simp)
        rw [n1] at ho'; cases ho'
    have I6 := I5.track (a := ea) (o := excO ea C) n2 h0 hLe.symm hce (fun p hpp => ce (J0.pin p hpp).1)
      ⟨⟨oe', It⟩, ⟨oe', ge⟩, fun h1 h2 ⟨o, z⟩ k => ⟨o, k _ z.at_, z.cls, z.no, by
        have zd := z.dict
        cases hod : o.dict with
        | none => trivial
        | some dx => rw [hod] at zd; exact zd.elim⟩⟩
    refine wpAny_mono (hs (some (.ref ea)) pins s5 _ _ _ I6 (hand ea n2)) (fun fl s6 hfl => ?_) fun _ _ z => z.elim
    cases fl with
    | ret u => obtain ⟨_, _, _, _, _, z⟩ := hfl; exact z.elim
    | brk => obtain ⟨_, _, _, z⟩ := hfl; exact z.elim
    | cont => obtain ⟨_, _, _, z⟩ := hfl; exact z.elim
    | next =>
      obtain ⟨σ6, H6, I6, q6⟩ := hfl
      refine wpAny_bind (wpAny_bindName (store_ok (X := X) (v := .non) (u := .none) (I6.uncaught J3.ok) hN hi (Or.inl hloc) rfl (fun s7 I7 => ?_) (.inr hloc)))
      obtain ⟨m, hn, hl⟩ := id I7.loc
      have hi6 : i < σ6.length := by rw [I6.len]; exact (List.getElem?_eq_some_iff.mp hi).1
      obtain ⟨u, r, l⟩ := hl i n .non hi (by rw [List.getElem?_set_self hi6]) (.inl hloc)
      have hv : m n = some u := by
        rcases l with ⟨_, z⟩ | ⟨z, _⟩
        · exact z
        · have hk' : X.env.kindOf n = some .local := hloc
          rw [hk'] at z
          rcases z with z | z <;> cases z
      unfold unbindBehindTheSuite
      refine wpAny_onRaise (wpAny_unbindName_local hloc hn hv (by rw [I7.ok.kind]; rfl) fun h' u' hn' hs' => ?_)
      refine ⟨σ6.set i none, H6, ?_, q6⟩
      have := I7.unbound hN hi hloc hn hl hn' hs'
      rw [List.set_set] at this
      exact this
  refine wpAny_mono (hb _ _ _ hp [] s σ H D (I.tried _) h) (fun fl s₁ hf => ?_) fun _ _ z => z
  cases fl with
  | next =>
    obtain ⟨σ', H', J, q⟩ := hf
    exact wpAny_execs_nil ⟨σ', H', J.untried (pn := X.pn) I.ok, q⟩
  | brk =>
    obtain ⟨σ', H', J, q⟩ := hf
    exact ⟨σ', H', J.untried (pn := X.pn) I.ok, q⟩
  | cont =>
    obtain ⟨σ', H', J, q⟩ := hf
    exact ⟨σ', H', J.untried (pn := X.pn) I.ok, q⟩
  | ret u =>
    obtain ⟨v, σ', H', J, r, q⟩ := hf
    exact ⟨v, σ', H', J.untried (pn := X.pn) I.ok, r, q⟩
end L2

namespace L2
open PySem PySem.Spec PyProof.Rows PyProof PySem.F
section
variable {X : Cx} {K : PySem.W.Frag}
/-- a call that does not raise, of a def that may raise -/
theorem pass10 {P : Program} {w : World} : Passes (CX1 P w) X E0 := fun _ _ _ _ _ _ _ h => by
  obtain ⟨_, _, _, _, _, _, _, _, _, h⟩ := h
  exact h.elim
end
end L2

namespace L2
open PySem PySem.Spec PyProof.Rows
/-! written lists of ints, and menus of them -/
def IntE (te : TE) (σ : St) (i : Int) : Prop := ∀ (H : Hp) (Q : VK), Q (.int i) H → te σ H Q
def MkI (t : TA) (σ : St) (xs : List Int) : Prop := ∀ (H : Hp) (Q : List V → Hp → Prop), Q (xs.map V.int) H → t σ H Q
def MadeL (te : TE) (σ : St) (xs : List Int) : Prop := ∀ (H : Hp) (Q : VK), (∀ (r : Addr) (H' : Hp), Same H H' → H' r = some (.lst (xs.map V.int)) → Q (.ref r) H') → te σ H Q
def MkA (t : TA) (σ : St) (xss : List (List Int)) : Prop := ∀ (H : Hp) (Q : List V → Hp → Prop), (∀ (rs : List Addr) (H' : Hp), Same H H' → Paired (fun r xs => H' r = some (.lst (xs.map V.int))) rs xss → Q (rs.map V.ref) H') → t σ H Q
section
variable {σ : St} {te ta tb ti : TE} {t : TA} {i j k : Int} {xs : List Int} {xss : List (List Int)} {K : PySem.W.Frag}
theorem IntE.c : IntE (tC (.int i)) σ i := fun _ _ h => h
theorem IntE.v {n : Nat} (h : σ[n]? = some (some (.int i))) : IntE (tVar n) σ i := fun _ _ q => ⟨_, h, q⟩
theorem IntE.add (ha : IntE ta σ i) (hb : IntE tb σ j) : IntE (tOp (rI0 fun i j => .int (i + j)) ta tb) σ (i + j) := fun _ _ q => ha _ _ (hb _ _ ⟨i, j, rfl, rfl, q⟩)
theorem IntE.sub (ha : IntE ta σ i) (hb : IntE tb σ j) : IntE (tOp (rI0 fun i j => .int (i - j)) ta tb) σ (i - j) := fun _ _ q => ha _ _ (hb _ _ ⟨i, j, rfl, rfl, q⟩)
theorem IntE.mod (ha : IntE ta σ i) (hb : IntE tb σ j) (h : 0 < j) : IntE (tOp (rI (fun _ j => 0 < j) fun i j => .int (i % j)) ta tb) σ (i % j) := fun _ _ q => ha _ _ (hb _ _ ⟨i, j, rfl, rfl, h, q⟩)
theorem IntE.div (ha : IntE ta σ i) (hb : IntE tb σ j) (h : CDiv i j) : IntE (tOp (rI CDiv fun i j => .int (i / j)) ta tb) σ (i / j) := fun _ _ q => ha _ _ (hb _ _ ⟨i, j, rfl, rfl, h, q⟩)
theorem IntE.neg (ha : IntE ta σ i) : IntE (tUn (rU fun i => .int (-i)) ta) σ (-i) := fun _ _ q => ha _ _ ⟨i, rfl, q⟩
theorem MkI.nil : MkI tNil σ [] := fun _ _ q => q
theorem MkI.cons (h : IntE te σ i) (r : MkI t σ xs) : MkI (tCons te t) σ (i :: xs) := fun _ _ q => h _ _ (r _ _ q)
theorem MadeL.lst (h : MkI t σ xs) (hz : xs.length ≤ 1000) : MadeL (tLst t) σ xs := fun H Q q => h _ _ ⟨by rw [List.length_map]; exact Nat.le_of_lt (small1000 hz), fun r hr => q r _ (same_new hr _) upd_same⟩
theorem MkA.nil : MkA tNil σ [] := fun H _ q => q [] H (Same.refl H) .nil
theorem MkA.cons (h : MadeL te σ xs) (r : MkA t σ xss) : MkA (tCons te t) σ (xs :: xss) := fun _ _ q => h _ _ fun a H1 g1 e1 => r _ _ fun rs H2 g2 hp => q (a :: rs) H2 (g1.trans g2) (.cons (g2 _ _ e1) hp)
theorem pair_at {F : Addr → List Int → Prop} : ∀ {as : List Addr} {ys : List (List Int)}, Paired F as ys → ∀ {n : Nat}, n < ys.length → ∃ a, as[n]? = some a ∧ F a (ys.getD n [])
  | _, _, .nil, _, h => (Nat.not_lt_zero _ h).elim
  | _, _, .cons (a := a) hb r, 0, _ => ⟨a, rfl, hb⟩
  | _, _, .cons hb r, n + 1, h => pair_at r (n := n) (Nat.lt_of_succ_lt_succ h)
/-- [xs, ys, ..][i] -/
theorem menu (h : MkA t σ xss) (hz : xss.length ≤ 1000) (hi : IntE ti σ k) (h0 : 0 ≤ k) (hk : k < xss.length) : MadeL (tOp (rIxL K) (tLst t) ti) σ (xss.getD k.toNat []) := fun H Q q => by
  refine h _ _ fun rs H1 g1 hp => ⟨?_, fun r hr => hi _ _ ?_⟩
  · rw [List.length_map, Paired.length hp]; exact Nat.le_of_lt (small1000 hz)
  · have g2 := same_new hr (.lst (rs.map V.ref))
    obtain ⟨a, ha, e⟩ := pair_at hp (n := k.toNat) (by omega)
    refine ⟨r, rs.map V.ref, k, .ref a, rfl, rfl, SqL.of upd_same, atI_nat' (j := k.toNat) (by omega) (by rw [List.getElem?_map, ha]; rfl), ?_⟩
    exact q a _ (g1.trans g2) (g2 _ _ e)
/-- [i, j, ..][k] -/
theorem menuI (h : MkI t σ xs) (hz : xs.length ≤ 1000) (hi : IntE ti σ k) (h0 : 0 ≤ k) (hk : k < xs.length) {H : Hp} {Q : VK} (q : ∀ H', Same H H' → Q (.int (xs.getD k.toNat 0)) H') : tOp (rIxL K) (tLst t) ti σ H Q := by
  refine h _ _ ⟨?_, fun r hr => hi _ _ ?_⟩
  · rw [List.length_map]; exact Nat.le_of_lt (small1000 hz)
  · exact ⟨r, _, k, _, rfl, rfl, SqL.of upd_same, atI_ints h0 hk, q _ (same_new hr _)⟩
/-- a list that is made here -/
def tLit (xs : List Int) : TE := fun _ H Q => ∀ (r : Addr) (H' : Hp), Same H H' → H' r = some (.lst (xs.map V.int)) → Q (.ref r) H'
end
section
variable {X : Cx} {K : PySem.W.Frag}
theorem pe_lit {es : List Expr} {t : TA} {xs : List Int} {p : Pos} (h : PA X es t) (hm : ∀ σ, MkI t σ xs) (hz : xs.length ≤ 1000) : PE X (.List es p) (tLit xs) := PE.imp (pe_lst h) fun σ H Q q => MadeL.lst (hm σ) hz H Q q
theorem mk_rng {te : TE} {σ : St} {n : Nat} (h : IntE te σ (n : Int)) (hn : n ≤ 1000) : MadeL (tCB (fun xs H Q => ∃ (p : Addr) (j : Int), xs = [.ref p] ∧ H p = some (.rng 0 j) ∧ 0 ≤ j ∧ j ≤ 1000 ∧ ∀ l, H l = none → Q (.ref l) (upd H l (.lst ((SO.upto j.toNat).map V.int))))
    (tCons (tCB (fun xs H Q => ∃ j : Int, xs = [.int j] ∧ ∀ l, H l = none → Q (.ref l) (upd H l (.rng 0 j))) (tCons te tNil)) tNil)) σ (SO.upto n) := fun H Q q => by
  refine h _ _ ⟨(n : Int), rfl, fun l hl => ?_⟩
  have g1 := same_new hl (.rng 0 (n : Int))
  refine ⟨l, (n : Int), rfl, upd_same, by omega, by omega, fun r hr => ?_⟩
  rw [Int.toNat_natCast]
  exact q r _ (g1.trans (same_new hr _)) upd_same
end
end L2
namespace L2
theorem rep_flat : ∀ (n : Nat) (i : Int), (List.replicate n ([i].map V.int)).flatten = (List.replicate n i).map V.int
  | 0, _ => rfl
  | n + 1, i => by rw [List.replicate_succ, List.flatten_cons, rep_flat n i]; rfl
theorem mk_rep {ti : TE} {σ : St} {i : Int} {n : Nat} {t : TA} (h : MkI t σ [i]) (hi : IntE ti σ (n : Int)) (hn : n ≤ 1000) : MadeL (tOp rRep (tLst t) ti) σ (List.replicate n i) := fun H Q q => by
  refine h _ _ ⟨by show 1 ≤ PySem.sizeLine; decide, fun r hr => hi _ _ ?_⟩
  have g1 := same_new hr (.lst ([i].map V.int))
  refine ⟨r, (n : Int), _, rfl, rfl, upd_same, by omega, by omega, ?_, fun p hp => ?_⟩
  · rw [Int.toNat_natCast]
    show 1 * n ≤ PySem.sizeLine
    rw [Nat.one_mul]; exact Nat.le_of_lt (small1000 hn)
  · rw [Int.toNat_natCast]
    have e : (List.replicate n ([i].map V.int)).flatten = (List.replicate n i).map V.int := rep_flat n i
    rw [e]
    exact q p _ (g1.trans (same_new hp _)) upd_same
theorem getD_pick {xss : List (List Int)} {P : List Int → Prop} (h : ∀ xs ∈ xss, P xs) {k : Nat} (hk : k < xss.length) : P (xss.getD k []) := by
  rw [List.getD_eq_getElem?_getD, List.getElem?_eq_getElem hk]
  exact h _ (List.getElem_mem hk)
end L2
namespace L2
open PySem PySem.Spec PyProof.Rows
/-! menus whose scope is a letter -/
section
variable {X : Cx} {es l as : List Expr} {te : TE} {t : TA} {p : Pos} {a b f : Expr} {x : Str}
theorem pa_consN (ha : PE X (.Name x p) te) (hr : PA X es t) : PA X (.Name x p :: es) (tCons te t) := pa_cons ha hr rfl
theorem pa_consB {op : Operator} (ha : PE X (.BinOp a op b p) te) (hr : PA X es t) : PA X (.BinOp a op b p :: es) (tCons te t) := pa_cons ha hr rfl
theorem pa_consU {op : UnaryOp} (ha : PE X (.UnaryOp op a p) te) (hr : PA X es t) : PA X (.UnaryOp op a p :: es) (tCons te t) := pa_cons ha hr rfl
theorem pa_consC (ha : PE X (.Call f as [] p) te) (hr : PA X es t) : PA X (.Call f as [] p :: es) (tCons te t) := pa_cons ha hr rfl
def LR (X : Cx) : Prop := ∀ (i : Int) (k : Nat) (p1 p2 p3 p4 p5 : Pos), 0 ≤ i → i ≤ 1000 → PE X (.Call (.Name "list" p1) [.Call (.Name "range" p2) [.Constant (.int i) k p3] [] p4] [] p5) (tLit (SO.upto i.toNat))
theorem LR.of (hc : X.calm = true) (hg : Gl X "list") (hm : X.mg "list" = none) (hg2 : Gl X "range") (hm2 : X.mg "range" = none) : LR X := fun i k p1 p2 p3 p4 p5 h0 h1 =>
  PE.imp (pe_callTy (call_listRng hc) hg hm PyProof.Rows.boot_list (pa_consC (pe_callTy call_rangeV hg2 hm2 PyProof.Rows.boot_range (pa_consI pa_nil) (he := rfl) (hpl := rfl)) pa_nil) (he := rfl) (hpl := rfl)) fun σ H Q h => by
    refine mk_rng (n := i.toNat) ?_ (by omega) H Q h
    rw [Int.toNat_of_nonneg h0]; exact .c
def tPick (ic jf : Nat) (P : List Int → Prop) : TE := fun σ H Q => (∃ cell far : Int, σ[ic]? = some (some (.int cell)) ∧ σ[jf]? = some (some (.int far)) ∧ 2 ≤ far) ∧ ∀ (xs : List Int) (r : Addr) (H' : Hp), P xs → Same H H' → H' r = some (.lst (xs.map V.int)) → Q (.ref r) H'
def tPickI (ic jf : Nat) (P : Int → Prop) : TE := fun σ H Q => (∃ cell far : Int, σ[ic]? = some (some (.int cell)) ∧ σ[jf]? = some (some (.int far)) ∧ 2 ≤ far) ∧ ∀ (i : Int) (H' : Hp), P i → Same H H' → Q (.int i) H'
theorem getI_pick {xs : List Int} {P : Int → Prop} (h : ∀ i ∈ xs, P i) {k : Nat} (hk : k < xs.length) : P (xs.getD k 0) := by
  rw [List.getD_eq_getElem?_getD, List.getElem?_eq_getElem hk]
  exact h _ (List.getElem_mem hk)
end
end L2

namespace L2
open PySem PySem.Spec PyProof.Rows
/-! the rules in a cover of their own: Lean doesn't look through it, so a long body costs no more than its length -/
structure LE (X : Cx) (e : Expr) (t : TE) : Prop where
  out : PE X e t
structure LA (X : Cx) (es : List Expr) (t : TA) : Prop where
  out : PA X es t
structure LT (X : Cx) (e : Expr) (t : TT) : Prop where
  out : PT X e t
structure LS (X : Cx) (st : Stmt) (t : TS) : Prop where
  out : PS X st t
structure LB (X : Cx) (b : List Stmt) (t : TS) : Prop where
  out : PSs X b t
section
variable {X : Cx} {es l as : List Expr} {te ta tb : TE} {t : TA} {tc : TT} {ts tu : TS} {p pos p' : Pos} {a b c e f : Expr} {x : Str} {i : Int} {k : Nat} {st : Stmt} {u1 u2 sts : List Stmt} {r : R2}
theorem LE.int : LE X (.Constant (.int i) k p) (tC (.int i)) := ⟨pe_int⟩
theorem LE.v (n : Nat) (hN : X.N[n]? = some x := by rfl) (hv : Vis X.env.scope x := by first | exact Or.inl rfl | exact Or.inr (Or.inl rfl) | exact Or.inr (Or.inr rfl)) (hd : (x == ("__debug__" : Str)) = false := by decide) (hcd : (x == ("__classdict__" : Str)) = false := by decide) : LE X (.Name x p) (tVar n) := ⟨pe_var hN hv hd hcd⟩
theorem LE.neg (ha : LE X a ta) : LE X (.UnaryOp .USub a p) (tUn (rU fun i => .int (-i)) ta) := ⟨pe_un un_neg ha.out⟩
theorem LE.op {op : Operator} (ho : OpR X (binaryOp op) r) (ha : LE X a ta) (hb : LE X b tb) : LE X (.BinOp a op b p) (tOp r ta tb) := ⟨pe_op ho ha.out hb.out⟩
theorem LE.ix (ho : IxR X r) (ha : LE X a ta) (hb : LE X b tb) (hs : PlainIx b) : LE X (.Subscript a b p) (tOp r ta tb) := ⟨pe_ix ho ha.out hb.out hs⟩
theorem LE.imp {t t' : TE} (h : LE X e t) (i : ∀ σ H Q, t' σ H Q → t σ H Q) : LE X e t' := ⟨PE.imp h.out i⟩
theorem LE.lst (h : LA X es t) : LE X (.List es p) (tLst t) := ⟨pe_lst h.out⟩
theorem LE.lr (h : LR X) {p1 p2 p3 p4 p5 : Pos} (h0 : 0 ≤ i) (h1 : i ≤ 1000) : LE X (.Call (.Name "list" p1) [.Call (.Name "range" p2) [.Constant (.int i) k p3] [] p4] [] p5) (tLit (SO.upto i.toNat)) := ⟨h i k p1 p2 p3 p4 p5 h0 h1⟩
theorem LE.lrB (hc : X.calm = true) (hg : Gl X "list") (hm : X.mg "list" = none) (hg2 : Gl X "range") (hm2 : X.mg "range" = none) {op : Operator} {p1 p2 p3 p4 p5 : Pos} (hn : LE X (.BinOp a op b p3) te) :
    LE X (.Call (.Name "list" p1) [.Call (.Name "range" p2) [.BinOp a op b p3] [] p4] [] p5) (fun σ H Q => ∃ n : Nat, IntE te σ (n : Int) ∧ n ≤ 1000 ∧ tLit (SO.upto n) σ H Q) :=
  ⟨PE.imp (pe_callTy (call_listRng hc) hg hm PyProof.Rows.boot_list (pa_consC (pe_callTy call_rangeV hg2 hm2 PyProof.Rows.boot_range (pa_consB hn.out pa_nil) (he := rfl) (hpl := rfl)) pa_nil) (he := rfl) (hpl := rfl)) fun σ H Q h => by
    obtain ⟨n, hi, h1, q⟩ := h
    exact mk_rng (n := n) hi h1 H Q q⟩
theorem LE.call {CX : CXT} {n : Nat} {g : Addr} {fd : FuncData} {ps : List Str} {sp : Sp} {ds : List Value} {dvs : List V} {E : XK} (F : FnOk X.prog X.w X.K X.mg X.base CX n g fd ps sp) (hr : Room n X.A) (hg : Gl X x) (hm : X.mg x = some (.ref g)) (hk : PySem.W.keepIn X.K (.ref g) = true) (hb : Binds X.K fd ps ds) (hd : Vals dvs ds) (hx : Passes CX X E)
    (ha : LA X (e :: es) t) (hdb : (x == ("__debug__" : Str)) = false := by decide) (he : starEach (e :: es) X.env = (false, eval e X.env) :: starEach es X.env := by rfl) (hpl : (backTo pos (starEach es X.env)).any (·.1) = false := by rfl) : LE X (.Call (.Name x p) (e :: es) [] pos) (tCall sp dvs E t) := ⟨pe_call F hr hg hm hk hb hd hx ha.out hdb he hpl⟩
theorem IntE.mul {σ : St} {j : Int} (ha : IntE ta σ i) (hb : IntE tb σ j) (h : CMul i j) : IntE (tOp (rI CMul fun i j => .int (i * j)) ta tb) σ (i * j) := fun _ _ q => ha _ _ (hb _ _ ⟨i, j, rfl, rfl, h, q⟩)
theorem MadeL.lit {σ : St} {xs : List Int} : MadeL (tLit xs) σ xs := fun _ _ q => q
theorem LA.nil : LA X [] tNil := ⟨pa_nil⟩
theorem LA.L (ha : LE X (.List l p) te) (hr : LA X es t) : LA X (.List l p :: es) (tCons te t) := ⟨pa_consL ha.out hr.out⟩
theorem LA.I (hr : LA X es t) : LA X (.Constant (.int i) k p :: es) (tCons (tC (.int i)) t) := ⟨pa_consI hr.out⟩
theorem LA.N (ha : LE X (.Name x p) te) (hr : LA X es t) : LA X (.Name x p :: es) (tCons te t) := ⟨pa_consN ha.out hr.out⟩
theorem LA.B {op : Operator} (ha : LE X (.BinOp a op b p) te) (hr : LA X es t) : LA X (.BinOp a op b p :: es) (tCons te t) := ⟨pa_consB ha.out hr.out⟩
theorem LA.U {op : UnaryOp} (ha : LE X (.UnaryOp op a p) te) (hr : LA X es t) : LA X (.UnaryOp op a p :: es) (tCons te t) := ⟨pa_consU ha.out hr.out⟩
theorem LA.C (ha : LE X (.Call f as [] p) te) (hr : LA X es t) : LA X (.Call f as [] p :: es) (tCons te t) := ⟨pa_consC ha.out hr.out⟩
theorem LA.S (ha : LE X (.Subscript a b p) te) (hr : LA X es t) : LA X (.Subscript a b p :: es) (tCons te t) := ⟨pa_consS ha.out hr.out⟩
theorem LE.lit {xs : List Int} (h : LA X es t) (hm : ∀ σ, MkI t σ xs) (hz : xs.length ≤ 1000) : LE X (.List es p) (tLit xs) := ⟨pe_lit h.out hm hz⟩
theorem LT.cmp {op : CmpOp} (ho : OpR X (compareOp op) r) (ha : LE X a ta) (hb : LE X b tb) (hm : behindInMarks op b = false) : LT X (.Compare a [op] [b] pos) (tTest (tOp r ta tb)) := ⟨pt_cmpR ho ha.out hb.out hm⟩
theorem LT.and {tA tB' : TT} (ha : LT X a tA) (hb : LT X b tB') : LT X (.BoolOp .And [a, b] pos) (tAnd tA tB') := ⟨PW.pt (pw_and ha.out (pw_and1 hb.out))⟩
theorem LS.set {n : Nat} (hN : X.N.Nodup) (hi : X.N[n]? = some x) (hx : Loc X.env.scope x) (he : LE X e te) (hs : swapsWith e (some (.Name x p')) pos.line X.env = pure false := by rfl) (hf : X.fn x = true ∨ X.env.scope.names.lookup x = some .local := by first | exact .inl rfl | exact .inr rfl | assumption) :
    LS X (.Assign [.Name x p'] e pos) (tAsg te (gName n)) := ⟨ps_set hN hi hx he.out hs hf⟩
theorem LS.expr (he : LE X e te) (hs : swapsWith e none pos.line X.env = pure false := by rfl) : LS X (.Expr e pos) (tDrop te) := ⟨ps_expr he.out hs⟩
theorem LS.iff (hc : LT X c tc) (ha : LB X u1 ts) (hb : LB X u2 tu) : LS X (.If c u1 u2 pos) (tIfS tc ts tu) := ⟨ps_if hc.out ha.out hb.out⟩
theorem LS.ret (he : LE X e te) : LS X (.Return (some e) pos) (tRet te) := ⟨ps_ret he.out⟩
theorem LB.cons (h1 : LS X st ts) (h2 : LB X sts tu) : LB X (st :: sts) (tSeq ts tu) := ⟨pss_cons h1.out h2.out⟩
theorem LB.one (h1 : LS X st ts) : LB X [st] ts := ⟨pss_one h1.out⟩
end
end L2

namespace L2
open PySem PySem.Spec PyProof.Rows
/-! ### a def that is called while an exception is handled; it raises nothing -/
structure RoomH (k : Nat) (A : Around) : Prop where
  dp : A.depth + 3 * k + 5 < recursionLimit
  un : A.units + 16 * k + 200 < cLine
theorem RoomH.mono {j k : Nat} {A : Around} (r : RoomH k A) (h : j ≤ k) : RoomH j A := ⟨by have := r.dp; omega, by have := r.un; omega⟩
theorem Room.marked {k : Nat} {A : Around} (r : Room k A) (v : Option Value) : RoomH k (A.mark v) := ⟨r.dp, r.un⟩
structure FnH (P : Program) (w : World) (K : PySem.W.Frag) (mg : Str → Option Value) (base : Heap) (k : Nat) (f : Addr) (fd : FuncData) (ps : List Str) (sp : Sp) : Prop where
  len : ∀ vs H Q E, sp vs H Q E → vs.length = ps.length
  run : ∀ (A : Around) (outer : List Env) (s : Shared) (H : Hp) (args : Args) (us : List Value) (vs : List V) (Q : VK), RoomH k A → Env0 P w K mg base A outer s H → BindsTo s fd args (ps.zip us) → Vals vs us → sp vs H Q E0 →
    codeAny (model P w) A (.call (.ref f) args) (CR CX0 outer P w H s Q E0) s
/-- the body's context -/
abbrev cxH (P : Program) (w : World) (K : PySem.W.Frag) (mg : Str → Option Value) (base : Heap) (N : List Str) (qual : Str) (scope : Scope) (f : Addr) (cd : Value) (A : Around) (outer : List Env) (s : Shared) (H : Hp) : Cx :=
  (cxOf CX0 P w K mg base N qual scope f cd { A with handled := none } outer s H E0).caught (A.deeper (envOfC qual scope s.heap.objs.size f cd))
section
variable {P : Program} {w : World} {K : PySem.W.Frag} {mg : Str → Option Value} {base : Heap}
theorem Fun.okH {x qual : Str} {st : Stmt} {f : Addr} {fd : FuncData} {N ps : List Str} {k : Nat} {sp : Sp} (F : Fun K x qual st f fd) (S : FnScope N ps (defScope st)) (len : ∀ vs H Q E, sp vs H Q E → vs.length = ps.length)
    (hbody : ∀ (cdv : Value) (A : Around) (outer : List Env) (s : Shared) (H : Hp) (vs : List V) (Q : VK), RoomH (k + 1) A → sp vs H Q E0 →
      ∃ t, PSs (cxH P w K mg base N qual (defScope st) f cdv A outer s H) (defBody st) t ∧ t { nx := fun _ H' => Q .non H', rt := Q } (start N vs) H) : FnH P w K mg base (k + 1) f fd ps sp := by
  obtain ⟨oc, od, kV, doc, pm, an, cdv, ct, osl, rfl, lk, hcd⟩ := F.ex
  refine ⟨len, fun A outer s H args us vs Q hr e0 hb r hsp => ?_⟩
  have hl := len _ _ _ _ hsp
  have KX : K.In s.heap := e0.mod.kin.keeps fun b o e => (e0.bs b o e).1
  have lim : s.heap.NoLimit := e0.mod.nolimit.keeps fun b o e => (e0.bs b o e).1
  have hkind : ∀ y ∈ ps.zip us, (defScope st).names.lookup y.1 = some .local ∨ ((defScope st).names.lookup y.1 = some .cell ∧ ((cellsFrom (s.heap.objs.size + 1) (defScope st).names []).lookup y.1).isSome = true) := fun ⟨n, v⟩ hy => by
    rcases S.par n (List.of_mem_zip hy).1 with q | q
    · exact .inl q
    · exact .inr ⟨q, PySem.W.cellsFrom_some _ _ _ (.inl q)⟩
  have hdep : A.depth < recursionLimit := by have := hr.dp; omega
  refine codeAny_call_function hdep (KX _ _ lk) rfl S.co S.gen rfl (PySem.W.codeRec_of KX hcd) (hb _ _ _ _ ?_)
  refine wpAny_newFunctionEnv_cells S.kind hkind fun env he s1 x => ?_
  subst he
  refine ⟨lim.keeps x.toInCall.keep, codeAny_func ?_⟩
  obtain ⟨t, ht, hq⟩ := hbody cdv A outer s H vs Q hr hsp
  have e1 : Env0 P w K mg base { A with handled := none } outer s H := ⟨e0.frames, e0.mod, e0.bs, e0.bsz, e0.funs, e0.frf, e0.hok, e0.bare⟩
  have I0 : Inv (cxOf CX0 P w K mg base N qual (defScope st) f cdv { A with handled := none } outer s H E0) [] (start N vs) H s1 := inv_start S (A := { A with handled := none }) rfl e1 hl r x
  have I : Inv (cxH P w K mg base N qual (defScope st) f cdv A outer s H) [] (start N vs) H s1 := I0.caught (Around.frames_deeper e0.frames)
  refine wpAny_mono (ht [] s1 (start N vs) H _ I hq) (fun fl s' hs => ?_) fun e s' hs => hs.elim
  have fin : ∀ {σ' : St} {H' : Hp} {v : V} {u : Value}, Inv (cxH P w K mg base N qual (defScope st) f cdv A outer s H) [] σ' H' s' → RelV v u → Q v H' → CE outer P w H s Q u s' :=
    fun {σ' H' v u} J rv q => ⟨v, H', J.os, J.bare, J.base, J.hok, rv, q⟩
  cases fl with
  | ret u =>
    obtain ⟨v, σ', H', J, rv, q⟩ := hs
    exact fin J rv q
  | next =>
    obtain ⟨σ', H', J, q⟩ := hs
    exact fin (v := V.non) (u := Value.none) J rfl q
  | brk =>
    obtain ⟨_, _, _, q⟩ := hs
    exact False.elim q
  | cont =>
    obtain ⟨_, _, _, q⟩ := hs
    exact False.elim q
end
section
variable {X : Cx} {k : Nat} {f : Addr} {fd : FuncData} {ps : List Str} {sp : Sp} {x : Str} {p pos : Pos} {e a b : Expr} {es : List Expr} {t : TA} {te ta tb : TE} {r : R2}
theorem LE.callH (F : FnH X.prog X.w X.K X.mg X.base k f fd ps sp) (hr : RoomH k X.A) (hg : Gl X x) (hm : X.mg x = some (.ref f)) (hk : PySem.W.keepIn X.K (.ref f) = true) (hb : Binds X.K fd ps [])
    (ha : LA X (e :: es) t) (hdb : (x == ("__debug__" : Str)) = false := by decide) (he : starEach (e :: es) X.env = (false, eval e X.env) :: starEach es X.env := by rfl) (hpl : (backTo pos (starEach es X.env)).any (·.1) = false := by rfl) :
    LE X (.Call (.Name x p) (e :: es) [] pos) (tCall sp [] E0 t) := ⟨by
  intro pins s σ H Q I h
  refine wpAny_Call_Name_kw (ld_glob I hg hm ?_ hdb)
  refine PySem.W.callWith_K (h₀ := X.base) I.ok.mod.kin hk (thn (ha.out pos pins s σ H _ I h) fun us s1 ⟨vs, H1, I1, r, q⟩ => ⟨I1.kIn, ?_⟩) he hpl
  replace q : sp (vs ++ []) H1 Q E0 := q
  rw [List.append_nil] at q
  have hl : (us ++ []).length = ps.length := by rw [List.append_nil, ← r.length]; exact F.len _ _ _ _ q
  have bb := hb s1 us I1.kIn hl
  rw [List.append_nil] at bb
  refine wpAny_call (codeAny_mono (F.run X.A X.stack s1 H1 ⟨us, []⟩ us vs Q hr I1.env0 bb r q) fun r s' hq => ?_)
  cases r with
  | error e => exact False.elim hq
  | ok fl =>
    cases fl with
    | ret u => exact I1.after hq
    | next => exact False.elim hq
    | brk => exact False.elim hq
    | cont => exact False.elim hq⟩
theorem LE.cmp {op : CmpOp} (ho : OpR X (compareOp op) r) (ha : LE X a ta) (hb : LE X b tb) (hm : behindInMarks op b = false) : LE X (.Compare a [op] [b] pos) (tOp r ta tb) := ⟨pe_cmpR ho ha.out hb.out hm⟩
theorem LE.or2 (ha : LE X a ta) (hb : LE X b tb) : LE X (.BoolOp .Or [a, b] pos) (tOrV ta tb) := ⟨pe_or ha.out (pe_one hb.out)⟩
theorem LE.glob {v : V} {u : Value} (hg : Gl X x) (hm : X.mg x = some u) (h : RelV v u) (hd : (x == ("__debug__" : Str)) = false := by decide) : LE X (.Name x pos) (tC v) := ⟨pe_glob hg hm h hd⟩
theorem LE.bltn {v : V} {u : Value} (hg : Gl X x) (hm : X.mg x = none) (hv : bootBuiltins x = some u) (h : RelV v u) (hn : x ≠ "__name__" := by decide) (hd : (x == ("__debug__" : Str)) = false := by decide) : LE X (.Name x pos) (tC v) := ⟨pe_bltn hg hm hv h hn hd⟩
theorem LE.callB {id : String} {r : List V → Hp → VK → Prop} (hc : CallR X (.builtin id) r) (hg : Gl X x) (hm : X.mg x = none) (hv : bootBuiltins x = some (.builtin id)) (ha : LA X (e :: es) t) (hn : x ≠ "__name__" := by decide) (hdb : (x == ("__debug__" : Str)) = false := by decide)
    (he : starEach (e :: es) X.env = (false, eval e X.env) :: starEach es X.env := by rfl) (hpl : (backTo pos (starEach es X.env)).any (·.1) = false := by rfl) : LE X (.Call (.Name x p) (e :: es) [] pos) (tCB r t) := ⟨pe_callB hc hg hm hv ha.out hn hdb he hpl⟩
theorem LE.callX {CX : CXT} {dvs : List V} {ds : List Value} {Hx : St → Value → Hp → Prop} (F : FnOk X.prog X.w X.K X.mg X.base CX k f fd ps sp) (hr : Room k X.A) (hg : Gl X x) (hm : X.mg x = some (.ref f)) (hk : PySem.W.keepIn X.K (.ref f) = true) (hb : Binds X.K fd ps ds) (hd : Vals dvs ds) (hx : PassesS CX X Hx)
    (ha : LA X (e :: es) t) (hdb : (x == ("__debug__" : Str)) = false := by decide) (he : starEach (e :: es) X.env = (false, eval e X.env) :: starEach es X.env := by rfl) (hpl : (backTo pos (starEach es X.env)).any (·.1) = false := by rfl) :
    LE X (.Call (.Name x p) (e :: es) [] pos) (tCallX sp dvs Hx t) := ⟨pe_callX F hr hg hm hk hb hd hx ha.out hdb he hpl⟩
theorem LE.comp {elt iter : Expr} {px : Pos} {wi : TI} {F NX : List Str} {is : List Nat} {fs scope : Scope} (C : CompOk fs NX x F is scope) (hcalm : X.calm = true) (hi : PI X (.Name x px) iter wi) (he : ∀ cs C s₀ H₀ ex, LE (compCx X (x :: F) scope cs C s₀ H₀ ex) elt te)
    (hfs : X.env.scope = fs := by rfl) (hNX : X.N = NX := by rfl) (hs : ∀ y, foldedSetIterable iter X.env y = pure y := by intro _; rfl) : LE X (.ListComp elt [⟨.Name x px, iter, [], 0⟩] scope pos) (tComp wi tNoTest te is) :=
  ⟨pe_comp C hcalm hi (fun _ _ _ _ _ => pts_nil) (fun cs C s₀ H₀ ex => (he cs C s₀ H₀ ex).out) hfs hNX hs⟩
theorem LS.try {K : PySem.W.Frag} {body suite : List Stmt} {b₀ : Stmt} {n : Str} {i : Nat} {D0 : Addr} {bm : List Value} {newId : String} {np hpos : Pos} {tb : (St → Value → Hp → Prop) → TS} {ts : TS}
    (hst : X.stack = X.env :: X.outer) (hfL : X.env.frame = some X.env.locals) (hex : X.ex = [])
    (hb : ∀ (Hx : St → Value → Hp → Prop) (pn : List (Addr × Obj)) (xe : Value → Shared → Prop), PassesS (CX1 X.prog X.w) (X.tried pn xe) Hx → LB (X.tried pn xe) body (tb Hx))
    (hg : Gl X x) (hm : X.mg x = some (.ref D0)) (hD : PySem.W.excIn X.K D0 bm newId = true) (hbase : bm.contains (.type "BaseException") = true)
    (hN : X.N.Nodup) (hi : X.N[i]? = some n) (hloc : X.env.scope.names.lookup n = some .local)
    (hs : ∀ v : Option Value, LB (X.caught (X.A.mark v)) (b₀ :: suite) ts) (hK : X.K = K := by rfl) (hdb : (x == ("__debug__" : Str)) = false := by decide) :
    LS X (.Try body [.ExceptHandler (some (.Name x np)) (some n) (b₀ :: suite) hpos] [] [] pos) (tTry K i D0 tb ts) :=
  ⟨ps_try hst hfL hex (fun Hx pn xe h => (hb Hx pn xe h).out) hg hm hD hbase hN hi hloc (fun v => (hs v).out) hK hdb⟩
end
end L2

namespace SO
open PySem L2
/-! ### the text by places -/
def top (i : Nat) : Stmt := PySem.Challenge.pw_shapeorders_k14_each_refusal_its_own.main.body.getD i (.Pass ⟨0, 0, 0, 0⟩)
def noScope : Scope := { kind := .function, names := [], isGenerator := false, isCoroutine := false }
def scE : Expr → Scope
  | .ListComp _ _ sc _ => sc
  | .Call _ [.ListComp _ _ sc _] _ _ => sc
  | _ => noScope
def retE : Stmt → Expr
  | .Return (some e) _ => e
  | .Assign _ e _ => e
  | .Expr e _ => e
  | .If e _ _ _ => e
  | .While e _ _ _ => e
  | .For _ e _ _ _ => e
  | _ => .Constant .none 0 ⟨0, 0, 0, 0⟩
/-- the i-th statement's value in a def -/
def valE (s : Stmt) (i : Nat) : Expr := retE ((defBody s).getD i (.Pass ⟨0, 0, 0, 0⟩))
/-- the i-th statement within a statement; behind else -/
def subS (s : Stmt) (i : Nat) : Stmt := match s with
  | .FunctionDef _ _ b _ _ _ _ _ _ _ => b.getD i (.Pass ⟨0, 0, 0, 0⟩)
  | .For _ _ b _ _ => b.getD i (.Pass ⟨0, 0, 0, 0⟩)
  | .While _ b _ _ => b.getD i (.Pass ⟨0, 0, 0, 0⟩)
  | .If _ b _ _ => b.getD i (.Pass ⟨0, 0, 0, 0⟩)
  | .Try b _ _ _ _ => b.getD i (.Pass ⟨0, 0, 0, 0⟩)
  | _ => .Pass ⟨0, 0, 0, 0⟩
/-- the i-th part of an expression -/
def subE (e : Expr) (i : Nat) : Expr := match e with
  | .BoolOp _ vs _ => vs.getD i e
  | .BinOp a _ b _ => [a, b].getD i e
  | .UnaryOp _ a _ => a
  | .IfExp c a b _ => [c, a, b].getD i e
  | .ListComp a _ _ _ => a
  | .Compare a _ bs _ => (a :: bs).getD i e
  | .Call f as _ _ => (f :: as).getD i e
  | .Subscript a b _ => [a, b].getD i e
  | .List es _ => es.getD i e
  | .Tuple es _ _ => es.getD i e
  | _ => e
abbrev sCheckRow : Stmt := top 11
abbrev sCheckShape : Stmt := top 12
abbrev sIsShape : Stmt := top 13
abbrev sManyLess : Stmt := top 14
abbrev sShapeOf : Stmt := top 15
abbrev sBackward : Stmt := top 16
abbrev sContrary : Stmt := top 17
abbrev sTurned : Stmt := top 18
abbrev sCheckOrder : Stmt := top 22
abbrev sWhereAll : Stmt := top 23
abbrev sAgrees : Stmt := top 24
abbrev sNextPlaces : Stmt := top 25
abbrev sAllFrom : Stmt := top 26
abbrev sFirstFrom : Stmt := top 27
abbrev sPlaces : Stmt := top 28
abbrev sMany : Stmt := top 29
abbrev sFirst : Stmt := top 30
abbrev sCheckSize : Stmt := top 33
abbrev sCheckThree : Stmt := top 36
abbrev sCheckWithout : Stmt := top 37
abbrev sBrought : Stmt := top 38
abbrev sLeast : Stmt := top 39
abbrev sShapeWith : Stmt := top 40
abbrev sWaysOn : Stmt := top 41
abbrev sNumLeast : Stmt := top 42
abbrev sLeastAt : Stmt := top 43
abbrev sManyWithout : Stmt := top 44
abbrev sWithoutAt : Stmt := top 45
abbrev sNumberOf : Stmt := top 46
abbrev sLed : Stmt := top 47
abbrev sBelow : Stmt := top 49
abbrev sFallPlaces : Stmt := top 50
abbrev sLessBehind : Stmt := top 51
abbrev sFalls : Stmt := top 52
abbrev sWrong : Stmt := top 53
abbrev sFallSum : Stmt := top 54
abbrev sEntry : Stmt := top 55
abbrev sAllFalls : Stmt := top 56
abbrev sAllWrong : Stmt := top 57
abbrev sManyFalls : Stmt := top 58
abbrev sManyWrong : Stmt := top 59
abbrev sParted : Stmt := top 61
abbrev sLastFirst : Stmt := top 62
abbrev sFirstLast : Stmt := top 63
abbrev sExchanged : Stmt := top 64
abbrev sExBack : Stmt := top 65
abbrev sCell : Stmt := top 67
abbrev sWhich : Stmt := top 68
abbrev sWithin : Stmt := top 69
abbrev sOfOne : Stmt := top 70
abbrev sNoRow : Stmt := top 71
abbrev sNoShape : Stmt := top 72
abbrev sNoOrder : Stmt := top 73
abbrev sNoSize : Stmt := top 74
abbrev sNoNumber : Stmt := top 75
abbrev sDone : Stmt := top 76
abbrev sLaw : Stmt := top 77
end SO

namespace SO
open PySem L2 PySem.SeqAt
section
set_option maxHeartbeats 450000
variable {P : Program} {w : World} {K : PySem.W.Frag} {mg : Str → Option Value} {base : Heap} {f g g1 g2 g3 g4 g5 g6 : Addr} {fd gd gd1 gd2 gd3 gd4 gd5 gd6 : FuncData} {t30 t4 t12 t20 : Tok} {cE cR cS cO cZ cT cH cN aR : Addr}
/-! ### what the defs of shapeorders.shapes promise -/
abbrev dec (p : Prop) [Decidable p] : V := .bl (decide p)
def spCheckRow (K : PySem.W.Frag) : Sp := fun vs H Q _ => ∃ (a : Addr) (ns : List Int), vs = [.ref a] ∧ LI K H a ns ∧ ns.length ≤ 30 ∧ ns.Nodup ∧ ∀ H', Same H H' → Q .non H'
def spIsShape (K : PySem.W.Frag) : Sp := fun vs H Q _ => ∃ (a : Addr) (ns : List Int), vs = [.ref a] ∧ LI K H a ns ∧ ns.length ≤ 60 ∧ ∀ H', Same H H' → Q (dec (ns.length ≤ 30 ∧ Sh ns)) H'
def spCheckShape (K : PySem.W.Frag) : Sp := fun vs H Q _ => ∃ (a : Addr) (ns : List Int), vs = [.ref a] ∧ LI K H a ns ∧ ns.length ≤ 30 ∧ Sh ns ∧ ∀ H', Same H H' → Q .non H'
theorem ok_check_row (F : Fun K "check_row" "check_row" sCheckRow f fd) (hlen : mg "len" = none) (hset : mg "set" = none) (hmost : mg "MOST_NUMBERS" = some (.int 30 t30)) :
    FnOk P w K mg base CX0 1 f fd ["row"] (spCheckRow K) := by
  refine F.ok (k := 0) (N := ["row"]) ⟨rfl, rfl, rfl, by decide +kernel, rfl, by decide +kernel, by decide +kernel⟩ (fun vs H Q E h => ?_) (fun cdv A outer s H vs Q E hr h => ?_)
  · obtain ⟨a, ns, rfl, _⟩ := h
    rfl
  obtain ⟨a, ns, rfl, hL, h30, hnd, q⟩ := h
  refine ⟨_, pss_one (ps_if (PW.pt (pw_or (pt_cmpR op_gt (pe_callB (call_lenI (K := K)) rfl hlen PySem.boot_len (pa_cons (pv 0) pa_nil)) (pe_glob (v := .int 30) rfl hmost ⟨_, rfl⟩) (nomark _))
    (pw_or1 (pt_cmpR op_ne (pe_callB call_lenS rfl hlen PySem.boot_len (pa_cons (pe_callTy (call_setI (K := K) rfl) rfl hset PyProof.Rows.boot_set (pa_cons (pv 0) pa_nil)) pa_nil))
      (pe_callB (call_lenI (K := K)) rfl hlen PySem.boot_len (pa_cons (pv 0) pa_nil)) (nomark _))))) pss_never pss_nil), ?_⟩
  refine ⟨_, rfl, a, ns, rfl, hL, _, _, rfl, rfl, _, rfl, ?_⟩
  rw [no_dec (by omega)]
  refine iteF ⟨_, rfl, a, ns, rfl, hL, by omega, fun l S n hn hle hl => ?_⟩
  have g1 : Same H (upd H l (.set S n)) := same_new hl _
  refine ⟨l, S, n, rfl, upd_same, by omega, _, rfl, a, ns, rfl, g1.seq hL, rfl, _, rfl, ?_⟩
  refine iteNS (by rw [hn.mpr hnd]) ?_
  exact q _ g1
theorem ok_is_shape (F : Fun K "is_shape" "is_shape" sIsShape f fd) (hlen : mg "len" = none) (hsorted : mg "sorted" = none) (hlist : mg "list" = none) (hrange : mg "range" = none) (hmost : mg "MOST_NUMBERS" = some (.int 30 t30)) :
    FnOk P w K mg base CX0 1 f fd ["some"] (spIsShape K) := by
  refine F.ok (k := 0) (N := ["some"]) ⟨rfl, rfl, rfl, by decide +kernel, rfl, by decide +kernel, by decide +kernel⟩ (fun vs H Q E h => ?_) (fun cdv A outer s H vs Q E hr h => ?_)
  · obtain ⟨a, ns, rfl, _⟩ := h
    rfl
  obtain ⟨a, ns, rfl, hL, h60, q⟩ := h
  refine ⟨_, pss_one (ps_ret (pe_and (pe_cmpR op_le (pe_callB (call_lenI (K := K)) rfl hlen PySem.boot_len (pa_cons (pv 0) pa_nil)) (pe_glob (v := .int 30) rfl hmost ⟨_, rfl⟩) (nomark _))
    (pe_one (pe_cmpR (op_eqI (K := K) hr.units) (pe_callB (call_sortedI (K := K)) rfl hsorted PyProof.Rows.boot_sorted (pa_cons (pv 0) pa_nil))
      (pe_callTy (call_listRng rfl) rfl hlist PyProof.Rows.boot_list (pa_cons (pe_callTy call_rangeV rfl hrange PyProof.Rows.boot_range (pa_cons (pe_callB (call_lenI (K := K)) rfl hlen PySem.boot_len (pa_cons (pv 0) pa_nil)) pa_nil)) pa_nil)) (nomark _))))), ?_⟩
  refine ⟨_, rfl, a, ns, rfl, hL, _, _, rfl, rfl, _, rfl, ?_⟩
  refine ite2 (fun c => ?_) (fun c => ?_)
  · have c' : (ns.length : Int) ≤ 30 := of_decide_eq_true c
    refine ⟨_, rfl, a, ns, rfl, hL, by omega, fun l ms hp hs hl => ?_⟩
    have g1 : Same H (upd H l (.lst (ms.map V.int))) := same_new hl _
    refine ⟨_, rfl, a, ns, rfl, g1.seq hL, _, rfl, fun l2 hl2 => ?_⟩
    have g2 := same_new hl2 (.rng 0 (ns.length : Nat))
    refine ⟨l2, _, rfl, upd_same, by omega, by omega, fun l3 hl3 => ?_⟩
    have g3 := same_new hl3 (.lst ((upto (((ns.length : Nat) : Int)).toNat).map V.int))
    refine ⟨l, l3, ms, _, rfl, rfl, LI.of (g3 _ _ (g2 _ _ upd_same)), LI.of upd_same, ?_⟩
    have e : decide (ms = upto (((ns.length : Nat) : Int)).toNat) = decide (ns.length ≤ 30 ∧ Sh ns) := by
      rw [Int.toNat_natCast]
      refine decide_eq_decide.mpr ⟨fun h => ⟨by omega, (sorted_eq_upto hp hs).mp h⟩, fun h => (sorted_eq_upto hp hs).mpr h.2⟩
    rw [e]
    exact q _ (g1.trans (g2.trans g3))
  · have c' : ¬ (ns.length : Int) ≤ 30 := of_decide_eq_false (Bool.eq_false_iff.mpr c)
    have e : false = decide (ns.length ≤ 30 ∧ Sh ns) := (decide_eq_false fun h => c' (by omega)).symm
    rw [e]
    exact q _ (Same.refl H)
theorem ok_check_shape {n : Nat} (F : Fun K "check_shape" "check_shape" sCheckShape f fd) (G : FnOk P w K mg base CX0 n g gd ["some"] (spIsShape K)) (bG : Binds K gd ["some"] []) (kG : PySem.W.keepIn K (.ref g) = true) (mG : mg "is_shape" = some (.ref g)) :
    FnOk P w K mg base CX0 (n + 1) f fd ["shape"] (spCheckShape K) := by
  refine F.ok (N := ["shape"]) ⟨rfl, rfl, rfl, by decide +kernel, rfl, by decide +kernel, by decide +kernel⟩ (fun vs H Q E h => ?_) (fun cdv A outer s H vs Q E hr h => ?_)
  · obtain ⟨a, ns, rfl, _⟩ := h
    rfl
  obtain ⟨a, ns, rfl, hL, h30, hsh, q⟩ := h
  refine ⟨_, pss_one (ps_if (pt_not (pt_val (pe_call G hr rfl mG kG bG .nil pass0 (pa_cons (pv 0) pa_nil)))) pss_never pss_nil), ?_⟩
  refine ⟨_, rfl, a, ns, rfl, hL, by omega, fun H' g1 => ⟨_, rfl, ?_⟩⟩
  refine iteNS ⟨h30, hsh⟩ ?_
  exact q _ g1
/-! ### what the defs of shapeorders.orders promise -/
def spCheckOrder (K : PySem.W.Frag) : Sp := fun vs H Q _ => ∃ (a : Addr) (ns : List Int), vs = [.ref a] ∧ LI K H a ns ∧ Sh ns ∧ 1 ≤ ns.length ∧ ns.length ≤ 4 ∧ ∀ H', Same H H' → Q .non H'
def spAgrees (K : PySem.W.Frag) : Sp := fun vs H Q _ => ∃ (a b c : Addr) (row order : List Int) (t : List Nat) (p : Nat), vs = [.ref a, .ref b, .ref c, nv p] ∧ LI K H a row ∧ LI K H b order ∧ TN H c t ∧
  row.length ≤ 30 ∧ t.length < order.length ∧ order.length ≤ 30 ∧ (∀ q ∈ t, q < row.length) ∧ p < row.length ∧ Q (.bl (agr row order t p)) H
def spNext (K : PySem.W.Frag) : Sp := fun vs H Q _ => ∃ (a b c : Addr) (row order : List Int) (t : List Nat), vs = [.ref a, .ref b, .ref c] ∧ LI K H a row ∧ LI K H b order ∧ TN H c t ∧
  row.length ≤ 30 ∧ t.length < order.length ∧ order.length ≤ 30 ∧ Rises row.length t ∧ ∀ (r : Addr) (H' : Hp), Same H H' → H r = none → H' r = some (.lst ((nextP row order t).map nv)) → Q (.ref r) H'
def NewF (H : Hp) (Q : VK) (o : Option (List Nat)) : Prop := (∀ u, o = some u → ∀ (r : Addr) (H' : Hp), Same H H' → TN H' r u → Q (.ref r) H') ∧ (o = none → ∀ H', Same H H' → Q .non H')
def spFirstFrom (K : PySem.W.Frag) (d : Nat) : Sp := fun vs H Q _ => ∃ (a b c : Addr) (row order : List Int) (t : List Nat), vs = [.ref a, .ref b, .ref c] ∧ LI K H a row ∧ LI K H b order ∧ TN H c t ∧
  row.length ≤ 30 ∧ order.length ≤ 4 ∧ Rises row.length t ∧ t.length + d = order.length ∧ NewF H Q (firstF row order d t)
def spFirst (K : PySem.W.Frag) : Sp := fun vs H Q _ => ∃ (a b : Addr) (row order : List Int), vs = [.ref a, .ref b] ∧ LI K H a row ∧ LI K H b order ∧ row.Nodup ∧ row.length ≤ 30 ∧ Sh order ∧ 1 ≤ order.length ∧ order.length ≤ 4 ∧ NewF H Q (firstF row order order.length [])
theorem ok_check_order {n : Nat} (F : Fun K "check_order" "check_order" sCheckOrder f fd) (G : FnOk P w K mg base CX0 n g gd ["shape"] (spCheckShape K)) (bG : Binds K gd ["shape"] []) (kG : PySem.W.keepIn K (.ref g) = true) (mG : mg "check_shape" = some (.ref g))
    (hlen : mg "len" = none) (hmost : mg "MOST_OF_ORDER" = some (.int 4 t4)) : FnOk P w K mg base CX0 (n + 1) f fd ["order"] (spCheckOrder K) := by
  refine F.ok (N := ["order"]) ⟨rfl, rfl, rfl, by decide +kernel, rfl, by decide +kernel, by decide +kernel⟩ (fun vs H Q E h => ?_) (fun cdv A outer s H vs Q E hr h => ?_)
  · obtain ⟨a, ns, rfl, _⟩ := h
    rfl
  obtain ⟨a, ns, rfl, hL, hsh, h1, h4, q⟩ := h
  refine ⟨_, pss_cons (ps_expr (pe_call G hr rfl mG kG bG .nil pass0 (pa_cons (pv 0) pa_nil))) (pss_one (ps_if (PW.pt (pw_or (pt_cmpR op_lt (pe_callB (call_lenI (K := K)) rfl hlen PySem.boot_len (pa_cons (pv 0) pa_nil)) pe_int (nomark _))
    (pw_or1 (pt_cmpR op_gt (pe_callB (call_lenI (K := K)) rfl hlen PySem.boot_len (pa_cons (pv 0) pa_nil)) (pe_glob (v := .int 4) rfl hmost ⟨_, rfl⟩) (nomark _))))) pss_never pss_nil)), ?_⟩
  refine ⟨_, rfl, a, ns, rfl, hL, by omega, hsh, fun H1 g1 => ?_⟩
  refine ⟨_, rfl, a, ns, rfl, g1.seq hL, _, _, rfl, rfl, _, rfl, ?_⟩
  rw [no_dec (by omega)]
  refine iteF ⟨_, rfl, a, ns, rfl, g1.seq hL, _, _, rfl, rfl, _, rfl, ?_⟩
  rw [no_dec (by omega)]
  exact iteF (q _ g1)
theorem ok_agrees (F : Fun K "agrees" "agrees" sAgrees f fd) (hlen : mg "len" = none) (hrange : mg "range" = none) : FnOk P w K mg base CX0 1 f fd ["row", "order", "taken", "place"] (spAgrees K) := by
  have S : FnScope ["row", "order", "taken", "place", "number", "k"] ["row", "order", "taken", "place"] (defScope sAgrees) := ⟨rfl, rfl, rfl, by decide +kernel, rfl, by decide +kernel, by decide +kernel⟩
  refine F.ok (k := 0) S (fun vs H Q E h => ?_) (fun cdv A outer s H vs Q E hr h => ?_)
  · obtain ⟨a, b, c, row, order, t, p, rfl, _⟩ := h
    rfl
  obtain ⟨a, b, c, row, order, t, p, rfl, hL, hO, hT, h30, hto, ho30, htr, hp, q⟩ := h
  refine ⟨_, pss_cons (ps_set (i := 4) S.nd rfl (Or.inl rfl) (pe_ix (ix_listK (K := K)) (pv 1) (pe_callB call_lenN rfl hlen PySem.boot_len (pa_cons (pv 2) pa_nil)) (fun _ _ => rfl)))
    (pss_cons (ps_for PassesOwn.never rfl (pi_range1 rfl hrange (pa_cons (pe_callB call_lenN rfl hlen PySem.boot_len (pa_cons (pv 2) pa_nil)) pa_nil)) (pg_name (i := 5) S.nd rfl (Or.inl rfl))
      (pss_one (ps_if (pt_cmpR op_ne (pe_cmpR op_lt (pe_ix (ix_listK (K := K)) (pv 0) (pe_ix (ix_tupK (K := K)) (pv 2) (pv 5) (fun _ _ => rfl)) (fun _ _ => rfl)) (pe_ix (ix_listK (K := K)) (pv 0) (pv 3) (fun _ _ => rfl)) (nomark _))
        (pe_cmpR op_lt (pe_ix (ix_listK (K := K)) (pv 1) (pv 5) (fun _ _ => rfl)) (pv 4) (nomark _)) (nomark _)) (pss_one (ps_ret pe_bl)) pss_nil)))
    (pss_one (ps_ret pe_bl))), ?_⟩
  refine ⟨_, rfl, _, rfl, c, t, rfl, hT, b, _, _, _, rfl, rfl, hO, atI_ints (by omega) (by omega), ?_⟩
  refine ⟨_, rfl, c, t, rfl, hT, _, rfl, by omega, by omega, ?_⟩
  rw [Int.toNat_natCast]
  have hall : agr row order t p = true ↔ ∀ k, k < t.length → decide (decide (vAt row (t.getD k 0) < vAt row p) = decide (vAt order k < vAt order t.length)) = true := by
    unfold agr
    rw [List.all_eq_true]
    exact ⟨fun h k hk => h k (List.mem_range.mpr hk), fun h k hk => h k (List.mem_range.mp hk)⟩
  refine for_range (n := t.length) (fun i σ' H' => ∃ t5, σ' = [some (.ref a), some (.ref b), some (.ref c), some (nv p), some (.int (vAt order t.length)), t5] ∧ H' = H ∧ ∀ k, k < i → decide (decide (vAt row (t.getD k 0) < vAt row p) = decide (vAt order k < vAt order t.length)) = true)
    ⟨none, rfl, rfl, fun k hk => absurd hk (Nat.not_lt_zero _)⟩ (fun i σ' H' hi h => ?_) (fun σ' H' h => ?_)
  · obtain ⟨t5, rfl, rfl, hk⟩ := h
    have ei : ((0 : Int) + (i : Int)).toNat = i := by omega
    have htq : t.getD i 0 < row.length := htr _ (by
      rw [List.getD_eq_getElem?_getD, List.getElem?_eq_getElem hi]; exact List.getElem_mem hi)
    refine ⟨_, rfl, _, rfl, _, rfl, c, _, _, _, rfl, rfl, SqT.of hT, atI_nv (by omega) (by omega), a, _, _, _, rfl, rfl, hL, atI_ints (by omega) (by rw [ei]; omega), ?_⟩
    refine ⟨_, rfl, _, rfl, a, _, _, _, rfl, rfl, hL, atI_ints (by omega) (by omega), _, _, rfl, rfl, ?_⟩
    refine ⟨_, rfl, _, rfl, b, _, _, _, rfl, rfl, hO, atI_ints (by omega) (by omega), _, rfl, _, _, rfl, rfl, rfl, _, rfl, ?_⟩
    rw [ei]
    have ec : decide (V.bl (decide (row.getD ((t.getD i 0 : Nat) : Int).toNat 0 < row.getD ((p : Nat) : Int).toNat 0)) = V.bl (decide (order.getD i 0 < vAt order t.length))) =
        decide (decide (vAt row (t.getD i 0) < vAt row p) = decide (vAt order i < vAt order t.length)) := by
      refine decide_eq_decide.mpr ⟨fun h => ?_, fun h => ?_⟩
      · injection h
      · exact congrArg V.bl h
    rw [ec]
    by_cases hcond : decide (decide (vAt row (t.getD i 0) < vAt row p) = decide (vAt order i < vAt order t.length)) = true
    · rw [hcond]
      refine iteF ⟨_, rfl, rfl, fun k hk' => ?_⟩
      by_cases hki : k = i
      · subst hki; exact hcond
      · exact hk k (by omega)
    · rw [Bool.eq_false_iff.mpr hcond]
      refine iteT ?_
      have : agr row order t p = false := Bool.eq_false_iff.mpr fun h => hcond (hall.mp h i hi)
      rw [this] at q
      exact q
  · obtain ⟨t5, rfl, rfl, hk⟩ := h
    have := hall.mpr hk
    rw [this] at q
    exact q
/-- taken[-1] + 1 if len(taken) > 0 else 0 -/
def tStart (i : Nat) : TE := fun σ H Q => ∃ c t, σ[i]? = some (some (.ref c)) ∧ TN H c t ∧ ∀ H', Same H H' → Q (nv (startOf t)) H'
theorem atI_m1 {t : List Nat} (h : 0 < t.length) : atI (t.map nv) (-1) = some (nv (t.getD (t.length - 1) 0)) := by
  obtain ⟨x, hx⟩ : ∃ x, t[t.length - 1]? = some x := ⟨_, List.getElem?_eq_getElem (by omega)⟩
  have e : t = t.take (t.length - 1) ++ [x] := by
    obtain ⟨hi, e⟩ := List.getElem?_eq_some_iff.mp hx
    have h1 := List.take_succ_eq_append_getElem hi
    rw [e] at h1
    rw [← h1, List.take_of_length_le (by omega)]
  have e2 : t.getD (t.length - 1) 0 = x := by rw [List.getD_eq_getElem?_getD, hx]; rfl
  rw [e2]
  conv => lhs; rw [e, List.map_append]
  exact atI_last _ _
theorem okc_next : CompOk (defScope sNextPlaces) ["row", "order", "taken", "start"] "place" ["row", "order", "taken"] [0, 1, 2] (scE (valE sNextPlaces 1)) := ⟨rfl, by decide +kernel, by decide +kernel, by decide +kernel, by decide +kernel, by decide +kernel, by decide +kernel, by decide +kernel⟩
theorem ok_next {n : Nat} (F : Fun K "next_places" "next_places" sNextPlaces f fd) (G : FnOk P w K mg base CX0 n g gd ["row", "order", "taken", "place"] (spAgrees K)) (bG : Binds K gd ["row", "order", "taken", "place"] []) (kG : PySem.W.keepIn K (.ref g) = true) (mG : mg "agrees" = some (.ref g))
    (hlen : mg "len" = none) (hrange : mg "range" = none) : FnOk P w K mg base CX0 (n + 1) f fd ["row", "order", "taken"] (spNext K) := by
  have S : FnScope ["row", "order", "taken", "start"] ["row", "order", "taken"] (defScope sNextPlaces) := ⟨rfl, rfl, rfl, by decide +kernel, rfl, by decide +kernel, by decide +kernel⟩
  refine F.ok S (fun vs H Q E h => ?_) (fun cdv A outer s H vs Q E hr h => ?_)
  · obtain ⟨a, b, c, row, order, t, rfl, _⟩ := h
    rfl
  obtain ⟨a, b, c, row, order, t, rfl, hL, hO, hT, h30, hto, ho30, hri, q⟩ := h
  refine ⟨_, pss_cons (ps_set (i := 3) S.nd rfl (Or.inl rfl) (PE.imp (t' := tStart 2) (pe_ifExp (pt_cmpR op_gt (pe_callB call_lenN rfl hlen PySem.boot_len (pa_cons (pv 2) pa_nil)) pe_int (nomark _))
      (pe_op op_add (pe_ix (ix_tupK (K := K)) (pv 2) (pe_un un_neg pe_int) (fun _ _ => rfl)) pe_int) pe_int) (fun σ H Q h => ?_)))
    (pss_one (ps_ret (pe_comp (x := "place") (F := ["row", "order", "taken"]) (is := [0, 1, 2]) okc_next rfl (pi_range2 rfl hrange (pa_cons (pv 3) (pa_cons (pe_callB (call_lenI (K := K)) rfl hlen PySem.boot_len (pa_cons (pv 0) pa_nil)) pa_nil)))
      (fun _ _ _ _ _ => pts_one (pt_val (pe_call G hr rfl mG kG bG .nil pass0 (pa_cons (pv 1) (pa_cons (pv 2) (pa_cons (pv 3) (pa_cons (pv 0) pa_nil)))))))
      (fun _ _ _ _ _ => pv 0)))), ?_⟩
  · obtain ⟨c, t, hc, hT, q⟩ := h
    refine ⟨_, hc, c, t, rfl, hT, _, _, rfl, rfl, _, rfl, ite2 (fun h => ?_) (fun h => ?_)⟩
    · have h' : (0 : Int) < (t.length : Nat) := of_decide_eq_true h
      refine ⟨_, hc, _, rfl, c, _, _, _, rfl, rfl, SqT.of hT, atI_m1 (by omega), _, _, rfl, rfl, ?_⟩
      have e : startOf t = t.getD (t.length - 1) 0 + 1 := startOf_pos (by omega)
      have z := q H (Same.refl H)
      rw [e] at z
      exact z
    · have h' : ¬ (0 : Int) < (t.length : Nat) := of_decide_eq_false (Bool.eq_false_iff.mpr h)
      have e : t = [] := List.length_eq_zero_iff.mp (by omega)
      subst e
      exact q H (Same.refl H)
  have hsn := startOf_le_n hri
  refine ⟨c, t, rfl, hT, fun H1 g1 => ?_⟩
  refine ⟨_, rfl, _, rfl, a, row, rfl, g1.seq hL, _, _, rfl, ⟨by omega, by omega, by omega, by omega⟩, ?_⟩
  have en : (((row.length : Nat) : Int) - ((startOf t : Nat) : Int)).toNat = row.length - startOf t := by omega
  rw [en]
  refine comp_enc (froms row.length t) nv nv (agr row order t) (Nat.lt_of_le_of_lt (froms_len _ _) (small1000 (by omega))) over_from (fun p hp H2 g2 N hN => ?_) (fun p hp _ H2 g2 N hN => ⟨_, rfl, hN H2 (Same.refl _)⟩) (fun l H2 g2 hl => ?_)
  · have hf := mem_froms.mp hp
    have g12 := g1.trans g2
    exact ⟨_, rfl, _, rfl, _, rfl, _, rfl, a, b, c, row, order, t, p, rfl, g12.seq hL, g12.seq hO, g12 _ _ hT, h30, hto, ho30, hri.2, hf.2, _, rfl, hN H2 (Same.refl _)⟩
  · have g12 := g1.trans g2
    exact q l _ (g12.trans (same_new hl _)) (g12.free hl) upd_same
theorem ok_first_from (F : Fun K "first_from" "first_from" sFirstFrom f fd) (bF : Binds K fd ["row", "order", "taken"] []) (kF : PySem.W.keepIn K (.ref f) = true) (mF : mg "first_from" = some (.ref f))
    (G : FnOk P w K mg base CX0 2 g gd ["row", "order", "taken"] (spNext K)) (bG : Binds K gd ["row", "order", "taken"] []) (kG : PySem.W.keepIn K (.ref g) = true) (mG : mg "next_places" = some (.ref g))
    (hlen : mg "len" = none) : ∀ d : Nat, FnOk P w K mg base CX0 (d + 3) f fd ["row", "order", "taken"] (spFirstFrom K d) := by
  have S : FnScope ["row", "order", "taken", "place", "found"] ["row", "order", "taken"] (defScope sFirstFrom) := ⟨rfl, rfl, rfl, by decide +kernel, rfl, by decide +kernel, by decide +kernel⟩
  intro d
  induction d with
  | zero =>
    refine F.ok S (fun vs H Q E h => ?_) (fun cdv A outer s H vs Q E hr h => ?_)
    · obtain ⟨a, b, c, row, order, t, rfl, _⟩ := h
      rfl
    obtain ⟨a, b, c, row, order, t, rfl, hL, hO, hT, h12, h4, hri, hd, q⟩ := h
    refine ⟨_, pss_cons (ps_if (pt_cmpR op_eq (pe_callB call_lenN rfl hlen PySem.boot_len (pa_cons (pv 2) pa_nil)) (pe_callB (call_lenI (K := K)) rfl hlen PySem.boot_len (pa_cons (pv 1) pa_nil)) (nomark _)) (pss_one (ps_ret (pv 2))) pss_nil) pss_never, ?_⟩
    refine ⟨_, rfl, c, t, rfl, hT, _, rfl, b, order, rfl, hO, rfl, _, rfl, ?_⟩
    have e : decide (V.int (t.length : Nat) = V.int (order.length : Nat)) = true := decide_eq_true (by rw [show t.length = order.length by omega])
    rw [e]
    exact iteT ⟨_, rfl, q.1 t rfl c H (Same.refl H) hT⟩
  | succ d ih =>
    refine F.ok S (fun vs H Q E h => ?_) (fun cdv A outer s H vs Q E hr h => ?_)
    · obtain ⟨a, b, c, row, order, t, rfl, _⟩ := h
      rfl
    obtain ⟨a, b, c, row, order, t, rfl, hL, hO, hT, h12, h4, hri, hd, q⟩ := h
    refine ⟨_, pss_cons (ps_if (pt_cmpR op_eq (pe_callB call_lenN rfl hlen PySem.boot_len (pa_cons (pv 2) pa_nil)) (pe_callB (call_lenI (K := K)) rfl hlen PySem.boot_len (pa_cons (pv 1) pa_nil)) (nomark _)) pss_never pss_nil)
      (pss_cons (ps_for PassesOwn.never rfl (pi_listK (K := K) (pe_call G (hr.mono (by omega)) rfl mG kG bG .nil pass0 (pa_cons (pv 0) (pa_cons (pv 1) (pa_cons (pv 2) pa_nil))))) (pg_name (i := 3) S.nd rfl (Or.inl rfl))
        (pss_cons (ps_set (i := 4) S.nd rfl (Or.inl rfl) (pe_call ih hr rfl mF kF bF .nil pass0 (pa_cons (pv 0) (pa_cons (pv 1) (pa_cons (pe_snoc K (pv 2) (pv 3)) pa_nil)))))
        (pss_one (ps_if (pt_cmpR op_notN (pv 4) pe_non (nomark _)) (pss_one (ps_ret (pv 4))) pss_nil))))
      (pss_one (ps_ret pe_non))), ?_⟩
    refine ⟨_, rfl, c, t, rfl, hT, _, rfl, b, order, rfl, hO, rfl, _, rfl, ?_⟩
    have e : decide (V.int (t.length : Nat) = V.int (order.length : Nat)) = false := decide_eq_false (fun h => by injection h with h; omega)
    rw [e]
    refine iteF ⟨_, rfl, _, rfl, _, rfl, a, b, c, row, order, t, rfl, hL, hO, hT, by omega, by omega, by omega, hri, fun rn H1 g2 hrn e2 => ?_⟩
    refine ⟨rn, rfl, ⟨_, SqL.of e2⟩, ?_⟩
    refine for_list (xs := (nextP row order t).map nv) (fun i σ' H' => ∃ t3 t4, σ' = [some (.ref a), some (.ref b), some (.ref c), t3, t4] ∧ Same H H' ∧ H' rn = some (.lst ((nextP row order t).map nv)) ∧ ∀ p ∈ (nextP row order t).take i, firstF row order d (t ++ [p]) = none)
      ⟨none, none, rfl, g2, e2, fun p hp => by simp at hp⟩ (fun i σ' H' _ h => ?_) (fun i x σ' H' hx h => ?_) (fun σ' H' h => ?_)
    · obtain ⟨t3, t4, rfl, gH, hn', hno⟩ := h
      exact SqL.of hn'
    · obtain ⟨t3, t4, rfl, gH, hn', hno⟩ := h
      rw [List.getElem?_map] at hx
      obtain ⟨p, hp, rfl⟩ := Option.map_eq_some_iff.mp hx
      have hpm := List.mem_filter.mp (List.mem_of_getElem? hp)
      have hpf := mem_froms.mp hpm.1
      refine ⟨_, rfl, _, rfl, c, t, p, rfl, rfl, gH _ _ hT, by omega, fun rt H2 g3 hT2 => ?_⟩
      have gH2 := gH.trans g3
      refine ⟨a, b, rt, row, order, t ++ [p], rfl, gH2.seq hL, gH2.seq hO, hT2, h12, h4, hri.snoc hpf.1 hpf.2, by rw [List.length_append, List.length_singleton]; omega, fun u hu r H3 g4 hTr => ?_, fun hu H3 g4 => ?_⟩
      · refine ⟨_, rfl, rfl, _, rfl, iteT ⟨_, rfl, q.1 u ?_ r H3 (gH2.trans g4) hTr⟩⟩
        exact findSome_at hp hno hu
      · refine ⟨_, rfl, rfl, _, rfl, iteF ⟨_, _, rfl, gH2.trans g4, g4 _ _ (g3 _ _ hn'), fun p' hp' => ?_⟩⟩
        rcases mem_take_succ hp hp' with z | z
        · exact hno p' z
        · subst z; exact hu
    · obtain ⟨t3, t4, rfl, gH, hn', hno⟩ := h
      rw [List.length_map, List.take_length] at hno
      exact q.2 (findSome_none hno) H' gH
theorem ok_first (F : Fun K "first" "first" sFirst f fd) {g1 : Addr} {gd1 : FuncData} (G1 : FnOk P w K mg base CX0 7 g1 gd1 ["row"] (spCheckRow K)) (bG1 : Binds K gd1 ["row"] []) (kG1 : PySem.W.keepIn K (.ref g1) = true) (mG1 : mg "check_row" = some (.ref g1))
    (G : FnOk P w K mg base CX0 7 g gd ["order"] (spCheckOrder K)) (bG : Binds K gd ["order"] []) (kG : PySem.W.keepIn K (.ref g) = true) (mG : mg "check_order" = some (.ref g))
    (M : ∀ d, FnOk P w K mg base CX0 (d + 3) g2 gd2 ["row", "order", "taken"] (spFirstFrom K d)) (bM : Binds K gd2 ["row", "order", "taken"] []) (kM : PySem.W.keepIn K (.ref g2) = true) (mM : mg "first_from" = some (.ref g2)) :
    FnOk P w K mg base CX0 8 f fd ["row", "order"] (spFirst K) := by
  refine F.ok (k := 7) (N := ["row", "order"]) ⟨rfl, rfl, rfl, by decide +kernel, rfl, by decide +kernel, by decide +kernel⟩ (fun vs H Q E h => ?_) (fun cdv A outer s H vs Q E hr h => ?_)
  · obtain ⟨a, b, row, order, rfl, _⟩ := h
    rfl
  obtain ⟨a, b, row, order, rfl, hL, hO, hnd, h30, hsh, h1, h4, q⟩ := h
  refine ⟨_, pss_cons (ps_expr (pe_call G1 hr rfl mG1 kG1 bG1 .nil pass0 (pa_cons (pv 0) pa_nil))) (pss_cons (ps_expr (pe_call G hr rfl mG kG bG .nil pass0 (pa_cons (pv 1) pa_nil)))
    (pss_one (ps_ret (pe_call (M order.length) (hr.mono (by omega)) rfl mM kM bM .nil pass0 (pa_cons (pv 0) (pa_cons (pv 1) (pa_cons (pe_tup pa_nil) pa_nil))))))), ?_⟩
  refine ⟨_, rfl, a, row, rfl, hL, h30, hnd, fun H1 g1 => ?_⟩
  refine ⟨_, rfl, b, order, rfl, g1.seq hO, hsh, h1, h4, fun H2 g2 => ?_⟩
  refine ⟨_, rfl, _, rfl, (by show 0 ≤ sizeLine; decide), fun c hc => ?_⟩
  have g3 := same_new hc (.tup [])
  have g123 := (g1.trans g2).trans g3
  exact ⟨a, b, c, row, order, [], rfl, g123.seq hL, g123.seq hO, upd_same, h30, h4, Rises.nil _, by simp, fun u hu r H4 g4 hT => q.1 u hu r H4 (g123.trans g4) hT, fun hu H4 g4 => q.2 hu H4 (g123.trans g4)⟩
/-- good: a row of at most 30, no two alike -/
def Good (ns : List Int) : Prop := ns.length ≤ 30 ∧ ns.Nodup
abbrev bmVE : List Value := [.type "ValueError", .type "Exception", .type "BaseException", .type "object"]
def spCheckRowX (K : PySem.W.Frag) (cR : Addr) : Sp := fun vs H Q E => ∃ (a : Addr) (ns : List Int), vs = [.ref a] ∧ LI K H a ns ∧ ns.length ≤ 60 ∧ (Good ns → ∀ H', Same H H' → Q .non H') ∧ (¬ Good ns → ∀ H', Same H H' → E (.ref cR) none H')
theorem ok_check_rowX {cR : Addr} (F : Fun K "check_row" "check_row" sCheckRow f fd) (hlen : mg "len" = none) (hset : mg "set" = none) (hmost : mg "MOST_NUMBERS" = some (.int 30 t30)) (hR : mg "NoRow" = some (.ref cR)) (xR : PySem.W.excIn K cR bmVE "ValueError.__new__" = true) :
    FnOk P w K mg base (CX1 P w) 1 f fd ["row"] (spCheckRowX K cR) := by
  refine F.okX (k := 0) (N := ["row"]) ⟨rfl, rfl, rfl, by decide +kernel, rfl, by decide +kernel, by decide +kernel⟩ (fun vs H Q E h => ?_) (fun cdv A outer s H vs Q E hr h => ?_)
  · obtain ⟨a, ns, rfl, _⟩ := h
    rfl
  obtain ⟨a, ns, rfl, hL, h60, q, qe⟩ := h
  refine ⟨_, pss_one (ps_if (PW.pt (pw_or (pt_cmpR op_gt (pe_callB (call_lenI (K := K)) rfl hlen PySem.boot_len (pa_cons (pv 0) pa_nil)) (pe_glob (v := .int 30) rfl hmost ⟨_, rfl⟩) (nomark _))
    (pw_or1 (pt_cmpR op_ne (pe_callB call_lenS rfl hlen PySem.boot_len (pa_cons (pe_callTy (call_setI (K := K) rfl) rfl hset PyProof.Rows.boot_set (pa_cons (pv 0) pa_nil)) pa_nil))
      (pe_callB (call_lenI (K := K)) rfl hlen PySem.boot_len (pa_cons (pv 0) pa_nil)) (nomark _))))) (pss_one (ps_raise PySem.F.excBase_ValueError hr.hd xR hR)) pss_nil), ?_⟩
  refine ⟨_, rfl, a, ns, rfl, hL, _, _, rfl, rfl, _, rfl, ?_⟩
  refine ite2 (fun c => ?_) (fun c => ?_)
  · have c' : (30 : Int) < (ns.length : Nat) := of_decide_eq_true c
    refine iteT ?_
    exact qe (fun h => by have := h.1; omega) H (Same.refl H)
  have c' : ¬ (30 : Int) < (ns.length : Nat) := of_decide_eq_false (Bool.eq_false_iff.mpr c)
  refine ⟨_, rfl, a, ns, rfl, hL, by omega, fun l S n hn hle hl => ?_⟩
  have g1 : Same H (upd H l (.set S n)) := same_new hl _
  refine ⟨l, S, n, rfl, upd_same, by omega, _, rfl, a, ns, rfl, g1.seq hL, rfl, _, rfl, ?_⟩
  by_cases hnd : ns.Nodup
  · refine iteNS (by rw [hn.mpr hnd]) ?_
    exact q ⟨by omega, hnd⟩ _ g1
  · have hne : ¬ V.int (n : Nat) = V.int (ns.length : Nat) := fun h => hnd (hn.mp (by injection h with h; omega))
    rw [decide_eq_false hne]
    exact iteT (qe (fun h => hnd h.2) _ g1)
/-! ### what the defs of shapeorders.exchange promise -/
theorem Paired.snoc {α β : Type} {F : α → β → Prop} : ∀ {a : List α} {c : List β} {x : α} {y : β}, Paired F a c → F x y → Paired F (a ++ [x]) (c ++ [y])
  | _, _, _, _, .nil, h => .cons h .nil
  | _, _, _, _, .cons q r, h => .cons q (Paired.snoc r h)
def NewLL (H : Hp) (Q : VK) (ts : List (List Int)) : Prop := ∀ (r : Addr) (as : List Addr) (H' : Hp), Same H H' → H r = none → H' r = some (.lst (as.map V.ref)) → Paired (fun b t => H b = none ∧ H' b = some (.lst (t.map V.int))) as ts → Q (.ref r) H'
theorem same_set {H H' : Hp} {r : Addr} {o : HO} (g : Same H H') (h : H r = none) : Same H (upd H' r o) := fun b u q => by rw [upd_ne (ne_of_none q h)]; exact g _ _ q
/-! ### what the defs of shapeorders.sizes and shapeorders.threes promise -/
def OkS (ns : List Int) : Prop := ns.length ≤ 30 ∧ Sh ns
def spCheckShapeX (K : PySem.W.Frag) (cS : Addr) : Sp := fun vs H Q E => ∃ (a : Addr) (ns : List Int), vs = [.ref a] ∧ LI K H a ns ∧ ns.length ≤ 60 ∧ (OkS ns → ∀ H', Same H H' → Q .non H') ∧ (¬ OkS ns → ∀ H', Same H H' → E (.ref cS) none H')
def spSizeX (cZ : Addr) : Sp := fun vs H Q E => ∃ n : Int, vs = [.int n] ∧ (1 ≤ n ∧ n ≤ 20 → Q .non H) ∧ (¬ (1 ≤ n ∧ n ≤ 20) → E (.ref cZ) none H)
def spThreeX (K : PySem.W.Frag) (cO : Addr) : Sp := fun vs H Q E => ∃ (a : Addr) (ns : List Int), vs = [.ref a] ∧ LI K H a ns ∧ (ns.length = 3 → Q .non H) ∧ (ns.length ≠ 3 → E (.ref cO) none H)
/-- a row of the table -/
def wrow (m left : Nat) : List Int := (List.range m).map fun v => ((ways left v : Nat) : Int)
def wtab (m n : Nat) : List (List Int) := (List.range n).map (wrow m)
def spWays (K : PySem.W.Frag) : Sp := fun vs H Q _ => ∃ m : Nat, vs = [.int (m : Int)] ∧ 1 ≤ m ∧ m ≤ 20 ∧ NewLL H Q (wtab m (m + 1))
def spManyWithout (cZ : Addr) : Sp := fun vs H Q E => ∃ n : Int, vs = [.int n] ∧ (1 ≤ n ∧ n ≤ 20 → ∀ H', Same H H' → Q (.int (ways n.toNat (n.toNat - 1) : Nat)) H') ∧ (¬ (1 ≤ n ∧ n ≤ 20) → ∀ H', Same H H' → E (.ref cZ) none H')
def spWithout (K : PySem.W.Frag) (cZ cH : Addr) : Sp := fun vs H Q E => ∃ (a b : Addr) (S o : List Int), vs = [.ref a, .ref b] ∧ LI K H a S ∧ LI K H b o ∧ OkS S ∧ Sh o ∧ o.length = 3 ∧
  (¬ (1 ≤ S.length ∧ S.length ≤ 20) → ∀ H', Same H H' → E (.ref cZ) none H') ∧ (1 ≤ S.length ∧ S.length ≤ 20 → cnt S o ≠ 0 → ∀ H', Same H H' → E (.ref cH) none H') ∧ (1 ≤ S.length ∧ S.length ≤ 20 → cnt S o = 0 → ∀ H', Same H H' → Q .non H')
abbrev bmV : List Value := [.type "ValueError", .type "Exception", .type "BaseException", .type "object"]
theorem ok_check_shapeX (F : Fun K "check_shape" "check_shape" sCheckShape f fd) (G : FnOk P w K mg base CX0 1 g gd ["some"] (spIsShape K)) (bG : Binds K gd ["some"] []) (kG : PySem.W.keepIn K (.ref g) = true) (mG : mg "is_shape" = some (.ref g))
    (hS : mg "NoShape" = some (.ref cS)) (xS : PySem.W.excIn K cS bmV "ValueError.__new__" = true) : FnOk P w K mg base (CX1 P w) 2 f fd ["shape"] (spCheckShapeX K cS) := by
  refine F.okX (k := 1) (N := ["shape"]) ⟨rfl, rfl, rfl, by decide +kernel, rfl, by decide +kernel, by decide +kernel⟩ (fun vs H Q E h => ?_) (fun cdv A outer s H vs Q E hr h => ?_)
  · obtain ⟨a, ns, rfl, _⟩ := h
    rfl
  obtain ⟨a, ns, rfl, hL, h60, q, qe⟩ := h
  refine ⟨_, pss_one (ps_if (pt_not (pt_val (pe_call G hr rfl mG kG bG .nil pass0 (pa_cons (pv 0) pa_nil)))) (pss_one (ps_raise PySem.F.excBase_ValueError hr.hd xS hS)) pss_nil), ?_⟩
  refine ⟨_, rfl, a, ns, rfl, hL, h60, fun H' g1 => ⟨_, rfl, ?_⟩⟩
  by_cases c : OkS ns
  · refine iteNS c ?_
    exact q c _ g1
  · rw [show decide (ns.length ≤ 30 ∧ Sh ns) = false from decide_eq_false c]
    exact iteT (qe c _ g1)
theorem ok_sizeX (F : Fun K "check_size" "check_size" sCheckSize f fd) (hmost : mg "GREATEST_SIZE" = some (.int 20 t20)) (hZ : mg "NoSize" = some (.ref cZ)) (xZ : PySem.W.excIn K cZ bmV "ValueError.__new__" = true) : FnOk P w K mg base (CX1 P w) 1 f fd ["size"] (spSizeX cZ) := by
  refine F.okX (k := 0) (N := ["size"]) ⟨rfl, rfl, rfl, by decide +kernel, rfl, by decide +kernel, by decide +kernel⟩ (fun vs H Q E h => ?_) (fun cdv A outer s H vs Q E hr h => ?_)
  · obtain ⟨n, rfl, _⟩ := h
    rfl
  obtain ⟨n, rfl, q, qe⟩ := h
  refine ⟨_, pss_one (ps_if (PW.pt (pw_or (pt_cmpR op_lt (pv 0) pe_int (nomark _)) (pw_or1 (pt_cmpR op_gt (pv 0) (pe_glob (v := .int 20) rfl hmost ⟨_, rfl⟩) (nomark _))))) (pss_one (ps_raise PySem.F.excBase_ValueError hr.hd xZ hZ)) pss_nil), ?_⟩
  refine ⟨_, rfl, _, _, rfl, rfl, _, rfl, ?_⟩
  refine ite2 (fun c => ?_) (fun c => ?_)
  · have c' : n < 1 := of_decide_eq_true c
    exact iteT (qe (by omega))
  · have c' : ¬ n < 1 := of_decide_eq_false (Bool.eq_false_iff.mpr c)
    refine ⟨_, rfl, _, _, rfl, rfl, _, rfl, ?_⟩
    by_cases d : (20 : Int) < n
    · rw [decide_eq_true d]; exact iteT (qe (by omega))
    · rw [decide_eq_false d]; exact iteF (q (by omega))
theorem ok_threeX (F : Fun K "check_three" "check_three" sCheckThree f fd) (hlen : mg "len" = none) (hR : mg "RISING" = some (.ref aR)) (tR : ∀ H : Hp, SqT K H aR [.int 0, .int 1, .int 2]) (hO : mg "NoOrder" = some (.ref cO)) (xO : PySem.W.excIn K cO bmV "ValueError.__new__" = true) :
    FnOk P w K mg base (CX1 P w) 1 f fd ["order"] (spThreeX K cO) := by
  refine F.okX (k := 0) (N := ["order"]) ⟨rfl, rfl, rfl, by decide +kernel, rfl, by decide +kernel, by decide +kernel⟩ (fun vs H Q E h => ?_) (fun cdv A outer s H vs Q E hr h => ?_)
  · obtain ⟨a, ns, rfl, _⟩ := h
    rfl
  obtain ⟨a, ns, rfl, hL, q, qe⟩ := h
  refine ⟨_, pss_one (ps_if (pt_cmpR op_ne (pe_callB (call_lenI (K := K)) rfl hlen PySem.boot_len (pa_cons (pv 0) pa_nil)) (pe_callB (call_lenT (K := K)) rfl hlen PySem.boot_len (pa_cons (pe_glob (v := .ref aR) rfl hR rfl) pa_nil)) (nomark _)) (pss_one (ps_raise PySem.F.excBase_ValueError hr.hd xO hO)) pss_nil), ?_⟩
  refine ⟨_, rfl, a, ns, rfl, hL, aR, _, rfl, tR H, rfl, _, rfl, ?_⟩
  by_cases c : ns.length = 3
  · refine iteNS (by rw [c]; rfl) ?_
    exact q c
  · have e : decide (V.int (ns.length : Nat) = V.int (([.int 0, .int 1, .int 2] : List V).length : Nat)) = false := decide_eq_false (fun h => by injection h with h; exact c (by have h' : ((ns.length : Nat) : Int) = ((3 : Nat) : Int) := h; omega))
    rw [e]
    exact iteT (qe c)
theorem atI_lastR {as : List Addr} {b : Addr} (h : as.getLast? = some b) : atI (as.map V.ref) (-1) = some (.ref b) := by
  obtain ⟨u, rfl⟩ := List.getLast?_eq_some_iff.mp h
  rw [List.map_append]
  exact atI_last _ _
theorem atI_refs {as : List Addr} {k : Nat} {b : Addr} {i : Int} (e : i = (k : Int)) (h : as[k]? = some b) : atI (as.map V.ref) i = some (.ref b) := atI_nat' e (by rw [List.getElem?_map, h]; rfl)
theorem paired_fst {α β : Type} {F : α → β → Prop} : ∀ {xs : List α} {ys : List β}, Paired F xs ys → ∀ {i : Nat} {y : β}, ys[i]? = some y → ∃ x, xs[i]? = some x ∧ F x y
  | _, _, .nil, i, x, h => by simp at h
  | _, _, .cons (a := a) (b := b) hb r, 0, y, h => ⟨a, rfl, (Option.some.inj h : b = y) ▸ hb⟩
  | _, _, .cons hb r, i + 1, y, h => by
    obtain ⟨x, hx, hf⟩ := paired_fst r (i := i) (by simpa using h)
    exact ⟨x, by simpa using hx, hf⟩
theorem wtab_at {m n i : Nat} (h : i < n) : (wtab m n)[i]? = some (wrow m i) := by
  unfold wtab
  rw [List.getElem?_map, List.getElem?_range h]; rfl
theorem wrow_len (m n : Nat) : (wrow m n).length = m := by unfold wrow; rw [List.length_map, List.length_range]
theorem wtab_succ (m n : Nat) : wtab m (n + 1) = wtab m n ++ [wrow m n] := by
  unfold wtab
  rw [List.range_succ, List.map_append]; rfl
theorem wrow_at {m n v : Nat} (h : v < m) : vAt (wrow m n) v = ((ways n v : Nat) : Int) := by
  refine vAt_of ?_
  unfold wrow
  rw [List.getElem?_map, List.getElem?_range h]; rfl
theorem wrow_zero (m : Nat) : wrow m 0 = List.replicate m 1 := by
  unfold wrow
  rw [List.eq_replicate_iff]
  refine ⟨by simp, fun x hx => ?_⟩
  obtain ⟨v, _, rfl⟩ := List.mem_map.mp hx
  rfl
theorem okc_ways : CompOk (defScope sWaysOn) ["size", "ways", "left"] "last" ["left", "ways"] [2, 1] (scE (retE (subS (subS sWaysOn 1) 0))) := ⟨rfl, by decide +kernel, by decide +kernel, by decide +kernel, by decide +kernel, by decide +kernel, by decide +kernel, by decide +kernel⟩
theorem ok_ways (F : Fun K "ways_on" "ways_on" sWaysOn f fd) (hrange : mg "range" = none) (hsum : mg "sum" = none) (hmin : mg "min" = none) : FnOk P w K mg base CX0 1 f fd ["size"] (spWays K) := by
  have S : FnScope ["size", "ways", "left"] ["size"] (defScope sWaysOn) := ⟨rfl, rfl, rfl, by decide +kernel, rfl, by decide +kernel, by decide +kernel⟩
  refine F.ok (k := 0) S (fun vs H Q E h => ?_) (fun cdv A outer s H vs Q E hr h => ?_)
  · obtain ⟨m, rfl, _⟩ := h
    rfl
  obtain ⟨m, rfl, h1, h20, q⟩ := h
  refine ⟨_, pss_cons (ps_set (i := 1) S.nd rfl (Or.inr rfl) (pe_lst (pa_cons (pe_op op_rep (pe_lst (pa_cons pe_int pa_nil)) (pv 0)) pa_nil)))
    (pss_cons (ps_for PassesOwn.never rfl (pi_range2 rfl hrange (pa_cons pe_int (pa_cons (pe_op op_add (pv 0) pe_int) pa_nil))) (pg_name (i := 2) S.nd rfl (Or.inr rfl))
      (pss_one (ps_expr (pe_bmK (K := K) PySem.F.plainAttrs_list PySem.F.slot_list_append PySem.F.type_list_append mt_append (pv 1) (pa_cons (pe_comp (x := "last") (F := ["left", "ways"]) (is := [2, 1]) okc_ways rfl (pi_range1 rfl hrange (pa_cons (pv 0) pa_nil)) (fun _ _ _ _ _ => pts_nil)
        (fun _ _ _ _ _ => pe_callB (call_sumI (K := K) rfl) rfl hsum PyProof.Rows.boot_sum (pa_cons (pe_slice (sl_listK (K := K)) (pe_ix (ix_listK (K := K)) (pv 2) (pe_un un_neg pe_int) (fun _ _ => rfl)) po_none
          (po_some (pe_callB (call_min2 rfl) rfl hmin PyProof.Rows.boot_min (pa_cons (pe_op op_add (pv 0) pe_int) (pa_cons (pv 1) pa_nil))))) pa_nil))) pa_nil)))))
    (pss_one (ps_ret (pv 1)))), ?_⟩
  refine ⟨(by show 1 ≤ sizeLine; decide), fun r1 n1 => ?_⟩
  have f1 := same_new n1 (.lst [V.int 1])
  refine ⟨_, rfl, r1, _, _, rfl, rfl, upd_same, by omega, by omega, ?_, fun r2 n2 => ?_⟩
  · rw [Int.toNat_natCast]
    show 1 * m ≤ sizeLine
    rw [Nat.one_mul]; exact Nat.le_of_lt (small1000 (by omega))
  rw [Int.toNat_natCast]
  have e0 : (List.replicate m [V.int 1]).flatten = (wrow m 0).map V.int := by
    rw [wrow_zero]
    induction m with
    | zero => rfl
    | succ n ih =>
      clear ih
      simp
  rw [e0]
  have f2 := same_new n2 (.lst ((wrow m 0).map V.int))
  refine ⟨(by show 1 ≤ sizeLine; decide), fun rw0 nw0 => ?_⟩
  have f3 := same_new nw0 (.lst [V.ref r2])
  have f12 := f1.trans f2
  have f13 := f12.trans f3
  have nw : H rw0 = none := f12.free nw0
  refine ⟨_, rfl, _, _, rfl, rfl, _, _, rfl, ⟨by omega, by omega, by omega, by omega⟩, ?_⟩
  have en : ((m : Int) + 1 - 1).toNat = m := by omega
  rw [en]
  refine for_range (n := m) (fun i σ' H' => ∃ t2 as, σ' = [some (.int (m : Int)), some (.ref rw0), t2] ∧ Same H H' ∧ H' rw0 = some (.lst (as.map V.ref)) ∧ Paired (fun b t => H b = none ∧ b ≠ rw0 ∧ H' b = some (.lst (t.map V.int))) as (wtab m (i + 1)))
    ⟨none, [r2], rfl, f13, upd_same, .cons ⟨f1.free n2, ne_of_none upd_same nw0, f3 _ _ upd_same⟩ .nil⟩ (fun i σ' H' hi h => ?_) (fun σ' H' h => ?_)
  · obtain ⟨t2, as, rfl, gH, ew, hP⟩ := h
    obtain ⟨b, hb, nb, hbw, eb⟩ := paired_fst hP (wtab_at (m := m) (n := i + 1) (i := i) (by omega))
    have hlen : as.length = i + 1 := by have := Paired.length hP; unfold wtab at this; simpa using this
    have hlast : as.getLast? = some b := by rw [List.getLast?_eq_getElem?, hlen]; exact hb
    refine ⟨_, rfl, .inl ⟨rfl, _, SqL.of ew⟩, _, rfl, _, rfl, by omega, by omega, ?_⟩
    rw [Int.toNat_natCast]
    refine comp_enc (List.range' 0 m) nv (fun v => .int ((ways (i + 1) v : Nat) : Int)) (fun _ => true) (by rw [List.length_range']; exact small1000 (by omega)) over_from (fun v hv H2 hS N hN => hN H2 (Same.refl _)) (fun v hv _ H2 hS N hN => ?_) (fun l H2 hS hl => ?_)
    · have hv' := List.mem_range'_1.mp hv
      refine ⟨_, rfl, _, rfl, rw0, _, _, _, rfl, rfl, SqL.of (hS _ _ ew), atI_lastR hlast, _, rfl, _, _, rfl, rfl, _, rfl, _, _, rfl, _, rfl, b, _, rfl, LI.of (hS _ _ eb), fun rc nc => ?_⟩
      have ek : (if (1 : Int) + (i : Int) < (v : Int) + 1 then (1 : Int) + (i : Int) else (v : Int) + 1) = ((min (v + 1) (i + 1) : Nat) : Int) := by
        split <;> omega
      rw [ek, cut_to, ← List.map_take]
      refine ⟨rc, _, rfl, LI.of upd_same, ?_⟩
      unfold wrow
      rw [wsum (by omega), ← ways_succ]
      exact hN _ (same_new nc _)
    · rw [all_true, ← List.range_eq_range']
      have e : ((List.range m).map fun v => V.int ((ways (i + 1) v : Nat) : Int)) = (wrow m (i + 1)).map V.int := by
        unfold wrow
        rw [List.map_map]; rfl
      rw [e]
      have f5 := same_new hl (.lst ((wrow m (i + 1)).map V.int))
      have g25 := hS.trans f5
      have hlw : l ≠ rw0 := fun e => by rw [e, hS _ _ ew] at hl; cases hl
      refine ⟨rw0, _, _, rfl, rfl, g25 _ _ ew, by rw [List.length_map]; exact small1000 (by omega), ?_⟩
      refine ⟨_, as ++ [l], rfl, same_set (gH.trans g25) nw, by rw [upd_same, List.map_append]; rfl, ?_⟩
      rw [wtab_succ]
      refine Paired.snoc (Paired.mapP hP fun c t h => ⟨h.1, h.2.1, ?_⟩) ⟨(gH.trans hS).free hl, hlw, ?_⟩
      · rw [upd_ne h.2.1]; exact g25 _ _ h.2.2
      · rw [upd_ne hlw, upd_same]
  · obtain ⟨t2, as, rfl, gH, ew, hP⟩ := h
    exact ⟨_, rfl, q rw0 as H' gH nw ew (Paired.mapP hP fun b t h => ⟨h.1, h.2.2⟩)⟩
theorem ok_manywithout (F : Fun K "many_without" "many_without" sManyWithout f fd) (G : FnOk P w K mg base CX0 1 g gd ["size"] (spWays K)) (bG : Binds K gd ["size"] []) (kG : PySem.W.keepIn K (.ref g) = true) (mG : mg "ways_on" = some (.ref g))
    (Z : FnOk P w K mg base (CX1 P w) 1 g2 gd2 ["size"] (spSizeX cZ)) (bZ : Binds K gd2 ["size"] []) (kZ : PySem.W.keepIn K (.ref g2) = true) (mZ : mg "check_size" = some (.ref g2)) : FnOk P w K mg base (CX1 P w) 2 f fd ["size"] (spManyWithout cZ) := by
  refine F.okX (k := 1) (N := ["size"]) ⟨rfl, rfl, rfl, by decide +kernel, rfl, by decide +kernel, by decide +kernel⟩ (fun vs H Q E h => ?_) (fun cdv A outer s H vs Q E hr h => ?_)
  · obtain ⟨n, rfl, _⟩ := h
    rfl
  obtain ⟨n, rfl, q, qe⟩ := h
  refine ⟨_, pss_cons (ps_expr (pe_call Z hr rfl mZ kZ bZ .nil pass1 (pa_cons (pv 0) pa_nil)))
    (pss_one (ps_ret (pe_ix (ix_listK (K := K)) (pe_ix (ix_listK (K := K)) (pe_call G hr rfl mG kG bG .nil pass0 (pa_cons (pv 0) pa_nil)) (pv 0) (fun _ _ => rfl)) (pe_op op_sub (pv 0) pe_int) (fun _ _ => rfl)))), ?_⟩
  refine ⟨_, rfl, n, rfl, fun hn => ?_, fun hn => qe hn H (Same.refl H)⟩
  obtain ⟨m, rfl⟩ : ∃ m : Nat, n = (m : Int) := ⟨n.toNat, by omega⟩
  refine ⟨_, rfl, m, rfl, by omega, by omega, fun rt as H1 g1 nt et hP => ?_⟩
  obtain ⟨b, hb, _, eb⟩ := paired_fst hP (wtab_at (m := m) (n := m + 1) (i := m) (by omega))
  refine ⟨_, rfl, rt, _, _, _, rfl, rfl, SqL.of et, atI_refs (k := m) rfl hb, _, rfl, _, _, rfl, rfl, b, _, _, _, rfl, rfl, LI.of eb, atI_ints (by omega) (by rw [wrow_len]; omega), ?_⟩
  have e : (wrow m m).getD ((m : Int) - 1).toNat 0 = ((ways m (m - 1) : Nat) : Int) := by
    rw [show ((m : Int) - 1).toNat = m - 1 by omega]
    exact wrow_at (by omega)
  rw [e]
  exact q hn H1 g1
/-- checks go one behind the other; nothing changes -/
theorem ok_without (F : Fun K "check_without" "check_without" sCheckWithout f fd) (Z : FnOk P w K mg base (CX1 P w) 8 g2 gd2 ["size"] (spSizeX cZ)) (bZ : Binds K gd2 ["size"] []) (kZ : PySem.W.keepIn K (.ref g2) = true) (mZ : mg "check_size" = some (.ref g2))
    (G : FnOk P w K mg base CX0 8 g gd ["row", "order"] (spFirst K)) (bG : Binds K gd ["row", "order"] []) (kG : PySem.W.keepIn K (.ref g) = true) (mG : mg "first" = some (.ref g))
    (hlen : mg "len" = none) (hH : mg "HasOrder" = some (.ref cH)) (xH : PySem.W.excIn K cH bmV "ValueError.__new__" = true) : FnOk P w K mg base (CX1 P w) 9 f fd ["shape", "order"] (spWithout K cZ cH) := by
  refine F.okX (k := 8) (N := ["shape", "order"]) ⟨rfl, rfl, rfl, by decide +kernel, rfl, by decide +kernel, by decide +kernel⟩ (fun vs H Q E h => ?_) (fun cdv A outer s H vs Q E hr h => ?_)
  · obtain ⟨a, b, S, o, rfl, _⟩ := h
    rfl
  obtain ⟨a, b, S, o, rfl, hL, hO, hS, ho, h3, qz, qh, q⟩ := h
  refine ⟨_, pss_cons (ps_expr (pe_call Z hr rfl mZ kZ bZ .nil pass1 (pa_cons (pe_callB (call_lenI (K := K)) rfl hlen PySem.boot_len (pa_cons (pv 0) pa_nil)) pa_nil)))
    (pss_one (ps_if (pt_cmpR op_notN (pe_call G hr rfl mG kG bG .nil pass0 (pa_cons (pv 0) (pa_cons (pv 1) pa_nil))) pe_non (nomark _)) (pss_one (ps_raise PySem.F.excBase_ValueError hr.hd xH hH)) pss_nil)), ?_⟩
  refine ⟨_, rfl, a, S, rfl, hL, _, rfl, fun hz => ?_, fun hz => qz (by omega) H (Same.refl H)⟩
  have ec : ∀ d, firstF S o o.length [] = d → (d = none ↔ cnt S o = 0) := fun d hd => by
    rw [firstF_head, allF_all hS.2.nodup ho] at hd
    rw [← hd, List.head?_eq_none_iff]
    unfold cnt
    rw [List.length_eq_zero_iff]
  refine ⟨_, rfl, _, rfl, a, b, S, o, rfl, hL, hO, hS.2.nodup, hS.1, ho, by omega, by omega, fun u hu r H1 g1 hT => ?_, fun hu H1 g1 => ?_⟩
  · refine ⟨rfl, _, rfl, iteT ?_⟩
    exact qh (by omega) (fun e => by have := (ec _ hu).mpr e; cases this) H1 g1
  · refine ⟨rfl, _, rfl, iteF ?_⟩
    exact q (by omega) ((ec _ hu).mp rfl) H1 g1
def spBelow (cN : Addr) : Sp := fun vs H Q E => ∃ n : Int, vs = [.int n] ∧ (0 ≤ n → Q .non H) ∧ (n < 0 → E (.ref cN) none H)
theorem ok_below (F : Fun K "check_not_below_nought" "check_not_below_nought" sBelow f fd) (hN : mg "NoNumber" = some (.ref cN)) (xN : PySem.W.excIn K cN bmV "ValueError.__new__" = true) : FnOk P w K mg base (CX1 P w) 1 f fd ["number"] (spBelow cN) := by
  refine F.okX (k := 0) (N := ["number"]) ⟨rfl, rfl, rfl, by decide +kernel, rfl, by decide +kernel, by decide +kernel⟩ (fun vs H Q E h => ?_) (fun cdv A outer s H vs Q E hr h => ?_)
  · obtain ⟨n, rfl, _⟩ := h
    rfl
  obtain ⟨n, rfl, q, qe⟩ := h
  refine ⟨_, pss_one (ps_if (pt_cmpR op_lt (pv 0) pe_int (nomark _)) (pss_one (ps_raise PySem.F.excBase_ValueError hr.hd xN hN)) pss_nil), ?_⟩
  refine ⟨_, rfl, _, _, rfl, rfl, _, rfl, ?_⟩
  by_cases c : n < 0
  · rw [decide_eq_true c]; exact iteT (qe c)
  · rw [decide_eq_false c]; exact iteF (q (by omega))
/-! ### what is refused, and with which class -/
def spBadOne (K : PySem.W.Frag) (cS : Addr) : Sp := fun vs H Q E => ∃ (a : Addr) (ns : List Int), vs = [.ref a] ∧ LI K H a ns ∧ ns.length ≤ 60 ∧ ¬ OkS ns ∧ ∀ H', Same H H' → E (.ref cS) none H'
def spBadRow (K : PySem.W.Frag) (cR : Addr) : Sp := fun vs H Q E => ∃ (a : Addr) (ns : List Int), vs = [.ref a] ∧ LI K H a ns ∧ ns.length ≤ 60 ∧ ¬ Good ns ∧ ∀ H', Same H H' → E (.ref cR) none H'
def Len4 (o : List Int) : Prop := 1 ≤ o.length ∧ o.length ≤ 4
def spCheckOrderX (K : PySem.W.Frag) (cS cO : Addr) : Sp := fun vs H Q E => ∃ (a : Addr) (ns : List Int), vs = [.ref a] ∧ LI K H a ns ∧ ns.length ≤ 60 ∧ (OkS ns → Len4 ns → ∀ H', Same H H' → Q .non H') ∧ (¬ OkS ns → ∀ H', Same H H' → E (.ref cS) none H') ∧ (OkS ns → ¬ Len4 ns → ∀ H', Same H H' → E (.ref cO) none H')
/-- why a row and an order are refused -/
def Cause2 (tl : Bool) (cR cS cO cT : Addr) (row o : List Int) (c : Addr) : Prop := (¬ Good row ∧ c = cR) ∨ (Good row ∧ ¬ OkS o ∧ c = cS) ∨ (Good row ∧ OkS o ∧ ¬ Len4 o ∧ c = cO) ∨ (tl = true ∧ Good row ∧ OkS o ∧ Len4 o ∧ 12 < row.length ∧ c = cT)
def spBad2 (K : PySem.W.Frag) (tl : Bool) (cR cS cO cT : Addr) : Sp := fun vs H Q E => ∃ (a b : Addr) (row o : List Int) (c : Addr), vs = [.ref a, .ref b] ∧ LI K H a row ∧ LI K H b o ∧ row.length ≤ 60 ∧ o.length ≤ 60 ∧ Cause2 tl cR cS cO cT row o c ∧ ∀ H', Same H H' → E (.ref c) none H'
def Size (m : Int) : Prop := 1 ≤ m ∧ m ≤ 20
def CauseW (cS cO cZ cN : Addr) (m : Int) (o : List Int) (n : Int) (c : Addr) : Prop := (¬ OkS o ∧ c = cS) ∨ (OkS o ∧ o.length ≠ 3 ∧ c = cO) ∨ (OkS o ∧ o.length = 3 ∧ ¬ Size m ∧ c = cZ) ∨ (OkS o ∧ o.length = 3 ∧ Size m ∧ ¬ (0 ≤ n ∧ n < (ways m.toNat (m.toNat - 1) : Nat)) ∧ c = cN)
def spBadW (K : PySem.W.Frag) (cS cO cZ cN : Addr) : Sp := fun vs H Q E => ∃ (b : Addr) (o : List Int) (m n : Int) (c : Addr), vs = [.int m, .ref b, .int n] ∧ LI K H b o ∧ o.length ≤ 60 ∧ CauseW cS cO cZ cN m o n c ∧ ∀ H', Same H H' → E (.ref c) none H'
def CauseN (cS cO cZ cH : Addr) (S o : List Int) (c : Addr) : Prop := (¬ (OkS S ∧ OkS o) ∧ c = cS) ∨ (OkS S ∧ OkS o ∧ o.length ≠ 3 ∧ c = cO) ∨ (OkS S ∧ OkS o ∧ o.length = 3 ∧ ¬ (1 ≤ S.length ∧ S.length ≤ 20) ∧ c = cZ) ∨ (OkS S ∧ OkS o ∧ o.length = 3 ∧ (1 ≤ S.length ∧ S.length ≤ 20) ∧ cnt S o ≠ 0 ∧ c = cH)
def spBadN (K : PySem.W.Frag) (cS cO cZ cH : Addr) : Sp := fun vs H Q E => ∃ (a b : Addr) (S o : List Int) (c : Addr), vs = [.ref a, .ref b] ∧ LI K H a S ∧ LI K H b o ∧ S.length ≤ 60 ∧ o.length ≤ 60 ∧ CauseN cS cO cZ cH S o c ∧ ∀ H', Same H H' → E (.ref c) none H'
def CauseL (cS cO cZ cH : Addr) (S o p : List Int) (c : Addr) : Prop := (¬ (OkS S ∧ OkS o ∧ OkS p) ∧ c = cS) ∨ (OkS S ∧ OkS o ∧ OkS p ∧ ¬ (o.length = 3 ∧ p.length = 3) ∧ c = cO) ∨ (OkS p ∧ p.length = 3 ∧ OkS S ∧ OkS o ∧ o.length = 3 ∧ ¬ (1 ≤ S.length ∧ S.length ≤ 20) ∧ c = cZ) ∨
  (OkS p ∧ p.length = 3 ∧ OkS S ∧ OkS o ∧ o.length = 3 ∧ (1 ≤ S.length ∧ S.length ≤ 20) ∧ cnt S o ≠ 0 ∧ c = cH)
def spBadL (K : PySem.W.Frag) (cS cO cZ cH : Addr) : Sp := fun vs H Q E => ∃ (a b d : Addr) (S o p : List Int) (c : Addr), vs = [.ref a, .ref b, .ref d] ∧ LI K H a S ∧ LI K H b o ∧ LI K H d p ∧ S.length ≤ 60 ∧ o.length ≤ 60 ∧ p.length ≤ 60 ∧ CauseL cS cO cZ cH S o p c ∧ ∀ H', Same H H' → E (.ref c) none H'
def spBadM (cZ cN : Addr) : Sp := fun vs H Q E => ∃ (m p : Int) (c : Addr), vs = [.int m, .int p] ∧ ((¬ Size m ∧ c = cZ) ∨ (Size m ∧ p < 0 ∧ c = cN)) ∧ ∀ H', Same H H' → E (.ref c) none H'
theorem bad_backward (F : Fun K "backward" "backward" sBackward f fd) (C : FnOk P w K mg base (CX1 P w) 2 g1 gd1 ["shape"] (spCheckShapeX K cS)) (bC : Binds K gd1 ["shape"] []) (kC : PySem.W.keepIn K (.ref g1) = true) (mC : mg "check_shape" = some (.ref g1)) : FnOk P w K mg base (CX1 P w) 3 f fd ["shape"] (spBadOne K cS) := by
  refine F.okX (k := 2) (N := ["shape"]) ⟨rfl, rfl, rfl, by decide +kernel, rfl, by decide +kernel, by decide +kernel⟩ (fun vs H Q E h => ?_) (fun cdv A outer s H vs Q E hr h => ?_)
  · obtain ⟨a, ns, rfl, _⟩ := h
    rfl
  obtain ⟨a, ns, rfl, hL, h60, hbad, q⟩ := h
  exact ⟨_, pss_cons (ps_expr (pe_call C hr rfl mC kC bC .nil pass1 (pa_cons (pv 0) pa_nil))) pss_never, _, rfl, a, ns, rfl, hL, h60, fun h => absurd h hbad, fun _ H1 g1 => q H1 g1⟩
theorem bad_contrary (F : Fun K "contrary" "contrary" sContrary f fd) (C : FnOk P w K mg base (CX1 P w) 2 g1 gd1 ["shape"] (spCheckShapeX K cS)) (bC : Binds K gd1 ["shape"] []) (kC : PySem.W.keepIn K (.ref g1) = true) (mC : mg "check_shape" = some (.ref g1)) : FnOk P w K mg base (CX1 P w) 3 f fd ["shape"] (spBadOne K cS) := by
  refine F.okX (k := 2) (N := ["shape"]) ⟨rfl, rfl, rfl, by decide +kernel, rfl, by decide +kernel, by decide +kernel⟩ (fun vs H Q E h => ?_) (fun cdv A outer s H vs Q E hr h => ?_)
  · obtain ⟨a, ns, rfl, _⟩ := h
    rfl
  obtain ⟨a, ns, rfl, hL, h60, hbad, q⟩ := h
  exact ⟨_, pss_cons (ps_expr (pe_call C hr rfl mC kC bC .nil pass1 (pa_cons (pv 0) pa_nil))) pss_never, _, rfl, a, ns, rfl, hL, h60, fun h => absurd h hbad, fun _ H1 g1 => q H1 g1⟩
theorem bad_turned_over (F : Fun K "turned_over" "turned_over" sTurned f fd) (C : FnOk P w K mg base (CX1 P w) 2 g1 gd1 ["shape"] (spCheckShapeX K cS)) (bC : Binds K gd1 ["shape"] []) (kC : PySem.W.keepIn K (.ref g1) = true) (mC : mg "check_shape" = some (.ref g1)) : FnOk P w K mg base (CX1 P w) 3 f fd ["shape"] (spBadOne K cS) := by
  refine F.okX (k := 2) (N := ["shape"]) ⟨rfl, rfl, rfl, by decide +kernel, rfl, by decide +kernel, by decide +kernel⟩ (fun vs H Q E h => ?_) (fun cdv A outer s H vs Q E hr h => ?_)
  · obtain ⟨a, ns, rfl, _⟩ := h
    rfl
  obtain ⟨a, ns, rfl, hL, h60, hbad, q⟩ := h
  exact ⟨_, pss_cons (ps_expr (pe_call C hr rfl mC kC bC .nil pass1 (pa_cons (pv 0) pa_nil))) pss_never, _, rfl, a, ns, rfl, hL, h60, fun h => absurd h hbad, fun _ H1 g1 => q H1 g1⟩
theorem bad_falls (F : Fun K "falls" "falls" sFalls f fd) (C : FnOk P w K mg base (CX1 P w) 2 g1 gd1 ["shape"] (spCheckShapeX K cS)) (bC : Binds K gd1 ["shape"] []) (kC : PySem.W.keepIn K (.ref g1) = true) (mC : mg "check_shape" = some (.ref g1)) : FnOk P w K mg base (CX1 P w) 3 f fd ["shape"] (spBadOne K cS) := by
  refine F.okX (k := 2) (N := ["shape"]) ⟨rfl, rfl, rfl, by decide +kernel, rfl, by decide +kernel, by decide +kernel⟩ (fun vs H Q E h => ?_) (fun cdv A outer s H vs Q E hr h => ?_)
  · obtain ⟨a, ns, rfl, _⟩ := h
    rfl
  obtain ⟨a, ns, rfl, hL, h60, hbad, q⟩ := h
  exact ⟨_, pss_cons (ps_expr (pe_call C hr rfl mC kC bC .nil pass1 (pa_cons (pv 0) pa_nil))) pss_never, _, rfl, a, ns, rfl, hL, h60, fun h => absurd h hbad, fun _ H1 g1 => q H1 g1⟩
theorem bad_wrong_pairs (F : Fun K "wrong_pairs" "wrong_pairs" sWrong f fd) (C : FnOk P w K mg base (CX1 P w) 2 g1 gd1 ["shape"] (spCheckShapeX K cS)) (bC : Binds K gd1 ["shape"] []) (kC : PySem.W.keepIn K (.ref g1) = true) (mC : mg "check_shape" = some (.ref g1)) : FnOk P w K mg base (CX1 P w) 3 f fd ["shape"] (spBadOne K cS) := by
  refine F.okX (k := 2) (N := ["shape"]) ⟨rfl, rfl, rfl, by decide +kernel, rfl, by decide +kernel, by decide +kernel⟩ (fun vs H Q E h => ?_) (fun cdv A outer s H vs Q E hr h => ?_)
  · obtain ⟨a, ns, rfl, _⟩ := h
    rfl
  obtain ⟨a, ns, rfl, hL, h60, hbad, q⟩ := h
  exact ⟨_, pss_cons (ps_expr (pe_call C hr rfl mC kC bC .nil pass1 (pa_cons (pv 0) pa_nil))) pss_never, _, rfl, a, ns, rfl, hL, h60, fun h => absurd h hbad, fun _ H1 g1 => q H1 g1⟩
theorem bad_fall_sum (F : Fun K "fall_sum" "fall_sum" sFallSum f fd) (C : FnOk P w K mg base (CX1 P w) 2 g1 gd1 ["shape"] (spCheckShapeX K cS)) (bC : Binds K gd1 ["shape"] []) (kC : PySem.W.keepIn K (.ref g1) = true) (mC : mg "check_shape" = some (.ref g1)) : FnOk P w K mg base (CX1 P w) 3 f fd ["shape"] (spBadOne K cS) := by
  refine F.okX (k := 2) (N := ["shape"]) ⟨rfl, rfl, rfl, by decide +kernel, rfl, by decide +kernel, by decide +kernel⟩ (fun vs H Q E h => ?_) (fun cdv A outer s H vs Q E hr h => ?_)
  · obtain ⟨a, ns, rfl, _⟩ := h
    rfl
  obtain ⟨a, ns, rfl, hL, h60, hbad, q⟩ := h
  exact ⟨_, pss_cons (ps_expr (pe_call C hr rfl mC kC bC .nil pass1 (pa_cons (pv 0) pa_nil))) pss_never, _, rfl, a, ns, rfl, hL, h60, fun h => absurd h hbad, fun _ H1 g1 => q H1 g1⟩
theorem bad_exchanged (F : Fun K "exchanged" "exchanged" sExchanged f fd) (C : FnOk P w K mg base (CX1 P w) 2 g1 gd1 ["shape"] (spCheckShapeX K cS)) (bC : Binds K gd1 ["shape"] []) (kC : PySem.W.keepIn K (.ref g1) = true) (mC : mg "check_shape" = some (.ref g1)) : FnOk P w K mg base (CX1 P w) 3 f fd ["shape"] (spBadOne K cS) := by
  refine F.okX (k := 2) (N := ["shape", "row", "number"]) ⟨rfl, rfl, rfl, by decide +kernel, rfl, by decide +kernel, by decide +kernel⟩ (fun vs H Q E h => ?_) (fun cdv A outer s H vs Q E hr h => ?_)
  · obtain ⟨a, ns, rfl, _⟩ := h
    rfl
  obtain ⟨a, ns, rfl, hL, h60, hbad, q⟩ := h
  exact ⟨_, pss_cons (ps_expr (pe_call C hr rfl mC kC bC .nil pass1 (pa_cons (pv 0) pa_nil))) pss_never, _, rfl, a, ns, rfl, hL, h60, fun h => absurd h hbad, fun _ H1 g1 => q H1 g1⟩
theorem bad_exchanged_back (F : Fun K "exchanged_back" "exchanged_back" sExBack f fd) (C : FnOk P w K mg base (CX1 P w) 2 g1 gd1 ["shape"] (spCheckShapeX K cS)) (bC : Binds K gd1 ["shape"] []) (kC : PySem.W.keepIn K (.ref g1) = true) (mC : mg "check_shape" = some (.ref g1)) : FnOk P w K mg base (CX1 P w) 3 f fd ["shape"] (spBadOne K cS) := by
  refine F.okX (k := 2) (N := ["shape", "row", "taken", "number"]) ⟨rfl, rfl, rfl, by decide +kernel, rfl, by decide +kernel, by decide +kernel⟩ (fun vs H Q E h => ?_) (fun cdv A outer s H vs Q E hr h => ?_)
  · obtain ⟨a, ns, rfl, _⟩ := h
    rfl
  obtain ⟨a, ns, rfl, hL, h60, hbad, q⟩ := h
  exact ⟨_, pss_cons (ps_expr (pe_call C hr rfl mC kC bC .nil pass1 (pa_cons (pv 0) pa_nil))) pss_never, _, rfl, a, ns, rfl, hL, h60, fun h => absurd h hbad, fun _ H1 g1 => q H1 g1⟩
theorem bad_shape_of (F : Fun K "shape_of" "shape_of" sShapeOf f fd) (R : FnOk P w K mg base (CX1 P w) 1 g2 gd2 ["row"] (spCheckRowX K cR)) (bR : Binds K gd2 ["row"] []) (kR : PySem.W.keepIn K (.ref g2) = true) (mR : mg "check_row" = some (.ref g2)) : FnOk P w K mg base (CX1 P w) 2 f fd ["row"] (spBadRow K cR) := by
  refine F.okX (k := 1) (N := ["row"]) ⟨rfl, rfl, rfl, by decide +kernel, rfl, by decide +kernel, by decide +kernel⟩ (fun vs H Q E h => ?_) (fun cdv A outer s H vs Q E hr h => ?_)
  · obtain ⟨a, ns, rfl, _⟩ := h
    rfl
  obtain ⟨a, ns, rfl, hL, h60, hbad, q⟩ := h
  exact ⟨_, pss_cons (ps_expr (pe_call R hr rfl mR kR bR .nil pass1 (pa_cons (pv 0) pa_nil))) pss_never, _, rfl, a, ns, rfl, hL, h60, fun h => absurd h hbad, fun _ H1 g1 => q H1 g1⟩
theorem ok_check_orderX (F : Fun K "check_order" "check_order" sCheckOrder f fd) (C : FnOk P w K mg base (CX1 P w) 2 g1 gd1 ["shape"] (spCheckShapeX K cS)) (bC : Binds K gd1 ["shape"] []) (kC : PySem.W.keepIn K (.ref g1) = true) (mC : mg "check_shape" = some (.ref g1)) (hlen : mg "len" = none) (hmost : mg "MOST_OF_ORDER" = some (.int 4 t4)) (hO : mg "NoOrder" = some (.ref cO)) (xO : PySem.W.excIn K cO bmV "ValueError.__new__" = true) : FnOk P w K mg base (CX1 P w) 3 f fd ["order"] (spCheckOrderX K cS cO) := by
  refine F.okX (k := 2) (N := ["order"]) ⟨rfl, rfl, rfl, by decide +kernel, rfl, by decide +kernel, by decide +kernel⟩ (fun vs H Q E h => ?_) (fun cdv A outer s H vs Q E hr h => ?_)
  · obtain ⟨a, ns, rfl, _⟩ := h
    rfl
  obtain ⟨a, ns, rfl, hL, h60, q, qs, qo⟩ := h
  refine ⟨_, pss_cons (ps_expr (pe_call C hr rfl mC kC bC .nil pass1 (pa_cons (pv 0) pa_nil)))
    (pss_one (ps_if (PW.pt (pw_or (pt_cmpR op_lt (pe_callB (call_lenI (K := K)) rfl hlen PySem.boot_len (pa_cons (pv 0) pa_nil)) pe_int (nomark _)) (pw_or1 (pt_cmpR op_gt (pe_callB (call_lenI (K := K)) rfl hlen PySem.boot_len (pa_cons (pv 0) pa_nil)) (pe_glob (v := .int 4) rfl hmost ⟨_, rfl⟩) (nomark _))))) (pss_one (ps_raise PySem.F.excBase_ValueError hr.hd xO hO)) pss_nil)), ?_⟩
  refine ⟨_, rfl, a, ns, rfl, hL, h60, fun ho H1 g1 => ?_, fun ho H1 g1 => qs ho H1 g1⟩
  refine ⟨_, rfl, a, ns, rfl, g1.seq hL, _, _, rfl, rfl, _, rfl, ?_⟩
  by_cases c : (((ns.length : Nat) : Int)) < 1
  · rw [decide_eq_true c]
    exact iteT (iteT (qo ho (fun h => by have := h.1; omega) H1 g1))
  · rw [decide_eq_false c]
    refine iteF ⟨_, rfl, a, ns, rfl, g1.seq hL, _, _, rfl, rfl, _, rfl, ?_⟩
    by_cases d : (4 : Int) < ((ns.length : Nat) : Int)
    · rw [decide_eq_true d]
      exact iteT (qo ho (fun h => by have := h.2; omega) H1 g1)
    · rw [decide_eq_false d]
      exact iteF (q ho ⟨by omega, by omega⟩ H1 g1)
theorem bad_where_all (F : Fun K "check_where_all" "check_where_all" sWhereAll f fd) (R : FnOk P w K mg base (CX1 P w) 3 g2 gd2 ["row"] (spCheckRowX K cR)) (bR : Binds K gd2 ["row"] []) (kR : PySem.W.keepIn K (.ref g2) = true) (mR : mg "check_row" = some (.ref g2)) (O : FnOk P w K mg base (CX1 P w) 3 g3 gd3 ["order"] (spCheckOrderX K cS cO)) (bO : Binds K gd3 ["order"] []) (kO : PySem.W.keepIn K (.ref g3) = true) (mO : mg "check_order" = some (.ref g3)) (hlen : mg "len" = none) (hmost : mg "MOST_WHERE_ALL" = some (.int 12 t12)) (hT : mg "TooLong" = some (.ref cT)) (xT : PySem.W.excIn K cT bmV "ValueError.__new__" = true) :
    FnOk P w K mg base (CX1 P w) 4 f fd ["row", "order"] (spBad2 K true cR cS cO cT) := by
  refine F.okX (k := 3) (N := ["row", "order"]) ⟨rfl, rfl, rfl, by decide +kernel, rfl, by decide +kernel, by decide +kernel⟩ (fun vs H Q E h => ?_) (fun cdv A outer s H vs Q E hr h => ?_)
  · obtain ⟨a, b, row, o, c, rfl, _⟩ := h
    rfl
  obtain ⟨a, b, row, o, c, rfl, hL, hO', h60, h61, hc, q⟩ := h
  refine ⟨_, pss_cons (ps_expr (pe_call R hr rfl mR kR bR .nil pass1 (pa_cons (pv 0) pa_nil))) (pss_cons (ps_expr (pe_call O hr rfl mO kO bO .nil pass1 (pa_cons (pv 1) pa_nil)))
    (pss_one (ps_if (pt_cmpR op_gt (pe_callB (call_lenI (K := K)) rfl hlen PySem.boot_len (pa_cons (pv 0) pa_nil)) (pe_glob (v := .int 12) rfl hmost ⟨_, rfl⟩) (nomark _)) (pss_one (ps_raise PySem.F.excBase_ValueError hr.hd xT hT)) pss_nil))), ?_⟩
  refine ⟨_, rfl, a, row, rfl, hL, h60, fun hg H1 g1 => ?_, fun hg H1 g1 => ?_⟩
  · refine ⟨_, rfl, b, o, rfl, g1.seq hO', h61, fun ho h4 H2 g2 => ?_, fun ho H2 g2 => ?_, fun ho h4 H2 g2 => ?_⟩
    · have hT2 : 12 < row.length ∧ c = cT := by
        rcases hc with h | h | h | h
        · exact absurd hg h.1
        · exact absurd ho h.2.1
        · exact absurd h4 h.2.2.1
        · exact h.2.2.2.2
      obtain ⟨h12, rfl⟩ := hT2
      refine ⟨_, rfl, a, row, rfl, (g1.trans g2).seq hL, _, _, rfl, rfl, _, rfl, ?_⟩
      rw [decide_eq_true (show (12 : Int) < ((row.length : Nat) : Int) by omega)]
      exact iteT (q _ (g1.trans g2))
    · have e : c = cS := by
        rcases hc with h | h | h | h
        · exact absurd hg h.1
        · exact h.2.2
        · exact absurd h.2.1 ho
        · exact absurd h.2.2.1 ho
      subst e; exact q _ (g1.trans g2)
    · have e : c = cO := by
        rcases hc with h | h | h | h
        · exact absurd hg h.1
        · exact absurd ho h.2.1
        · exact h.2.2.2
        · exact absurd h.2.2.2.1 h4
      subst e; exact q _ (g1.trans g2)
  · have e : c = cR := by
      rcases hc with h | h | h | h
      · exact h.2
      · exact absurd h.1 hg
      · exact absurd h.1 hg
      · exact absurd h.2.1 hg
    subst e; exact q _ g1
theorem bad_first (F : Fun K "first" "first" sFirst f fd) (R : FnOk P w K mg base (CX1 P w) 3 g2 gd2 ["row"] (spCheckRowX K cR)) (bR : Binds K gd2 ["row"] []) (kR : PySem.W.keepIn K (.ref g2) = true) (mR : mg "check_row" = some (.ref g2)) (O : FnOk P w K mg base (CX1 P w) 3 g3 gd3 ["order"] (spCheckOrderX K cS cO)) (bO : Binds K gd3 ["order"] []) (kO : PySem.W.keepIn K (.ref g3) = true) (mO : mg "check_order" = some (.ref g3)) : FnOk P w K mg base (CX1 P w) 4 f fd ["row", "order"] (spBad2 K false cR cS cO cT) := by
  refine F.okX (k := 3) (N := ["row", "order"]) ⟨rfl, rfl, rfl, by decide +kernel, rfl, by decide +kernel, by decide +kernel⟩ (fun vs H Q E h => ?_) (fun cdv A outer s H vs Q E hr h => ?_)
  · obtain ⟨a, b, row, o, c, rfl, _⟩ := h
    rfl
  obtain ⟨a, b, row, o, c, rfl, hL, hO', h60, h61, hc, q⟩ := h
  refine ⟨_, pss_cons (ps_expr (pe_call R hr rfl mR kR bR .nil pass1 (pa_cons (pv 0) pa_nil))) (pss_cons (ps_expr (pe_call O hr rfl mO kO bO .nil pass1 (pa_cons (pv 1) pa_nil))) pss_never), ?_⟩
  refine ⟨_, rfl, a, row, rfl, hL, h60, fun hg H1 g1 => ?_, fun hg H1 g1 => ?_⟩
  · refine ⟨_, rfl, b, o, rfl, g1.seq hO', h61, fun ho h4 H2 g2 => ?_, fun ho H2 g2 => ?_, fun ho h4 H2 g2 => ?_⟩
    · rcases hc with h | h | h | h
      · exact absurd hg h.1
      · exact absurd ho h.2.1
      · exact absurd h4 h.2.2.1
      · exact absurd h.1 Bool.false_ne_true
    · have e : c = cS := by
        rcases hc with h | h | h | h
        · exact absurd hg h.1
        · exact h.2.2
        · exact absurd h.2.1 ho
        · exact absurd h.2.2.1 ho
      subst e; exact q _ (g1.trans g2)
    · have e : c = cO := by
        rcases hc with h | h | h | h
        · exact absurd hg h.1
        · exact absurd ho h.2.1
        · exact h.2.2.2
        · exact absurd h.2.2.2.1 h4
      subst e; exact q _ (g1.trans g2)
  · have e : c = cR := by
      rcases hc with h | h | h | h
      · exact h.2
      · exact absurd h.1 hg
      · exact absurd h.1 hg
      · exact absurd h.2.1 hg
    subst e; exact q _ g1
theorem bad_places (F : Fun K "places" "places" sPlaces f fd) (W : FnOk P w K mg base (CX1 P w) 4 g4 gd4 ["row", "order"] (spBad2 K true cR cS cO cT)) (bW : Binds K gd4 ["row", "order"] []) (kW : PySem.W.keepIn K (.ref g4) = true) (mW : mg "check_where_all" = some (.ref g4)) : FnOk P w K mg base (CX1 P w) 5 f fd ["row", "order"] (spBad2 K true cR cS cO cT) := by
  refine F.okX (k := 4) (N := ["row", "order"]) ⟨rfl, rfl, rfl, by decide +kernel, rfl, by decide +kernel, by decide +kernel⟩ (fun vs H Q E h => ?_) (fun cdv A outer s H vs Q E hr h => ?_)
  · obtain ⟨a, b, row, o, c, rfl, _⟩ := h
    rfl
  obtain ⟨a, b, row, o, c, rfl, hL, hO', h60, h61, hc, q⟩ := h
  exact ⟨_, pss_cons (ps_expr (pe_call W hr rfl mW kW bW .nil pass1 (pa_cons (pv 0) (pa_cons (pv 1) pa_nil)))) pss_never, _, rfl, _, rfl, a, b, row, o, c, rfl, hL, hO', h60, h61, hc, q⟩
theorem bad_many (F : Fun K "many" "many" sMany f fd) (W : FnOk P w K mg base (CX1 P w) 4 g4 gd4 ["row", "order"] (spBad2 K true cR cS cO cT)) (bW : Binds K gd4 ["row", "order"] []) (kW : PySem.W.keepIn K (.ref g4) = true) (mW : mg "check_where_all" = some (.ref g4)) : FnOk P w K mg base (CX1 P w) 5 f fd ["row", "order"] (spBad2 K true cR cS cO cT) := by
  refine F.okX (k := 4) (N := ["row", "order"]) ⟨rfl, rfl, rfl, by decide +kernel, rfl, by decide +kernel, by decide +kernel⟩ (fun vs H Q E h => ?_) (fun cdv A outer s H vs Q E hr h => ?_)
  · obtain ⟨a, b, row, o, c, rfl, _⟩ := h
    rfl
  obtain ⟨a, b, row, o, c, rfl, hL, hO', h60, h61, hc, q⟩ := h
  exact ⟨_, pss_cons (ps_expr (pe_call W hr rfl mW kW bW .nil pass1 (pa_cons (pv 0) (pa_cons (pv 1) pa_nil)))) pss_never, _, rfl, _, rfl, a, b, row, o, c, rfl, hL, hO', h60, h61, hc, q⟩
theorem bad_without_at (F : Fun K "without_at" "without_at" sWithoutAt f fd) (C : FnOk P w K mg base (CX1 P w) 5 g1 gd1 ["shape"] (spCheckShapeX K cS)) (bC : Binds K gd1 ["shape"] []) (kC : PySem.W.keepIn K (.ref g1) = true) (mC : mg "check_shape" = some (.ref g1)) (T : FnOk P w K mg base (CX1 P w) 5 g2 gd2 ["order"] (spThreeX K cO)) (bT : Binds K gd2 ["order"] []) (kT : PySem.W.keepIn K (.ref g2) = true) (mT : mg "check_three" = some (.ref g2))
    (Z : FnOk P w K mg base (CX1 P w) 5 g3 gd3 ["size"] (spSizeX cZ)) (bZ : Binds K gd3 ["size"] []) (kZ : PySem.W.keepIn K (.ref g3) = true) (mZ : mg "check_size" = some (.ref g3))
    (M : FnOk P w K mg base (CX1 P w) 5 g4 gd4 ["size"] (spManyWithout cZ)) (bM : Binds K gd4 ["size"] []) (kM : PySem.W.keepIn K (.ref g4) = true) (mM : mg "many_without" = some (.ref g4))
    (hN : mg "NoNumber" = some (.ref cN)) (xN : PySem.W.excIn K cN bmV "ValueError.__new__" = true) : FnOk P w K mg base (CX1 P w) 6 f fd ["size", "order", "number"] (spBadW K cS cO cZ cN) := by
  refine F.okX (k := 5) (N := ["size", "order", "number"]) ⟨rfl, rfl, rfl, by decide +kernel, rfl, by decide +kernel, by decide +kernel⟩ (fun vs H Q E h => ?_) (fun cdv A outer s H vs Q E hr h => ?_)
  · obtain ⟨b, o, m, n, c, rfl, _⟩ := h
    rfl
  obtain ⟨b, o, m, n, c, rfl, hO, h60, hc, q⟩ := h
  refine ⟨_, pss_cons (ps_expr (pe_call C hr rfl mC kC bC .nil pass1 (pa_cons (pv 1) pa_nil)))
    (pss_cons (ps_expr (pe_call T hr rfl mT kT bT .nil pass1 (pa_cons (pv 1) pa_nil)))
    (pss_cons (ps_expr (pe_call Z hr rfl mZ kZ bZ .nil pass1 (pa_cons (pv 0) pa_nil)))
    (pss_cons (ps_if (PW.pt (pw_or (pt_cmpR op_lt (pv 2) pe_int (nomark _)) (pw_or1 (pt_cmpR op_ge (pv 2) (pe_call M hr rfl mM kM bM .nil pass10 (pa_cons (pv 0) pa_nil)) (nomark _))))) (pss_one (ps_raise PySem.F.excBase_ValueError hr.hd xN hN)) pss_nil)
    pss_never))), ?_⟩
  refine ⟨_, rfl, b, o, rfl, hO, h60, fun ho H1 g1 => ?_, fun ho H1 g1 => ?_⟩
  · refine ⟨_, rfl, b, o, rfl, g1.seq hO, fun h3 => ?_, fun h3 => ?_⟩
    · refine ⟨_, rfl, m, rfl, fun hm => ?_, fun hm => ?_⟩
      · have hN2 : ¬ (0 ≤ n ∧ n < (ways m.toNat (m.toNat - 1) : Nat)) ∧ c = cN := by
          rcases hc with h | h | h | h
          · exact absurd ho h.1
          · exact absurd h3 h.2.1
          · exact absurd hm h.2.2.1
          · exact h.2.2.2
        obtain ⟨hn, rfl⟩ := hN2
        refine ⟨_, rfl, _, _, rfl, rfl, _, rfl, ?_⟩
        by_cases c1 : n < 0
        · rw [decide_eq_true c1]
          exact iteT (iteT (q _ g1))
        · rw [decide_eq_false c1]
          refine iteF ⟨_, rfl, _, rfl, m, rfl, fun _ H2 g2 => ?_, fun hz => absurd hm hz⟩
          refine ⟨_, _, rfl, rfl, _, rfl, ?_⟩
          rw [decide_eq_true (show ((ways m.toNat (m.toNat - 1) : Nat) : Int) ≤ n by omega)]
          exact iteT (q _ (g1.trans g2))
      · have e : c = cZ := by
          rcases hc with h | h | h | h
          · exact absurd ho h.1
          · exact absurd h3 h.2.1
          · exact h.2.2.2
          · exact absurd h.2.2.1 hm
        subst e; exact q _ g1
    · have e : c = cO := by
        rcases hc with h | h | h | h
        · exact absurd ho h.1
        · exact h.2.2
        · exact absurd h.2.1 h3
        · exact absurd h.2.1 h3
      subst e; exact q _ g1
  · have e : c = cS := by
      rcases hc with h | h | h | h
      · exact h.2
      · exact absurd h.1 ho
      · exact absurd h.1 ho
      · exact absurd h.1 ho
    subst e; exact q _ g1
theorem bad_number_of (F : Fun K "number_of" "number_of" sNumberOf f fd) (C : FnOk P w K mg base (CX1 P w) 9 g1 gd1 ["shape"] (spCheckShapeX K cS)) (bC : Binds K gd1 ["shape"] []) (kC : PySem.W.keepIn K (.ref g1) = true) (mC : mg "check_shape" = some (.ref g1)) (T : FnOk P w K mg base (CX1 P w) 9 g2 gd2 ["order"] (spThreeX K cO)) (bT : Binds K gd2 ["order"] []) (kT : PySem.W.keepIn K (.ref g2) = true) (mT : mg "check_three" = some (.ref g2))
    (Z : FnOk P w K mg base (CX1 P w) 9 g3 gd3 ["shape", "order"] (spWithout K cZ cH)) (bZ : Binds K gd3 ["shape", "order"] []) (kZ : PySem.W.keepIn K (.ref g3) = true) (mZ : mg "check_without" = some (.ref g3)) : FnOk P w K mg base (CX1 P w) 10 f fd ["shape", "order"] (spBadN K cS cO cZ cH) := by
  refine F.okX (k := 9) (N := ["shape", "order"]) ⟨rfl, rfl, rfl, by decide +kernel, rfl, by decide +kernel, by decide +kernel⟩ (fun vs H Q E h => ?_) (fun cdv A outer s H vs Q E hr h => ?_)
  · obtain ⟨a, b, S, o, c, rfl, _⟩ := h
    rfl
  obtain ⟨a, b, S, o, c, rfl, hL, hO, h60, h61, hc, q⟩ := h
  refine ⟨_, pss_cons (ps_expr (pe_call C hr rfl mC kC bC .nil pass1 (pa_cons (pv 0) pa_nil)))
    (pss_cons (ps_expr (pe_call C hr rfl mC kC bC .nil pass1 (pa_cons (pv 1) pa_nil)))
    (pss_cons (ps_expr (pe_call T hr rfl mT kT bT .nil pass1 (pa_cons (pv 1) pa_nil)))
    (pss_cons (ps_expr (pe_call Z hr rfl mZ kZ bZ .nil pass1 (pa_cons (pv 0) (pa_cons (pv 1) pa_nil)))) pss_never))), ?_⟩
  have isS : ¬ (OkS S ∧ OkS o) → c = cS := fun hn => by
    rcases hc with h | h | h | h
    · exact h.2
    · exact absurd ⟨h.1, h.2.1⟩ hn
    · exact absurd ⟨h.1, h.2.1⟩ hn
    · exact absurd ⟨h.1, h.2.1⟩ hn
  refine ⟨_, rfl, a, S, rfl, hL, h60, fun hs H1 g1 => ?_, fun hs H1 g1 => ?_⟩
  · refine ⟨_, rfl, b, o, rfl, g1.seq hO, h61, fun ho H2 g2 => ?_, fun ho H2 g2 => ?_⟩
    · have g12 := g1.trans g2
      refine ⟨_, rfl, b, o, rfl, g12.seq hO, fun h3 => ?_, fun h3 => ?_⟩
      · refine ⟨_, rfl, _, rfl, a, b, S, o, rfl, g12.seq hL, g12.seq hO, hs, ho.2, h3, fun hz H3 g3 => ?_, fun hz hn H3 g3 => ?_, fun hz hn H3 g3 => ?_⟩
        · have e : c = cZ := by
            rcases hc with h | h | h | h
            · exact absurd ⟨hs, ho⟩ h.1
            · exact absurd h3 h.2.2.1
            · exact h.2.2.2.2
            · exact absurd h.2.2.2.1 hz
          subst e; exact q _ (g12.trans g3)
        · have e : c = cH := by
            rcases hc with h | h | h | h
            · exact absurd ⟨hs, ho⟩ h.1
            · exact absurd h3 h.2.2.1
            · exact absurd hz h.2.2.2.1
            · exact h.2.2.2.2.2
          subst e; exact q _ (g12.trans g3)
        · rcases hc with h | h | h | h
          · exact absurd ⟨hs, ho⟩ h.1
          · exact absurd h3 h.2.2.1
          · exact absurd hz h.2.2.2.1
          · exact absurd hn h.2.2.2.2.1
      · have e : c = cO := by
          rcases hc with h | h | h | h
          · exact absurd ⟨hs, ho⟩ h.1
          · exact h.2.2.2
          · exact absurd h.2.2.1 h3
          · exact absurd h.2.2.1 h3
        subst e; exact q _ g12
    · have e := isS (fun h => ho h.2)
      subst e; exact q _ (g1.trans g2)
  · have e := isS (fun h => hs h.1)
    subst e; exact q _ g1
theorem bad_led (F : Fun K "led" "led" sLed f fd) (C : FnOk P w K mg base (CX1 P w) 10 g1 gd1 ["shape"] (spCheckShapeX K cS)) (bC : Binds K gd1 ["shape"] []) (kC : PySem.W.keepIn K (.ref g1) = true) (mC : mg "check_shape" = some (.ref g1)) (T : FnOk P w K mg base (CX1 P w) 10 g2 gd2 ["order"] (spThreeX K cO)) (bT : Binds K gd2 ["order"] []) (kT : PySem.W.keepIn K (.ref g2) = true) (mT : mg "check_three" = some (.ref g2))
    (N : FnOk P w K mg base (CX1 P w) 10 g3 gd3 ["shape", "order"] (spBadN K cS cO cZ cH)) (bN : Binds K gd3 ["shape", "order"] []) (kN : PySem.W.keepIn K (.ref g3) = true) (mN : mg "number_of" = some (.ref g3))
    (W : FnOk P w K mg base (CX1 P w) 10 g gd ["size", "order", "number"] (spBadW K cS cO cZ cN)) (bW : Binds K gd ["size", "order", "number"] []) (kW : PySem.W.keepIn K (.ref g) = true) (mW : mg "without_at" = some (.ref g)) (hlen : mg "len" = none) :
    FnOk P w K mg base (CX1 P w) 11 f fd ["shape", "order", "other"] (spBadL K cS cO cZ cH) := by
  refine F.okX (k := 10) (N := ["shape", "order", "other"]) ⟨rfl, rfl, rfl, by decide +kernel, rfl, by decide +kernel, by decide +kernel⟩ (fun vs H Q E h => ?_) (fun cdv A outer s H vs Q E hr h => ?_)
  · obtain ⟨a, b, d, S, o, p, c, rfl, _⟩ := h
    rfl
  obtain ⟨a, b, d, S, o, p, c, rfl, hL, hO, hP, h60, h61, h62, hc, q⟩ := h
  refine ⟨_, pss_cons (ps_expr (pe_call C hr rfl mC kC bC .nil pass1 (pa_cons (pv 0) pa_nil)))
    (pss_cons (ps_expr (pe_call C hr rfl mC kC bC .nil pass1 (pa_cons (pv 1) pa_nil)))
    (pss_cons (ps_expr (pe_call C hr rfl mC kC bC .nil pass1 (pa_cons (pv 2) pa_nil)))
    (pss_cons (ps_expr (pe_call T hr rfl mT kT bT .nil pass1 (pa_cons (pv 1) pa_nil)))
    (pss_cons (ps_expr (pe_call T hr rfl mT kT bT .nil pass1 (pa_cons (pv 2) pa_nil)))
    (pss_one (ps_ret (pe_call W hr rfl mW kW bW .nil pass1 (pa_cons (pe_callB (call_lenI (K := K)) rfl hlen PySem.boot_len (pa_cons (pv 0) pa_nil)) (pa_cons (pv 2) (pa_cons (pe_call N hr rfl mN kN bN .nil pass1 (pa_cons (pv 0) (pa_cons (pv 1) pa_nil))) pa_nil)))))))))), ?_⟩
  have isS : ¬ (OkS S ∧ OkS o ∧ OkS p) → c = cS := fun hn => by
    rcases hc with h | h | h | h
    · exact h.2
    · exact absurd ⟨h.1, h.2.1, h.2.2.1⟩ hn
    · exact absurd ⟨h.2.2.1, h.2.2.2.1, h.1⟩ hn
    · exact absurd ⟨h.2.2.1, h.2.2.2.1, h.1⟩ hn
  refine ⟨_, rfl, a, S, rfl, hL, h60, fun hs H1 g1 => ?_, fun hs H1 g1 => ?_⟩
  · refine ⟨_, rfl, b, o, rfl, g1.seq hO, h61, fun ho H2 g2 => ?_, fun ho H2 g2 => ?_⟩
    · have g12 := g1.trans g2
      refine ⟨_, rfl, d, p, rfl, g12.seq hP, h62, fun hp H3 g3 => ?_, fun hp H3 g3 => ?_⟩
      · have g13 := g12.trans g3
        have isO : ¬ (o.length = 3 ∧ p.length = 3) → c = cO := fun hn => by
          rcases hc with h | h | h | h
          · exact absurd ⟨hs, ho, hp⟩ h.1
          · exact h.2.2.2.2
          · exact absurd ⟨h.2.2.2.2.1, h.2.1⟩ hn
          · exact absurd ⟨h.2.2.2.2.1, h.2.1⟩ hn
        refine ⟨_, rfl, b, o, rfl, g13.seq hO, fun h3 => ?_, fun h3 => ?_⟩
        · refine ⟨_, rfl, d, p, rfl, g13.seq hP, fun h4 => ?_, fun h4 => ?_⟩
          · have hcN : CauseN cS cO cZ cH S o c := by
              rcases hc with h | h | h | h
              · exact absurd ⟨hs, ho, hp⟩ h.1
              · exact absurd ⟨h3, h4⟩ h.2.2.2.1
              · exact .inr (.inr (.inl ⟨hs, ho, h3, h.2.2.2.2.2.1, h.2.2.2.2.2.2⟩))
              · exact .inr (.inr (.inr ⟨hs, ho, h3, h.2.2.2.2.2.1, h.2.2.2.2.2.2.1, h.2.2.2.2.2.2.2⟩))
            exact ⟨_, rfl, a, S, rfl, g13.seq hL, _, rfl, _, rfl, _, rfl, a, b, S, o, c, rfl, g13.seq hL, g13.seq hO, h60, h61, hcN, fun H4 g4 => q _ (g13.trans g4)⟩
          · have e := isO (fun h => h4 h.2)
            subst e; exact q _ g13
        · have e := isO (fun h => h3 h.1)
          subst e; exact q _ g13
      · have e := isS (fun h => hp h.2.2)
        subst e; exact q _ (g12.trans g3)
    · have e := isS (fun h => ho h.2.1)
      subst e; exact q _ (g1.trans g2)
  · have e := isS (fun h => hs h.1)
    subst e; exact q _ g1
theorem bad_many_falls (F : Fun K "many_falls" "many_falls" sManyFalls f fd) (Z : FnOk P w K mg base (CX1 P w) 1 g1 gd1 ["size"] (spSizeX cZ)) (bZ : Binds K gd1 ["size"] []) (kZ : PySem.W.keepIn K (.ref g1) = true) (mZ : mg "check_size" = some (.ref g1))
    (B : FnOk P w K mg base (CX1 P w) 1 g2 gd2 ["number"] (spBelow cN)) (bB : Binds K gd2 ["number"] []) (kB : PySem.W.keepIn K (.ref g2) = true) (mB : mg "check_not_below_nought" = some (.ref g2)) : FnOk P w K mg base (CX1 P w) 2 f fd ["size", "falls"] (spBadM cZ cN) := by
  refine F.okX (k := 1) (N := ["size", "falls"]) ⟨rfl, rfl, rfl, by decide +kernel, rfl, by decide +kernel, by decide +kernel⟩ (fun vs H Q E h => ?_) (fun cdv A outer s H vs Q E hr h => ?_)
  · obtain ⟨m, p, c, rfl, _⟩ := h
    rfl
  obtain ⟨m, p, c, rfl, hc, q⟩ := h
  refine ⟨_, pss_cons (ps_expr (pe_call Z hr rfl mZ kZ bZ .nil pass1 (pa_cons (pv 0) pa_nil))) (pss_cons (ps_expr (pe_call B hr rfl mB kB bB .nil pass1 (pa_cons (pv 1) pa_nil))) pss_never), ?_⟩
  refine ⟨_, rfl, m, rfl, fun hm => ?_, fun hm => ?_⟩
  · have hN2 : p < 0 ∧ c = cN := by
      rcases hc with h | h
      · exact absurd hm h.1
      · exact h.2
    obtain ⟨hp, rfl⟩ := hN2
    exact ⟨_, rfl, p, rfl, fun h => absurd hp (by omega), fun _ => q H (Same.refl H)⟩
  · have e : c = cZ := by
      rcases hc with h | h
      · exact h.2
      · exact absurd h.1 hm
    subst e; exact q H (Same.refl H)
theorem bad_many_wrong (F : Fun K "many_wrong" "many_wrong" sManyWrong f fd) (Z : FnOk P w K mg base (CX1 P w) 1 g1 gd1 ["size"] (spSizeX cZ)) (bZ : Binds K gd1 ["size"] []) (kZ : PySem.W.keepIn K (.ref g1) = true) (mZ : mg "check_size" = some (.ref g1))
    (B : FnOk P w K mg base (CX1 P w) 1 g2 gd2 ["number"] (spBelow cN)) (bB : Binds K gd2 ["number"] []) (kB : PySem.W.keepIn K (.ref g2) = true) (mB : mg "check_not_below_nought" = some (.ref g2)) : FnOk P w K mg base (CX1 P w) 2 f fd ["size", "pairs"] (spBadM cZ cN) := by
  refine F.okX (k := 1) (N := ["size", "pairs"]) ⟨rfl, rfl, rfl, by decide +kernel, rfl, by decide +kernel, by decide +kernel⟩ (fun vs H Q E h => ?_) (fun cdv A outer s H vs Q E hr h => ?_)
  · obtain ⟨m, p, c, rfl, _⟩ := h
    rfl
  obtain ⟨m, p, c, rfl, hc, q⟩ := h
  refine ⟨_, pss_cons (ps_expr (pe_call Z hr rfl mZ kZ bZ .nil pass1 (pa_cons (pv 0) pa_nil))) (pss_cons (ps_expr (pe_call B hr rfl mB kB bB .nil pass1 (pa_cons (pv 1) pa_nil))) pss_never), ?_⟩
  refine ⟨_, rfl, m, rfl, fun hm => ?_, fun hm => ?_⟩
  · have hN2 : p < 0 ∧ c = cN := by
      rcases hc with h | h
      · exact absurd hm h.1
      · exact h.2
    obtain ⟨hp, rfl⟩ := hN2
    exact ⟨_, rfl, p, rfl, fun h => absurd hp (by omega), fun _ => q H (Same.refl H)⟩
  · have e : c = cZ := by
      rcases hc with h | h
      · exact h.2
      · exact absurd h.1 hm
    subst e; exact q H (Same.refl H)
end
end SO

namespace SO
open PySem L2 PySem.SeqAt
section
set_option maxHeartbeats 450000
variable {P : Program} {w : World} {K : PySem.W.Frag} {mg : Str → Option Value} {base : Heap} {f g g1 g2 g3 g4 g5 g6 : Addr} {fd gd gd1 gd2 gd3 gd4 gd5 gd6 : FuncData} {t30 t4 t12 t20 : Tok} {cE cR cS cO cZ cT cH cN aR : Addr}
def spCellF (K : PySem.W.Frag) : Sp := fun vs H Q _ => ∃ (a : Addr) (ns : List Int) (k : Int), vs = [.ref a, .int k] ∧ LI K H a ns ∧ 0 ≤ k ∧ Q (.int (ns.getD k.toNat 0)) H
theorem ok_cellF (F : Fun K "_law_cell_at" "_law_cell_at" sCell f fd) (hlen : mg "len" = none) : FnOk P w K mg base CX0 1 f fd ["script", "k"] (spCellF K) := by
  refine F.ok (k := 0) (N := ["script", "k"]) ⟨rfl, rfl, rfl, by decide +kernel, rfl, by decide +kernel, by decide +kernel⟩ (fun vs H Q E h => ?_) (fun cdv A outer s H vs Q E hr h => ?_)
  · obtain ⟨a, ns, k, rfl, _⟩ := h
    rfl
  obtain ⟨a, ns, k, rfl, hL, h0, q⟩ := h
  refine ⟨_, pss_cons (ps_if (pt_cmpR op_lt (pv 1) (pe_callB (call_lenI (K := K)) rfl hlen PySem.boot_len (pa_cons (pv 0) pa_nil)) (nomark _)) (pss_one (ps_ret (pe_ix (ix_listK (K := K)) (pv 0) (pv 1) (fun _ _ => rfl)))) pss_nil) (pss_one (ps_ret pe_int)), ?_⟩
  refine ⟨_, rfl, _, rfl, a, ns, rfl, hL, _, _, rfl, rfl, _, rfl, ?_⟩
  refine ite2 (fun c => ?_) (fun c => ?_)
  · have c' : k < (ns.length : Int) := of_decide_eq_true c
    exact ⟨_, rfl, _, rfl, a, _, k, _, rfl, rfl, hL, atI_ints h0 c', q⟩
  · have c' : ¬ k < (ns.length : Int) := of_decide_eq_false (Bool.eq_false_iff.mpr c)
    have e : ns.getD k.toNat 0 = 0 := by rw [List.getD_eq_getElem?_getD, List.getElem?_eq_none (by omega)]; rfl
    rw [e] at q
    exact q
/-- raises just this class -/
def Raises (H : Hp) (E : XK) (c : Addr) : Prop := ∀ H', Same H H' → E (.ref c) none H'
def Kit7 (K : PySem.W.Frag) (C cR cS cO cZ cT cH cN : Addr) (bs : List Bool) : Prop := ∃ b0 b1 b2 b3 b4 b5 b6, bs = [b0, b1, b2, b3, b4, b5, b6, true] ∧ PySem.W.kitOne K (.ref C) (.ref cR) = some b0 ∧ PySem.W.kitOne K (.ref C) (.ref cS) = some b1 ∧ PySem.W.kitOne K (.ref C) (.ref cO) = some b2 ∧ PySem.W.kitOne K (.ref C) (.ref cZ) = some b3 ∧
  PySem.W.kitOne K (.ref C) (.ref cT) = some b4 ∧ PySem.W.kitOne K (.ref C) (.ref cH) = some b5 ∧ PySem.W.kitOne K (.ref C) (.ref cN) = some b6 ∧ PySem.W.kitOne K (.ref C) (.type "ValueError") = some true
def spWhich (K : PySem.W.Frag) (cR cS cO cZ cT cH cN : Addr) : Sp := fun vs H Q _ => ∃ (ee C : Addr) (bs : List Bool), vs = [.ref ee] ∧ H ee = some (excO ee C) ∧ PySem.W.ExcK K C ∧ Kit7 K C cR cS cO cZ cT cH cN bs ∧ ∀ (r : Addr) (H' : Hp), Same H H' → H' r = some (.lst (bs.map V.bl)) → Q (.ref r) H'
def spWithin14 (K : PySem.W.Frag) (cR cS cO cT : Addr) : Sp := fun vs H Q E => ∃ (way : Int) (a b : Addr) (row o : List Int) (c : Addr), vs = [.int way, .ref a, .ref b] ∧ LI K H a row ∧ LI K H b o ∧ row.length ≤ 60 ∧ o.length ≤ 60 ∧ Cause2 (decide (way = 0 ∨ way = 1)) cR cS cO cT row o c ∧ Raises H E c
def spOne14 (K : PySem.W.Frag) (cS : Addr) : Sp := fun vs H Q E => ∃ (way : Int) (a : Addr) (ns : List Int), vs = [.int way, .ref a] ∧ LI K H a ns ∧ ns.length ≤ 60 ∧ ¬ OkS ns ∧ Raises H E cS
def spNo14 (c : Addr) : Sp := fun vs H Q E => ∃ cell far : Int, vs = [.int cell, .int far] ∧ 2 ≤ far ∧ Raises H E c
theorem bootVE14 : bootBuiltins "ValueError" = some (.type "ValueError") := by decide +kernel
theorem not_good2 {xs : List Int} (h : ¬ xs.Nodup) : ¬ Good xs := fun g => h g.2
theorem not_ok_len {xs : List Int} (h : 30 < xs.length) : ¬ OkS xs := fun g => by have := g.1; omega
theorem ok_upto {n : Nat} (h : n ≤ 30) : OkS (upto n) := ⟨by rw [upto_length]; exact h, by unfold Sh; rw [upto_length]⟩
theorem good_upto {n : Nat} (h : n ≤ 30) : Good (upto n) := ⟨by rw [upto_length]; exact h, upto_nodup n⟩
theorem ok_within14 (F : Fun K "_law_within" "_law_within" sWithin f fd) (A1 : FnOk P w K mg base (CX1 P w) 5 g1 gd1 ["row", "order"] (spBad2 K true cR cS cO cT)) (b1 : Binds K gd1 ["row", "order"] []) (k1 : PySem.W.keepIn K (.ref g1) = true) (m1 : mg "places" = some (.ref g1))
    (A2 : FnOk P w K mg base (CX1 P w) 5 g2 gd2 ["row", "order"] (spBad2 K true cR cS cO cT)) (b2 : Binds K gd2 ["row", "order"] []) (k2 : PySem.W.keepIn K (.ref g2) = true) (m2 : mg "many" = some (.ref g2))
    (A3 : FnOk P w K mg base (CX1 P w) 5 g3 gd3 ["row", "order"] (spBad2 K false cR cS cO cT)) (b3 : Binds K gd3 ["row", "order"] []) (k3 : PySem.W.keepIn K (.ref g3) = true) (m3 : mg "first" = some (.ref g3)) : FnOk P w K mg base (CX1 P w) 6 f fd ["way", "row", "order"] (spWithin14 K cR cS cO cT) := by
  refine F.okX (k := 5) (N := ["way", "row", "order"]) ⟨rfl, rfl, rfl, by decide +kernel, rfl, by decide +kernel, by decide +kernel⟩ (fun vs H Q E h => ?_) (fun cdv A outer s H vs Q E hr h => ?_)
  · obtain ⟨way, a, b, row, o, c, rfl, _⟩ := h
    rfl
  obtain ⟨way, a, b, row, o, c, rfl, hL, hO, h60, h61, hc, q⟩ := h
  refine ⟨_, pss_one (ps_if (pt_cmpR op_eq (pv 0) pe_int (nomark _)) (pss_one (ps_expr (pe_call A1 hr rfl m1 k1 b1 .nil pass1 (pa_cons (pv 1) (pa_cons (pv 2) pa_nil)))))
    (pss_one (ps_if (pt_cmpR op_eq (pv 0) pe_int (nomark _)) (pss_one (ps_expr (pe_call A2 hr rfl m2 k2 b2 .nil pass1 (pa_cons (pv 1) (pa_cons (pv 2) pa_nil))))) (pss_one (ps_expr (pe_call A3 hr rfl m3 k3 b3 .nil pass1 (pa_cons (pv 1) (pa_cons (pv 2) pa_nil)))))))), ?_⟩
  refine ⟨_, rfl, rfl, _, rfl, ?_⟩
  rw [int_eq]
  by_cases w0 : way = 0
  · rw [decide_eq_true w0]
    rw [decide_eq_true (.inl w0)] at hc
    exact iteT ⟨_, rfl, _, rfl, a, b, row, o, c, rfl, hL, hO, h60, h61, hc, q⟩
  · rw [decide_eq_false w0]
    refine iteF ⟨_, rfl, rfl, _, rfl, ?_⟩
    rw [int_eq]
    by_cases w1 : way = 1
    · rw [decide_eq_true w1]
      rw [decide_eq_true (.inr w1)] at hc
      exact iteT ⟨_, rfl, _, rfl, a, b, row, o, c, rfl, hL, hO, h60, h61, hc, q⟩
    · rw [decide_eq_false w1]
      rw [decide_eq_false (fun h => h.elim w0 w1)] at hc
      exact iteF ⟨_, rfl, _, rfl, a, b, row, o, c, rfl, hL, hO, h60, h61, hc, q⟩
theorem ok_one14 (F : Fun K "_law_of_one" "_law_of_one" sOfOne f fd) (A1 : FnOk P w K mg base (CX1 P w) 3 g1 gd1 ["shape"] (spBadOne K cS)) (b1 : Binds K gd1 ["shape"] []) (k1 : PySem.W.keepIn K (.ref g1) = true) (m1 : mg "backward" = some (.ref g1)) (A2 : FnOk P w K mg base (CX1 P w) 3 g2 gd2 ["shape"] (spBadOne K cS)) (b2 : Binds K gd2 ["shape"] []) (k2 : PySem.W.keepIn K (.ref g2) = true) (m2 : mg "contrary" = some (.ref g2)) (A3 : FnOk P w K mg base (CX1 P w) 3 g3 gd3 ["shape"] (spBadOne K cS)) (b3 : Binds K gd3 ["shape"] []) (k3 : PySem.W.keepIn K (.ref g3) = true) (m3 : mg "turned_over" = some (.ref g3)) (A4 : FnOk P w K mg base (CX1 P w) 3 g4 gd4 ["shape"] (spBadOne K cS)) (b4 : Binds K gd4 ["shape"] []) (k4 : PySem.W.keepIn K (.ref g4) = true) (m4 : mg "falls" = some (.ref g4)) (A5 : FnOk P w K mg base (CX1 P w) 3 g5 gd5 ["shape"] (spBadOne K cS)) (b5 : Binds K gd5 ["shape"] []) (k5 : PySem.W.keepIn K (.ref g5) = true) (m5 : mg "wrong_pairs" = some (.ref g5)) (A6 : FnOk P w K mg base (CX1 P w) 3 g6 gd6 ["shape"] (spBadOne K cS)) (b6 : Binds K gd6 ["shape"] []) (k6 : PySem.W.keepIn K (.ref g6) = true) (m6 : mg "fall_sum" = some (.ref g6)) (A7 : FnOk P w K mg base (CX1 P w) 3 g7 gd7 ["shape"] (spBadOne K cS)) (b7 : Binds K gd7 ["shape"] []) (k7 : PySem.W.keepIn K (.ref g7) = true) (m7 : mg "exchanged" = some (.ref g7)) (A8 : FnOk P w K mg base (CX1 P w) 3 g8 gd8 ["shape"] (spBadOne K cS)) (b8 : Binds K gd8 ["shape"] []) (k8 : PySem.W.keepIn K (.ref g8) = true) (m8 : mg "exchanged_back" = some (.ref g8)) : FnOk P w K mg base (CX1 P w) 4 f fd ["way", "shape"] (spOne14 K cS) := by
  refine F.okX (k := 3) (N := ["way", "shape"]) ⟨rfl, rfl, rfl, by decide +kernel, rfl, by decide +kernel, by decide +kernel⟩ (fun vs H Q E h => ?_) (fun cdv A outer s H vs Q E hr h => ?_)
  · obtain ⟨way, a, ns, rfl, _⟩ := h
    rfl
  obtain ⟨way, a, ns, rfl, hL, h60, hb, q⟩ := h
  refine ⟨_, pss_one (ps_if (pt_cmpR op_eq (pv 0) pe_int (nomark _)) (pss_one (ps_expr (pe_call A1 hr rfl m1 k1 b1 .nil pass1 (pa_cons (pv 1) pa_nil)))) (pss_one (ps_if (pt_cmpR op_eq (pv 0) pe_int (nomark _)) (pss_one (ps_expr (pe_call A2 hr rfl m2 k2 b2 .nil pass1 (pa_cons (pv 1) pa_nil)))) (pss_one (ps_if (pt_cmpR op_eq (pv 0) pe_int (nomark _)) (pss_one (ps_expr (pe_call A3 hr rfl m3 k3 b3 .nil pass1 (pa_cons (pv 1) pa_nil)))) (pss_one (ps_if (pt_cmpR op_eq (pv 0) pe_int (nomark _)) (pss_one (ps_expr (pe_call A4 hr rfl m4 k4 b4 .nil pass1 (pa_cons (pv 1) pa_nil)))) (pss_one (ps_if (pt_cmpR op_eq (pv 0) pe_int (nomark _)) (pss_one (ps_expr (pe_call A5 hr rfl m5 k5 b5 .nil pass1 (pa_cons (pv 1) pa_nil)))) (pss_one (ps_if (pt_cmpR op_eq (pv 0) pe_int (nomark _)) (pss_one (ps_expr (pe_call A6 hr rfl m6 k6 b6 .nil pass1 (pa_cons (pv 1) pa_nil)))) (pss_one (ps_if (pt_cmpR op_eq (pv 0) pe_int (nomark _)) (pss_one (ps_expr (pe_call A7 hr rfl m7 k7 b7 .nil pass1 (pa_cons (pv 1) pa_nil)))) (pss_one (ps_expr (pe_call A8 hr rfl m8 k8 b8 .nil pass1 (pa_cons (pv 1) pa_nil))))))))))))))))), ?_⟩
  refine ⟨_, rfl, rfl, _, rfl, ite2 (fun _ => ⟨_, rfl, a, ns, rfl, hL, h60, hb, q⟩) (fun _ => ?_)⟩
  refine ⟨_, rfl, rfl, _, rfl, ite2 (fun _ => ⟨_, rfl, a, ns, rfl, hL, h60, hb, q⟩) (fun _ => ?_)⟩
  refine ⟨_, rfl, rfl, _, rfl, ite2 (fun _ => ⟨_, rfl, a, ns, rfl, hL, h60, hb, q⟩) (fun _ => ?_)⟩
  refine ⟨_, rfl, rfl, _, rfl, ite2 (fun _ => ⟨_, rfl, a, ns, rfl, hL, h60, hb, q⟩) (fun _ => ?_)⟩
  refine ⟨_, rfl, rfl, _, rfl, ite2 (fun _ => ⟨_, rfl, a, ns, rfl, hL, h60, hb, q⟩) (fun _ => ?_)⟩
  refine ⟨_, rfl, rfl, _, rfl, ite2 (fun _ => ⟨_, rfl, a, ns, rfl, hL, h60, hb, q⟩) (fun _ => ?_)⟩
  refine ⟨_, rfl, rfl, _, rfl, ite2 (fun _ => ⟨_, rfl, a, ns, rfl, hL, h60, hb, q⟩) (fun _ => ?_)⟩
  exact ⟨_, rfl, a, ns, rfl, hL, h60, hb, q⟩
theorem rows_bad (far : Int) : ∀ xs ∈ ([[3, 3], [far, 1, far], List.replicate 13 0, upto 31, [5, 7, 9, 7]] : List (List Int)), ¬ Good xs ∧ xs.length ≤ 60 := fun xs hx => by
  simp only [or_false, List.mem_cons, List.not_mem_nil] at hx
  rcases hx with rfl | rfl | rfl | rfl | rfl
  · exact ⟨not_good2 (by decide), by decide⟩
  · exact ⟨not_good2 (by simp), by simp⟩
  · exact ⟨not_good2 (by decide), by decide⟩
  · exact ⟨fun g => absurd g.1 (by decide), by decide⟩
  · exact ⟨not_good2 (by decide), by decide⟩
theorem ok_norow (F : Fun K "_law_no_row" "_law_no_row" sNoRow f fd) (A1 : FnOk P w K mg base (CX1 P w) 6 g1 gd1 ["row"] (spBadRow K cR)) (b1 : Binds K gd1 ["row"] []) (k1 : PySem.W.keepIn K (.ref g1) = true) (m1 : mg "shape_of" = some (.ref g1))
    (A2 : FnOk P w K mg base (CX1 P w) 6 g2 gd2 ["way", "row", "order"] (spWithin14 K cR cS cO cT)) (b2 : Binds K gd2 ["way", "row", "order"] []) (k2 : PySem.W.keepIn K (.ref g2) = true) (m2 : mg "_law_within" = some (.ref g2)) (hlist : mg "list" = none) (hrange : mg "range" = none) : FnOk P w K mg base (CX1 P w) 7 f fd ["cell", "far"] (spNo14 cR) := by
  have S : FnScope ["cell", "far", "row"] ["cell", "far"] (defScope sNoRow) := ⟨rfl, rfl, rfl, by decide +kernel, rfl, by decide +kernel, by decide +kernel⟩
  refine F.okX (k := 6) S (fun vs H Q E h => ?_) (fun cdv A outer s H vs Q E hr h => ?_)
  · obtain ⟨cell, far, rfl, _⟩ := h
    rfl
  obtain ⟨cell, far, rfl, hf, q⟩ := h
  have hm0 := Int.emod_nonneg cell (show (5 : Int) ≠ 0 by decide)
  have hm1 := Int.emod_lt_of_pos cell (show (0 : Int) < 5 by decide)
  have hn0 := Int.emod_nonneg (cell / 20) (show (3 : Int) ≠ 0 by decide)
  have hn1 := Int.emod_lt_of_pos (cell / 20) (show (0 : Int) < 3 by decide)
  refine ⟨_, pss_cons (ps_set (i := 2) S.nd rfl (Or.inl rfl) (PE.imp (t' := fun σ H Q => ∃ c2, σ = [some (.int cell), some (.int far), c2] ∧ ∀ (xs : List Int) (r : Addr) (H' : Hp), ¬ Good xs ∧ xs.length ≤ 60 → Same H H' → H' r = some (.lst (xs.map V.int)) → Q (.ref r) H')
      (pe_ix (ix_listK (K := K)) (pe_lst (pa_cons (pe_lst (pa_cons pe_int (pa_cons pe_int pa_nil))) (pa_cons (pe_lst (pa_cons (pv 1) (pa_cons pe_int (pa_cons (pv 1) pa_nil)))) (pa_cons (pe_op op_rep (pe_lst (pa_cons pe_int pa_nil)) pe_int) (pa_cons (pe_callTy (call_listRng rfl) rfl hlist PyProof.Rows.boot_list (pa_cons (pe_callTy call_rangeV rfl hrange PyProof.Rows.boot_range (pa_cons pe_int pa_nil)) pa_nil)) (pa_cons (pe_lst (pa_cons pe_int (pa_cons pe_int (pa_cons pe_int (pa_cons pe_int pa_nil))))) pa_nil)))))) (pe_op op_mod (pv 0) pe_int) (fun _ _ => rfl))
      (fun σ H Q h => by
        obtain ⟨c2, rfl, nx⟩ := h
        refine menu (K := K) (xss := [[3, 3], [far, 1, far], List.replicate 13 0, upto 31, [5, 7, 9, 7]]) (.cons (.lst (.cons .c (.cons .c .nil)) (by decide)) (.cons (.lst (.cons (.v rfl) (.cons .c (.cons (.v rfl) .nil))) (by simp)) (.cons (mk_rep (n := 13) (.cons .c .nil) .c (by decide)) (.cons (mk_rng (n := 31) .c (by decide)) (.cons (.lst (.cons .c (.cons .c (.cons .c (.cons .c .nil)))) (by decide)) .nil))))) (by simp) (.mod (.v rfl) .c (by decide)) hm0 (by simpa using hm1) H Q fun r H' g e => nx _ r H' (getD_pick (rows_bad far) (by simp; omega)) g e)))
    (pss_one (ps_if (pt_cmpR op_eq (pe_op op_mod (pe_op op_fdiv (pv 0) pe_int) pe_int) pe_int (nomark _)) (pss_one (ps_expr (pe_call A1 hr rfl m1 k1 b1 .nil pass1 (pa_cons (pv 2) pa_nil))))
      (pss_one (ps_expr (pe_call A2 hr rfl m2 k2 b2 .nil pass1 (pa_cons (pe_op op_mod (pe_op op_fdiv (pv 0) pe_int) pe_int) (pa_cons (pv 2) (pa_cons (PE.imp (t' := fun σ H Q => ∃ c1 c2, σ = [some (.int cell), c1, c2] ∧ ∀ (xs : List Int) (r : Addr) (H' : Hp), xs.length ≤ 60 → Same H H' → H' r = some (.lst (xs.map V.int)) → Q (.ref r) H')
        (pe_ix (ix_listK (K := K)) (pe_lst (pa_cons (pe_lst (pa_cons pe_int (pa_cons pe_int pa_nil))) (pa_cons (pe_lst (pa_cons pe_int (pa_cons pe_int pa_nil))) (pa_cons (pe_lst pa_nil) pa_nil)))) (pe_op op_mod (pe_op op_fdiv (pv 0) pe_int) pe_int) (fun _ _ => rfl))
        (fun σ H Q h => by
          obtain ⟨c1, c2, rfl, nx⟩ := h
          refine menu (K := K) (xss := [[0, 0], [1, 0], []]) (.cons (.lst (.cons .c (.cons .c .nil)) (by decide)) (.cons (.lst (.cons .c (.cons .c .nil)) (by decide)) (.cons (.lst .nil (by decide)) .nil))) (by simp) (.mod (.div (.v rfl) .c ⟨by decide, by decide⟩) .c (by decide)) hn0 (by simpa using hn1) H Q fun r H' g e => nx _ r H' (getD_pick (P := fun xs => xs.length ≤ 60) (by decide) (by simp; omega)) g e)) pa_nil)))))))), ?_⟩
  refine ⟨_, rfl, fun xs r H1 hx g1 e1 => ?_⟩
  refine ⟨_, rfl, _, _, rfl, rfl, ⟨by decide, by decide⟩, _, _, rfl, rfl, (by show (0 : Int) < 4; decide), rfl, _, rfl, ite2 (fun _ => ?_) (fun _ => ?_)⟩
  · exact ⟨_, rfl, r, xs, rfl, LI.of e1, hx.2, hx.1, fun H' g => q _ (g1.trans g)⟩
  · refine ⟨_, rfl, _, _, rfl, rfl, ⟨by decide, by decide⟩, _, _, rfl, rfl, (by show (0 : Int) < 4; decide), _, rfl, _, _, rfl, fun ys r2 H2 hy g2 e2 => ?_⟩
    exact ⟨_, r, r2, xs, ys, cR, rfl, LI.of (g2 _ _ e1), LI.of e2, hx.2, hy, .inl ⟨hx.1, rfl⟩, fun H' g => q _ (g1.trans (g2.trans g))⟩
theorem shapes_bad {far : Int} (hf : 2 ≤ far) : ∀ xs ∈ ([[1], [0, 0], [0, 2], [-1 - far, 0], [0, 1, 2 + far + 1], upto 31, [2, 1, 0, 2]] : List (List Int)), ¬ OkS xs ∧ xs.length ≤ 60 := fun xs hx => by
  simp only [or_false, List.mem_cons, List.not_mem_nil] at hx
  rcases hx with rfl | rfl | rfl | rfl | rfl | rfl | rfl
  · exact ⟨fun g => absurd g.2 (by decide), by decide⟩
  · exact ⟨fun g => absurd g.2 (by decide), by decide⟩
  · exact ⟨fun g => absurd g.2 (by decide), by decide⟩
  · exact ⟨fun g => by have := (g.2.mem (x := -1 - far)).mp List.mem_cons_self; omega, by simp⟩
  · exact ⟨fun g => by
      have := (g.2.mem (x := 2 + far + 1)).mp (by simp)
      simp only [List.length_cons, List.length_nil] at this
      omega, by simp⟩
  · exact ⟨not_ok_len (by decide), by decide⟩
  · exact ⟨fun g => absurd g.2 (by decide), by decide⟩
theorem orders_bad : ∀ xs ∈ ([[], [0, 1, 2, 3, 4], [4, 3, 2, 1, 0, 5]] : List (List Int)), OkS xs ∧ ¬ Len4 xs ∧ xs.length ≤ 60 := fun xs hx => by
  simp only [or_false, List.mem_cons, List.not_mem_nil] at hx
  rcases hx with rfl | rfl | rfl
  · exact ⟨⟨by decide, by decide⟩, fun h => absurd h.1 (by decide), by decide⟩
  · exact ⟨⟨by decide, by decide⟩, fun h => absurd h.2 (by decide), by decide⟩
  · exact ⟨⟨by decide, by decide⟩, fun h => absurd h.2 (by decide), by decide⟩
theorem threes_bad : ∀ xs ∈ ([[0], [0, 1], [0, 1, 2, 3], [1, 0], [2, 0, 3, 1], []] : List (List Int)), OkS xs ∧ xs.length ≠ 3 ∧ xs.length ≤ 60 := fun xs hx => by
  simp only [or_false, List.mem_cons, List.not_mem_nil] at hx
  rcases hx with rfl | rfl | rfl | rfl | rfl | rfl <;> exact ⟨⟨by decide, by decide⟩, by decide, by decide⟩
theorem ok_012 : OkS [0, 1, 2] := ⟨by decide, by decide⟩
theorem ok_nil14 : OkS [] := ⟨by decide, by decide⟩
theorem sizes_bad {far : Int} (hf : 2 ≤ far) : ∀ i ∈ ([0, 21, (-1 - far), (21 + far)] : List Int), ¬ Size i := fun i hi => by
  simp only [List.mem_cons, List.not_mem_nil, or_false] at hi
  unfold Size
  rcases hi with rfl | rfl | rfl | rfl <;> omega
theorem sized_bad : ∀ xs ∈ ([[], upto 21, upto 30] : List (List Int)), OkS xs ∧ ¬ (1 ≤ xs.length ∧ xs.length ≤ 20) ∧ xs.length ≤ 60 := fun xs hx => by
  simp only [or_false, List.mem_cons, List.not_mem_nil] at hx
  rcases hx with rfl | rfl | rfl
  · exact ⟨ok_nil14, by decide, by decide⟩
  · exact ⟨ok_upto (by decide), by decide, by decide⟩
  · exact ⟨ok_upto (by decide), by decide, by decide⟩
theorem two_ok : ∀ xs ∈ ([[0, 1, 2], [1, 0, 2]] : List (List Int)), OkS xs ∧ xs.length = 3 := fun xs hx => by
  simp only [or_false, List.mem_cons, List.not_mem_nil] at hx
  rcases hx with rfl | rfl <;> exact ⟨⟨by decide, by decide⟩, by decide⟩
theorem numbers_bad {far : Int} (hf : 2 ≤ far) : ∀ i ∈ ([-1, 5, (-1 - far), (5 + far)] : List Int), ¬ (0 ≤ i ∧ i < 5) := fun i hi => by
  simp only [List.mem_cons, List.not_mem_nil, or_false] at hi
  rcases hi with rfl | rfl | rfl | rfl <;> omega
theorem has_bad : ∀ xs ∈ ([[0, 1, 2], [3, 0, 1, 2], [1, 2, 0, 3]] : List (List Int)), OkS xs ∧ (1 ≤ xs.length ∧ xs.length ≤ 20) ∧ cnt xs [0, 1, 2] ≠ 0 := fun xs hx => by
  simp only [or_false, List.mem_cons, List.not_mem_nil] at hx
  rcases hx with rfl | rfl | rfl <;> exact ⟨⟨by decide, by decide⟩, by decide, by decide⟩
theorem has2_bad : ∀ xs ∈ ([[0, 2, 1], [0, 1, 3, 2], [2, 0, 3, 1]] : List (List Int)), OkS xs ∧ (1 ≤ xs.length ∧ xs.length ≤ 20) ∧ cnt xs [0, 2, 1] ≠ 0 := fun xs hx => by
  simp only [or_false, List.mem_cons, List.not_mem_nil] at hx
  rcases hx with rfl | rfl | rfl <;> exact ⟨⟨by decide, by decide⟩, by decide, by decide⟩
theorem le_mShape {X : Cx} {K : PySem.W.Frag} {k1 k2 k3 k4 k5 k6 k7 k8 k9 k10 k11 k12 k13 k14 k15 k16 k17 : Nat} {p1 p2 p3 p4 p5 p6 p7 p8 p9 p10 p11 p12 p13 p14 p15 p16 p17 p18 p19 p20 p21 p22 p23 p24 p25 p26 p27 p28 p29 p30 p31 p32 p33 p34 p35 p36 p37 : Pos} (hx : IxR X (rIxL K)) (h_cell : ∀ p, LE X (.Name "cell" p) (tVar 0)) (h_far : ∀ p, LE X (.Name "far" p) (tVar 1)) (hl : LR X) : LE X (.Subscript (.List [(.List [(.Constant (.int 1) k1 p1)] p2), (.List [(.Constant (.int 0) k2 p3), (.Constant (.int 0) k3 p4)] p5), (.List [(.Constant (.int 0) k4 p6), (.Constant (.int 2) k5 p7)] p8), (.List [(.BinOp (.UnaryOp .USub (.Constant (.int 1) k6 p9) p10) .Sub (.Name "far" p11) p12), (.Constant (.int 0) k7 p13)] p14), (.List [(.Constant (.int 0) k8 p15), (.Constant (.int 1) k9 p16), (.BinOp (.BinOp (.Constant (.int 2) k10 p17) .Add (.Name "far" p18) p19) .Add (.Constant (.int 1) k11 p20) p21)] p22), (.Call (.Name "list" p23) [.Call (.Name "range" p24) [.Constant (.int 31) k12 p25] [] p26] [] p27), (.List [(.Constant (.int 2) k13 p28), (.Constant (.int 1) k14 p29), (.Constant (.int 0) k15 p30), (.Constant (.int 2) k16 p31)] p32)] p33) (.BinOp (.Name "cell" p34) .Mod (.Constant (.int 7) k17 p35) p36) p37) (tPick 0 1 (fun xs => ¬ OkS xs ∧ xs.length ≤ 60)) :=
  LE.imp (LE.ix hx (LE.lst (LA.L (LE.lst (LA.I LA.nil)) (LA.L (LE.lst (LA.I (LA.I LA.nil))) (LA.L (LE.lst (LA.I (LA.I LA.nil))) (LA.L (LE.lst (LA.B (LE.op op_sub (LE.neg LE.int) (h_far _)) (LA.I LA.nil))) (LA.L (LE.lst (LA.I (LA.I (LA.B (LE.op op_add (LE.op op_add LE.int (h_far _)) LE.int) LA.nil)))) (LA.C (LE.lr hl (by decide) (by decide)) (LA.L (LE.lst (LA.I (LA.I (LA.I (LA.I LA.nil))))) LA.nil)))))))) (LE.op op_mod (h_cell _) LE.int) (fun _ _ => rfl)) fun σ H Q h => by
    obtain ⟨⟨cell, far, e_cell, e_far, hf⟩, nx⟩ := h
    have hm0 := Int.emod_nonneg (cell) (show (7 : Int) ≠ 0 by decide)
    have hm1 := Int.emod_lt_of_pos (cell) (show (0 : Int) < 7 by decide)
    exact menu (K := K) (xss := [[1], [0, 0], [0, 2], [(-1 - far), 0], [0, 1, ((2 + far) + 1)], SO.upto 31, [2, 1, 0, 2]]) (.cons (.lst (.cons .c .nil) (by simp)) (.cons (.lst (.cons .c (.cons .c .nil)) (by simp)) (.cons (.lst (.cons .c (.cons .c .nil)) (by simp)) (.cons (.lst (.cons (.sub (.neg .c) (.v e_far)) (.cons .c .nil)) (by simp)) (.cons (.lst (.cons .c (.cons .c (.cons (.add (.add .c (.v e_far)) .c) .nil))) (by simp)) (.cons .lit (.cons (.lst (.cons .c (.cons .c (.cons .c (.cons .c .nil)))) (by simp)) .nil))))))) (by simp) (.mod (.v e_cell) .c (by decide)) hm0 (by show _ < ((7 : Nat) : Int); omega) H Q fun r H' g e => nx _ r H' (getD_pick (shapes_bad hf) (by show _ < 7; omega)) g e
theorem le_mOrder {X : Cx} {K : PySem.W.Frag} {k1 k2 k3 k4 k5 k6 k7 k8 k9 k10 k11 k12 : Nat} {p1 p2 p3 p4 p5 p6 p7 p8 p9 p10 p11 p12 p13 p14 p15 p16 p17 p18 p19 : Pos} (hx : IxR X (rIxL K)) (h_cell : ∀ p, LE X (.Name "cell" p) (tVar 0)) : LE X (.Subscript (.List [(.List [] p1), (.List [(.Constant (.int 0) k1 p2), (.Constant (.int 1) k2 p3), (.Constant (.int 2) k3 p4), (.Constant (.int 3) k4 p5), (.Constant (.int 4) k5 p6)] p7), (.List [(.Constant (.int 4) k6 p8), (.Constant (.int 3) k7 p9), (.Constant (.int 2) k8 p10), (.Constant (.int 1) k9 p11), (.Constant (.int 0) k10 p12), (.Constant (.int 5) k11 p13)] p14)] p15) (.BinOp (.Name "cell" p16) .Mod (.Constant (.int 3) k12 p17) p18) p19) (tPick 0 1 (fun xs => OkS xs ∧ ¬ Len4 xs ∧ xs.length ≤ 60)) :=
  LE.imp (LE.ix hx (LE.lst (LA.L (LE.lst LA.nil) (LA.L (LE.lst (LA.I (LA.I (LA.I (LA.I (LA.I LA.nil)))))) (LA.L (LE.lst (LA.I (LA.I (LA.I (LA.I (LA.I (LA.I LA.nil))))))) LA.nil)))) (LE.op op_mod (h_cell _) LE.int) (fun _ _ => rfl)) fun σ H Q h => by
    obtain ⟨⟨cell, far, e_cell, e_far, hf⟩, nx⟩ := h
    have hm0 := Int.emod_nonneg (cell) (show (3 : Int) ≠ 0 by decide)
    have hm1 := Int.emod_lt_of_pos (cell) (show (0 : Int) < 3 by decide)
    exact menu (K := K) (xss := [[], [0, 1, 2, 3, 4], [4, 3, 2, 1, 0, 5]]) (.cons (.lst .nil (by simp)) (.cons (.lst (.cons .c (.cons .c (.cons .c (.cons .c (.cons .c .nil))))) (by simp)) (.cons (.lst (.cons .c (.cons .c (.cons .c (.cons .c (.cons .c (.cons .c .nil)))))) (by simp)) .nil))) (by simp) (.mod (.v e_cell) .c (by decide)) hm0 (by show _ < ((3 : Nat) : Int); omega) H Q fun r H' g e => nx _ r H' (getD_pick (orders_bad) (by show _ < 3; omega)) g e
theorem le_mThree {X : Cx} {K : PySem.W.Frag} {k1 k2 k3 k4 k5 k6 k7 k8 k9 k10 k11 k12 k13 k14 k15 : Nat} {p1 p2 p3 p4 p5 p6 p7 p8 p9 p10 p11 p12 p13 p14 p15 p16 p17 p18 p19 p20 p21 p22 p23 p24 p25 p26 : Pos} (hx : IxR X (rIxL K)) (h_cell : ∀ p, LE X (.Name "cell" p) (tVar 0)) : LE X (.Subscript (.List [(.List [(.Constant (.int 0) k1 p1)] p2), (.List [(.Constant (.int 0) k2 p3), (.Constant (.int 1) k3 p4)] p5), (.List [(.Constant (.int 0) k4 p6), (.Constant (.int 1) k5 p7), (.Constant (.int 2) k6 p8), (.Constant (.int 3) k7 p9)] p10), (.List [(.Constant (.int 1) k8 p11), (.Constant (.int 0) k9 p12)] p13), (.List [(.Constant (.int 2) k10 p14), (.Constant (.int 0) k11 p15), (.Constant (.int 3) k12 p16), (.Constant (.int 1) k13 p17)] p18), (.List [] p19)] p20) (.BinOp (.BinOp (.Name "cell" p21) .FloorDiv (.Constant (.int 3) k14 p22) p23) .Mod (.Constant (.int 6) k15 p24) p25) p26) (tPick 0 1 (fun xs => OkS xs ∧ xs.length ≠ 3 ∧ xs.length ≤ 60)) :=
  LE.imp (LE.ix hx (LE.lst (LA.L (LE.lst (LA.I LA.nil)) (LA.L (LE.lst (LA.I (LA.I LA.nil))) (LA.L (LE.lst (LA.I (LA.I (LA.I (LA.I LA.nil))))) (LA.L (LE.lst (LA.I (LA.I LA.nil))) (LA.L (LE.lst (LA.I (LA.I (LA.I (LA.I LA.nil))))) (LA.L (LE.lst LA.nil) LA.nil))))))) (LE.op op_mod (LE.op op_fdiv (h_cell _) LE.int) LE.int) (fun _ _ => rfl)) fun σ H Q h => by
    obtain ⟨⟨cell, far, e_cell, e_far, hf⟩, nx⟩ := h
    have hm0 := Int.emod_nonneg ((cell / 3)) (show (6 : Int) ≠ 0 by decide)
    have hm1 := Int.emod_lt_of_pos ((cell / 3)) (show (0 : Int) < 6 by decide)
    exact menu (K := K) (xss := [[0], [0, 1], [0, 1, 2, 3], [1, 0], [2, 0, 3, 1], []]) (.cons (.lst (.cons .c .nil) (by simp)) (.cons (.lst (.cons .c (.cons .c .nil)) (by simp)) (.cons (.lst (.cons .c (.cons .c (.cons .c (.cons .c .nil)))) (by simp)) (.cons (.lst (.cons .c (.cons .c .nil)) (by simp)) (.cons (.lst (.cons .c (.cons .c (.cons .c (.cons .c .nil)))) (by simp)) (.cons (.lst .nil (by simp)) .nil)))))) (by simp) (.mod (.div (.v e_cell) .c ⟨by decide, by decide⟩) .c (by decide)) hm0 (by show _ < ((6 : Nat) : Int); omega) H Q fun r H' g e => nx _ r H' (getD_pick (threes_bad) (by show _ < 6; omega)) g e
theorem le_mSize {X : Cx} {K : PySem.W.Frag} {k1 k2 k3 k4 k5 : Nat} {p1 p2 p3 p4 p5 p6 p7 p8 p9 p10 p11 p12 p13 p14 : Pos} (hx : IxR X (rIxL K)) (h_cell : ∀ p, LE X (.Name "cell" p) (tVar 0)) (h_far : ∀ p, LE X (.Name "far" p) (tVar 1)) : LE X (.Subscript (.List [(.Constant (.int 0) k1 p1), (.Constant (.int 21) k2 p2), (.BinOp (.UnaryOp .USub (.Constant (.int 1) k3 p3) p4) .Sub (.Name "far" p5) p6), (.BinOp (.Constant (.int 21) k4 p7) .Add (.Name "far" p8) p9)] p10) (.BinOp (.Name "cell" p11) .Mod (.Constant (.int 4) k5 p12) p13) p14) (tPickI 0 1 (fun i => ¬ Size i)) :=
  LE.imp (LE.ix hx (LE.lst (LA.I (LA.I (LA.B (LE.op op_sub (LE.neg LE.int) (h_far _)) (LA.B (LE.op op_add LE.int (h_far _)) LA.nil))))) (LE.op op_mod (h_cell _) LE.int) (fun _ _ => rfl)) fun σ H Q h => by
    obtain ⟨⟨cell, far, e_cell, e_far, hf⟩, nx⟩ := h
    have hm0 := Int.emod_nonneg (cell) (show (4 : Int) ≠ 0 by decide)
    have hm1 := Int.emod_lt_of_pos (cell) (show (0 : Int) < 4 by decide)
    exact menuI (K := K) (xs := [0, 21, (-1 - far), (21 + far)]) (.cons .c (.cons .c (.cons (.sub (.neg .c) (.v e_far)) (.cons (.add .c (.v e_far)) .nil)))) (by simp) (.mod (.v e_cell) .c (by decide)) hm0 (by show _ < ((4 : Nat) : Int); omega) (fun H' g => nx _ H' (getI_pick (sizes_bad hf) (by show _ < 4; omega)) g)
theorem le_mSized {X : Cx} {K : PySem.W.Frag} {k1 k2 k3 k4 : Nat} {p1 p2 p3 p4 p5 p6 p7 p8 p9 p10 p11 p12 p13 p14 p15 p16 p17 p18 : Pos} (hx : IxR X (rIxL K)) (h_cell : ∀ p, LE X (.Name "cell" p) (tVar 0)) (hl : LR X) : LE X (.Subscript (.List [(.List [] p1), (.Call (.Name "list" p2) [.Call (.Name "range" p3) [.Constant (.int 21) k1 p4] [] p5] [] p6), (.Call (.Name "list" p7) [.Call (.Name "range" p8) [.Constant (.int 30) k2 p9] [] p10] [] p11)] p12) (.BinOp (.BinOp (.Name "cell" p13) .FloorDiv (.Constant (.int 4) k3 p14) p15) .Mod (.Constant (.int 3) k4 p16) p17) p18) (tPick 0 1 (fun xs => OkS xs ∧ ¬ (1 ≤ xs.length ∧ xs.length ≤ 20) ∧ xs.length ≤ 60)) :=
  LE.imp (LE.ix hx (LE.lst (LA.L (LE.lst LA.nil) (LA.C (LE.lr hl (by decide) (by decide)) (LA.C (LE.lr hl (by decide) (by decide)) LA.nil)))) (LE.op op_mod (LE.op op_fdiv (h_cell _) LE.int) LE.int) (fun _ _ => rfl)) fun σ H Q h => by
    obtain ⟨⟨cell, far, e_cell, e_far, hf⟩, nx⟩ := h
    have hm0 := Int.emod_nonneg ((cell / 4)) (show (3 : Int) ≠ 0 by decide)
    have hm1 := Int.emod_lt_of_pos ((cell / 4)) (show (0 : Int) < 3 by decide)
    exact menu (K := K) (xss := [[], SO.upto 21, SO.upto 30]) (.cons (.lst .nil (by simp)) (.cons .lit (.cons .lit .nil))) (by simp) (.mod (.div (.v e_cell) .c ⟨by decide, by decide⟩) .c (by decide)) hm0 (by show _ < ((3 : Nat) : Int); omega) H Q fun r H' g e => nx _ r H' (getD_pick (sized_bad) (by show _ < 3; omega)) g e
theorem le_mTwo {X : Cx} {K : PySem.W.Frag} {k1 k2 k3 k4 k5 k6 k7 k8 : Nat} {p1 p2 p3 p4 p5 p6 p7 p8 p9 p10 p11 p12 p13 p14 p15 : Pos} (hx : IxR X (rIxL K)) (h_cell : ∀ p, LE X (.Name "cell" p) (tVar 0)) : LE X (.Subscript (.List [(.List [(.Constant (.int 0) k1 p1), (.Constant (.int 1) k2 p2), (.Constant (.int 2) k3 p3)] p4), (.List [(.Constant (.int 1) k4 p5), (.Constant (.int 0) k5 p6), (.Constant (.int 2) k6 p7)] p8)] p9) (.BinOp (.BinOp (.Name "cell" p10) .FloorDiv (.Constant (.int 3) k7 p11) p12) .Mod (.Constant (.int 2) k8 p13) p14) p15) (tPick 0 1 (fun xs => OkS xs ∧ xs.length = 3)) :=
  LE.imp (LE.ix hx (LE.lst (LA.L (LE.lst (LA.I (LA.I (LA.I LA.nil)))) (LA.L (LE.lst (LA.I (LA.I (LA.I LA.nil)))) LA.nil))) (LE.op op_mod (LE.op op_fdiv (h_cell _) LE.int) LE.int) (fun _ _ => rfl)) fun σ H Q h => by
    obtain ⟨⟨cell, far, e_cell, e_far, hf⟩, nx⟩ := h
    have hm0 := Int.emod_nonneg ((cell / 3)) (show (2 : Int) ≠ 0 by decide)
    have hm1 := Int.emod_lt_of_pos ((cell / 3)) (show (0 : Int) < 2 by decide)
    exact menu (K := K) (xss := [[0, 1, 2], [1, 0, 2]]) (.cons (.lst (.cons .c (.cons .c (.cons .c .nil))) (by simp)) (.cons (.lst (.cons .c (.cons .c (.cons .c .nil))) (by simp)) .nil)) (by simp) (.mod (.div (.v e_cell) .c ⟨by decide, by decide⟩) .c (by decide)) hm0 (by show _ < ((2 : Nat) : Int); omega) H Q fun r H' g e => nx _ r H' (getD_pick (two_ok) (by show _ < 2; omega)) g e
theorem le_mNumber {X : Cx} {K : PySem.W.Frag} {k1 k2 k3 k4 k5 k6 : Nat} {p1 p2 p3 p4 p5 p6 p7 p8 p9 p10 p11 p12 p13 p14 p15 p16 p17 : Pos} (hx : IxR X (rIxL K)) (h_cell : ∀ p, LE X (.Name "cell" p) (tVar 0)) (h_far : ∀ p, LE X (.Name "far" p) (tVar 1)) : LE X (.Subscript (.List [(.UnaryOp .USub (.Constant (.int 1) k1 p1) p2), (.Constant (.int 5) k2 p3), (.BinOp (.UnaryOp .USub (.Constant (.int 1) k3 p4) p5) .Sub (.Name "far" p6) p7), (.BinOp (.Constant (.int 5) k4 p8) .Add (.Name "far" p9) p10)] p11) (.BinOp (.BinOp (.Name "cell" p12) .FloorDiv (.Constant (.int 6) k5 p13) p14) .Mod (.Constant (.int 4) k6 p15) p16) p17) (tPickI 0 1 (fun i => ¬ (0 ≤ i ∧ i < 5))) :=
  LE.imp (LE.ix hx (LE.lst (LA.U (LE.neg LE.int) (LA.I (LA.B (LE.op op_sub (LE.neg LE.int) (h_far _)) (LA.B (LE.op op_add LE.int (h_far _)) LA.nil))))) (LE.op op_mod (LE.op op_fdiv (h_cell _) LE.int) LE.int) (fun _ _ => rfl)) fun σ H Q h => by
    obtain ⟨⟨cell, far, e_cell, e_far, hf⟩, nx⟩ := h
    have hm0 := Int.emod_nonneg ((cell / 6)) (show (4 : Int) ≠ 0 by decide)
    have hm1 := Int.emod_lt_of_pos ((cell / 6)) (show (0 : Int) < 4 by decide)
    exact menuI (K := K) (xs := [-1, 5, (-1 - far), (5 + far)]) (.cons (.neg .c) (.cons .c (.cons (.sub (.neg .c) (.v e_far)) (.cons (.add .c (.v e_far)) .nil)))) (by simp) (.mod (.div (.v e_cell) .c ⟨by decide, by decide⟩) .c (by decide)) hm0 (by show _ < ((4 : Nat) : Int); omega) (fun H' g => nx _ H' (getI_pick (numbers_bad hf) (by show _ < 4; omega)) g)
theorem le_mHas {X : Cx} {K : PySem.W.Frag} {k1 k2 k3 k4 k5 k6 k7 k8 k9 k10 k11 k12 k13 : Nat} {p1 p2 p3 p4 p5 p6 p7 p8 p9 p10 p11 p12 p13 p14 p15 p16 p17 p18 p19 p20 p21 : Pos} (hx : IxR X (rIxL K)) (h_cell : ∀ p, LE X (.Name "cell" p) (tVar 1)) : LE X (.Subscript (.List [(.List [(.Constant (.int 0) k1 p1), (.Constant (.int 1) k2 p2), (.Constant (.int 2) k3 p3)] p4), (.List [(.Constant (.int 3) k4 p5), (.Constant (.int 0) k5 p6), (.Constant (.int 1) k6 p7), (.Constant (.int 2) k7 p8)] p9), (.List [(.Constant (.int 1) k8 p10), (.Constant (.int 2) k9 p11), (.Constant (.int 0) k10 p12), (.Constant (.int 3) k11 p13)] p14)] p15) (.BinOp (.BinOp (.Name "cell" p16) .FloorDiv (.Constant (.int 2) k12 p17) p18) .Mod (.Constant (.int 3) k13 p19) p20) p21) (tPick 1 2 (fun xs => OkS xs ∧ (1 ≤ xs.length ∧ xs.length ≤ 20) ∧ cnt xs [0, 1, 2] ≠ 0)) :=
  LE.imp (LE.ix hx (LE.lst (LA.L (LE.lst (LA.I (LA.I (LA.I LA.nil)))) (LA.L (LE.lst (LA.I (LA.I (LA.I (LA.I LA.nil))))) (LA.L (LE.lst (LA.I (LA.I (LA.I (LA.I LA.nil))))) LA.nil)))) (LE.op op_mod (LE.op op_fdiv (h_cell _) LE.int) LE.int) (fun _ _ => rfl)) fun σ H Q h => by
    obtain ⟨⟨cell, far, e_cell, e_far, hf⟩, nx⟩ := h
    have hm0 := Int.emod_nonneg ((cell / 2)) (show (3 : Int) ≠ 0 by decide)
    have hm1 := Int.emod_lt_of_pos ((cell / 2)) (show (0 : Int) < 3 by decide)
    exact menu (K := K) (xss := [[0, 1, 2], [3, 0, 1, 2], [1, 2, 0, 3]]) (.cons (.lst (.cons .c (.cons .c (.cons .c .nil))) (by simp)) (.cons (.lst (.cons .c (.cons .c (.cons .c (.cons .c .nil)))) (by simp)) (.cons (.lst (.cons .c (.cons .c (.cons .c (.cons .c .nil)))) (by simp)) .nil))) (by simp) (.mod (.div (.v e_cell) .c ⟨by decide, by decide⟩) .c (by decide)) hm0 (by show _ < ((3 : Nat) : Int); omega) H Q fun r H' g e => nx _ r H' (getD_pick (has_bad) (by show _ < 3; omega)) g e
theorem le_mHas2 {X : Cx} {K : PySem.W.Frag} {k1 k2 k3 k4 k5 k6 k7 k8 k9 k10 k11 k12 k13 : Nat} {p1 p2 p3 p4 p5 p6 p7 p8 p9 p10 p11 p12 p13 p14 p15 p16 p17 p18 p19 p20 p21 : Pos} (hx : IxR X (rIxL K)) (h_cell : ∀ p, LE X (.Name "cell" p) (tVar 1)) : LE X (.Subscript (.List [(.List [(.Constant (.int 0) k1 p1), (.Constant (.int 2) k2 p2), (.Constant (.int 1) k3 p3)] p4), (.List [(.Constant (.int 0) k4 p5), (.Constant (.int 1) k5 p6), (.Constant (.int 3) k6 p7), (.Constant (.int 2) k7 p8)] p9), (.List [(.Constant (.int 2) k8 p10), (.Constant (.int 0) k9 p11), (.Constant (.int 3) k10 p12), (.Constant (.int 1) k11 p13)] p14)] p15) (.BinOp (.BinOp (.Name "cell" p16) .FloorDiv (.Constant (.int 2) k12 p17) p18) .Mod (.Constant (.int 3) k13 p19) p20) p21) (tPick 1 2 (fun xs => OkS xs ∧ (1 ≤ xs.length ∧ xs.length ≤ 20) ∧ cnt xs [0, 2, 1] ≠ 0)) :=
  LE.imp (LE.ix hx (LE.lst (LA.L (LE.lst (LA.I (LA.I (LA.I LA.nil)))) (LA.L (LE.lst (LA.I (LA.I (LA.I (LA.I LA.nil))))) (LA.L (LE.lst (LA.I (LA.I (LA.I (LA.I LA.nil))))) LA.nil)))) (LE.op op_mod (LE.op op_fdiv (h_cell _) LE.int) LE.int) (fun _ _ => rfl)) fun σ H Q h => by
    obtain ⟨⟨cell, far, e_cell, e_far, hf⟩, nx⟩ := h
    have hm0 := Int.emod_nonneg ((cell / 2)) (show (3 : Int) ≠ 0 by decide)
    have hm1 := Int.emod_lt_of_pos ((cell / 2)) (show (0 : Int) < 3 by decide)
    exact menu (K := K) (xss := [[0, 2, 1], [0, 1, 3, 2], [2, 0, 3, 1]]) (.cons (.lst (.cons .c (.cons .c (.cons .c .nil))) (by simp)) (.cons (.lst (.cons .c (.cons .c (.cons .c (.cons .c .nil)))) (by simp)) (.cons (.lst (.cons .c (.cons .c (.cons .c (.cons .c .nil)))) (by simp)) .nil))) (by simp) (.mod (.div (.v e_cell) .c ⟨by decide, by decide⟩) .c (by decide)) hm0 (by show _ < ((3 : Nat) : Int); omega) H Q fun r H' g e => nx _ r H' (getD_pick (has2_bad) (by show _ < 3; omega)) g e
theorem ok_noshape (F : Fun K "_law_no_shape" "_law_no_shape" sNoShape f fd) (A1 : FnOk P w K mg base (CX1 P w) 11 g1 gd1 ["way", "row", "order"] (spWithin14 K cR cS cO cT)) (b1 : Binds K gd1 ["way", "row", "order"] []) (k1 : PySem.W.keepIn K (.ref g1) = true) (m1 : mg "_law_within" = some (.ref g1)) (A2 : FnOk P w K mg base (CX1 P w) 11 g2 gd2 ["way", "shape"] (spOne14 K cS)) (b2 : Binds K gd2 ["way", "shape"] []) (k2 : PySem.W.keepIn K (.ref g2) = true) (m2 : mg "_law_of_one" = some (.ref g2)) (A3 : FnOk P w K mg base (CX1 P w) 11 g3 gd3 ["size", "order", "number"] (spBadW K cS cO cZ cN)) (b3 : Binds K gd3 ["size", "order", "number"] []) (k3 : PySem.W.keepIn K (.ref g3) = true) (m3 : mg "without_at" = some (.ref g3)) (A4 : FnOk P w K mg base (CX1 P w) 11 g4 gd4 ["shape", "order"] (spBadN K cS cO cZ cH)) (b4 : Binds K gd4 ["shape", "order"] []) (k4 : PySem.W.keepIn K (.ref g4) = true) (m4 : mg "number_of" = some (.ref g4)) (A5 : FnOk P w K mg base (CX1 P w) 11 g5 gd5 ["shape", "order", "other"] (spBadL K cS cO cZ cH)) (b5 : Binds K gd5 ["shape", "order", "other"] []) (k5 : PySem.W.keepIn K (.ref g5) = true) (m5 : mg "led" = some (.ref g5)) (hlist : mg "list" = none) (hrange : mg "range" = none) : FnOk P w K mg base (CX1 P w) 12 f fd ["cell", "far"] (spNo14 cS) := by
  have S : FnScope ["cell", "far", "bad", "way"] ["cell", "far"] (defScope sNoShape) := ⟨rfl, rfl, rfl, by decide +kernel, rfl, by decide +kernel, by decide +kernel⟩
  refine F.okX (k := 11) S (fun vs H Q E h => ?_) (fun cdv A outer s H vs Q E hr h => ?_)
  · obtain ⟨cell, far, rfl, _⟩ := h
    rfl
  obtain ⟨cell, far, rfl, hf, q⟩ := h
  refine ⟨_, @LB.out _ _ _ (LB.cons (LS.set (n := 2) S.nd rfl (Or.inl rfl) (le_mShape (K := K) ix_listK (fun _ => (LE.v 0)) (fun _ => (LE.v 1)) (LR.of (by rfl) (by rfl) (by exact hlist) (by rfl) (by exact hrange)))) (LB.cons (LS.set (n := 3) S.nd rfl (Or.inl rfl) (LE.op op_mod (LE.op op_fdiv (LE.v 0) LE.int) LE.int)) (LB.one (LS.iff (LT.cmp op_lt (LE.v 3) LE.int (nomark _)) (LB.one (LS.expr (LE.call A1 hr rfl m1 k1 b1 .nil pass1 (LA.N (LE.v 3) (LA.C (LE.lr (LR.of (by rfl) (by rfl) (by exact hlist) (by rfl) (by exact hrange)) (by decide) (by decide)) (LA.N (LE.v 2) LA.nil)))))) (LB.one (LS.iff (LT.cmp op_lt (LE.v 3) LE.int (nomark _)) (LB.one (LS.expr (LE.call A2 hr rfl m2 k2 b2 .nil pass1 (LA.B (LE.op op_sub (LE.v 3) LE.int) (LA.N (LE.v 2) LA.nil))))) (LB.one (LS.iff (LT.cmp op_eq (LE.v 3) LE.int (nomark _)) (LB.one (LS.expr (LE.call A3 hr rfl m3 k3 b3 .nil pass1 (LA.I (LA.N (LE.v 2) (LA.U (LE.neg LE.int) LA.nil)))))) (LB.one (LS.iff (LT.cmp op_eq (LE.v 3) LE.int (nomark _)) (LB.one (LS.expr (LE.call A4 hr rfl m4 k4 b4 .nil pass1 (LA.N (LE.v 2) (LA.L (LE.lit (LA.I (LA.I LA.nil)) (fun _ => (.cons .c (.cons .c .nil))) (by decide)) LA.nil))))) (LB.one (LS.iff (LT.cmp op_eq (LE.v 3) LE.int (nomark _)) (LB.one (LS.expr (LE.call A4 hr rfl m4 k4 b4 .nil pass1 (LA.L (LE.lit (LA.I (LA.I (LA.I LA.nil))) (fun _ => (.cons .c (.cons .c (.cons .c .nil)))) (by decide)) (LA.N (LE.v 2) LA.nil))))) (LB.one (LS.iff (LT.cmp op_eq (LE.v 3) LE.int (nomark _)) (LB.one (LS.expr (LE.call A5 hr rfl m5 k5 b5 .nil pass1 (LA.N (LE.v 2) (LA.L (LE.lit (LA.I LA.nil) (fun _ => (.cons .c .nil)) (by decide)) (LA.L (LE.lit (LA.I (LA.I LA.nil)) (fun _ => (.cons .c (.cons .c .nil))) (by decide)) LA.nil)))))) (LB.one (LS.iff (LT.cmp op_eq (LE.v 3) LE.int (nomark _)) (LB.one (LS.expr (LE.call A5 hr rfl m5 k5 b5 .nil pass1 (LA.L (LE.lit LA.nil (fun _ => .nil) (by decide)) (LA.N (LE.v 2) (LA.L (LE.lit (LA.I (LA.I LA.nil)) (fun _ => (.cons .c (.cons .c .nil))) (by decide)) LA.nil)))))) (LB.one (LS.expr (LE.call A5 hr rfl m5 k5 b5 .nil pass1 (LA.L (LE.lit (LA.I (LA.I (LA.I LA.nil))) (fun _ => (.cons .c (.cons .c (.cons .c .nil)))) (by decide)) (LA.L (LE.lit (LA.I (LA.I LA.nil)) (fun _ => (.cons .c (.cons .c .nil))) (by decide)) (LA.N (LE.v 2) LA.nil)))))))))))))))))))))), ?_⟩
  refine ⟨⟨cell, far, rfl, rfl, hf⟩, fun xs r H1 hx g1 e1 => ?_⟩
  obtain ⟨hb, h60⟩ := hx
  refine ⟨_, rfl, _, _, rfl, rfl, ⟨by decide, by decide⟩, _, _, rfl, rfl, (by show (0 : Int) < 17; decide), ?_⟩
  refine ⟨_, rfl, _, _, rfl, rfl, _, rfl, ite2 (fun _ => ?_) (fun _ => ?_)⟩
  · exact ⟨_, rfl, fun r2 H2 g2 e2 => ⟨_, rfl, _, r2, r, upto 13, xs, cS, rfl, LI.of e2, LI.of (g2 _ _ e1), by decide, h60, .inr (.inl ⟨good_upto (by decide), hb, rfl⟩), fun H' g => q _ (g1.trans (g2.trans g))⟩⟩
  refine ⟨_, rfl, _, _, rfl, rfl, _, rfl, ite2 (fun _ => ?_) (fun _ => ?_)⟩
  · exact ⟨_, rfl, _, _, rfl, rfl, _, rfl, _, r, xs, rfl, LI.of e1, h60, hb, fun H' g => q _ (g1.trans g)⟩
  refine ⟨_, rfl, rfl, _, rfl, ite2 (fun _ => ?_) (fun _ => ?_)⟩
  · exact ⟨_, rfl, _, rfl, r, xs, _, _, cS, rfl, LI.of e1, h60, .inl ⟨hb, rfl⟩, fun H' g => q _ (g1.trans g)⟩
  refine ⟨_, rfl, rfl, _, rfl, ite2 (fun _ => ?_) (fun _ => ?_)⟩
  · exact ⟨_, rfl, fun r2 H2 g2 e2 => ⟨r, r2, xs, _, cS, rfl, LI.of (g2 _ _ e1), LI.of e2, h60, by decide, .inl ⟨fun h => hb h.1, rfl⟩, fun H' g => q _ (g1.trans (g2.trans g))⟩⟩
  refine ⟨_, rfl, rfl, _, rfl, ite2 (fun _ => ?_) (fun _ => ?_)⟩
  · exact fun r2 H2 g2 e2 => ⟨_, rfl, r2, r, _, xs, cS, rfl, LI.of e2, LI.of (g2 _ _ e1), by decide, h60, .inl ⟨fun h => hb h.2, rfl⟩, fun H' g => q _ (g1.trans (g2.trans g))⟩
  refine ⟨_, rfl, rfl, _, rfl, ite2 (fun _ => ?_) (fun _ => ?_)⟩
  · exact ⟨_, rfl, fun r2 H2 g2 e2 r3 H3 g3 e3 => ⟨r, r2, r3, xs, _, _, cS, rfl, LI.of (g3 _ _ (g2 _ _ e1)), LI.of (g3 _ _ e2), LI.of e3, h60, by decide, by decide, .inl ⟨fun h => hb h.1, rfl⟩, fun H' g => q _ (g1.trans (g2.trans (g3.trans g)))⟩⟩
  refine ⟨_, rfl, rfl, _, rfl, ite2 (fun _ => ?_) (fun _ => ?_)⟩
  · exact fun r2 H2 g2 e2 => ⟨_, rfl, fun r3 H3 g3 e3 => ⟨r2, r, r3, _, xs, _, cS, rfl, LI.of (g3 _ _ e2), LI.of (g3 _ _ (g2 _ _ e1)), LI.of e3, by decide, h60, by decide, .inl ⟨fun h => hb h.2.1, rfl⟩, fun H' g => q _ (g1.trans (g2.trans (g3.trans g)))⟩⟩
  · exact fun r2 H2 g2 e2 r3 H3 g3 e3 => ⟨_, rfl, r2, r3, r, _, _, xs, cS, rfl, LI.of (g3 _ _ e2), LI.of e3, LI.of (g3 _ _ (g2 _ _ e1)), by decide, by decide, h60, .inl ⟨fun h => hb h.2.2, rfl⟩, fun H' g => q _ (g1.trans (g2.trans (g3.trans g)))⟩
theorem ok_noorder (F : Fun K "_law_no_order" "_law_no_order" sNoOrder f fd) (A1 : FnOk P w K mg base (CX1 P w) 11 g1 gd1 ["way", "row", "order"] (spWithin14 K cR cS cO cT)) (b1 : Binds K gd1 ["way", "row", "order"] []) (k1 : PySem.W.keepIn K (.ref g1) = true) (m1 : mg "_law_within" = some (.ref g1)) (A2 : FnOk P w K mg base (CX1 P w) 11 g2 gd2 ["size", "order", "number"] (spBadW K cS cO cZ cN)) (b2 : Binds K gd2 ["size", "order", "number"] []) (k2 : PySem.W.keepIn K (.ref g2) = true) (m2 : mg "without_at" = some (.ref g2)) (A3 : FnOk P w K mg base (CX1 P w) 11 g3 gd3 ["shape", "order"] (spBadN K cS cO cZ cH)) (b3 : Binds K gd3 ["shape", "order"] []) (k3 : PySem.W.keepIn K (.ref g3) = true) (m3 : mg "number_of" = some (.ref g3)) (A4 : FnOk P w K mg base (CX1 P w) 11 g4 gd4 ["shape", "order", "other"] (spBadL K cS cO cZ cH)) (b4 : Binds K gd4 ["shape", "order", "other"] []) (k4 : PySem.W.keepIn K (.ref g4) = true) (m4 : mg "led" = some (.ref g4)) (hlist : mg "list" = none) (hrange : mg "range" = none) : FnOk P w K mg base (CX1 P w) 12 f fd ["cell", "far"] (spNo14 cO) := by
  have S : FnScope ["cell", "far", "bad", "three", "way"] ["cell", "far"] (defScope sNoOrder) := ⟨rfl, rfl, rfl, by decide +kernel, rfl, by decide +kernel, by decide +kernel⟩
  refine F.okX (k := 11) S (fun vs H Q E h => ?_) (fun cdv A outer s H vs Q E hr h => ?_)
  · obtain ⟨cell, far, rfl, _⟩ := h
    rfl
  obtain ⟨cell, far, rfl, hf, q⟩ := h
  refine ⟨_, @LB.out _ _ _ (LB.cons (LS.set (n := 2) S.nd rfl (Or.inl rfl) (le_mOrder (K := K) ix_listK (fun _ => (LE.v 0)))) (LB.cons (LS.set (n := 3) S.nd rfl (Or.inl rfl) (le_mThree (K := K) ix_listK (fun _ => (LE.v 0)))) (LB.cons (LS.set (n := 4) S.nd rfl (Or.inl rfl) (LE.op op_mod (LE.op op_fdiv (LE.v 0) LE.int) LE.int)) (LB.one (LS.iff (LT.cmp op_lt (LE.v 4) LE.int (nomark _)) (LB.one (LS.expr (LE.call A1 hr rfl m1 k1 b1 .nil pass1 (LA.N (LE.v 4) (LA.C (LE.lr (LR.of (by rfl) (by rfl) (by exact hlist) (by rfl) (by exact hrange)) (by decide) (by decide)) (LA.N (LE.v 2) LA.nil)))))) (LB.one (LS.iff (LT.cmp op_eq (LE.v 4) LE.int (nomark _)) (LB.one (LS.expr (LE.call A2 hr rfl m2 k2 b2 .nil pass1 (LA.I (LA.N (LE.v 3) (LA.U (LE.neg LE.int) LA.nil)))))) (LB.one (LS.iff (LT.cmp op_eq (LE.v 4) LE.int (nomark _)) (LB.one (LS.expr (LE.call A3 hr rfl m3 k3 b3 .nil pass1 (LA.L (LE.lit LA.nil (fun _ => .nil) (by decide)) (LA.N (LE.v 3) LA.nil))))) (LB.one (LS.iff (LT.cmp op_eq (LE.v 4) LE.int (nomark _)) (LB.one (LS.expr (LE.call A4 hr rfl m4 k4 b4 .nil pass1 (LA.L (LE.lit (LA.I (LA.I (LA.I LA.nil))) (fun _ => (.cons .c (.cons .c (.cons .c .nil)))) (by decide)) (LA.N (LE.v 3) (LA.L (LE.lit (LA.I (LA.I (LA.I LA.nil))) (fun _ => (.cons .c (.cons .c (.cons .c .nil)))) (by decide)) LA.nil)))))) (LB.one (LS.expr (LE.call A4 hr rfl m4 k4 b4 .nil pass1 (LA.L (LE.lit LA.nil (fun _ => .nil) (by decide)) (LA.L (LE.lit (LA.I (LA.I (LA.I LA.nil))) (fun _ => (.cons .c (.cons .c (.cons .c .nil)))) (by decide)) (LA.N (LE.v 3) LA.nil))))))))))))))))), ?_⟩
  refine ⟨⟨cell, far, rfl, rfl, hf⟩, fun xs r H1 hx g1 e1 => ⟨⟨cell, far, rfl, rfl, hf⟩, fun ys r3 H3 hy g3 e3 => ?_⟩⟩
  obtain ⟨x1, x2, x3⟩ := hx
  obtain ⟨y1, y2, y3⟩ := hy
  have e1 := g3 _ _ e1
  have g13 := g1.trans g3
  refine ⟨_, rfl, _, _, rfl, rfl, ⟨by decide, by decide⟩, _, _, rfl, rfl, (by show (0 : Int) < 7; decide), ?_⟩
  refine ⟨_, rfl, _, _, rfl, rfl, _, rfl, ite2 (fun _ => ?_) (fun _ => ?_)⟩
  · exact ⟨_, rfl, fun r2 H2 g2 e2 => ⟨_, rfl, _, r2, r, upto 13, xs, cO, rfl, LI.of e2, LI.of (g2 _ _ e1), by decide, x3, .inr (.inr (.inl ⟨good_upto (by decide), x1, x2, rfl⟩)), fun H' g => q _ (g13.trans (g2.trans g))⟩⟩
  refine ⟨_, rfl, rfl, _, rfl, ite2 (fun _ => ?_) (fun _ => ?_)⟩
  · exact ⟨_, rfl, _, rfl, r3, ys, _, _, cO, rfl, LI.of e3, y3, .inr (.inl ⟨y1, y2, rfl⟩), fun H' g => q _ (g13.trans g)⟩
  refine ⟨_, rfl, rfl, _, rfl, ite2 (fun _ => ?_) (fun _ => ?_)⟩
  · exact fun r2 H2 g2 e2 => ⟨_, rfl, r2, r3, _, ys, cO, rfl, LI.of e2, LI.of (g2 _ _ e3), by decide, y3, .inr (.inl ⟨ok_nil14, y1, y2, rfl⟩), fun H' g => q _ (g13.trans (g2.trans g))⟩
  refine ⟨_, rfl, rfl, _, rfl, ite2 (fun _ => ?_) (fun _ => ?_)⟩
  · exact fun r2 H2 g2 e2 => ⟨_, rfl, fun r4 H4 g4 e4 => ⟨r2, r3, r4, _, ys, _, cO, rfl, LI.of (g4 _ _ e2), LI.of (g4 _ _ (g2 _ _ e3)), LI.of e4, by decide, y3, by decide, .inr (.inl ⟨ok_012, y1, ok_012, fun h => y2 h.1, rfl⟩), fun H' g => q _ (g13.trans (g2.trans (g4.trans g)))⟩⟩
  · exact fun r2 H2 g2 e2 r4 H4 g4 e4 => ⟨_, rfl, r2, r4, r3, _, _, ys, cO, rfl, LI.of (g4 _ _ e2), LI.of e4, LI.of (g4 _ _ (g2 _ _ e3)), by decide, by decide, y3, .inr (.inl ⟨ok_nil14, ok_012, y1, fun h => y2 h.2, rfl⟩), fun H' g => q _ (g13.trans (g2.trans (g4.trans g)))⟩
theorem ok_210 : OkS [2, 1, 0] := ⟨by decide, by decide⟩
theorem ok_nosize (F : Fun K "_law_no_size" "_law_no_size" sNoSize f fd) (A1 : FnOk P w K mg base (CX1 P w) 11 g1 gd1 ["size"] (spManyWithout cZ)) (b1 : Binds K gd1 ["size"] []) (k1 : PySem.W.keepIn K (.ref g1) = true) (m1 : mg "many_without" = some (.ref g1)) (A2 : FnOk P w K mg base (CX1 P w) 11 g2 gd2 ["size", "order", "number"] (spBadW K cS cO cZ cN)) (b2 : Binds K gd2 ["size", "order", "number"] []) (k2 : PySem.W.keepIn K (.ref g2) = true) (m2 : mg "without_at" = some (.ref g2)) (A3 : FnOk P w K mg base (CX1 P w) 11 g3 gd3 ["shape", "order"] (spBadN K cS cO cZ cH)) (b3 : Binds K gd3 ["shape", "order"] []) (k3 : PySem.W.keepIn K (.ref g3) = true) (m3 : mg "number_of" = some (.ref g3)) (A4 : FnOk P w K mg base (CX1 P w) 11 g4 gd4 ["shape", "order", "other"] (spBadL K cS cO cZ cH)) (b4 : Binds K gd4 ["shape", "order", "other"] []) (k4 : PySem.W.keepIn K (.ref g4) = true) (m4 : mg "led" = some (.ref g4)) (A5 : FnOk P w K mg base (CX1 P w) 11 g5 gd5 ["size", "falls"] (spBadM cZ cN)) (b5 : Binds K gd5 ["size", "falls"] []) (k5 : PySem.W.keepIn K (.ref g5) = true) (m5 : mg "many_falls" = some (.ref g5)) (A6 : FnOk P w K mg base (CX1 P w) 11 g6 gd6 ["size", "pairs"] (spBadM cZ cN)) (b6 : Binds K gd6 ["size", "pairs"] []) (k6 : PySem.W.keepIn K (.ref g6) = true) (m6 : mg "many_wrong" = some (.ref g6)) (hlist : mg "list" = none) (hrange : mg "range" = none) : FnOk P w K mg base (CX1 P w) 12 f fd ["cell", "far"] (spNo14 cZ) := by
  have S : FnScope ["cell", "far", "size", "shape", "way"] ["cell", "far"] (defScope sNoSize) := ⟨rfl, rfl, rfl, by decide +kernel, rfl, by decide +kernel, by decide +kernel⟩
  refine F.okX (k := 11) S (fun vs H Q E h => ?_) (fun cdv A outer s H vs Q E hr h => ?_)
  · obtain ⟨cell, far, rfl, _⟩ := h
    rfl
  obtain ⟨cell, far, rfl, hf, q⟩ := h
  refine ⟨_, @LB.out _ _ _ (LB.cons (LS.set (n := 2) S.nd rfl (Or.inl rfl) (le_mSize (K := K) ix_listK (fun _ => (LE.v 0)) (fun _ => (LE.v 1)))) (LB.cons (LS.set (n := 3) S.nd rfl (Or.inl rfl) (le_mSized (K := K) ix_listK (fun _ => (LE.v 0)) (LR.of (by rfl) (by rfl) (by exact hlist) (by rfl) (by exact hrange)))) (LB.cons (LS.set (n := 4) S.nd rfl (Or.inl rfl) (LE.op op_mod (LE.op op_fdiv (LE.v 0) LE.int) LE.int)) (LB.one (LS.iff (LT.cmp op_eq (LE.v 4) LE.int (nomark _)) (LB.one (LS.expr (LE.call A1 hr rfl m1 k1 b1 .nil pass1 (LA.N (LE.v 2) LA.nil)))) (LB.one (LS.iff (LT.cmp op_eq (LE.v 4) LE.int (nomark _)) (LB.one (LS.expr (LE.call A2 hr rfl m2 k2 b2 .nil pass1 (LA.N (LE.v 2) (LA.L (LE.lit (LA.I (LA.I (LA.I LA.nil))) (fun _ => (.cons .c (.cons .c (.cons .c .nil)))) (by decide)) (LA.U (LE.neg LE.int) LA.nil)))))) (LB.one (LS.iff (LT.cmp op_eq (LE.v 4) LE.int (nomark _)) (LB.one (LS.expr (LE.call A3 hr rfl m3 k3 b3 .nil pass1 (LA.N (LE.v 3) (LA.L (LE.lit (LA.I (LA.I (LA.I LA.nil))) (fun _ => (.cons .c (.cons .c (.cons .c .nil)))) (by decide)) LA.nil))))) (LB.one (LS.iff (LT.cmp op_eq (LE.v 4) LE.int (nomark _)) (LB.one (LS.expr (LE.call A4 hr rfl m4 k4 b4 .nil pass1 (LA.N (LE.v 3) (LA.L (LE.lit (LA.I (LA.I (LA.I LA.nil))) (fun _ => (.cons .c (.cons .c (.cons .c .nil)))) (by decide)) (LA.L (LE.lit (LA.I (LA.I (LA.I LA.nil))) (fun _ => (.cons .c (.cons .c (.cons .c .nil)))) (by decide)) LA.nil)))))) (LB.one (LS.iff (LT.cmp op_eq (LE.v 4) LE.int (nomark _)) (LB.one (LS.expr (LE.call A5 hr rfl m5 k5 b5 .nil pass1 (LA.N (LE.v 2) (LA.U (LE.neg LE.int) LA.nil))))) (LB.one (LS.expr (LE.call A6 hr rfl m6 k6 b6 .nil pass1 (LA.N (LE.v 2) (LA.U (LE.neg LE.int) LA.nil)))))))))))))))))), ?_⟩
  refine ⟨⟨cell, far, rfl, rfl, hf⟩, fun m H1 hm g1 => ⟨⟨cell, far, rfl, rfl, hf⟩, fun ys r3 H3 hy g3 e3 => ?_⟩⟩
  obtain ⟨y1, y2, y3⟩ := hy
  have g13 := g1.trans g3
  refine ⟨_, rfl, _, _, rfl, rfl, ⟨by decide, by decide⟩, _, _, rfl, rfl, (by show (0 : Int) < 6; decide), ?_⟩
  refine ⟨_, rfl, rfl, _, rfl, ite2 (fun _ => ?_) (fun _ => ?_)⟩
  · exact ⟨_, rfl, m, rfl, fun h => absurd h hm, fun _ H' g => q _ (g13.trans g)⟩
  refine ⟨_, rfl, rfl, _, rfl, ite2 (fun _ => ?_) (fun _ => ?_)⟩
  · exact ⟨_, rfl, fun r2 H2 g2 e2 => ⟨_, rfl, r2, _, m, _, cZ, rfl, LI.of e2, by decide, .inr (.inr (.inl ⟨ok_012, rfl, hm, rfl⟩)), fun H' g => q _ (g13.trans (g2.trans g))⟩⟩
  refine ⟨_, rfl, rfl, _, rfl, ite2 (fun _ => ?_) (fun _ => ?_)⟩
  · exact ⟨_, rfl, fun r2 H2 g2 e2 => ⟨r3, r2, ys, _, cZ, rfl, LI.of (g2 _ _ e3), LI.of e2, y3, by decide, .inr (.inr (.inl ⟨y1, ok_012, rfl, y2, rfl⟩)), fun H' g => q _ (g13.trans (g2.trans g))⟩⟩
  refine ⟨_, rfl, rfl, _, rfl, ite2 (fun _ => ?_) (fun _ => ?_)⟩
  · exact ⟨_, rfl, fun r2 H2 g2 e2 r4 H4 g4 e4 => ⟨r3, r2, r4, ys, _, _, cZ, rfl, LI.of (g4 _ _ (g2 _ _ e3)), LI.of (g4 _ _ e2), LI.of e4, y3, by decide, by decide, .inr (.inr (.inl ⟨ok_210, rfl, y1, ok_012, rfl, y2, rfl⟩)), fun H' g => q _ (g13.trans (g2.trans (g4.trans g)))⟩⟩
  refine ⟨_, rfl, rfl, _, rfl, ite2 (fun _ => ?_) (fun _ => ?_)⟩
  · exact ⟨_, rfl, _, rfl, m, _, cZ, rfl, .inl ⟨hm, rfl⟩, fun H' g => q _ (g13.trans g)⟩
  · exact ⟨_, rfl, _, rfl, m, _, cZ, rfl, .inl ⟨hm, rfl⟩, fun H' g => q _ (g13.trans g)⟩
theorem le_mBelow {X : Cx} {k1 k2 k3 : Nat} {p1 p2 p3 p4 p5 p6 p7 p8 p9 p10 : Pos} (h_cell : ∀ p, LE X (.Name "cell" p) (tVar 0)) (h_far : ∀ p, LE X (.Name "far" p) (tVar 1)) :
    LE X (.BinOp (.UnaryOp .USub (.Constant (.int 1) k1 p1) p2) .Sub (.BinOp (.Name "far" p3) .Mult (.BinOp (.BinOp (.Name "cell" p4) .FloorDiv (.Constant (.int 3) k2 p5) p6) .Mod (.Constant (.int 2) k3 p7) p8) p9) p10) (tPickI 0 1 (fun i => i < 0)) :=
  LE.imp (LE.op op_sub (LE.neg LE.int) (LE.op op_mul (h_far _) (LE.op op_mod (LE.op op_fdiv (h_cell _) LE.int) LE.int))) fun σ H Q h => by
    obtain ⟨⟨cell, far, e_cell, e_far, hf⟩, nx⟩ := h
    have h0 := Int.emod_nonneg (cell / 3) (show (2 : Int) ≠ 0 by decide)
    have h1 := Int.emod_lt_of_pos (cell / 3) (show (0 : Int) < 2 by decide)
    have hp : 0 ≤ far * (cell / 3 % 2) := Int.mul_nonneg (by omega) h0
    refine IntE.sub (.neg .c) (IntE.mul (.v e_far) (.mod (.div (.v e_cell) .c ⟨by decide, by decide⟩) .c (by decide)) (.inr ⟨by omega, by omega⟩)) H Q (nx _ H ?_ (Same.refl H))
    omega
theorem ok_nonumber (F : Fun K "_law_no_number" "_law_no_number" sNoNumber f fd) (A1 : FnOk P w K mg base (CX1 P w) 11 g1 gd1 ["size", "order", "number"] (spBadW K cS cO cZ cN)) (b1 : Binds K gd1 ["size", "order", "number"] []) (k1 : PySem.W.keepIn K (.ref g1) = true) (m1 : mg "without_at" = some (.ref g1)) (A2 : FnOk P w K mg base (CX1 P w) 11 g2 gd2 ["size", "falls"] (spBadM cZ cN)) (b2 : Binds K gd2 ["size", "falls"] []) (k2 : PySem.W.keepIn K (.ref g2) = true) (m2 : mg "many_falls" = some (.ref g2)) (A3 : FnOk P w K mg base (CX1 P w) 11 g3 gd3 ["size", "pairs"] (spBadM cZ cN)) (b3 : Binds K gd3 ["size", "pairs"] []) (k3 : PySem.W.keepIn K (.ref g3) = true) (m3 : mg "many_wrong" = some (.ref g3)) : FnOk P w K mg base (CX1 P w) 12 f fd ["cell", "far"] (spNo14 cN) := by
  have S : FnScope ["cell", "far", "way"] ["cell", "far"] (defScope sNoNumber) := ⟨rfl, rfl, rfl, by decide +kernel, rfl, by decide +kernel, by decide +kernel⟩
  refine F.okX (k := 11) S (fun vs H Q E h => ?_) (fun cdv A outer s H vs Q E hr h => ?_)
  · obtain ⟨cell, far, rfl, _⟩ := h
    rfl
  obtain ⟨cell, far, rfl, hf, q⟩ := h
  refine ⟨_, @LB.out _ _ _ (LB.cons (LS.set (n := 2) S.nd rfl (Or.inl rfl) (LE.op op_mod (LE.v 0) LE.int)) (LB.one (LS.iff (LT.cmp op_eq (LE.v 2) LE.int (nomark _)) (LB.one (LS.expr (LE.call A1 hr rfl m1 k1 b1 .nil pass1 (LA.I (LA.S (le_mTwo (K := K) ix_listK (fun _ => (LE.v 0))) (LA.S (le_mNumber (K := K) ix_listK (fun _ => (LE.v 0)) (fun _ => (LE.v 1))) LA.nil)))))) (LB.one (LS.iff (LT.cmp op_eq (LE.v 2) LE.int (nomark _)) (LB.one (LS.expr (LE.call A2 hr rfl m2 k2 b2 .nil pass1 (LA.I (LA.B (le_mBelow (fun _ => (LE.v 0)) (fun _ => (LE.v 1))) LA.nil))))) (LB.one (LS.expr (LE.call A3 hr rfl m3 k3 b3 .nil pass1 (LA.I (LA.B (le_mBelow (fun _ => (LE.v 0)) (fun _ => (LE.v 1))) LA.nil)))))))))), ?_⟩
  refine ⟨_, rfl, _, _, rfl, rfl, (by show (0 : Int) < 3; decide), ?_⟩
  refine ⟨_, rfl, rfl, _, rfl, ite2 (fun _ => ?_) (fun _ => ?_)⟩
  · refine ⟨⟨cell, far, rfl, rfl, hf⟩, fun xs r H1 hx g1 e1 => ⟨⟨cell, far, rfl, rfl, hf⟩, fun i H2 hi g2 => ?_⟩⟩
    have h5 : ((ways (3 : Int).toNat ((3 : Int).toNat - 1) : Nat) : Int) = 5 := by decide
    exact ⟨r, xs, 3, i, cN, rfl, LI.of (g2 _ _ e1), by rw [hx.2]; decide, .inr (.inr (.inr ⟨hx.1, hx.2, ⟨by decide, by decide⟩, by rw [h5]; exact hi, rfl⟩)), fun H' g => q _ (g1.trans (g2.trans g))⟩
  refine ⟨_, rfl, rfl, _, rfl, ite2 (fun _ => ?_) (fun _ => ?_)⟩
  · exact ⟨⟨cell, far, rfl, rfl, hf⟩, fun i H2 hi g2 => ⟨4, i, cN, rfl, .inr ⟨⟨by decide, by decide⟩, hi, rfl⟩, fun H' g => q _ (g2.trans g)⟩⟩
  · exact ⟨⟨cell, far, rfl, rfl, hf⟩, fun i H2 hi g2 => ⟨4, i, cN, rfl, .inr ⟨⟨by decide, by decide⟩, hi, rfl⟩, fun H' g => q _ (g2.trans g)⟩⟩
theorem ok_which (F : Fun K "_law_which" "_law_which" sWhich f fd) (mR : mg "NoRow" = some (.ref cR)) (mS : mg "NoShape" = some (.ref cS)) (mO : mg "NoOrder" = some (.ref cO)) (mZ : mg "NoSize" = some (.ref cZ)) (mT : mg "TooLong" = some (.ref cT)) (mH : mg "HasOrder" = some (.ref cH)) (mN : mg "NoNumber" = some (.ref cN)) (hisi : mg "isinstance" = none) (hVE : mg "ValueError" = none) :
    FnH P w K mg base 1 f fd ["e"] (spWhich K cR cS cO cZ cT cH cN) := by
  have S : FnScope ["e", "told"] ["e"] (defScope sWhich) := ⟨rfl, rfl, rfl, by decide +kernel, rfl, by decide +kernel, by decide +kernel⟩
  refine F.okH (k := 0) S (fun vs H Q E h => ?_) (fun cdv A outer s H vs Q hr h => ?_)
  · obtain ⟨ee, C, bs, rfl, _⟩ := h
    rfl
  obtain ⟨ee, C, bs, rfl, he, hx, ⟨b0, b1, b2, b3, b4, b5, b6, rfl, k0, k1, k2, k3, k4, k5, k6, k7⟩, q⟩ := h
  refine ⟨_, @LB.out _ _ _ (LB.cons (LS.set (n := 1) S.nd rfl (Or.inl rfl) (LE.lst (LA.C (LE.callB (call_isX (K := K)) rfl hisi PyProof.Rows.boot_isinstance (LA.N (LE.v 0) (LA.N (LE.glob (v := .ref cR) rfl mR rfl) LA.nil))) (LA.C (LE.callB (call_isX (K := K)) rfl hisi PyProof.Rows.boot_isinstance (LA.N (LE.v 0) (LA.N (LE.glob (v := .ref cS) rfl mS rfl) LA.nil))) (LA.C (LE.callB (call_isX (K := K)) rfl hisi PyProof.Rows.boot_isinstance (LA.N (LE.v 0) (LA.N (LE.glob (v := .ref cO) rfl mO rfl) LA.nil))) (LA.C (LE.callB (call_isX (K := K)) rfl hisi PyProof.Rows.boot_isinstance (LA.N (LE.v 0) (LA.N (LE.glob (v := .ref cZ) rfl mZ rfl) LA.nil))) LA.nil)))))) (LB.one (LS.ret (LE.op op_cat (LE.v 1) (LE.lst (LA.C (LE.callB (call_isX (K := K)) rfl hisi PyProof.Rows.boot_isinstance (LA.N (LE.v 0) (LA.N (LE.glob (v := .ref cT) rfl mT rfl) LA.nil))) (LA.C (LE.callB (call_isX (K := K)) rfl hisi PyProof.Rows.boot_isinstance (LA.N (LE.v 0) (LA.N (LE.glob (v := .ref cH) rfl mH rfl) LA.nil))) (LA.C (LE.callB (call_isX (K := K)) rfl hisi PyProof.Rows.boot_isinstance (LA.N (LE.v 0) (LA.N (LE.glob (v := .ref cN) rfl mN rfl) LA.nil))) (LA.C (LE.callB (call_isX (K := K)) rfl hisi PyProof.Rows.boot_isinstance (LA.N (LE.v 0) (LA.N (LE.bltn (v := .ty "ValueError") rfl hVE bootVE14 rfl) LA.nil))) LA.nil))))))))), ?_⟩
  refine ⟨_, rfl, ee, C, _, b0, rfl, he, hx, .inr ⟨cR, rfl⟩, k0, _, rfl, ee, C, _, b1, rfl, he, hx, .inr ⟨cS, rfl⟩, k1, _, rfl, ee, C, _, b2, rfl, he, hx, .inr ⟨cO, rfl⟩, k2, _, rfl, ee, C, _, b3, rfl, he, hx, .inr ⟨cZ, rfl⟩, k3, (by show 4 ≤ sizeLine; decide), fun r1 n1 => ?_⟩
  have f1 := same_new n1 (.lst [V.bl b0, V.bl b1, V.bl b2, V.bl b3])
  have he1 := f1 _ _ he
  refine ⟨_, rfl, _, rfl, ee, C, _, b4, rfl, he1, hx, .inr ⟨cT, rfl⟩, k4, _, rfl, ee, C, _, b5, rfl, he1, hx, .inr ⟨cH, rfl⟩, k5, _, rfl, ee, C, _, b6, rfl, he1, hx, .inr ⟨cN, rfl⟩, k6, _, rfl, ee, C, _, true, rfl, he1, hx, .inl ⟨"ValueError", rfl⟩, k7, (by show 4 ≤ sizeLine; decide), fun r2 n2 => ?_⟩
  have f2 := same_new n2 (.lst [V.bl b4, V.bl b5, V.bl b6, V.bl true])
  refine ⟨r1, r2, _, _, rfl, rfl, f2 _ _ upd_same, upd_same, (by show 8 ≤ sizeLine; decide), fun r3 n3 => ?_⟩
  exact q r3 _ (f1.trans (f2.trans (same_new n3 _))) upd_same
theorem of_int14 {u v : Int} (h : decide (V.int u = V.int v) = true) : u = v := by rw [int_eq] at h; exact of_decide_eq_true h
theorem no_int14 {u v : Int} (h : ¬ decide (V.int u = V.int v) = true) : u ≠ v := fun e => h (by rw [e]; exact decide_eq_true rfl)
theorem ok_10 : OkS [1, 0] := ⟨by decide, by decide⟩
theorem ok_021 : OkS [0, 2, 1] := ⟨by decide, by decide⟩
def spDone14 (cR cS cO cZ cT cH cN : Addr) : Sp := fun vs H Q E => ∃ way cell far : Int, vs = [.int way, .int cell, .int far] ∧ 2 ≤ far ∧ 0 ≤ way ∧ way < 7 ∧ (way = 0 → Raises H E cR) ∧ (way = 1 → Raises H E cS) ∧ (way = 2 → Raises H E cO) ∧ (way = 3 → Raises H E cZ) ∧ (way = 4 → Raises H E cT) ∧ (way = 5 → Raises H E cH) ∧ (way = 6 → Raises H E cN)
theorem ok_done (F : Fun K "_law_done" "_law_done" sDone f fd) (A1 : FnOk P w K mg base (CX1 P w) 12 g1 gd1 ["cell", "far"] (spNo14 cR)) (b1 : Binds K gd1 ["cell", "far"] []) (k1 : PySem.W.keepIn K (.ref g1) = true) (m1 : mg "_law_no_row" = some (.ref g1)) (A2 : FnOk P w K mg base (CX1 P w) 12 g2 gd2 ["cell", "far"] (spNo14 cS)) (b2 : Binds K gd2 ["cell", "far"] []) (k2 : PySem.W.keepIn K (.ref g2) = true) (m2 : mg "_law_no_shape" = some (.ref g2)) (A3 : FnOk P w K mg base (CX1 P w) 12 g3 gd3 ["cell", "far"] (spNo14 cO)) (b3 : Binds K gd3 ["cell", "far"] []) (k3 : PySem.W.keepIn K (.ref g3) = true) (m3 : mg "_law_no_order" = some (.ref g3)) (A4 : FnOk P w K mg base (CX1 P w) 12 g4 gd4 ["cell", "far"] (spNo14 cZ)) (b4 : Binds K gd4 ["cell", "far"] []) (k4 : PySem.W.keepIn K (.ref g4) = true) (m4 : mg "_law_no_size" = some (.ref g4)) (A5 : FnOk P w K mg base (CX1 P w) 12 g5 gd5 ["way", "row", "order"] (spWithin14 K cR cS cO cT)) (b5 : Binds K gd5 ["way", "row", "order"] []) (k5 : PySem.W.keepIn K (.ref g5) = true) (m5 : mg "_law_within" = some (.ref g5)) (A6 : FnOk P w K mg base (CX1 P w) 12 g6 gd6 ["shape", "order"] (spBadN K cS cO cZ cH)) (b6 : Binds K gd6 ["shape", "order"] []) (k6 : PySem.W.keepIn K (.ref g6) = true) (m6 : mg "number_of" = some (.ref g6)) (A7 : FnOk P w K mg base (CX1 P w) 12 g7 gd7 ["shape", "order", "other"] (spBadL K cS cO cZ cH)) (b7 : Binds K gd7 ["shape", "order", "other"] []) (k7 : PySem.W.keepIn K (.ref g7) = true) (m7 : mg "led" = some (.ref g7)) (A8 : FnOk P w K mg base (CX1 P w) 12 g8 gd8 ["cell", "far"] (spNo14 cN)) (b8 : Binds K gd8 ["cell", "far"] []) (k8 : PySem.W.keepIn K (.ref g8) = true) (m8 : mg "_law_no_number" = some (.ref g8)) (hlist : mg "list" = none) (hrange : mg "range" = none) : FnOk P w K mg base (CX1 P w) 13 f fd ["way", "cell", "far"] (spDone14 cR cS cO cZ cT cH cN) := by
  have S : FnScope ["way", "cell", "far"] ["way", "cell", "far"] (defScope sDone) := ⟨rfl, rfl, rfl, by decide +kernel, rfl, by decide +kernel, by decide +kernel⟩
  refine F.okX (k := 12) S (fun vs H Q E h => ?_) (fun cdv A outer s H vs Q E hr h => ?_)
  · obtain ⟨way, cell, far, rfl, _⟩ := h
    rfl
  obtain ⟨way, cell, far, rfl, hf, h0, h7, q0, q1, q2, q3, q4, q5, q6⟩ := h
  refine ⟨_, @LB.out _ _ _ (LB.one (LS.iff (LT.cmp op_eq (LE.v 0) LE.int (nomark _)) (LB.one (LS.expr (LE.call A1 hr rfl m1 k1 b1 .nil pass1 (LA.N (LE.v 1) (LA.N (LE.v 2) LA.nil))))) (LB.one (LS.iff (LT.cmp op_eq (LE.v 0) LE.int (nomark _)) (LB.one (LS.expr (LE.call A2 hr rfl m2 k2 b2 .nil pass1 (LA.N (LE.v 1) (LA.N (LE.v 2) LA.nil))))) (LB.one (LS.iff (LT.cmp op_eq (LE.v 0) LE.int (nomark _)) (LB.one (LS.expr (LE.call A3 hr rfl m3 k3 b3 .nil pass1 (LA.N (LE.v 1) (LA.N (LE.v 2) LA.nil))))) (LB.one (LS.iff (LT.cmp op_eq (LE.v 0) LE.int (nomark _)) (LB.one (LS.expr (LE.call A4 hr rfl m4 k4 b4 .nil pass1 (LA.N (LE.v 1) (LA.N (LE.v 2) LA.nil))))) (LB.one (LS.iff (LT.cmp op_eq (LE.v 0) LE.int (nomark _)) (LB.one (LS.expr (LE.call A5 hr rfl m5 k5 b5 .nil pass1 (LA.B (LE.op op_mod (LE.v 1) LE.int) (LA.C (LE.lrB (by rfl) (by rfl) (by exact hlist) (by rfl) (by exact hrange) (LE.op op_add LE.int (LE.op op_mod (LE.op op_fdiv (LE.v 1) LE.int) LE.int))) (LA.L (LE.lit (LA.I (LA.I LA.nil)) (fun _ => (.cons .c (.cons .c .nil))) (by decide)) LA.nil)))))) (LB.one (LS.iff (LT.and (LT.cmp op_eq (LE.v 0) LE.int (nomark _)) (LT.cmp op_eq (LE.op op_mod (LE.v 1) LE.int) LE.int (nomark _))) (LB.one (LS.expr (LE.call A6 hr rfl m6 k6 b6 .nil pass1 (LA.S (le_mHas (K := K) ix_listK (fun _ => (LE.v 1))) (LA.L (LE.lit (LA.I (LA.I (LA.I LA.nil))) (fun _ => (.cons .c (.cons .c (.cons .c .nil)))) (by decide)) LA.nil))))) (LB.one (LS.iff (LT.cmp op_eq (LE.v 0) LE.int (nomark _)) (LB.one (LS.expr (LE.call A7 hr rfl m7 k7 b7 .nil pass1 (LA.S (le_mHas2 (K := K) ix_listK (fun _ => (LE.v 1))) (LA.L (LE.lit (LA.I (LA.I (LA.I LA.nil))) (fun _ => (.cons .c (.cons .c (.cons .c .nil)))) (by decide)) (LA.L (LE.lit (LA.I (LA.I (LA.I LA.nil))) (fun _ => (.cons .c (.cons .c (.cons .c .nil)))) (by decide)) LA.nil)))))) (LB.one (LS.expr (LE.call A8 hr rfl m8 k8 b8 .nil pass1 (LA.N (LE.v 1) (LA.N (LE.v 2) LA.nil))))))))))))))))))), ?_⟩
  refine ⟨_, rfl, rfl, _, rfl, ite2 (fun c => ?_) (fun c0 => ?_)⟩
  · exact ⟨_, rfl, _, rfl, cell, far, rfl, hf, q0 (of_int14 c)⟩
  refine ⟨_, rfl, rfl, _, rfl, ite2 (fun c => ?_) (fun c1 => ?_)⟩
  · exact ⟨_, rfl, _, rfl, cell, far, rfl, hf, q1 (of_int14 c)⟩
  refine ⟨_, rfl, rfl, _, rfl, ite2 (fun c => ?_) (fun c2 => ?_)⟩
  · exact ⟨_, rfl, _, rfl, cell, far, rfl, hf, q2 (of_int14 c)⟩
  refine ⟨_, rfl, rfl, _, rfl, ite2 (fun c => ?_) (fun c3 => ?_)⟩
  · exact ⟨_, rfl, _, rfl, cell, far, rfl, hf, q3 (of_int14 c)⟩
  refine ⟨_, rfl, rfl, _, rfl, ite2 (fun c => ?_) (fun c4 => ?_)⟩
  · obtain ⟨n, hn⟩ : ∃ n : Nat, (n : Int) = 13 + cell / 2 % 18 := ⟨(13 + cell / 2 % 18).toNat, by omega⟩
    have hb : cell % 2 = 0 ∨ cell % 2 = 1 := by omega
    refine ⟨_, rfl, _, _, rfl, rfl, (by show (0 : Int) < 2; decide), n, ?_, by omega, fun r1 H1 g1 e1 r2 H2 g2 e2 => ?_⟩
    · rw [hn]; exact .add .c (.mod (.div (.v rfl) .c ⟨by decide, by decide⟩) .c (by decide))
    · exact ⟨_, r1, r2, upto n, [1, 0], cT, rfl, LI.of (g2 _ _ e1), LI.of e2, by rw [upto_length]; omega, by decide, .inr (.inr (.inr ⟨decide_eq_true hb, good_upto (by omega), ok_10, ⟨by decide, by decide⟩, by rw [upto_length]; omega, rfl⟩)), fun H' g => q4 (of_int14 c) _ (g1.trans (g2.trans g))⟩
  refine ⟨_, rfl, rfl, _, rfl, ite2 (fun c => ?_) (fun c5 => iteF ?_)⟩
  · refine ⟨_, rfl, _, _, rfl, rfl, (by show (0 : Int) < 2; decide), rfl, _, rfl, ite2 (fun _ => ?_) (fun _ => ?_)⟩
    · exact ⟨⟨cell, far, rfl, rfl, hf⟩, fun xs r H1 hx g1 e1 r2 H2 g2 e2 => ⟨r, r2, xs, _, cH, rfl, LI.of (g2 _ _ e1), LI.of e2, by omega, by decide, .inr (.inr (.inr ⟨hx.1, ok_012, rfl, hx.2.1, hx.2.2, rfl⟩)), fun H' g => q5 (of_int14 c) _ (g1.trans (g2.trans g))⟩⟩
    · refine ⟨_, rfl, rfl, _, rfl, ite2 (fun _ => ?_) (fun c' => (no_int14 c' (of_int14 c)).elim)⟩
      exact ⟨⟨cell, far, rfl, rfl, hf⟩, fun xs r H1 hx g1 e1 r2 H2 g2 e2 r3 H3 g3 e3 => ⟨r, r2, r3, xs, _, _, cH, rfl, LI.of (g3 _ _ (g2 _ _ e1)), LI.of (g3 _ _ e2), LI.of e3, by omega, by decide, by decide, .inr (.inr (.inr ⟨ok_012, rfl, hx.1, ok_021, rfl, hx.2.1, hx.2.2, rfl⟩)), fun H' g => q5 (of_int14 c) _ (g1.trans (g2.trans (g3.trans g)))⟩⟩
  · refine ⟨_, rfl, rfl, _, rfl, ite2 (fun c => (no_int14 c5 (of_int14 c)).elim) (fun _ => ?_)⟩
    have d0 := no_int14 c0
    have d1 := no_int14 c1
    have d2 := no_int14 c2
    have d3 := no_int14 c3
    have d4 := no_int14 c4
    have d5 := no_int14 c5
    exact ⟨_, rfl, _, rfl, cell, far, rfl, hf, q6 (by omega)⟩
end
end SO

namespace SO
open PySem L2
def spLaw (K : PySem.W.Frag) : Sp := fun vs H Q _ => ∃ (a : Addr) (ns : List Int), vs = [.ref a] ∧ LI K H a ns ∧ ∀ H', Q (.bl true) H'
abbrev lawN : List Str := ["script", "way", "far", "told", "e"]
/-- what is told of the n-th class -/
def bsOf (n : Nat) : List Bool := [decide (n = 0), decide (n = 1), decide (n = 2), decide (n = 3), decide (n = 4), decide (n = 5), decide (n = 6), true]
structure Cl14 (K : PySem.W.Frag) (cE cR cS cO cZ cT cH cN c : Addr) (n : Nat) : Prop where
  sub : PySem.W.mroIn K c (.ref cE) = some true
  exc : PySem.W.ExcK K c
  kit : Kit7 K c cR cS cO cZ cT cH cN (bsOf n)
def fWay (way : Int) : V → V
  | .int k => .bl (decide (k = way) || decide (k = 7))
  | v => v
theorem bs_way : ∀ n : Nat, n < 7 → ((((upto 8).map V.int).filter fun _ => true).map (fWay (n : Int))) = (bsOf n).map V.bl
  | 0, _ => rfl
  | 1, _ => rfl
  | 2, _ => rfl
  | 3, _ => rfl
  | 4, _ => rfl
  | 5, _ => rfl
  | 6, _ => rfl
  | n + 7, h => absurd h (by omega)
theorem okc_law : CompOk (defScope sLaw) lawN "k" ["way"] [1] (scE (subE (valE sLaw 4) 1)) := ⟨rfl, by decide +kernel, by decide +kernel, by decide +kernel, by decide +kernel, by decide +kernel, by decide +kernel, by decide +kernel⟩
section
variable {P : Program} {w : World} {K : PySem.W.Frag} {mg : Str → Option Value} {base : Heap} {f fCell fDone fWhich : Addr} {fd dCell dDone dWhich : FuncData} {cE cR cS cO cZ cT cH cN : Addr}
theorem ok_law (F : Fun K "law" "law" sLaw f fd)
    (gCell : FnOk P w K mg base CX0 13 fCell dCell ["script", "k"] (spCellF K)) (bCell : Binds K dCell ["script", "k"] []) (kCell : PySem.W.keepIn K (.ref fCell) = true) (mCell : mg "_law_cell_at" = some (.ref fCell))
    (gDone : FnOk P w K mg base (CX1 P w) 13 fDone dDone ["way", "cell", "far"] (spDone14 cR cS cO cZ cT cH cN)) (bDone : Binds K dDone ["way", "cell", "far"] []) (kDone : PySem.W.keepIn K (.ref fDone) = true) (mDone : mg "_law_done" = some (.ref fDone))
    (gWhich : FnH P w K mg base 1 fWhich dWhich ["e"] (spWhich K cR cS cO cZ cT cH cN)) (bWhich : Binds K dWhich ["e"] []) (kWhich : PySem.W.keepIn K (.ref fWhich) = true) (mWhich : mg "_law_which" = some (.ref fWhich))
    (mE : mg "OrderError" = some (.ref cE)) (xE : PySem.W.excIn K cE bmV "ValueError.__new__" = true) (oR : Cl14 K cE cR cS cO cZ cT cH cN cR 0) (oS : Cl14 K cE cR cS cO cZ cT cH cN cS 1) (oO : Cl14 K cE cR cS cO cZ cT cH cN cO 2) (oZ : Cl14 K cE cR cS cO cZ cT cH cN cZ 3)
    (oT : Cl14 K cE cR cS cO cZ cT cH cN cT 4) (oH : Cl14 K cE cR cS cO cZ cT cH cN cH 5) (oN : Cl14 K cE cR cS cO cZ cT cH cN cN 6) (hrange : mg "range" = none) : FnOk P w K mg base CX0 14 f fd ["script"] (spLaw K) := by
  have S : FnScope lawN ["script"] (defScope sLaw) := ⟨rfl, rfl, rfl, by decide +kernel, rfl, by decide +kernel, by decide +kernel⟩
  refine F.ok (k := 13) S (fun vs H Q E h => ?_) (fun cdv A outer s H vs Q E hr h => ?_)
  · obtain ⟨a, ns, rfl, _⟩ := h
    rfl
  obtain ⟨a, ns, rfl, hL, q⟩ := h
  refine ⟨_, @LB.out _ _ _ (LB.cons (LS.set (n := 1) S.nd rfl (Or.inr rfl) (LE.op op_mod (LE.call gCell hr rfl mCell kCell bCell .nil pass0 (LA.N (LE.v 0) (LA.I LA.nil))) LE.int))
    (LB.cons (LS.set (n := 2) S.nd rfl (Or.inl rfl) (LE.op op_add LE.int (LE.op op_mod (LE.call gCell hr rfl mCell kCell bCell .nil pass0 (LA.N (LE.v 0) (LA.I LA.nil))) (LE.op op_pow LE.int LE.int))))
    (LB.cons (LS.set (n := 3) S.nd rfl (Or.inl rfl) (LE.lst LA.nil))
    (LB.cons (LS.try (K := K) (i := 4) (tb := fun Hx => _) rfl rfl rfl (fun Hx pn xe hp => LB.one (LS.expr (LE.callX gDone hr rfl mDone kDone bDone .nil hp (LA.N (LE.v 1) (LA.C (LE.call gCell hr rfl mCell kCell bCell .nil pass0 (LA.N (LE.v 0) (LA.I LA.nil))) (LA.N (LE.v 2) LA.nil)))))) rfl mE xE rfl S.nd rfl rfl
      (fun v => LB.one (LS.set (n := 3) S.nd rfl (Or.inl rfl) (LE.callH gWhich ((hr.marked v).mono (by decide)) rfl mWhich kWhich bWhich (LA.N (LE.v 4) LA.nil)))))
    (LB.one (LS.ret (LE.imp (t' := fun σ H Q => ∃ (a : Addr) (way far : Int) (r : Addr) (c4 : Option V) (n : Nat), σ = [some (.ref a), some (.int way), some (.int far), some (.ref r), c4] ∧ way = (n : Int) ∧ n < 7 ∧ H r = some (.lst ((bsOf n).map V.bl)) ∧ ∀ H', Q (.bl true) H')
      (LE.cmp (op_eqD (K := K) hr.units) (LE.v 3) (LE.comp okc_law rfl (pi_range1 rfl hrange (pa_consI pa_nil)) (fun _ _ _ _ _ => LE.or2 (LE.cmp op_eq (LE.v 0) (LE.v 1) (nomark _)) (LE.cmp op_eq (LE.v 0) LE.int (nomark _)))) (nomark _))
      (fun σ H Q h => by
        obtain ⟨a, way, far, r, c4, n, rfl, rfl, hn, er, nx⟩ := h
        refine ⟨_, rfl, 8, rfl, by decide, by decide, comp_range (n := 8) (fWay (n : Int)) (fun _ => true) (by decide) (fun x hx H1 g1 N hN => hN H1 g1) (fun x hx _ H1 g1 N hN => ?_) (fun l H' g hl => ?_)⟩
        · obtain ⟨k, _, rfl⟩ := List.mem_map.mp hx
          refine ⟨_, rfl, _, rfl, rfl, _, rfl, ite2 (fun c => ?_) (fun c => ?_)⟩
          · have e : fWay (n : Int) (.int k) = .bl true := by
              show V.bl (decide (k = (n : Int)) || decide (k = 7)) = _
              rw [decide_eq_true (of_int14 c), Bool.true_or]
            have := hN H1 g1
            rw [e] at this
            exact this
          · refine ⟨_, rfl, rfl, ?_⟩
            have e : fWay (n : Int) (.int k) = .bl (decide (V.int k = V.int 7)) := by
              show V.bl (decide (k = (n : Int)) || decide (k = 7)) = _
              rw [decide_eq_false (no_int14 c), Bool.false_or, int_eq]
            have := hN H1 g1
            rw [e] at this
            exact this
        · rw [bs_way n hn]
          have g2 := same_new hl (.lst ((bsOf n).map V.bl))
          have dv : ∀ {HH : Hp} {z : Addr}, HH z = some (.lst ((bsOf n).map V.bl)) → DV K HH (.ref z) (dB (bsOf n)) := fun h => DV.list_of (f := PyData.bool) (SqL.of h) (paired_map (fun i => .bl i) (bsOf n))
          refine ⟨dB (bsOf n), dB (bsOf n), dv (g2 _ _ (g _ _ er)), dv upd_same, (fine_dB _).shaped, (fine_dB _).shaped, ?_⟩
          rw [eqv_dB, decide_eq_true rfl]
          exact nx _)))))))), ?_⟩
  refine ⟨_, rfl, a, ns, 0, rfl, hL, Int.le_refl 0, _, _, rfl, rfl, (by show (0 : Int) < 7; decide), ?_⟩
  refine ⟨_, rfl, a, ns, 2, rfl, hL, by decide, _, _, rfl, rfl, ⟨by decide, by decide, by decide⟩, _, _, rfl, rfl, (by show (0 : Int) < 10 ^ (59 : Int).toNat; decide), _, _, rfl, rfl, ?_⟩
  refine ⟨(by show 0 ≤ sizeLine; decide), fun r0 n0 => ?_⟩
  have g0 := same_new n0 (.lst ([] : List V))
  have w0 := Int.emod_nonneg (ns.getD (0 : Int).toNat 0) (show (7 : Int) ≠ 0 by decide)
  have w7 := Int.emod_lt_of_pos (ns.getD (0 : Int).toNat 0) (show (0 : Int) < 7 by decide)
  have f0 := Int.emod_nonneg (ns.getD (2 : Int).toNat 0) (show (10 : Int) ^ (59 : Int).toNat ≠ 0 by decide)
  refine ⟨_, rfl, _, rfl, a, ns, 1, rfl, g0.seq hL, by decide, _, rfl, _, _, _, rfl, (by show (2 : Int) ≤ 2 + _; omega), w0, w7, ?_, ?_, ?_, ?_, ?_, ?_, ?_⟩
  · exact fun hk H' g => ⟨cR, rfl, oR.sub, fun e he => ⟨_, rfl, e, cR, bsOf 0, rfl, upd_same, oR.exc, oR.kit, fun r H'' g' er => ⟨a, _, _, r, _, 0, rfl, hk, by decide, er, q⟩⟩⟩
  · exact fun hk H' g => ⟨cS, rfl, oS.sub, fun e he => ⟨_, rfl, e, cS, bsOf 1, rfl, upd_same, oS.exc, oS.kit, fun r H'' g' er => ⟨a, _, _, r, _, 1, rfl, hk, by decide, er, q⟩⟩⟩
  · exact fun hk H' g => ⟨cO, rfl, oO.sub, fun e he => ⟨_, rfl, e, cO, bsOf 2, rfl, upd_same, oO.exc, oO.kit, fun r H'' g' er => ⟨a, _, _, r, _, 2, rfl, hk, by decide, er, q⟩⟩⟩
  · exact fun hk H' g => ⟨cZ, rfl, oZ.sub, fun e he => ⟨_, rfl, e, cZ, bsOf 3, rfl, upd_same, oZ.exc, oZ.kit, fun r H'' g' er => ⟨a, _, _, r, _, 3, rfl, hk, by decide, er, q⟩⟩⟩
  · exact fun hk H' g => ⟨cT, rfl, oT.sub, fun e he => ⟨_, rfl, e, cT, bsOf 4, rfl, upd_same, oT.exc, oT.kit, fun r H'' g' er => ⟨a, _, _, r, _, 4, rfl, hk, by decide, er, q⟩⟩⟩
  · exact fun hk H' g => ⟨cH, rfl, oH.sub, fun e he => ⟨_, rfl, e, cH, bsOf 5, rfl, upd_same, oH.exc, oH.kit, fun r H'' g' er => ⟨a, _, _, r, _, 5, rfl, hk, by decide, er, q⟩⟩⟩
  · exact fun hk H' g => ⟨cN, rfl, oN.sub, fun e he => ⟨_, rfl, e, cN, bsOf 6, rfl, upd_same, oN.exc, oN.kit, fun r H'' g' er => ⟨a, _, _, r, _, 6, rfl, hk, by decide, er, q⟩⟩⟩
end
end SO

namespace SO
open PySem L2
set_option maxHeartbeats 0 in
theorem all_mk {l : PySem.W.OpenLaw} {w : World} {K : PySem.W.Frag} {h : Heap} {mg : Str → Option Value} {fa : Addr} {cE cR cS cO cZ cT cH cN aR : Addr} {odR : Option Addr} {u0 u1 u2 : Tok} {nR : Nat} {slR : Array (Option Value)} {f_check_row : Addr} {od_check_row an_check_row : Option Addr} {sl_check_row : Array (Option Value)} {oc_check_row kV_check_row dc_check_row pm_check_row cd_check_row ct_check_row : Value} {f_check_shape : Addr} {od_check_shape an_check_shape : Option Addr} {sl_check_shape : Array (Option Value)} {oc_check_shape kV_check_shape dc_check_shape pm_check_shape cd_check_shape ct_check_shape : Value} {f_is_shape : Addr} {od_is_shape an_is_shape : Option Addr} {sl_is_shape : Array (Option Value)} {oc_is_shape kV_is_shape dc_is_shape pm_is_shape cd_is_shape ct_is_shape : Value} {f_many_less : Addr} {od_many_less an_many_less : Option Addr} {sl_many_less : Array (Option Value)} {oc_many_less kV_many_less dc_many_less pm_many_less cd_many_less ct_many_less : Value} {f_shape_of : Addr} {od_shape_of an_shape_of : Option Addr} {sl_shape_of : Array (Option Value)} {oc_shape_of kV_shape_of dc_shape_of pm_shape_of cd_shape_of ct_shape_of : Value} {f_backward : Addr} {od_backward an_backward : Option Addr} {sl_backward : Array (Option Value)} {oc_backward kV_backward dc_backward pm_backward cd_backward ct_backward : Value} {f_contrary : Addr} {od_contrary an_contrary : Option Addr} {sl_contrary : Array (Option Value)} {oc_contrary kV_contrary dc_contrary pm_contrary cd_contrary ct_contrary : Value} {f_turned_over : Addr} {od_turned_over an_turned_over : Option Addr} {sl_turned_over : Array (Option Value)} {oc_turned_over kV_turned_over dc_turned_over pm_turned_over cd_turned_over ct_turned_over : Value} {f_check_order : Addr} {od_check_order an_check_order : Option Addr} {sl_check_order : Array (Option Value)} {oc_check_order kV_check_order dc_check_order pm_check_order cd_check_order ct_check_order : Value} {f_check_where_all : Addr} {od_check_where_all an_check_where_all : Option Addr} {sl_check_where_all : Array (Option Value)} {oc_check_where_all kV_check_where_all dc_check_where_all pm_check_where_all cd_check_where_all ct_check_where_all : Value} {f_agrees : Addr} {od_agrees an_agrees : Option Addr} {sl_agrees : Array (Option Value)} {oc_agrees kV_agrees dc_agrees pm_agrees cd_agrees ct_agrees : Value} {f_next_places : Addr} {od_next_places an_next_places : Option Addr} {sl_next_places : Array (Option Value)} {oc_next_places kV_next_places dc_next_places pm_next_places cd_next_places ct_next_places : Value} {f_all_from : Addr} {od_all_from an_all_from : Option Addr} {sl_all_from : Array (Option Value)} {oc_all_from kV_all_from dc_all_from pm_all_from cd_all_from ct_all_from : Value} {f_first_from : Addr} {od_first_from an_first_from : Option Addr} {sl_first_from : Array (Option Value)} {oc_first_from kV_first_from dc_first_from pm_first_from cd_first_from ct_first_from : Value} {f_places : Addr} {od_places an_places : Option Addr} {sl_places : Array (Option Value)} {oc_places kV_places dc_places pm_places cd_places ct_places : Value} {f_many : Addr} {od_many an_many : Option Addr} {sl_many : Array (Option Value)} {oc_many kV_many dc_many pm_many cd_many ct_many : Value} {f_first : Addr} {od_first an_first : Option Addr} {sl_first : Array (Option Value)} {oc_first kV_first dc_first pm_first cd_first ct_first : Value} {f_check_size : Addr} {od_check_size an_check_size : Option Addr} {sl_check_size : Array (Option Value)} {oc_check_size kV_check_size dc_check_size pm_check_size cd_check_size ct_check_size : Value} {f_check_three : Addr} {od_check_three an_check_three : Option Addr} {sl_check_three : Array (Option Value)} {oc_check_three kV_check_three dc_check_three pm_check_three cd_check_three ct_check_three : Value} {f_check_without : Addr} {od_check_without an_check_without : Option Addr} {sl_check_without : Array (Option Value)} {oc_check_without kV_check_without dc_check_without pm_check_without cd_check_without ct_check_without : Value} {f_brought : Addr} {od_brought an_brought : Option Addr} {sl_brought : Array (Option Value)} {oc_brought kV_brought dc_brought pm_brought cd_brought ct_brought : Value} {f_least_numbers : Addr} {od_least_numbers an_least_numbers : Option Addr} {sl_least_numbers : Array (Option Value)} {oc_least_numbers kV_least_numbers dc_least_numbers pm_least_numbers cd_least_numbers ct_least_numbers : Value} {f_shape_with : Addr} {od_shape_with an_shape_with : Option Addr} {sl_shape_with : Array (Option Value)} {oc_shape_with kV_shape_with dc_shape_with pm_shape_with cd_shape_with ct_shape_with : Value} {f_ways_on : Addr} {od_ways_on an_ways_on : Option Addr} {sl_ways_on : Array (Option Value)} {oc_ways_on kV_ways_on dc_ways_on pm_ways_on cd_ways_on ct_ways_on : Value} {f_number_of_least : Addr} {od_number_of_least an_number_of_least : Option Addr} {sl_number_of_least : Array (Option Value)} {oc_number_of_least kV_number_of_least dc_number_of_least pm_number_of_least cd_number_of_least ct_number_of_least : Value} {f_least_at : Addr} {od_least_at an_least_at : Option Addr} {sl_least_at : Array (Option Value)} {oc_least_at kV_least_at dc_least_at pm_least_at cd_least_at ct_least_at : Value} {f_many_without : Addr} {od_many_without an_many_without : Option Addr} {sl_many_without : Array (Option Value)} {oc_many_without kV_many_without dc_many_without pm_many_without cd_many_without ct_many_without : Value} {f_without_at : Addr} {od_without_at an_without_at : Option Addr} {sl_without_at : Array (Option Value)} {oc_without_at kV_without_at dc_without_at pm_without_at cd_without_at ct_without_at : Value} {f_number_of : Addr} {od_number_of an_number_of : Option Addr} {sl_number_of : Array (Option Value)} {oc_number_of kV_number_of dc_number_of pm_number_of cd_number_of ct_number_of : Value} {f_led : Addr} {od_led an_led : Option Addr} {sl_led : Array (Option Value)} {oc_led kV_led dc_led pm_led cd_led ct_led : Value} {f_check_not_below_nought : Addr} {od_check_not_below_nought an_check_not_below_nought : Option Addr} {sl_check_not_below_nought : Array (Option Value)} {oc_check_not_below_nought kV_check_not_below_nought dc_check_not_below_nought pm_check_not_below_nought cd_check_not_below_nought ct_check_not_below_nought : Value} {f_fall_places : Addr} {od_fall_places an_fall_places : Option Addr} {sl_fall_places : Array (Option Value)} {oc_fall_places kV_fall_places dc_fall_places pm_fall_places cd_fall_places ct_fall_places : Value} {f_less_behind : Addr} {od_less_behind an_less_behind : Option Addr} {sl_less_behind : Array (Option Value)} {oc_less_behind kV_less_behind dc_less_behind pm_less_behind cd_less_behind ct_less_behind : Value} {f_falls : Addr} {od_falls an_falls : Option Addr} {sl_falls : Array (Option Value)} {oc_falls kV_falls dc_falls pm_falls cd_falls ct_falls : Value} {f_wrong_pairs : Addr} {od_wrong_pairs an_wrong_pairs : Option Addr} {sl_wrong_pairs : Array (Option Value)} {oc_wrong_pairs kV_wrong_pairs dc_wrong_pairs pm_wrong_pairs cd_wrong_pairs ct_wrong_pairs : Value} {f_fall_sum : Addr} {od_fall_sum an_fall_sum : Option Addr} {sl_fall_sum : Array (Option Value)} {oc_fall_sum kV_fall_sum dc_fall_sum pm_fall_sum cd_fall_sum ct_fall_sum : Value} {f_entry : Addr} {od_entry an_entry : Option Addr} {sl_entry : Array (Option Value)} {oc_entry kV_entry dc_entry pm_entry cd_entry ct_entry : Value} {f_all_by_falls : Addr} {od_all_by_falls an_all_by_falls : Option Addr} {sl_all_by_falls : Array (Option Value)} {oc_all_by_falls kV_all_by_falls dc_all_by_falls pm_all_by_falls cd_all_by_falls ct_all_by_falls : Value} {f_all_by_wrong_pairs : Addr} {od_all_by_wrong_pairs an_all_by_wrong_pairs : Option Addr} {sl_all_by_wrong_pairs : Array (Option Value)} {oc_all_by_wrong_pairs kV_all_by_wrong_pairs dc_all_by_wrong_pairs pm_all_by_wrong_pairs cd_all_by_wrong_pairs ct_all_by_wrong_pairs : Value} {f_many_falls : Addr} {od_many_falls an_many_falls : Option Addr} {sl_many_falls : Array (Option Value)} {oc_many_falls kV_many_falls dc_many_falls pm_many_falls cd_many_falls ct_many_falls : Value} {f_many_wrong : Addr} {od_many_wrong an_many_wrong : Option Addr} {sl_many_wrong : Array (Option Value)} {oc_many_wrong kV_many_wrong dc_many_wrong pm_many_wrong cd_many_wrong ct_many_wrong : Value} {f_parted : Addr} {od_parted an_parted : Option Addr} {sl_parted : Array (Option Value)} {oc_parted kV_parted dc_parted pm_parted cd_parted ct_parted : Value} {f_last_put_first : Addr} {od_last_put_first an_last_put_first : Option Addr} {sl_last_put_first : Array (Option Value)} {oc_last_put_first kV_last_put_first dc_last_put_first pm_last_put_first cd_last_put_first ct_last_put_first : Value} {f_first_put_last : Addr} {od_first_put_last an_first_put_last : Option Addr} {sl_first_put_last : Array (Option Value)} {oc_first_put_last kV_first_put_last dc_first_put_last pm_first_put_last cd_first_put_last ct_first_put_last : Value} {f_exchanged : Addr} {od_exchanged an_exchanged : Option Addr} {sl_exchanged : Array (Option Value)} {oc_exchanged kV_exchanged dc_exchanged pm_exchanged cd_exchanged ct_exchanged : Value} {f_exchanged_back : Addr} {od_exchanged_back an_exchanged_back : Option Addr} {sl_exchanged_back : Array (Option Value)} {oc_exchanged_back kV_exchanged_back dc_exchanged_back pm_exchanged_back cd_exchanged_back ct_exchanged_back : Value} {f__law_cell_at : Addr} {od__law_cell_at an__law_cell_at : Option Addr} {sl__law_cell_at : Array (Option Value)} {oc__law_cell_at kV__law_cell_at dc__law_cell_at pm__law_cell_at cd__law_cell_at ct__law_cell_at : Value} {f__law_which : Addr} {od__law_which an__law_which : Option Addr} {sl__law_which : Array (Option Value)} {oc__law_which kV__law_which dc__law_which pm__law_which cd__law_which ct__law_which : Value} {f__law_within : Addr} {od__law_within an__law_within : Option Addr} {sl__law_within : Array (Option Value)} {oc__law_within kV__law_within dc__law_within pm__law_within cd__law_within ct__law_within : Value} {f__law_of_one : Addr} {od__law_of_one an__law_of_one : Option Addr} {sl__law_of_one : Array (Option Value)} {oc__law_of_one kV__law_of_one dc__law_of_one pm__law_of_one cd__law_of_one ct__law_of_one : Value} {f__law_no_row : Addr} {od__law_no_row an__law_no_row : Option Addr} {sl__law_no_row : Array (Option Value)} {oc__law_no_row kV__law_no_row dc__law_no_row pm__law_no_row cd__law_no_row ct__law_no_row : Value} {f__law_no_shape : Addr} {od__law_no_shape an__law_no_shape : Option Addr} {sl__law_no_shape : Array (Option Value)} {oc__law_no_shape kV__law_no_shape dc__law_no_shape pm__law_no_shape cd__law_no_shape ct__law_no_shape : Value} {f__law_no_order : Addr} {od__law_no_order an__law_no_order : Option Addr} {sl__law_no_order : Array (Option Value)} {oc__law_no_order kV__law_no_order dc__law_no_order pm__law_no_order cd__law_no_order ct__law_no_order : Value} {f__law_no_size : Addr} {od__law_no_size an__law_no_size : Option Addr} {sl__law_no_size : Array (Option Value)} {oc__law_no_size kV__law_no_size dc__law_no_size pm__law_no_size cd__law_no_size ct__law_no_size : Value} {f__law_no_number : Addr} {od__law_no_number an__law_no_number : Option Addr} {sl__law_no_number : Array (Option Value)} {oc__law_no_number kV__law_no_number dc__law_no_number pm__law_no_number cd__law_no_number ct__law_no_number : Value} {f__law_done : Addr} {od__law_done an__law_done : Option Addr} {sl__law_done : Array (Option Value)} {oc__law_done kV__law_done dc__law_done pm__law_done cd__law_done ct__law_done : Value} {f_law : Addr} {od_law an_law : Option Addr} {sl_law : Array (Option Value)} {oc_law kV_law dc_law pm_law cd_law ct_law : Value} {t30 : Tok} {t4 : Tok} {t12 : Tok} {t20 : Tok} (X : K.In h) (G : h.Ns mainGlobals mg) (hfa : mg "law" = some (.ref fa))
    (a_check_row : PySem.W.nsIn K mainGlobals "check_row" = some (some (.ref f_check_row))) (l_check_row : K.lookup f_check_row = some ⟨oc_check_row, od_check_row, .func (PySem.W.fnOf "check_row" "check_row" (defArgs sCheckRow) (defBody sCheckRow) (defScope sCheckRow) .none kV_check_row dc_check_row pm_check_row an_check_row cd_check_row ct_check_row), sl_check_row⟩) (c_check_row : PySem.W.codeIn K cd_check_row "check_row" = true) (k_check_row : PySem.W.keepIn K (.ref f_check_row) = true)
    (a_check_shape : PySem.W.nsIn K mainGlobals "check_shape" = some (some (.ref f_check_shape))) (l_check_shape : K.lookup f_check_shape = some ⟨oc_check_shape, od_check_shape, .func (PySem.W.fnOf "check_shape" "check_shape" (defArgs sCheckShape) (defBody sCheckShape) (defScope sCheckShape) .none kV_check_shape dc_check_shape pm_check_shape an_check_shape cd_check_shape ct_check_shape), sl_check_shape⟩) (c_check_shape : PySem.W.codeIn K cd_check_shape "check_shape" = true) (k_check_shape : PySem.W.keepIn K (.ref f_check_shape) = true)
    (a_is_shape : PySem.W.nsIn K mainGlobals "is_shape" = some (some (.ref f_is_shape))) (l_is_shape : K.lookup f_is_shape = some ⟨oc_is_shape, od_is_shape, .func (PySem.W.fnOf "is_shape" "is_shape" (defArgs sIsShape) (defBody sIsShape) (defScope sIsShape) .none kV_is_shape dc_is_shape pm_is_shape an_is_shape cd_is_shape ct_is_shape), sl_is_shape⟩) (c_is_shape : PySem.W.codeIn K cd_is_shape "is_shape" = true) (k_is_shape : PySem.W.keepIn K (.ref f_is_shape) = true)
    (a_many_less : PySem.W.nsIn K mainGlobals "many_less" = some (some (.ref f_many_less))) (l_many_less : K.lookup f_many_less = some ⟨oc_many_less, od_many_less, .func (PySem.W.fnOf "many_less" "many_less" (defArgs sManyLess) (defBody sManyLess) (defScope sManyLess) .none kV_many_less dc_many_less pm_many_less an_many_less cd_many_less ct_many_less), sl_many_less⟩) (c_many_less : PySem.W.codeIn K cd_many_less "many_less" = true) (k_many_less : PySem.W.keepIn K (.ref f_many_less) = true)
    (a_shape_of : PySem.W.nsIn K mainGlobals "shape_of" = some (some (.ref f_shape_of))) (l_shape_of : K.lookup f_shape_of = some ⟨oc_shape_of, od_shape_of, .func (PySem.W.fnOf "shape_of" "shape_of" (defArgs sShapeOf) (defBody sShapeOf) (defScope sShapeOf) .none kV_shape_of dc_shape_of pm_shape_of an_shape_of cd_shape_of ct_shape_of), sl_shape_of⟩) (c_shape_of : PySem.W.codeIn K cd_shape_of "shape_of" = true) (k_shape_of : PySem.W.keepIn K (.ref f_shape_of) = true)
    (a_backward : PySem.W.nsIn K mainGlobals "backward" = some (some (.ref f_backward))) (l_backward : K.lookup f_backward = some ⟨oc_backward, od_backward, .func (PySem.W.fnOf "backward" "backward" (defArgs sBackward) (defBody sBackward) (defScope sBackward) .none kV_backward dc_backward pm_backward an_backward cd_backward ct_backward), sl_backward⟩) (c_backward : PySem.W.codeIn K cd_backward "backward" = true) (k_backward : PySem.W.keepIn K (.ref f_backward) = true)
    (a_contrary : PySem.W.nsIn K mainGlobals "contrary" = some (some (.ref f_contrary))) (l_contrary : K.lookup f_contrary = some ⟨oc_contrary, od_contrary, .func (PySem.W.fnOf "contrary" "contrary" (defArgs sContrary) (defBody sContrary) (defScope sContrary) .none kV_contrary dc_contrary pm_contrary an_contrary cd_contrary ct_contrary), sl_contrary⟩) (c_contrary : PySem.W.codeIn K cd_contrary "contrary" = true) (k_contrary : PySem.W.keepIn K (.ref f_contrary) = true)
    (a_turned_over : PySem.W.nsIn K mainGlobals "turned_over" = some (some (.ref f_turned_over))) (l_turned_over : K.lookup f_turned_over = some ⟨oc_turned_over, od_turned_over, .func (PySem.W.fnOf "turned_over" "turned_over" (defArgs sTurned) (defBody sTurned) (defScope sTurned) .none kV_turned_over dc_turned_over pm_turned_over an_turned_over cd_turned_over ct_turned_over), sl_turned_over⟩) (c_turned_over : PySem.W.codeIn K cd_turned_over "turned_over" = true) (k_turned_over : PySem.W.keepIn K (.ref f_turned_over) = true)
    (a_check_order : PySem.W.nsIn K mainGlobals "check_order" = some (some (.ref f_check_order))) (l_check_order : K.lookup f_check_order = some ⟨oc_check_order, od_check_order, .func (PySem.W.fnOf "check_order" "check_order" (defArgs sCheckOrder) (defBody sCheckOrder) (defScope sCheckOrder) .none kV_check_order dc_check_order pm_check_order an_check_order cd_check_order ct_check_order), sl_check_order⟩) (c_check_order : PySem.W.codeIn K cd_check_order "check_order" = true) (k_check_order : PySem.W.keepIn K (.ref f_check_order) = true)
    (a_check_where_all : PySem.W.nsIn K mainGlobals "check_where_all" = some (some (.ref f_check_where_all))) (l_check_where_all : K.lookup f_check_where_all = some ⟨oc_check_where_all, od_check_where_all, .func (PySem.W.fnOf "check_where_all" "check_where_all" (defArgs sWhereAll) (defBody sWhereAll) (defScope sWhereAll) .none kV_check_where_all dc_check_where_all pm_check_where_all an_check_where_all cd_check_where_all ct_check_where_all), sl_check_where_all⟩) (c_check_where_all : PySem.W.codeIn K cd_check_where_all "check_where_all" = true) (k_check_where_all : PySem.W.keepIn K (.ref f_check_where_all) = true)
    (a_agrees : PySem.W.nsIn K mainGlobals "agrees" = some (some (.ref f_agrees))) (l_agrees : K.lookup f_agrees = some ⟨oc_agrees, od_agrees, .func (PySem.W.fnOf "agrees" "agrees" (defArgs sAgrees) (defBody sAgrees) (defScope sAgrees) .none kV_agrees dc_agrees pm_agrees an_agrees cd_agrees ct_agrees), sl_agrees⟩) (c_agrees : PySem.W.codeIn K cd_agrees "agrees" = true) (k_agrees : PySem.W.keepIn K (.ref f_agrees) = true)
    (a_next_places : PySem.W.nsIn K mainGlobals "next_places" = some (some (.ref f_next_places))) (l_next_places : K.lookup f_next_places = some ⟨oc_next_places, od_next_places, .func (PySem.W.fnOf "next_places" "next_places" (defArgs sNextPlaces) (defBody sNextPlaces) (defScope sNextPlaces) .none kV_next_places dc_next_places pm_next_places an_next_places cd_next_places ct_next_places), sl_next_places⟩) (c_next_places : PySem.W.codeIn K cd_next_places "next_places" = true) (k_next_places : PySem.W.keepIn K (.ref f_next_places) = true)
    (a_all_from : PySem.W.nsIn K mainGlobals "all_from" = some (some (.ref f_all_from))) (l_all_from : K.lookup f_all_from = some ⟨oc_all_from, od_all_from, .func (PySem.W.fnOf "all_from" "all_from" (defArgs sAllFrom) (defBody sAllFrom) (defScope sAllFrom) .none kV_all_from dc_all_from pm_all_from an_all_from cd_all_from ct_all_from), sl_all_from⟩) (c_all_from : PySem.W.codeIn K cd_all_from "all_from" = true) (k_all_from : PySem.W.keepIn K (.ref f_all_from) = true)
    (a_first_from : PySem.W.nsIn K mainGlobals "first_from" = some (some (.ref f_first_from))) (l_first_from : K.lookup f_first_from = some ⟨oc_first_from, od_first_from, .func (PySem.W.fnOf "first_from" "first_from" (defArgs sFirstFrom) (defBody sFirstFrom) (defScope sFirstFrom) .none kV_first_from dc_first_from pm_first_from an_first_from cd_first_from ct_first_from), sl_first_from⟩) (c_first_from : PySem.W.codeIn K cd_first_from "first_from" = true) (k_first_from : PySem.W.keepIn K (.ref f_first_from) = true)
    (a_places : PySem.W.nsIn K mainGlobals "places" = some (some (.ref f_places))) (l_places : K.lookup f_places = some ⟨oc_places, od_places, .func (PySem.W.fnOf "places" "places" (defArgs sPlaces) (defBody sPlaces) (defScope sPlaces) .none kV_places dc_places pm_places an_places cd_places ct_places), sl_places⟩) (c_places : PySem.W.codeIn K cd_places "places" = true) (k_places : PySem.W.keepIn K (.ref f_places) = true)
    (a_many : PySem.W.nsIn K mainGlobals "many" = some (some (.ref f_many))) (l_many : K.lookup f_many = some ⟨oc_many, od_many, .func (PySem.W.fnOf "many" "many" (defArgs sMany) (defBody sMany) (defScope sMany) .none kV_many dc_many pm_many an_many cd_many ct_many), sl_many⟩) (c_many : PySem.W.codeIn K cd_many "many" = true) (k_many : PySem.W.keepIn K (.ref f_many) = true)
    (a_first : PySem.W.nsIn K mainGlobals "first" = some (some (.ref f_first))) (l_first : K.lookup f_first = some ⟨oc_first, od_first, .func (PySem.W.fnOf "first" "first" (defArgs sFirst) (defBody sFirst) (defScope sFirst) .none kV_first dc_first pm_first an_first cd_first ct_first), sl_first⟩) (c_first : PySem.W.codeIn K cd_first "first" = true) (k_first : PySem.W.keepIn K (.ref f_first) = true)
    (a_check_size : PySem.W.nsIn K mainGlobals "check_size" = some (some (.ref f_check_size))) (l_check_size : K.lookup f_check_size = some ⟨oc_check_size, od_check_size, .func (PySem.W.fnOf "check_size" "check_size" (defArgs sCheckSize) (defBody sCheckSize) (defScope sCheckSize) .none kV_check_size dc_check_size pm_check_size an_check_size cd_check_size ct_check_size), sl_check_size⟩) (c_check_size : PySem.W.codeIn K cd_check_size "check_size" = true) (k_check_size : PySem.W.keepIn K (.ref f_check_size) = true)
    (a_check_three : PySem.W.nsIn K mainGlobals "check_three" = some (some (.ref f_check_three))) (l_check_three : K.lookup f_check_three = some ⟨oc_check_three, od_check_three, .func (PySem.W.fnOf "check_three" "check_three" (defArgs sCheckThree) (defBody sCheckThree) (defScope sCheckThree) .none kV_check_three dc_check_three pm_check_three an_check_three cd_check_three ct_check_three), sl_check_three⟩) (c_check_three : PySem.W.codeIn K cd_check_three "check_three" = true) (k_check_three : PySem.W.keepIn K (.ref f_check_three) = true)
    (a_check_without : PySem.W.nsIn K mainGlobals "check_without" = some (some (.ref f_check_without))) (l_check_without : K.lookup f_check_without = some ⟨oc_check_without, od_check_without, .func (PySem.W.fnOf "check_without" "check_without" (defArgs sCheckWithout) (defBody sCheckWithout) (defScope sCheckWithout) .none kV_check_without dc_check_without pm_check_without an_check_without cd_check_without ct_check_without), sl_check_without⟩) (c_check_without : PySem.W.codeIn K cd_check_without "check_without" = true) (k_check_without : PySem.W.keepIn K (.ref f_check_without) = true)
    (a_brought : PySem.W.nsIn K mainGlobals "brought" = some (some (.ref f_brought))) (l_brought : K.lookup f_brought = some ⟨oc_brought, od_brought, .func (PySem.W.fnOf "brought" "brought" (defArgs sBrought) (defBody sBrought) (defScope sBrought) .none kV_brought dc_brought pm_brought an_brought cd_brought ct_brought), sl_brought⟩) (c_brought : PySem.W.codeIn K cd_brought "brought" = true) (k_brought : PySem.W.keepIn K (.ref f_brought) = true)
    (a_least_numbers : PySem.W.nsIn K mainGlobals "least_numbers" = some (some (.ref f_least_numbers))) (l_least_numbers : K.lookup f_least_numbers = some ⟨oc_least_numbers, od_least_numbers, .func (PySem.W.fnOf "least_numbers" "least_numbers" (defArgs sLeast) (defBody sLeast) (defScope sLeast) .none kV_least_numbers dc_least_numbers pm_least_numbers an_least_numbers cd_least_numbers ct_least_numbers), sl_least_numbers⟩) (c_least_numbers : PySem.W.codeIn K cd_least_numbers "least_numbers" = true) (k_least_numbers : PySem.W.keepIn K (.ref f_least_numbers) = true)
    (a_shape_with : PySem.W.nsIn K mainGlobals "shape_with" = some (some (.ref f_shape_with))) (l_shape_with : K.lookup f_shape_with = some ⟨oc_shape_with, od_shape_with, .func (PySem.W.fnOf "shape_with" "shape_with" (defArgs sShapeWith) (defBody sShapeWith) (defScope sShapeWith) .none kV_shape_with dc_shape_with pm_shape_with an_shape_with cd_shape_with ct_shape_with), sl_shape_with⟩) (c_shape_with : PySem.W.codeIn K cd_shape_with "shape_with" = true) (k_shape_with : PySem.W.keepIn K (.ref f_shape_with) = true)
    (a_ways_on : PySem.W.nsIn K mainGlobals "ways_on" = some (some (.ref f_ways_on))) (l_ways_on : K.lookup f_ways_on = some ⟨oc_ways_on, od_ways_on, .func (PySem.W.fnOf "ways_on" "ways_on" (defArgs sWaysOn) (defBody sWaysOn) (defScope sWaysOn) .none kV_ways_on dc_ways_on pm_ways_on an_ways_on cd_ways_on ct_ways_on), sl_ways_on⟩) (c_ways_on : PySem.W.codeIn K cd_ways_on "ways_on" = true) (k_ways_on : PySem.W.keepIn K (.ref f_ways_on) = true)
    (a_number_of_least : PySem.W.nsIn K mainGlobals "number_of_least" = some (some (.ref f_number_of_least))) (l_number_of_least : K.lookup f_number_of_least = some ⟨oc_number_of_least, od_number_of_least, .func (PySem.W.fnOf "number_of_least" "number_of_least" (defArgs sNumLeast) (defBody sNumLeast) (defScope sNumLeast) .none kV_number_of_least dc_number_of_least pm_number_of_least an_number_of_least cd_number_of_least ct_number_of_least), sl_number_of_least⟩) (c_number_of_least : PySem.W.codeIn K cd_number_of_least "number_of_least" = true) (k_number_of_least : PySem.W.keepIn K (.ref f_number_of_least) = true)
    (a_least_at : PySem.W.nsIn K mainGlobals "least_at" = some (some (.ref f_least_at))) (l_least_at : K.lookup f_least_at = some ⟨oc_least_at, od_least_at, .func (PySem.W.fnOf "least_at" "least_at" (defArgs sLeastAt) (defBody sLeastAt) (defScope sLeastAt) .none kV_least_at dc_least_at pm_least_at an_least_at cd_least_at ct_least_at), sl_least_at⟩) (c_least_at : PySem.W.codeIn K cd_least_at "least_at" = true) (k_least_at : PySem.W.keepIn K (.ref f_least_at) = true)
    (a_many_without : PySem.W.nsIn K mainGlobals "many_without" = some (some (.ref f_many_without))) (l_many_without : K.lookup f_many_without = some ⟨oc_many_without, od_many_without, .func (PySem.W.fnOf "many_without" "many_without" (defArgs sManyWithout) (defBody sManyWithout) (defScope sManyWithout) .none kV_many_without dc_many_without pm_many_without an_many_without cd_many_without ct_many_without), sl_many_without⟩) (c_many_without : PySem.W.codeIn K cd_many_without "many_without" = true) (k_many_without : PySem.W.keepIn K (.ref f_many_without) = true)
    (a_without_at : PySem.W.nsIn K mainGlobals "without_at" = some (some (.ref f_without_at))) (l_without_at : K.lookup f_without_at = some ⟨oc_without_at, od_without_at, .func (PySem.W.fnOf "without_at" "without_at" (defArgs sWithoutAt) (defBody sWithoutAt) (defScope sWithoutAt) .none kV_without_at dc_without_at pm_without_at an_without_at cd_without_at ct_without_at), sl_without_at⟩) (c_without_at : PySem.W.codeIn K cd_without_at "without_at" = true) (k_without_at : PySem.W.keepIn K (.ref f_without_at) = true)
    (a_number_of : PySem.W.nsIn K mainGlobals "number_of" = some (some (.ref f_number_of))) (l_number_of : K.lookup f_number_of = some ⟨oc_number_of, od_number_of, .func (PySem.W.fnOf "number_of" "number_of" (defArgs sNumberOf) (defBody sNumberOf) (defScope sNumberOf) .none kV_number_of dc_number_of pm_number_of an_number_of cd_number_of ct_number_of), sl_number_of⟩) (c_number_of : PySem.W.codeIn K cd_number_of "number_of" = true) (k_number_of : PySem.W.keepIn K (.ref f_number_of) = true)
    (a_led : PySem.W.nsIn K mainGlobals "led" = some (some (.ref f_led))) (l_led : K.lookup f_led = some ⟨oc_led, od_led, .func (PySem.W.fnOf "led" "led" (defArgs sLed) (defBody sLed) (defScope sLed) .none kV_led dc_led pm_led an_led cd_led ct_led), sl_led⟩) (c_led : PySem.W.codeIn K cd_led "led" = true) (k_led : PySem.W.keepIn K (.ref f_led) = true)
    (a_check_not_below_nought : PySem.W.nsIn K mainGlobals "check_not_below_nought" = some (some (.ref f_check_not_below_nought))) (l_check_not_below_nought : K.lookup f_check_not_below_nought = some ⟨oc_check_not_below_nought, od_check_not_below_nought, .func (PySem.W.fnOf "check_not_below_nought" "check_not_below_nought" (defArgs sBelow) (defBody sBelow) (defScope sBelow) .none kV_check_not_below_nought dc_check_not_below_nought pm_check_not_below_nought an_check_not_below_nought cd_check_not_below_nought ct_check_not_below_nought), sl_check_not_below_nought⟩) (c_check_not_below_nought : PySem.W.codeIn K cd_check_not_below_nought "check_not_below_nought" = true) (k_check_not_below_nought : PySem.W.keepIn K (.ref f_check_not_below_nought) = true)
    (a_fall_places : PySem.W.nsIn K mainGlobals "fall_places" = some (some (.ref f_fall_places))) (l_fall_places : K.lookup f_fall_places = some ⟨oc_fall_places, od_fall_places, .func (PySem.W.fnOf "fall_places" "fall_places" (defArgs sFallPlaces) (defBody sFallPlaces) (defScope sFallPlaces) .none kV_fall_places dc_fall_places pm_fall_places an_fall_places cd_fall_places ct_fall_places), sl_fall_places⟩) (c_fall_places : PySem.W.codeIn K cd_fall_places "fall_places" = true) (k_fall_places : PySem.W.keepIn K (.ref f_fall_places) = true)
    (a_less_behind : PySem.W.nsIn K mainGlobals "less_behind" = some (some (.ref f_less_behind))) (l_less_behind : K.lookup f_less_behind = some ⟨oc_less_behind, od_less_behind, .func (PySem.W.fnOf "less_behind" "less_behind" (defArgs sLessBehind) (defBody sLessBehind) (defScope sLessBehind) .none kV_less_behind dc_less_behind pm_less_behind an_less_behind cd_less_behind ct_less_behind), sl_less_behind⟩) (c_less_behind : PySem.W.codeIn K cd_less_behind "less_behind" = true) (k_less_behind : PySem.W.keepIn K (.ref f_less_behind) = true)
    (a_falls : PySem.W.nsIn K mainGlobals "falls" = some (some (.ref f_falls))) (l_falls : K.lookup f_falls = some ⟨oc_falls, od_falls, .func (PySem.W.fnOf "falls" "falls" (defArgs sFalls) (defBody sFalls) (defScope sFalls) .none kV_falls dc_falls pm_falls an_falls cd_falls ct_falls), sl_falls⟩) (c_falls : PySem.W.codeIn K cd_falls "falls" = true) (k_falls : PySem.W.keepIn K (.ref f_falls) = true)
    (a_wrong_pairs : PySem.W.nsIn K mainGlobals "wrong_pairs" = some (some (.ref f_wrong_pairs))) (l_wrong_pairs : K.lookup f_wrong_pairs = some ⟨oc_wrong_pairs, od_wrong_pairs, .func (PySem.W.fnOf "wrong_pairs" "wrong_pairs" (defArgs sWrong) (defBody sWrong) (defScope sWrong) .none kV_wrong_pairs dc_wrong_pairs pm_wrong_pairs an_wrong_pairs cd_wrong_pairs ct_wrong_pairs), sl_wrong_pairs⟩) (c_wrong_pairs : PySem.W.codeIn K cd_wrong_pairs "wrong_pairs" = true) (k_wrong_pairs : PySem.W.keepIn K (.ref f_wrong_pairs) = true)
    (a_fall_sum : PySem.W.nsIn K mainGlobals "fall_sum" = some (some (.ref f_fall_sum))) (l_fall_sum : K.lookup f_fall_sum = some ⟨oc_fall_sum, od_fall_sum, .func (PySem.W.fnOf "fall_sum" "fall_sum" (defArgs sFallSum) (defBody sFallSum) (defScope sFallSum) .none kV_fall_sum dc_fall_sum pm_fall_sum an_fall_sum cd_fall_sum ct_fall_sum), sl_fall_sum⟩) (c_fall_sum : PySem.W.codeIn K cd_fall_sum "fall_sum" = true) (k_fall_sum : PySem.W.keepIn K (.ref f_fall_sum) = true)
    (a_entry : PySem.W.nsIn K mainGlobals "entry" = some (some (.ref f_entry))) (l_entry : K.lookup f_entry = some ⟨oc_entry, od_entry, .func (PySem.W.fnOf "entry" "entry" (defArgs sEntry) (defBody sEntry) (defScope sEntry) .none kV_entry dc_entry pm_entry an_entry cd_entry ct_entry), sl_entry⟩) (c_entry : PySem.W.codeIn K cd_entry "entry" = true) (k_entry : PySem.W.keepIn K (.ref f_entry) = true)
    (a_all_by_falls : PySem.W.nsIn K mainGlobals "all_by_falls" = some (some (.ref f_all_by_falls))) (l_all_by_falls : K.lookup f_all_by_falls = some ⟨oc_all_by_falls, od_all_by_falls, .func (PySem.W.fnOf "all_by_falls" "all_by_falls" (defArgs sAllFalls) (defBody sAllFalls) (defScope sAllFalls) .none kV_all_by_falls dc_all_by_falls pm_all_by_falls an_all_by_falls cd_all_by_falls ct_all_by_falls), sl_all_by_falls⟩) (c_all_by_falls : PySem.W.codeIn K cd_all_by_falls "all_by_falls" = true) (k_all_by_falls : PySem.W.keepIn K (.ref f_all_by_falls) = true)
    (a_all_by_wrong_pairs : PySem.W.nsIn K mainGlobals "all_by_wrong_pairs" = some (some (.ref f_all_by_wrong_pairs))) (l_all_by_wrong_pairs : K.lookup f_all_by_wrong_pairs = some ⟨oc_all_by_wrong_pairs, od_all_by_wrong_pairs, .func (PySem.W.fnOf "all_by_wrong_pairs" "all_by_wrong_pairs" (defArgs sAllWrong) (defBody sAllWrong) (defScope sAllWrong) .none kV_all_by_wrong_pairs dc_all_by_wrong_pairs pm_all_by_wrong_pairs an_all_by_wrong_pairs cd_all_by_wrong_pairs ct_all_by_wrong_pairs), sl_all_by_wrong_pairs⟩) (c_all_by_wrong_pairs : PySem.W.codeIn K cd_all_by_wrong_pairs "all_by_wrong_pairs" = true) (k_all_by_wrong_pairs : PySem.W.keepIn K (.ref f_all_by_wrong_pairs) = true)
    (a_many_falls : PySem.W.nsIn K mainGlobals "many_falls" = some (some (.ref f_many_falls))) (l_many_falls : K.lookup f_many_falls = some ⟨oc_many_falls, od_many_falls, .func (PySem.W.fnOf "many_falls" "many_falls" (defArgs sManyFalls) (defBody sManyFalls) (defScope sManyFalls) .none kV_many_falls dc_many_falls pm_many_falls an_many_falls cd_many_falls ct_many_falls), sl_many_falls⟩) (c_many_falls : PySem.W.codeIn K cd_many_falls "many_falls" = true) (k_many_falls : PySem.W.keepIn K (.ref f_many_falls) = true)
    (a_many_wrong : PySem.W.nsIn K mainGlobals "many_wrong" = some (some (.ref f_many_wrong))) (l_many_wrong : K.lookup f_many_wrong = some ⟨oc_many_wrong, od_many_wrong, .func (PySem.W.fnOf "many_wrong" "many_wrong" (defArgs sManyWrong) (defBody sManyWrong) (defScope sManyWrong) .none kV_many_wrong dc_many_wrong pm_many_wrong an_many_wrong cd_many_wrong ct_many_wrong), sl_many_wrong⟩) (c_many_wrong : PySem.W.codeIn K cd_many_wrong "many_wrong" = true) (k_many_wrong : PySem.W.keepIn K (.ref f_many_wrong) = true)
    (a_parted : PySem.W.nsIn K mainGlobals "parted" = some (some (.ref f_parted))) (l_parted : K.lookup f_parted = some ⟨oc_parted, od_parted, .func (PySem.W.fnOf "parted" "parted" (defArgs sParted) (defBody sParted) (defScope sParted) .none kV_parted dc_parted pm_parted an_parted cd_parted ct_parted), sl_parted⟩) (c_parted : PySem.W.codeIn K cd_parted "parted" = true) (k_parted : PySem.W.keepIn K (.ref f_parted) = true)
    (a_last_put_first : PySem.W.nsIn K mainGlobals "last_put_first" = some (some (.ref f_last_put_first))) (l_last_put_first : K.lookup f_last_put_first = some ⟨oc_last_put_first, od_last_put_first, .func (PySem.W.fnOf "last_put_first" "last_put_first" (defArgs sLastFirst) (defBody sLastFirst) (defScope sLastFirst) .none kV_last_put_first dc_last_put_first pm_last_put_first an_last_put_first cd_last_put_first ct_last_put_first), sl_last_put_first⟩) (c_last_put_first : PySem.W.codeIn K cd_last_put_first "last_put_first" = true) (k_last_put_first : PySem.W.keepIn K (.ref f_last_put_first) = true)
    (a_first_put_last : PySem.W.nsIn K mainGlobals "first_put_last" = some (some (.ref f_first_put_last))) (l_first_put_last : K.lookup f_first_put_last = some ⟨oc_first_put_last, od_first_put_last, .func (PySem.W.fnOf "first_put_last" "first_put_last" (defArgs sFirstLast) (defBody sFirstLast) (defScope sFirstLast) .none kV_first_put_last dc_first_put_last pm_first_put_last an_first_put_last cd_first_put_last ct_first_put_last), sl_first_put_last⟩) (c_first_put_last : PySem.W.codeIn K cd_first_put_last "first_put_last" = true) (k_first_put_last : PySem.W.keepIn K (.ref f_first_put_last) = true)
    (a_exchanged : PySem.W.nsIn K mainGlobals "exchanged" = some (some (.ref f_exchanged))) (l_exchanged : K.lookup f_exchanged = some ⟨oc_exchanged, od_exchanged, .func (PySem.W.fnOf "exchanged" "exchanged" (defArgs sExchanged) (defBody sExchanged) (defScope sExchanged) .none kV_exchanged dc_exchanged pm_exchanged an_exchanged cd_exchanged ct_exchanged), sl_exchanged⟩) (c_exchanged : PySem.W.codeIn K cd_exchanged "exchanged" = true) (k_exchanged : PySem.W.keepIn K (.ref f_exchanged) = true)
    (a_exchanged_back : PySem.W.nsIn K mainGlobals "exchanged_back" = some (some (.ref f_exchanged_back))) (l_exchanged_back : K.lookup f_exchanged_back = some ⟨oc_exchanged_back, od_exchanged_back, .func (PySem.W.fnOf "exchanged_back" "exchanged_back" (defArgs sExBack) (defBody sExBack) (defScope sExBack) .none kV_exchanged_back dc_exchanged_back pm_exchanged_back an_exchanged_back cd_exchanged_back ct_exchanged_back), sl_exchanged_back⟩) (c_exchanged_back : PySem.W.codeIn K cd_exchanged_back "exchanged_back" = true) (k_exchanged_back : PySem.W.keepIn K (.ref f_exchanged_back) = true)
    (a__law_cell_at : PySem.W.nsIn K mainGlobals "_law_cell_at" = some (some (.ref f__law_cell_at))) (l__law_cell_at : K.lookup f__law_cell_at = some ⟨oc__law_cell_at, od__law_cell_at, .func (PySem.W.fnOf "_law_cell_at" "_law_cell_at" (defArgs sCell) (defBody sCell) (defScope sCell) .none kV__law_cell_at dc__law_cell_at pm__law_cell_at an__law_cell_at cd__law_cell_at ct__law_cell_at), sl__law_cell_at⟩) (c__law_cell_at : PySem.W.codeIn K cd__law_cell_at "_law_cell_at" = true) (k__law_cell_at : PySem.W.keepIn K (.ref f__law_cell_at) = true)
    (a__law_which : PySem.W.nsIn K mainGlobals "_law_which" = some (some (.ref f__law_which))) (l__law_which : K.lookup f__law_which = some ⟨oc__law_which, od__law_which, .func (PySem.W.fnOf "_law_which" "_law_which" (defArgs sWhich) (defBody sWhich) (defScope sWhich) .none kV__law_which dc__law_which pm__law_which an__law_which cd__law_which ct__law_which), sl__law_which⟩) (c__law_which : PySem.W.codeIn K cd__law_which "_law_which" = true) (k__law_which : PySem.W.keepIn K (.ref f__law_which) = true)
    (a__law_within : PySem.W.nsIn K mainGlobals "_law_within" = some (some (.ref f__law_within))) (l__law_within : K.lookup f__law_within = some ⟨oc__law_within, od__law_within, .func (PySem.W.fnOf "_law_within" "_law_within" (defArgs sWithin) (defBody sWithin) (defScope sWithin) .none kV__law_within dc__law_within pm__law_within an__law_within cd__law_within ct__law_within), sl__law_within⟩) (c__law_within : PySem.W.codeIn K cd__law_within "_law_within" = true) (k__law_within : PySem.W.keepIn K (.ref f__law_within) = true)
    (a__law_of_one : PySem.W.nsIn K mainGlobals "_law_of_one" = some (some (.ref f__law_of_one))) (l__law_of_one : K.lookup f__law_of_one = some ⟨oc__law_of_one, od__law_of_one, .func (PySem.W.fnOf "_law_of_one" "_law_of_one" (defArgs sOfOne) (defBody sOfOne) (defScope sOfOne) .none kV__law_of_one dc__law_of_one pm__law_of_one an__law_of_one cd__law_of_one ct__law_of_one), sl__law_of_one⟩) (c__law_of_one : PySem.W.codeIn K cd__law_of_one "_law_of_one" = true) (k__law_of_one : PySem.W.keepIn K (.ref f__law_of_one) = true)
    (a__law_no_row : PySem.W.nsIn K mainGlobals "_law_no_row" = some (some (.ref f__law_no_row))) (l__law_no_row : K.lookup f__law_no_row = some ⟨oc__law_no_row, od__law_no_row, .func (PySem.W.fnOf "_law_no_row" "_law_no_row" (defArgs sNoRow) (defBody sNoRow) (defScope sNoRow) .none kV__law_no_row dc__law_no_row pm__law_no_row an__law_no_row cd__law_no_row ct__law_no_row), sl__law_no_row⟩) (c__law_no_row : PySem.W.codeIn K cd__law_no_row "_law_no_row" = true) (k__law_no_row : PySem.W.keepIn K (.ref f__law_no_row) = true)
    (a__law_no_shape : PySem.W.nsIn K mainGlobals "_law_no_shape" = some (some (.ref f__law_no_shape))) (l__law_no_shape : K.lookup f__law_no_shape = some ⟨oc__law_no_shape, od__law_no_shape, .func (PySem.W.fnOf "_law_no_shape" "_law_no_shape" (defArgs sNoShape) (defBody sNoShape) (defScope sNoShape) .none kV__law_no_shape dc__law_no_shape pm__law_no_shape an__law_no_shape cd__law_no_shape ct__law_no_shape), sl__law_no_shape⟩) (c__law_no_shape : PySem.W.codeIn K cd__law_no_shape "_law_no_shape" = true) (k__law_no_shape : PySem.W.keepIn K (.ref f__law_no_shape) = true)
    (a__law_no_order : PySem.W.nsIn K mainGlobals "_law_no_order" = some (some (.ref f__law_no_order))) (l__law_no_order : K.lookup f__law_no_order = some ⟨oc__law_no_order, od__law_no_order, .func (PySem.W.fnOf "_law_no_order" "_law_no_order" (defArgs sNoOrder) (defBody sNoOrder) (defScope sNoOrder) .none kV__law_no_order dc__law_no_order pm__law_no_order an__law_no_order cd__law_no_order ct__law_no_order), sl__law_no_order⟩) (c__law_no_order : PySem.W.codeIn K cd__law_no_order "_law_no_order" = true) (k__law_no_order : PySem.W.keepIn K (.ref f__law_no_order) = true)
    (a__law_no_size : PySem.W.nsIn K mainGlobals "_law_no_size" = some (some (.ref f__law_no_size))) (l__law_no_size : K.lookup f__law_no_size = some ⟨oc__law_no_size, od__law_no_size, .func (PySem.W.fnOf "_law_no_size" "_law_no_size" (defArgs sNoSize) (defBody sNoSize) (defScope sNoSize) .none kV__law_no_size dc__law_no_size pm__law_no_size an__law_no_size cd__law_no_size ct__law_no_size), sl__law_no_size⟩) (c__law_no_size : PySem.W.codeIn K cd__law_no_size "_law_no_size" = true) (k__law_no_size : PySem.W.keepIn K (.ref f__law_no_size) = true)
    (a__law_no_number : PySem.W.nsIn K mainGlobals "_law_no_number" = some (some (.ref f__law_no_number))) (l__law_no_number : K.lookup f__law_no_number = some ⟨oc__law_no_number, od__law_no_number, .func (PySem.W.fnOf "_law_no_number" "_law_no_number" (defArgs sNoNumber) (defBody sNoNumber) (defScope sNoNumber) .none kV__law_no_number dc__law_no_number pm__law_no_number an__law_no_number cd__law_no_number ct__law_no_number), sl__law_no_number⟩) (c__law_no_number : PySem.W.codeIn K cd__law_no_number "_law_no_number" = true) (k__law_no_number : PySem.W.keepIn K (.ref f__law_no_number) = true)
    (a__law_done : PySem.W.nsIn K mainGlobals "_law_done" = some (some (.ref f__law_done))) (l__law_done : K.lookup f__law_done = some ⟨oc__law_done, od__law_done, .func (PySem.W.fnOf "_law_done" "_law_done" (defArgs sDone) (defBody sDone) (defScope sDone) .none kV__law_done dc__law_done pm__law_done an__law_done cd__law_done ct__law_done), sl__law_done⟩) (c__law_done : PySem.W.codeIn K cd__law_done "_law_done" = true) (k__law_done : PySem.W.keepIn K (.ref f__law_done) = true)
    (a_law : PySem.W.nsIn K mainGlobals "law" = some (some (.ref f_law))) (l_law : K.lookup f_law = some ⟨oc_law, od_law, .func (PySem.W.fnOf "law" "law" (defArgs sLaw) (defBody sLaw) (defScope sLaw) .none kV_law dc_law pm_law an_law cd_law ct_law), sl_law⟩) (c_law : PySem.W.codeIn K cd_law "law" = true) (k_law : PySem.W.keepIn K (.ref f_law) = true)
    (z_len : PySem.W.nsIn K mainGlobals "len" = some none)
    (z_set : PySem.W.nsIn K mainGlobals "set" = some none)
    (z_sorted : PySem.W.nsIn K mainGlobals "sorted" = some none)
    (z_list : PySem.W.nsIn K mainGlobals "list" = some none)
    (z_range : PySem.W.nsIn K mainGlobals "range" = some none)
    (z_isinstance : PySem.W.nsIn K mainGlobals "isinstance" = some none)
    (z_sum : PySem.W.nsIn K mainGlobals "sum" = some none)
    (z_min : PySem.W.nsIn K mainGlobals "min" = some none)
    (z_ValueError : PySem.W.nsIn K mainGlobals "ValueError" = some none)
    (m_MOST_NUMBERS : PySem.W.nsIn K mainGlobals "MOST_NUMBERS" = some (some (.int 30 t30)))
    (m_MOST_OF_ORDER : PySem.W.nsIn K mainGlobals "MOST_OF_ORDER" = some (some (.int 4 t4)))
    (m_MOST_WHERE_ALL : PySem.W.nsIn K mainGlobals "MOST_WHERE_ALL" = some (some (.int 12 t12)))
    (m_GREATEST_SIZE : PySem.W.nsIn K mainGlobals "GREATEST_SIZE" = some (some (.int 20 t20)))
    (m_OrderError : PySem.W.nsIn K mainGlobals "OrderError" = some (some (.ref cE)))
    (m_NoRow : PySem.W.nsIn K mainGlobals "NoRow" = some (some (.ref cR)))
    (m_NoShape : PySem.W.nsIn K mainGlobals "NoShape" = some (some (.ref cS)))
    (m_NoOrder : PySem.W.nsIn K mainGlobals "NoOrder" = some (some (.ref cO)))
    (m_NoSize : PySem.W.nsIn K mainGlobals "NoSize" = some (some (.ref cZ)))
    (m_TooLong : PySem.W.nsIn K mainGlobals "TooLong" = some (some (.ref cT)))
    (m_HasOrder : PySem.W.nsIn K mainGlobals "HasOrder" = some (some (.ref cH)))
    (m_NoNumber : PySem.W.nsIn K mainGlobals "NoNumber" = some (some (.ref cN)))
    (m_RISING : PySem.W.nsIn K mainGlobals "RISING" = some (some (.ref aR)))
    (xE : PySem.W.excIn K cE bmV "ValueError.__new__" = true)
    (xR : PySem.W.excIn K cR bmVE "ValueError.__new__" = true)
    (xS : PySem.W.excIn K cS bmV "ValueError.__new__" = true)
    (xO : PySem.W.excIn K cO bmV "ValueError.__new__" = true)
    (xZ : PySem.W.excIn K cZ bmV "ValueError.__new__" = true)
    (xT : PySem.W.excIn K cT bmV "ValueError.__new__" = true)
    (xH : PySem.W.excIn K cH bmV "ValueError.__new__" = true)
    (xN : PySem.W.excIn K cN bmV "ValueError.__new__" = true)
    (lR : K.lookup aR = some ⟨.type "tuple", odR, .seq #[.int 0 u0, .int 1 u1, .int 2 u2] nR, slR⟩)
    (ee5 : PySem.W.specialIn K (.builtin "object.__class__") "__get__" = some (some (.builtin "getset_descriptor.__get__")))
    (ee6 : PySem.W.takesIn K (.builtin "object.__class__") = some true)
    (eR1 : PySem.W.findIn K (.ref cR) "__getattribute__" = some (some (.builtin "BaseException.__getattribute__")))
    (eR2 : PySem.W.findIn K (.ref cR) "__getattr__" = some none)
    (eR3 : (PySem.W.clsIn K cR).isSome = true)
    (eR4 : PySem.W.findIn K (.ref cR) "__class__" = some (some (.builtin "object.__class__")))
    (eR7 : PySem.W.mroIn K cR (.type "object") = some true)
    (eR8 : PySem.W.mroIn K cR (.type "BaseException") = some true)
    (sRE : PySem.W.mroIn K cR (.ref cE) = some true)
    (iRR : PySem.W.kitOne K (.ref cR) (.ref cR) = some true)
    (iRS : PySem.W.kitOne K (.ref cR) (.ref cS) = some false)
    (iRO : PySem.W.kitOne K (.ref cR) (.ref cO) = some false)
    (iRZ : PySem.W.kitOne K (.ref cR) (.ref cZ) = some false)
    (iRT : PySem.W.kitOne K (.ref cR) (.ref cT) = some false)
    (iRH : PySem.W.kitOne K (.ref cR) (.ref cH) = some false)
    (iRN : PySem.W.kitOne K (.ref cR) (.ref cN) = some false)
    (iRV : PySem.W.kitOne K (.ref cR) (.type "ValueError") = some true)
    (eS1 : PySem.W.findIn K (.ref cS) "__getattribute__" = some (some (.builtin "BaseException.__getattribute__")))
    (eS2 : PySem.W.findIn K (.ref cS) "__getattr__" = some none)
    (eS3 : (PySem.W.clsIn K cS).isSome = true)
    (eS4 : PySem.W.findIn K (.ref cS) "__class__" = some (some (.builtin "object.__class__")))
    (eS7 : PySem.W.mroIn K cS (.type "object") = some true)
    (eS8 : PySem.W.mroIn K cS (.type "BaseException") = some true)
    (sSE : PySem.W.mroIn K cS (.ref cE) = some true)
    (iSR : PySem.W.kitOne K (.ref cS) (.ref cR) = some false)
    (iSS : PySem.W.kitOne K (.ref cS) (.ref cS) = some true)
    (iSO : PySem.W.kitOne K (.ref cS) (.ref cO) = some false)
    (iSZ : PySem.W.kitOne K (.ref cS) (.ref cZ) = some false)
    (iST : PySem.W.kitOne K (.ref cS) (.ref cT) = some false)
    (iSH : PySem.W.kitOne K (.ref cS) (.ref cH) = some false)
    (iSN : PySem.W.kitOne K (.ref cS) (.ref cN) = some false)
    (iSV : PySem.W.kitOne K (.ref cS) (.type "ValueError") = some true)
    (eO1 : PySem.W.findIn K (.ref cO) "__getattribute__" = some (some (.builtin "BaseException.__getattribute__")))
    (eO2 : PySem.W.findIn K (.ref cO) "__getattr__" = some none)
    (eO3 : (PySem.W.clsIn K cO).isSome = true)
    (eO4 : PySem.W.findIn K (.ref cO) "__class__" = some (some (.builtin "object.__class__")))
    (eO7 : PySem.W.mroIn K cO (.type "object") = some true)
    (eO8 : PySem.W.mroIn K cO (.type "BaseException") = some true)
    (sOE : PySem.W.mroIn K cO (.ref cE) = some true)
    (iOR : PySem.W.kitOne K (.ref cO) (.ref cR) = some false)
    (iOS : PySem.W.kitOne K (.ref cO) (.ref cS) = some false)
    (iOO : PySem.W.kitOne K (.ref cO) (.ref cO) = some true)
    (iOZ : PySem.W.kitOne K (.ref cO) (.ref cZ) = some false)
    (iOT : PySem.W.kitOne K (.ref cO) (.ref cT) = some false)
    (iOH : PySem.W.kitOne K (.ref cO) (.ref cH) = some false)
    (iON : PySem.W.kitOne K (.ref cO) (.ref cN) = some false)
    (iOV : PySem.W.kitOne K (.ref cO) (.type "ValueError") = some true)
    (eZ1 : PySem.W.findIn K (.ref cZ) "__getattribute__" = some (some (.builtin "BaseException.__getattribute__")))
    (eZ2 : PySem.W.findIn K (.ref cZ) "__getattr__" = some none)
    (eZ3 : (PySem.W.clsIn K cZ).isSome = true)
    (eZ4 : PySem.W.findIn K (.ref cZ) "__class__" = some (some (.builtin "object.__class__")))
    (eZ7 : PySem.W.mroIn K cZ (.type "object") = some true)
    (eZ8 : PySem.W.mroIn K cZ (.type "BaseException") = some true)
    (sZE : PySem.W.mroIn K cZ (.ref cE) = some true)
    (iZR : PySem.W.kitOne K (.ref cZ) (.ref cR) = some false)
    (iZS : PySem.W.kitOne K (.ref cZ) (.ref cS) = some false)
    (iZO : PySem.W.kitOne K (.ref cZ) (.ref cO) = some false)
    (iZZ : PySem.W.kitOne K (.ref cZ) (.ref cZ) = some true)
    (iZT : PySem.W.kitOne K (.ref cZ) (.ref cT) = some false)
    (iZH : PySem.W.kitOne K (.ref cZ) (.ref cH) = some false)
    (iZN : PySem.W.kitOne K (.ref cZ) (.ref cN) = some false)
    (iZV : PySem.W.kitOne K (.ref cZ) (.type "ValueError") = some true)
    (eT1 : PySem.W.findIn K (.ref cT) "__getattribute__" = some (some (.builtin "BaseException.__getattribute__")))
    (eT2 : PySem.W.findIn K (.ref cT) "__getattr__" = some none)
    (eT3 : (PySem.W.clsIn K cT).isSome = true)
    (eT4 : PySem.W.findIn K (.ref cT) "__class__" = some (some (.builtin "object.__class__")))
    (eT7 : PySem.W.mroIn K cT (.type "object") = some true)
    (eT8 : PySem.W.mroIn K cT (.type "BaseException") = some true)
    (sTE : PySem.W.mroIn K cT (.ref cE) = some true)
    (iTR : PySem.W.kitOne K (.ref cT) (.ref cR) = some false)
    (iTS : PySem.W.kitOne K (.ref cT) (.ref cS) = some false)
    (iTO : PySem.W.kitOne K (.ref cT) (.ref cO) = some false)
    (iTZ : PySem.W.kitOne K (.ref cT) (.ref cZ) = some false)
    (iTT : PySem.W.kitOne K (.ref cT) (.ref cT) = some true)
    (iTH : PySem.W.kitOne K (.ref cT) (.ref cH) = some false)
    (iTN : PySem.W.kitOne K (.ref cT) (.ref cN) = some false)
    (iTV : PySem.W.kitOne K (.ref cT) (.type "ValueError") = some true)
    (eH1 : PySem.W.findIn K (.ref cH) "__getattribute__" = some (some (.builtin "BaseException.__getattribute__")))
    (eH2 : PySem.W.findIn K (.ref cH) "__getattr__" = some none)
    (eH3 : (PySem.W.clsIn K cH).isSome = true)
    (eH4 : PySem.W.findIn K (.ref cH) "__class__" = some (some (.builtin "object.__class__")))
    (eH7 : PySem.W.mroIn K cH (.type "object") = some true)
    (eH8 : PySem.W.mroIn K cH (.type "BaseException") = some true)
    (sHE : PySem.W.mroIn K cH (.ref cE) = some true)
    (iHR : PySem.W.kitOne K (.ref cH) (.ref cR) = some false)
    (iHS : PySem.W.kitOne K (.ref cH) (.ref cS) = some false)
    (iHO : PySem.W.kitOne K (.ref cH) (.ref cO) = some false)
    (iHZ : PySem.W.kitOne K (.ref cH) (.ref cZ) = some false)
    (iHT : PySem.W.kitOne K (.ref cH) (.ref cT) = some false)
    (iHH : PySem.W.kitOne K (.ref cH) (.ref cH) = some true)
    (iHN : PySem.W.kitOne K (.ref cH) (.ref cN) = some false)
    (iHV : PySem.W.kitOne K (.ref cH) (.type "ValueError") = some true)
    (eN1 : PySem.W.findIn K (.ref cN) "__getattribute__" = some (some (.builtin "BaseException.__getattribute__")))
    (eN2 : PySem.W.findIn K (.ref cN) "__getattr__" = some none)
    (eN3 : (PySem.W.clsIn K cN).isSome = true)
    (eN4 : PySem.W.findIn K (.ref cN) "__class__" = some (some (.builtin "object.__class__")))
    (eN7 : PySem.W.mroIn K cN (.type "object") = some true)
    (eN8 : PySem.W.mroIn K cN (.type "BaseException") = some true)
    (sNE : PySem.W.mroIn K cN (.ref cE) = some true)
    (iNR : PySem.W.kitOne K (.ref cN) (.ref cR) = some false)
    (iNS : PySem.W.kitOne K (.ref cN) (.ref cS) = some false)
    (iNO : PySem.W.kitOne K (.ref cN) (.ref cO) = some false)
    (iNZ : PySem.W.kitOne K (.ref cN) (.ref cZ) = some false)
    (iNT : PySem.W.kitOne K (.ref cN) (.ref cT) = some false)
    (iNH : PySem.W.kitOne K (.ref cN) (.ref cH) = some false)
    (iNN : PySem.W.kitOne K (.ref cN) (.ref cN) = some true)
    (iNV : PySem.W.kitOne K (.ref cN) (.type "ValueError") = some true) :
    ∃ fd : FuncData, (∀ (s : Shared) (v : Value), BindsTo s fd ⟨[v], []⟩ [("script", v)]) ∧ ∀ base : Heap, K.In base → base.Ns mainGlobals mg → FnOk l.prog w K mg base CX0 14 fa fd ["script"] (spLaw K) := by
  have e := hfa.symm.trans (PySem.W.mg_of X G a_law)
  cases e
  have F_check_row := fun_mk (st := sCheckRow) l_check_row c_check_row k_check_row
  have b_check_row := F_check_row.binds (ps := ["row"]) fun _ _ _ _ _ _ us hl => match us, hl with | [_], _ => rfl
  have n_check_row := PySem.W.mg_of X G a_check_row
  have F_check_shape := fun_mk (st := sCheckShape) l_check_shape c_check_shape k_check_shape
  have b_check_shape := F_check_shape.binds (ps := ["shape"]) fun _ _ _ _ _ _ us hl => match us, hl with | [_], _ => rfl
  have n_check_shape := PySem.W.mg_of X G a_check_shape
  have F_is_shape := fun_mk (st := sIsShape) l_is_shape c_is_shape k_is_shape
  have b_is_shape := F_is_shape.binds (ps := ["some"]) fun _ _ _ _ _ _ us hl => match us, hl with | [_], _ => rfl
  have n_is_shape := PySem.W.mg_of X G a_is_shape
  have F_many_less := fun_mk (st := sManyLess) l_many_less c_many_less k_many_less
  have b_many_less := F_many_less.binds (ps := ["row", "number"]) fun _ _ _ _ _ _ us hl => match us, hl with | [_, _], _ => rfl
  have n_many_less := PySem.W.mg_of X G a_many_less
  have F_shape_of := fun_mk (st := sShapeOf) l_shape_of c_shape_of k_shape_of
  have b_shape_of := F_shape_of.binds (ps := ["row"]) fun _ _ _ _ _ _ us hl => match us, hl with | [_], _ => rfl
  have n_shape_of := PySem.W.mg_of X G a_shape_of
  have F_backward := fun_mk (st := sBackward) l_backward c_backward k_backward
  have b_backward := F_backward.binds (ps := ["shape"]) fun _ _ _ _ _ _ us hl => match us, hl with | [_], _ => rfl
  have n_backward := PySem.W.mg_of X G a_backward
  have F_contrary := fun_mk (st := sContrary) l_contrary c_contrary k_contrary
  have b_contrary := F_contrary.binds (ps := ["shape"]) fun _ _ _ _ _ _ us hl => match us, hl with | [_], _ => rfl
  have n_contrary := PySem.W.mg_of X G a_contrary
  have F_turned_over := fun_mk (st := sTurned) l_turned_over c_turned_over k_turned_over
  have b_turned_over := F_turned_over.binds (ps := ["shape"]) fun _ _ _ _ _ _ us hl => match us, hl with | [_], _ => rfl
  have n_turned_over := PySem.W.mg_of X G a_turned_over
  have F_check_order := fun_mk (st := sCheckOrder) l_check_order c_check_order k_check_order
  have b_check_order := F_check_order.binds (ps := ["order"]) fun _ _ _ _ _ _ us hl => match us, hl with | [_], _ => rfl
  have n_check_order := PySem.W.mg_of X G a_check_order
  have F_check_where_all := fun_mk (st := sWhereAll) l_check_where_all c_check_where_all k_check_where_all
  have b_check_where_all := F_check_where_all.binds (ps := ["row", "order"]) fun _ _ _ _ _ _ us hl => match us, hl with | [_, _], _ => rfl
  have n_check_where_all := PySem.W.mg_of X G a_check_where_all
  have F_agrees := fun_mk (st := sAgrees) l_agrees c_agrees k_agrees
  have b_agrees := F_agrees.binds (ps := ["row", "order", "taken", "place"]) fun _ _ _ _ _ _ us hl => match us, hl with | [_, _, _, _], _ => rfl
  have n_agrees := PySem.W.mg_of X G a_agrees
  have F_next_places := fun_mk (st := sNextPlaces) l_next_places c_next_places k_next_places
  have b_next_places := F_next_places.binds (ps := ["row", "order", "taken"]) fun _ _ _ _ _ _ us hl => match us, hl with | [_, _, _], _ => rfl
  have n_next_places := PySem.W.mg_of X G a_next_places
  have F_all_from := fun_mk (st := sAllFrom) l_all_from c_all_from k_all_from
  have b_all_from := F_all_from.binds (ps := ["row", "order", "taken"]) fun _ _ _ _ _ _ us hl => match us, hl with | [_, _, _], _ => rfl
  have n_all_from := PySem.W.mg_of X G a_all_from
  have F_first_from := fun_mk (st := sFirstFrom) l_first_from c_first_from k_first_from
  have b_first_from := F_first_from.binds (ps := ["row", "order", "taken"]) fun _ _ _ _ _ _ us hl => match us, hl with | [_, _, _], _ => rfl
  have n_first_from := PySem.W.mg_of X G a_first_from
  have F_places := fun_mk (st := sPlaces) l_places c_places k_places
  have b_places := F_places.binds (ps := ["row", "order"]) fun _ _ _ _ _ _ us hl => match us, hl with | [_, _], _ => rfl
  have n_places := PySem.W.mg_of X G a_places
  have F_many := fun_mk (st := sMany) l_many c_many k_many
  have b_many := F_many.binds (ps := ["row", "order"]) fun _ _ _ _ _ _ us hl => match us, hl with | [_, _], _ => rfl
  have n_many := PySem.W.mg_of X G a_many
  have F_first := fun_mk (st := sFirst) l_first c_first k_first
  have b_first := F_first.binds (ps := ["row", "order"]) fun _ _ _ _ _ _ us hl => match us, hl with | [_, _], _ => rfl
  have n_first := PySem.W.mg_of X G a_first
  have F_check_size := fun_mk (st := sCheckSize) l_check_size c_check_size k_check_size
  have b_check_size := F_check_size.binds (ps := ["size"]) fun _ _ _ _ _ _ us hl => match us, hl with | [_], _ => rfl
  have n_check_size := PySem.W.mg_of X G a_check_size
  have F_check_three := fun_mk (st := sCheckThree) l_check_three c_check_three k_check_three
  have b_check_three := F_check_three.binds (ps := ["order"]) fun _ _ _ _ _ _ us hl => match us, hl with | [_], _ => rfl
  have n_check_three := PySem.W.mg_of X G a_check_three
  have F_check_without := fun_mk (st := sCheckWithout) l_check_without c_check_without k_check_without
  have b_check_without := F_check_without.binds (ps := ["shape", "order"]) fun _ _ _ _ _ _ us hl => match us, hl with | [_, _], _ => rfl
  have n_check_without := PySem.W.mg_of X G a_check_without
  have F_brought := fun_mk (st := sBrought) l_brought c_brought k_brought
  have b_brought := F_brought.binds (ps := ["shape", "order"]) fun _ _ _ _ _ _ us hl => match us, hl with | [_, _], _ => rfl
  have n_brought := PySem.W.mg_of X G a_brought
  have F_least_numbers := fun_mk (st := sLeast) l_least_numbers c_least_numbers k_least_numbers
  have b_least_numbers := F_least_numbers.binds (ps := ["shape"]) fun _ _ _ _ _ _ us hl => match us, hl with | [_], _ => rfl
  have n_least_numbers := PySem.W.mg_of X G a_least_numbers
  have F_shape_with := fun_mk (st := sShapeWith) l_shape_with c_shape_with k_shape_with
  have b_shape_with := F_shape_with.binds (ps := ["least", "order"]) fun _ _ _ _ _ _ us hl => match us, hl with | [_, _], _ => rfl
  have n_shape_with := PySem.W.mg_of X G a_shape_with
  have F_ways_on := fun_mk (st := sWaysOn) l_ways_on c_ways_on k_ways_on
  have b_ways_on := F_ways_on.binds (ps := ["size"]) fun _ _ _ _ _ _ us hl => match us, hl with | [_], _ => rfl
  have n_ways_on := PySem.W.mg_of X G a_ways_on
  have F_number_of_least := fun_mk (st := sNumLeast) l_number_of_least c_number_of_least k_number_of_least
  have b_number_of_least := F_number_of_least.binds (ps := ["least"]) fun _ _ _ _ _ _ us hl => match us, hl with | [_], _ => rfl
  have n_number_of_least := PySem.W.mg_of X G a_number_of_least
  have F_least_at := fun_mk (st := sLeastAt) l_least_at c_least_at k_least_at
  have b_least_at := F_least_at.binds (ps := ["size", "number"]) fun _ _ _ _ _ _ us hl => match us, hl with | [_, _], _ => rfl
  have n_least_at := PySem.W.mg_of X G a_least_at
  have F_many_without := fun_mk (st := sManyWithout) l_many_without c_many_without k_many_without
  have b_many_without := F_many_without.binds (ps := ["size"]) fun _ _ _ _ _ _ us hl => match us, hl with | [_], _ => rfl
  have n_many_without := PySem.W.mg_of X G a_many_without
  have F_without_at := fun_mk (st := sWithoutAt) l_without_at c_without_at k_without_at
  have b_without_at := F_without_at.binds (ps := ["size", "order", "number"]) fun _ _ _ _ _ _ us hl => match us, hl with | [_, _, _], _ => rfl
  have n_without_at := PySem.W.mg_of X G a_without_at
  have F_number_of := fun_mk (st := sNumberOf) l_number_of c_number_of k_number_of
  have b_number_of := F_number_of.binds (ps := ["shape", "order"]) fun _ _ _ _ _ _ us hl => match us, hl with | [_, _], _ => rfl
  have n_number_of := PySem.W.mg_of X G a_number_of
  have F_led := fun_mk (st := sLed) l_led c_led k_led
  have b_led := F_led.binds (ps := ["shape", "order", "other"]) fun _ _ _ _ _ _ us hl => match us, hl with | [_, _, _], _ => rfl
  have n_led := PySem.W.mg_of X G a_led
  have F_check_not_below_nought := fun_mk (st := sBelow) l_check_not_below_nought c_check_not_below_nought k_check_not_below_nought
  have b_check_not_below_nought := F_check_not_below_nought.binds (ps := ["number"]) fun _ _ _ _ _ _ us hl => match us, hl with | [_], _ => rfl
  have n_check_not_below_nought := PySem.W.mg_of X G a_check_not_below_nought
  have F_fall_places := fun_mk (st := sFallPlaces) l_fall_places c_fall_places k_fall_places
  have b_fall_places := F_fall_places.binds (ps := ["shape"]) fun _ _ _ _ _ _ us hl => match us, hl with | [_], _ => rfl
  have n_fall_places := PySem.W.mg_of X G a_fall_places
  have F_less_behind := fun_mk (st := sLessBehind) l_less_behind c_less_behind k_less_behind
  have b_less_behind := F_less_behind.binds (ps := ["shape", "place"]) fun _ _ _ _ _ _ us hl => match us, hl with | [_, _], _ => rfl
  have n_less_behind := PySem.W.mg_of X G a_less_behind
  have F_falls := fun_mk (st := sFalls) l_falls c_falls k_falls
  have b_falls := F_falls.binds (ps := ["shape"]) fun _ _ _ _ _ _ us hl => match us, hl with | [_], _ => rfl
  have n_falls := PySem.W.mg_of X G a_falls
  have F_wrong_pairs := fun_mk (st := sWrong) l_wrong_pairs c_wrong_pairs k_wrong_pairs
  have b_wrong_pairs := F_wrong_pairs.binds (ps := ["shape"]) fun _ _ _ _ _ _ us hl => match us, hl with | [_], _ => rfl
  have n_wrong_pairs := PySem.W.mg_of X G a_wrong_pairs
  have F_fall_sum := fun_mk (st := sFallSum) l_fall_sum c_fall_sum k_fall_sum
  have b_fall_sum := F_fall_sum.binds (ps := ["shape"]) fun _ _ _ _ _ _ us hl => match us, hl with | [_], _ => rfl
  have n_fall_sum := PySem.W.mg_of X G a_fall_sum
  have F_entry := fun_mk (st := sEntry) l_entry c_entry k_entry
  have b_entry := F_entry.binds (ps := ["numbers", "place"]) fun _ _ _ _ _ _ us hl => match us, hl with | [_, _], _ => rfl
  have n_entry := PySem.W.mg_of X G a_entry
  have F_all_by_falls := fun_mk (st := sAllFalls) l_all_by_falls c_all_by_falls k_all_by_falls
  have b_all_by_falls := F_all_by_falls.binds (ps := ["size"]) fun _ _ _ _ _ _ us hl => match us, hl with | [_], _ => rfl
  have n_all_by_falls := PySem.W.mg_of X G a_all_by_falls
  have F_all_by_wrong_pairs := fun_mk (st := sAllWrong) l_all_by_wrong_pairs c_all_by_wrong_pairs k_all_by_wrong_pairs
  have b_all_by_wrong_pairs := F_all_by_wrong_pairs.binds (ps := ["size"]) fun _ _ _ _ _ _ us hl => match us, hl with | [_], _ => rfl
  have n_all_by_wrong_pairs := PySem.W.mg_of X G a_all_by_wrong_pairs
  have F_many_falls := fun_mk (st := sManyFalls) l_many_falls c_many_falls k_many_falls
  have b_many_falls := F_many_falls.binds (ps := ["size", "falls"]) fun _ _ _ _ _ _ us hl => match us, hl with | [_, _], _ => rfl
  have n_many_falls := PySem.W.mg_of X G a_many_falls
  have F_many_wrong := fun_mk (st := sManyWrong) l_many_wrong c_many_wrong k_many_wrong
  have b_many_wrong := F_many_wrong.binds (ps := ["size", "pairs"]) fun _ _ _ _ _ _ us hl => match us, hl with | [_, _], _ => rfl
  have n_many_wrong := PySem.W.mg_of X G a_many_wrong
  have F_parted := fun_mk (st := sParted) l_parted c_parted k_parted
  have b_parted := F_parted.binds (ps := ["row", "number"]) fun _ _ _ _ _ _ us hl => match us, hl with | [_, _], _ => rfl
  have n_parted := PySem.W.mg_of X G a_parted
  have F_last_put_first := fun_mk (st := sLastFirst) l_last_put_first c_last_put_first k_last_put_first
  have b_last_put_first := F_last_put_first.binds (ps := ["row", "number"]) fun _ _ _ _ _ _ us hl => match us, hl with | [_, _], _ => rfl
  have n_last_put_first := PySem.W.mg_of X G a_last_put_first
  have F_first_put_last := fun_mk (st := sFirstLast) l_first_put_last c_first_put_last k_first_put_last
  have b_first_put_last := F_first_put_last.binds (ps := ["row", "number"]) fun _ _ _ _ _ _ us hl => match us, hl with | [_, _], _ => rfl
  have n_first_put_last := PySem.W.mg_of X G a_first_put_last
  have F_exchanged := fun_mk (st := sExchanged) l_exchanged c_exchanged k_exchanged
  have b_exchanged := F_exchanged.binds (ps := ["shape"]) fun _ _ _ _ _ _ us hl => match us, hl with | [_], _ => rfl
  have n_exchanged := PySem.W.mg_of X G a_exchanged
  have F_exchanged_back := fun_mk (st := sExBack) l_exchanged_back c_exchanged_back k_exchanged_back
  have b_exchanged_back := F_exchanged_back.binds (ps := ["shape"]) fun _ _ _ _ _ _ us hl => match us, hl with | [_], _ => rfl
  have n_exchanged_back := PySem.W.mg_of X G a_exchanged_back
  have F__law_cell_at := fun_mk (st := sCell) l__law_cell_at c__law_cell_at k__law_cell_at
  have b__law_cell_at := F__law_cell_at.binds (ps := ["script", "k"]) fun _ _ _ _ _ _ us hl => match us, hl with | [_, _], _ => rfl
  have n__law_cell_at := PySem.W.mg_of X G a__law_cell_at
  have F__law_which := fun_mk (st := sWhich) l__law_which c__law_which k__law_which
  have b__law_which := F__law_which.binds (ps := ["e"]) fun _ _ _ _ _ _ us hl => match us, hl with | [_], _ => rfl
  have n__law_which := PySem.W.mg_of X G a__law_which
  have F__law_within := fun_mk (st := sWithin) l__law_within c__law_within k__law_within
  have b__law_within := F__law_within.binds (ps := ["way", "row", "order"]) fun _ _ _ _ _ _ us hl => match us, hl with | [_, _, _], _ => rfl
  have n__law_within := PySem.W.mg_of X G a__law_within
  have F__law_of_one := fun_mk (st := sOfOne) l__law_of_one c__law_of_one k__law_of_one
  have b__law_of_one := F__law_of_one.binds (ps := ["way", "shape"]) fun _ _ _ _ _ _ us hl => match us, hl with | [_, _], _ => rfl
  have n__law_of_one := PySem.W.mg_of X G a__law_of_one
  have F__law_no_row := fun_mk (st := sNoRow) l__law_no_row c__law_no_row k__law_no_row
  have b__law_no_row := F__law_no_row.binds (ps := ["cell", "far"]) fun _ _ _ _ _ _ us hl => match us, hl with | [_, _], _ => rfl
  have n__law_no_row := PySem.W.mg_of X G a__law_no_row
  have F__law_no_shape := fun_mk (st := sNoShape) l__law_no_shape c__law_no_shape k__law_no_shape
  have b__law_no_shape := F__law_no_shape.binds (ps := ["cell", "far"]) fun _ _ _ _ _ _ us hl => match us, hl with | [_, _], _ => rfl
  have n__law_no_shape := PySem.W.mg_of X G a__law_no_shape
  have F__law_no_order := fun_mk (st := sNoOrder) l__law_no_order c__law_no_order k__law_no_order
  have b__law_no_order := F__law_no_order.binds (ps := ["cell", "far"]) fun _ _ _ _ _ _ us hl => match us, hl with | [_, _], _ => rfl
  have n__law_no_order := PySem.W.mg_of X G a__law_no_order
  have F__law_no_size := fun_mk (st := sNoSize) l__law_no_size c__law_no_size k__law_no_size
  have b__law_no_size := F__law_no_size.binds (ps := ["cell", "far"]) fun _ _ _ _ _ _ us hl => match us, hl with | [_, _], _ => rfl
  have n__law_no_size := PySem.W.mg_of X G a__law_no_size
  have F__law_no_number := fun_mk (st := sNoNumber) l__law_no_number c__law_no_number k__law_no_number
  have b__law_no_number := F__law_no_number.binds (ps := ["cell", "far"]) fun _ _ _ _ _ _ us hl => match us, hl with | [_, _], _ => rfl
  have n__law_no_number := PySem.W.mg_of X G a__law_no_number
  have F__law_done := fun_mk (st := sDone) l__law_done c__law_done k__law_done
  have b__law_done := F__law_done.binds (ps := ["way", "cell", "far"]) fun _ _ _ _ _ _ us hl => match us, hl with | [_, _, _], _ => rfl
  have n__law_done := PySem.W.mg_of X G a__law_done
  have F_law := fun_mk (st := sLaw) l_law c_law k_law
  have b_law := F_law.binds (ps := ["script"]) fun _ _ _ _ _ _ us hl => match us, hl with | [_], _ => rfl
  have n_law := PySem.W.mg_of X G a_law
  have y_len := PySem.W.mg_none_of X G z_len
  have y_set := PySem.W.mg_none_of X G z_set
  have y_sorted := PySem.W.mg_none_of X G z_sorted
  have y_list := PySem.W.mg_none_of X G z_list
  have y_range := PySem.W.mg_none_of X G z_range
  have y_isinstance := PySem.W.mg_none_of X G z_isinstance
  have y_sum := PySem.W.mg_none_of X G z_sum
  have y_min := PySem.W.mg_none_of X G z_min
  have y_ValueError := PySem.W.mg_none_of X G z_ValueError
  have v_MOST_NUMBERS := PySem.W.mg_of X G m_MOST_NUMBERS
  have v_MOST_OF_ORDER := PySem.W.mg_of X G m_MOST_OF_ORDER
  have v_MOST_WHERE_ALL := PySem.W.mg_of X G m_MOST_WHERE_ALL
  have v_GREATEST_SIZE := PySem.W.mg_of X G m_GREATEST_SIZE
  have v_OrderError := PySem.W.mg_of X G m_OrderError
  have v_NoRow := PySem.W.mg_of X G m_NoRow
  have v_NoShape := PySem.W.mg_of X G m_NoShape
  have v_NoOrder := PySem.W.mg_of X G m_NoOrder
  have v_NoSize := PySem.W.mg_of X G m_NoSize
  have v_TooLong := PySem.W.mg_of X G m_TooLong
  have v_HasOrder := PySem.W.mg_of X G m_HasOrder
  have v_NoNumber := PySem.W.mg_of X G m_NoNumber
  have v_RISING := PySem.W.mg_of X G m_RISING
  refine ⟨PySem.W.fnOf "law" "law" (defArgs sLaw) (defBody sLaw) (defScope sLaw) .none kV_law dc_law pm_law an_law cd_law ct_law, fun s v => .of_eq rfl, fun base _ _ => ?_⟩
  have g_row := (ok_check_row (P := l.prog) (w := w) (base := base) F_check_row y_len y_set v_MOST_NUMBERS)
  have g_is := (ok_is_shape (P := l.prog) (w := w) (base := base) F_is_shape y_len y_sorted y_list y_range v_MOST_NUMBERS)
  have g_sh := ok_check_shape F_check_shape g_is b_is_shape k_is_shape n_is_shape
  have g_or := ok_check_order F_check_order g_sh b_check_shape k_check_shape n_check_shape y_len v_MOST_OF_ORDER
  have g_ag := ok_agrees (P := l.prog) (w := w) (base := base) F_agrees y_len y_range
  have g_nx := ok_next F_next_places g_ag b_agrees k_agrees n_agrees y_len y_range
  have g_ff := ok_first_from F_first_from b_first_from k_first_from n_first_from g_nx b_next_places k_next_places n_next_places y_len
  have g_fi := ok_first F_first (g_row.mono (show 1 ≤ 7 by decide)) b_check_row k_check_row n_check_row (g_or.mono (show 3 ≤ 7 by decide)) b_check_order k_check_order n_check_order g_ff b_first_from k_first_from n_first_from
  have g_roX := ok_check_rowX (P := l.prog) (w := w) (base := base) F_check_row y_len y_set v_MOST_NUMBERS v_NoRow xR
  have g_shX := ok_check_shapeX (P := l.prog) (w := w) (base := base) F_check_shape g_is b_is_shape k_is_shape n_is_shape v_NoShape xS
  have g_sz := ok_sizeX (P := l.prog) (w := w) (base := base) F_check_size v_GREATEST_SIZE v_NoSize xZ
  have tR : ∀ H : Hp, SqT K H aR [.int 0, .int 1, .int 2] := fun H => .inr ⟨_, _, _, lR, rfl, rfl, (by show 3 ≤ sizeLine; decide), .cons ⟨_, rfl⟩ (.cons ⟨_, rfl⟩ (.cons ⟨_, rfl⟩ .nil))⟩
  have g_th := ok_threeX (P := l.prog) (w := w) (base := base) F_check_three y_len v_RISING tR v_NoOrder xO
  have g_wo := ok_ways (P := l.prog) (w := w) (base := base) F_ways_on y_range y_sum y_min
  have g_mw := ok_manywithout F_many_without g_wo b_ways_on k_ways_on n_ways_on g_sz b_check_size k_check_size n_check_size
  have g_cw := ok_without F_check_without (g_sz.mono (show 1 ≤ 8 by decide)) b_check_size k_check_size n_check_size g_fi b_first k_first n_first y_len v_HasOrder xH
  have g_be := ok_below (P := l.prog) (w := w) (base := base) F_check_not_below_nought v_NoNumber xN
  have g_backward := bad_backward F_backward (g_shX.mono (show 2 ≤ 2 by decide)) b_check_shape k_check_shape n_check_shape
  have g_contrary := bad_contrary F_contrary (g_shX.mono (show 2 ≤ 2 by decide)) b_check_shape k_check_shape n_check_shape
  have g_turned_over := bad_turned_over F_turned_over (g_shX.mono (show 2 ≤ 2 by decide)) b_check_shape k_check_shape n_check_shape
  have g_falls := bad_falls F_falls (g_shX.mono (show 2 ≤ 2 by decide)) b_check_shape k_check_shape n_check_shape
  have g_wrong_pairs := bad_wrong_pairs F_wrong_pairs (g_shX.mono (show 2 ≤ 2 by decide)) b_check_shape k_check_shape n_check_shape
  have g_fall_sum := bad_fall_sum F_fall_sum (g_shX.mono (show 2 ≤ 2 by decide)) b_check_shape k_check_shape n_check_shape
  have g_exchanged := bad_exchanged F_exchanged (g_shX.mono (show 2 ≤ 2 by decide)) b_check_shape k_check_shape n_check_shape
  have g_exchanged_back := bad_exchanged_back F_exchanged_back (g_shX.mono (show 2 ≤ 2 by decide)) b_check_shape k_check_shape n_check_shape
  have g_so := bad_shape_of F_shape_of (g_roX.mono (show 1 ≤ 1 by decide)) b_check_row k_check_row n_check_row
  have g_orX := ok_check_orderX F_check_order (g_shX.mono (show 2 ≤ 2 by decide)) b_check_shape k_check_shape n_check_shape y_len v_MOST_OF_ORDER v_NoOrder xO
  have g_wl := bad_where_all F_check_where_all (g_roX.mono (show 1 ≤ 3 by decide)) b_check_row k_check_row n_check_row (g_orX.mono (show 3 ≤ 3 by decide)) b_check_order k_check_order n_check_order y_len v_MOST_WHERE_ALL v_TooLong xT
  have g_fb := bad_first (cT := cT) F_first (g_roX.mono (show 1 ≤ 3 by decide)) b_check_row k_check_row n_check_row (g_orX.mono (show 3 ≤ 3 by decide)) b_check_order k_check_order n_check_order
  have g_pl := bad_places F_places (g_wl.mono (show 4 ≤ 4 by decide)) b_check_where_all k_check_where_all n_check_where_all
  have g_my := bad_many F_many (g_wl.mono (show 4 ≤ 4 by decide)) b_check_where_all k_check_where_all n_check_where_all
  have g_wa := bad_without_at F_without_at (g_shX.mono (show 2 ≤ 5 by decide)) b_check_shape k_check_shape n_check_shape (g_th.mono (show 1 ≤ 5 by decide)) b_check_three k_check_three n_check_three (g_sz.mono (show 1 ≤ 5 by decide)) b_check_size k_check_size n_check_size (g_mw.mono (show 2 ≤ 5 by decide)) b_many_without k_many_without n_many_without v_NoNumber xN
  have g_no := bad_number_of F_number_of (g_shX.mono (show 2 ≤ 9 by decide)) b_check_shape k_check_shape n_check_shape (g_th.mono (show 1 ≤ 9 by decide)) b_check_three k_check_three n_check_three (g_cw.mono (show 9 ≤ 9 by decide)) b_check_without k_check_without n_check_without
  have g_ld := bad_led F_led (g_shX.mono (show 2 ≤ 10 by decide)) b_check_shape k_check_shape n_check_shape (g_th.mono (show 1 ≤ 10 by decide)) b_check_three k_check_three n_check_three (g_no.mono (show 10 ≤ 10 by decide)) b_number_of k_number_of n_number_of (g_wa.mono (show 6 ≤ 10 by decide)) b_without_at k_without_at n_without_at y_len
  have g_mf := bad_many_falls F_many_falls (g_sz.mono (show 1 ≤ 1 by decide)) b_check_size k_check_size n_check_size (g_be.mono (show 1 ≤ 1 by decide)) b_check_not_below_nought k_check_not_below_nought n_check_not_below_nought
  have g_mr := bad_many_wrong F_many_wrong (g_sz.mono (show 1 ≤ 1 by decide)) b_check_size k_check_size n_check_size (g_be.mono (show 1 ≤ 1 by decide)) b_check_not_below_nought k_check_not_below_nought n_check_not_below_nought
  have g_ce := ok_cellF (P := l.prog) (w := w) (base := base) F__law_cell_at y_len
  have g_wi := ok_within14 F__law_within (g_pl.mono (show 5 ≤ 5 by decide)) b_places k_places n_places (g_my.mono (show 5 ≤ 5 by decide)) b_many k_many n_many (g_fb.mono (show 4 ≤ 5 by decide)) b_first k_first n_first
  have g_on := ok_one14 F__law_of_one (g_backward.mono (show 3 ≤ 3 by decide)) b_backward k_backward n_backward (g_contrary.mono (show 3 ≤ 3 by decide)) b_contrary k_contrary n_contrary (g_turned_over.mono (show 3 ≤ 3 by decide)) b_turned_over k_turned_over n_turned_over (g_falls.mono (show 3 ≤ 3 by decide)) b_falls k_falls n_falls (g_wrong_pairs.mono (show 3 ≤ 3 by decide)) b_wrong_pairs k_wrong_pairs n_wrong_pairs (g_fall_sum.mono (show 3 ≤ 3 by decide)) b_fall_sum k_fall_sum n_fall_sum (g_exchanged.mono (show 3 ≤ 3 by decide)) b_exchanged k_exchanged n_exchanged (g_exchanged_back.mono (show 3 ≤ 3 by decide)) b_exchanged_back k_exchanged_back n_exchanged_back
  have g_nr := ok_norow F__law_no_row (g_so.mono (show 2 ≤ 6 by decide)) b_shape_of k_shape_of n_shape_of (g_wi.mono (show 6 ≤ 6 by decide)) b__law_within k__law_within n__law_within y_list y_range
  have g_ns := ok_noshape F__law_no_shape (g_wi.mono (show 6 ≤ 11 by decide)) b__law_within k__law_within n__law_within (g_on.mono (show 4 ≤ 11 by decide)) b__law_of_one k__law_of_one n__law_of_one (g_wa.mono (show 6 ≤ 11 by decide)) b_without_at k_without_at n_without_at (g_no.mono (show 10 ≤ 11 by decide)) b_number_of k_number_of n_number_of (g_ld.mono (show 11 ≤ 11 by decide)) b_led k_led n_led y_list y_range
  have g_nd := ok_noorder F__law_no_order (g_wi.mono (show 6 ≤ 11 by decide)) b__law_within k__law_within n__law_within (g_wa.mono (show 6 ≤ 11 by decide)) b_without_at k_without_at n_without_at (g_no.mono (show 10 ≤ 11 by decide)) b_number_of k_number_of n_number_of (g_ld.mono (show 11 ≤ 11 by decide)) b_led k_led n_led y_list y_range
  have g_nz := ok_nosize F__law_no_size (g_mw.mono (show 2 ≤ 11 by decide)) b_many_without k_many_without n_many_without (g_wa.mono (show 6 ≤ 11 by decide)) b_without_at k_without_at n_without_at (g_no.mono (show 10 ≤ 11 by decide)) b_number_of k_number_of n_number_of (g_ld.mono (show 11 ≤ 11 by decide)) b_led k_led n_led (g_mf.mono (show 2 ≤ 11 by decide)) b_many_falls k_many_falls n_many_falls (g_mr.mono (show 2 ≤ 11 by decide)) b_many_wrong k_many_wrong n_many_wrong y_list y_range
  have g_nn := ok_nonumber F__law_no_number (g_wa.mono (show 6 ≤ 11 by decide)) b_without_at k_without_at n_without_at (g_mf.mono (show 2 ≤ 11 by decide)) b_many_falls k_many_falls n_many_falls (g_mr.mono (show 2 ≤ 11 by decide)) b_many_wrong k_many_wrong n_many_wrong
  have g_do := ok_done F__law_done (g_nr.mono (show 7 ≤ 12 by decide)) b__law_no_row k__law_no_row n__law_no_row (g_ns.mono (show 12 ≤ 12 by decide)) b__law_no_shape k__law_no_shape n__law_no_shape (g_nd.mono (show 12 ≤ 12 by decide)) b__law_no_order k__law_no_order n__law_no_order (g_nz.mono (show 12 ≤ 12 by decide)) b__law_no_size k__law_no_size n__law_no_size (g_wi.mono (show 6 ≤ 12 by decide)) b__law_within k__law_within n__law_within (g_no.mono (show 10 ≤ 12 by decide)) b_number_of k_number_of n_number_of (g_ld.mono (show 11 ≤ 12 by decide)) b_led k_led n_led (g_nn.mono (show 12 ≤ 12 by decide)) b__law_no_number k__law_no_number n__law_no_number y_list y_range
  have g_wh := ok_which (P := l.prog) (w := w) (base := base) F__law_which v_NoRow v_NoShape v_NoOrder v_NoSize v_TooLong v_HasOrder v_NoNumber y_isinstance y_ValueError
  exact ok_law F_law (g_ce.mono (show 1 ≤ 13 by decide)) b__law_cell_at k__law_cell_at n__law_cell_at (g_do.mono (show 13 ≤ 13 by decide)) b__law_done k__law_done n__law_done g_wh b__law_which k__law_which n__law_which v_OrderError xE ⟨sRE, ⟨eR1, eR2, eR3, eR4, ee5, ee6, eR7, eR8⟩, ⟨_, _, _, _, _, _, _, rfl, iRR, iRS, iRO, iRZ, iRT, iRH, iRN, iRV⟩⟩ ⟨sSE, ⟨eS1, eS2, eS3, eS4, ee5, ee6, eS7, eS8⟩, ⟨_, _, _, _, _, _, _, rfl, iSR, iSS, iSO, iSZ, iST, iSH, iSN, iSV⟩⟩ ⟨sOE, ⟨eO1, eO2, eO3, eO4, ee5, ee6, eO7, eO8⟩, ⟨_, _, _, _, _, _, _, rfl, iOR, iOS, iOO, iOZ, iOT, iOH, iON, iOV⟩⟩ ⟨sZE, ⟨eZ1, eZ2, eZ3, eZ4, ee5, ee6, eZ7, eZ8⟩, ⟨_, _, _, _, _, _, _, rfl, iZR, iZS, iZO, iZZ, iZT, iZH, iZN, iZV⟩⟩ ⟨sTE, ⟨eT1, eT2, eT3, eT4, ee5, ee6, eT7, eT8⟩, ⟨_, _, _, _, _, _, _, rfl, iTR, iTS, iTO, iTZ, iTT, iTH, iTN, iTV⟩⟩ ⟨sHE, ⟨eH1, eH2, eH3, eH4, ee5, ee6, eH7, eH8⟩, ⟨_, _, _, _, _, _, _, rfl, iHR, iHS, iHO, iHZ, iHT, iHH, iHN, iHV⟩⟩ ⟨sNE, ⟨eN1, eN2, eN3, eN4, ee5, ee6, eN7, eN8⟩, ⟨_, _, _, _, _, _, _, rfl, iNR, iNS, iNO, iNZ, iNT, iNH, iNN, iNV⟩⟩ y_range
theorem walk {l : PySem.W.OpenLaw} {q : Program} {loose : List Str} {XP : (Str → Option Value) → Heap → Prop} {YP : World → Heap → Prop} {d : DefRec} {K : Params → PySem.W.Frag} (hn : l.most = some 63) (hdf : d.params.defaults = [])
    (hY : ∀ (w : World) (h : Heap), YP w h → (K w.params).In h)
    (F : ∀ (w : World) (mg : Str → Option Value) (fa : Addr) (h : Heap), (K w.params).In h → h.Ns mainGlobals mg → mg d.name = some (.ref fa) →
      ∃ fd : FuncData, (∀ (s : Shared) (u : Value), BindsTo s fd ⟨[u], []⟩ [("script", u)]) ∧ ∀ base : Heap, (K w.params).In base → base.Ns mainGlobals mg → FnOk l.prog w (K w.params) mg base CX0 14 fa fd ["script"] (spLaw (K w.params))) :
    PySem.W.WalkO q loose XP YP l.row.toRowW d [] (fun f vs => PySem.call f vs) :=
  L2.walk_of (n := 63) (k := 14) (x := "script") (CX := fun _ => CX0) (sp := fun w => spLaw (K w.params)) hn (by decide) hdf ⟨rfl, by decide, by decide⟩ hY F (fun _ _ a ns hl _ hS => ⟨a, ns, rfl, hS, fun _ => rfl⟩) fun _ _ _ _ _ z => z
end SO
theorem PySem.W.Fast.tw2150643317042721280 : True := trivial
theorem PySem.W.Fast.tw15190980378999215939 : True := trivial
theorem PySem.W.Fast.tw9364119994201478436 : True := trivial
theorem PySem.W.Fast.tw14945720598734467795 : True := trivial
theorem PySem.W.Fast.tw10171323388207760611 : True := trivial
open PySem PySem.W PyProof.Rows
set_option maxRecDepth 100000 in
set_option maxHeartbeats 0 in
theorem PySem.Challenge.cw_shapeorders_k14_each_refusal_its_own_holds : PySem.Challenge.rw_shapeorders_k14_each_refusal_its_own.Holds := by
  w_on; o_law; k_head; (case hw => w_witness2)
  k_fill
  refine SO.walk (l := PySem.Challenge.rw_shapeorders_k14_each_refusal_its_own) rfl rfl (fun w h Y => PySem.W.kIn_of Y) ?F
  case F =>
    intro w mg fa h KX G hmg
    refine' SO.all_mk KX G hmg ?a_check_row ?l_check_row ?c_check_row ?k_check_row ?a_check_shape ?l_check_shape ?c_check_shape ?k_check_shape ?a_is_shape ?l_is_shape ?c_is_shape ?k_is_shape ?a_many_less ?l_many_less ?c_many_less ?k_many_less ?a_shape_of ?l_shape_of ?c_shape_of ?k_shape_of ?a_backward ?l_backward ?c_backward ?k_backward ?a_contrary ?l_contrary ?c_contrary ?k_contrary ?a_turned_over ?l_turned_over ?c_turned_over ?k_turned_over ?a_check_order ?l_check_order ?c_check_order ?k_check_order ?a_check_where_all ?l_check_where_all ?c_check_where_all ?k_check_where_all ?a_agrees ?l_agrees ?c_agrees ?k_agrees ?a_next_places ?l_next_places ?c_next_places ?k_next_places ?a_all_from ?l_all_from ?c_all_from ?k_all_from ?a_first_from ?l_first_from ?c_first_from ?k_first_from ?a_places ?l_places ?c_places ?k_places ?a_many ?l_many ?c_many ?k_many ?a_first ?l_first ?c_first ?k_first ?a_check_size ?l_check_size ?c_check_size ?k_check_size ?a_check_three ?l_check_three ?c_check_three ?k_check_three ?a_check_without ?l_check_without ?c_check_without ?k_check_without ?a_brought ?l_brought ?c_brought ?k_brought ?a_least_numbers ?l_least_numbers ?c_least_numbers ?k_least_numbers ?a_shape_with ?l_shape_with ?c_shape_with ?k_shape_with ?a_ways_on ?l_ways_on ?c_ways_on ?k_ways_on ?a_number_of_least ?l_number_of_least ?c_number_of_least ?k_number_of_least ?a_least_at ?l_least_at ?c_least_at ?k_least_at ?a_many_without ?l_many_without ?c_many_without ?k_many_without ?a_without_at ?l_without_at ?c_without_at ?k_without_at ?a_number_of ?l_number_of ?c_number_of ?k_number_of ?a_led ?l_led ?c_led ?k_led ?a_check_not_below_nought ?l_check_not_below_nought ?c_check_not_below_nought ?k_check_not_below_nought ?a_fall_places ?l_fall_places ?c_fall_places ?k_fall_places ?a_less_behind ?l_less_behind ?c_less_behind ?k_less_behind ?a_falls ?l_falls ?c_falls ?k_falls ?a_wrong_pairs ?l_wrong_pairs ?c_wrong_pairs ?k_wrong_pairs ?a_fall_sum ?l_fall_sum ?c_fall_sum ?k_fall_sum ?a_entry ?l_entry ?c_entry ?k_entry ?a_all_by_falls ?l_all_by_falls ?c_all_by_falls ?k_all_by_falls ?a_all_by_wrong_pairs ?l_all_by_wrong_pairs ?c_all_by_wrong_pairs ?k_all_by_wrong_pairs ?a_many_falls ?l_many_falls ?c_many_falls ?k_many_falls ?a_many_wrong ?l_many_wrong ?c_many_wrong ?k_many_wrong ?a_parted ?l_parted ?c_parted ?k_parted ?a_last_put_first ?l_last_put_first ?c_last_put_first ?k_last_put_first ?a_first_put_last ?l_first_put_last ?c_first_put_last ?k_first_put_last ?a_exchanged ?l_exchanged ?c_exchanged ?k_exchanged ?a_exchanged_back ?l_exchanged_back ?c_exchanged_back ?k_exchanged_back ?a__law_cell_at ?l__law_cell_at ?c__law_cell_at ?k__law_cell_at ?a__law_which ?l__law_which ?c__law_which ?k__law_which ?a__law_within ?l__law_within ?c__law_within ?k__law_within ?a__law_of_one ?l__law_of_one ?c__law_of_one ?k__law_of_one ?a__law_no_row ?l__law_no_row ?c__law_no_row ?k__law_no_row ?a__law_no_shape ?l__law_no_shape ?c__law_no_shape ?k__law_no_shape ?a__law_no_order ?l__law_no_order ?c__law_no_order ?k__law_no_order ?a__law_no_size ?l__law_no_size ?c__law_no_size ?k__law_no_size ?a__law_no_number ?l__law_no_number ?c__law_no_number ?k__law_no_number ?a__law_done ?l__law_done ?c__law_done ?k__law_done ?a_law ?l_law ?c_law ?k_law ?z_len ?z_set ?z_sorted ?z_list ?z_range ?z_isinstance ?z_sum ?z_min ?z_ValueError ?m_MOST_NUMBERS ?m_MOST_OF_ORDER ?m_MOST_WHERE_ALL ?m_GREATEST_SIZE ?m_OrderError ?m_NoRow ?m_NoShape ?m_NoOrder ?m_NoSize ?m_TooLong ?m_HasOrder ?m_NoNumber ?m_RISING ?xE ?xR ?xS ?xO ?xZ ?xT ?xH ?xN ?lR ?ee5 ?ee6 ?eR1 ?eR2 ?eR3 ?eR4 ?eR7 ?eR8 ?sRE ?iRR ?iRS ?iRO ?iRZ ?iRT ?iRH ?iRN ?iRV ?eS1 ?eS2 ?eS3 ?eS4 ?eS7 ?eS8 ?sSE ?iSR ?iSS ?iSO ?iSZ ?iST ?iSH ?iSN ?iSV ?eO1 ?eO2 ?eO3 ?eO4 ?eO7 ?eO8 ?sOE ?iOR ?iOS ?iOO ?iOZ ?iOT ?iOH ?iON ?iOV ?eZ1 ?eZ2 ?eZ3 ?eZ4 ?eZ7 ?eZ8 ?sZE ?iZR ?iZS ?iZO ?iZZ ?iZT ?iZH ?iZN ?iZV ?eT1 ?eT2 ?eT3 ?eT4 ?eT7 ?eT8 ?sTE ?iTR ?iTS ?iTO ?iTZ ?iTT ?iTH ?iTN ?iTV ?eH1 ?eH2 ?eH3 ?eH4 ?eH7 ?eH8 ?sHE ?iHR ?iHS ?iHO ?iHZ ?iHT ?iHH ?iHN ?iHV ?eN1 ?eN2 ?eN3 ?eN4 ?eN7 ?eN8 ?sNE ?iNR ?iNS ?iNO ?iNZ ?iNT ?iNH ?iNN ?iNV
    (case a_check_row => k_is)
    (case l_check_row => k_is)
    (case c_check_row => k_is)
    (case k_check_row => k_is)
    (case a_check_shape => k_is)
    (case l_check_shape => k_is)
    (case c_check_shape => k_is)
    (case k_check_shape => k_is)
    (case a_is_shape => k_is)
    (case l_is_shape => k_is)
    (case c_is_shape => k_is)
    (case k_is_shape => k_is)
    (case a_many_less => k_is)
    (case l_many_less => k_is)
    (case c_many_less => k_is)
    (case k_many_less => k_is)
    (case a_shape_of => k_is)
    (case l_shape_of => k_is)
    (case c_shape_of => k_is)
    (case k_shape_of => k_is)
    (case a_backward => k_is)
    (case l_backward => k_is)
    (case c_backward => k_is)
    (case k_backward => k_is)
    (case a_contrary => k_is)
    (case l_contrary => k_is)
    (case c_contrary => k_is)
    (case k_contrary => k_is)
    (case a_turned_over => k_is)
    (case l_turned_over => k_is)
    (case c_turned_over => k_is)
    (case k_turned_over => k_is)
    (case a_check_order => k_is)
    (case l_check_order => k_is)
    (case c_check_order => k_is)
    (case k_check_order => k_is)
    (case a_check_where_all => k_is)
    (case l_check_where_all => k_is)
    (case c_check_where_all => k_is)
    (case k_check_where_all => k_is)
    (case a_agrees => k_is)
    (case l_agrees => k_is)
    (case c_agrees => k_is)
    (case k_agrees => k_is)
    (case a_next_places => k_is)
    (case l_next_places => k_is)
    (case c_next_places => k_is)
    (case k_next_places => k_is)
    (case a_all_from => k_is)
    (case l_all_from => k_is)
    (case c_all_from => k_is)
    (case k_all_from => k_is)
    (case a_first_from => k_is)
    (case l_first_from => k_is)
    (case c_first_from => k_is)
    (case k_first_from => k_is)
    (case a_places => k_is)
    (case l_places => k_is)
    (case c_places => k_is)
    (case k_places => k_is)
    (case a_many => k_is)
    (case l_many => k_is)
    (case c_many => k_is)
    (case k_many => k_is)
    (case a_first => k_is)
    (case l_first => k_is)
    (case c_first => k_is)
    (case k_first => k_is)
    (case a_check_size => k_is)
    (case l_check_size => k_is)
    (case c_check_size => k_is)
    (case k_check_size => k_is)
    (case a_check_three => k_is)
    (case l_check_three => k_is)
    (case c_check_three => k_is)
    (case k_check_three => k_is)
    (case a_check_without => k_is)
    (case l_check_without => k_is)
    (case c_check_without => k_is)
    (case k_check_without => k_is)
    (case a_brought => k_is)
    (case l_brought => k_is)
    (case c_brought => k_is)
    (case k_brought => k_is)
    (case a_least_numbers => k_is)
    (case l_least_numbers => k_is)
    (case c_least_numbers => k_is)
    (case k_least_numbers => k_is)
    (case a_shape_with => k_is)
    (case l_shape_with => k_is)
    (case c_shape_with => k_is)
    (case k_shape_with => k_is)
    (case a_ways_on => k_is)
    (case l_ways_on => k_is)
    (case c_ways_on => k_is)
    (case k_ways_on => k_is)
    (case a_number_of_least => k_is)
    (case l_number_of_least => k_is)
    (case c_number_of_least => k_is)
    (case k_number_of_least => k_is)
    (case a_least_at => k_is)
    (case l_least_at => k_is)
    (case c_least_at => k_is)
    (case k_least_at => k_is)
    (case a_many_without => k_is)
    (case l_many_without => k_is)
    (case c_many_without => k_is)
    (case k_many_without => k_is)
    (case a_without_at => k_is)
    (case l_without_at => k_is)
    (case c_without_at => k_is)
    (case k_without_at => k_is)
    (case a_number_of => k_is)
    (case l_number_of => k_is)
    (case c_number_of => k_is)
    (case k_number_of => k_is)
    (case a_led => k_is)
    (case l_led => k_is)
    (case c_led => k_is)
    (case k_led => k_is)
    (case a_check_not_below_nought => k_is)
    (case l_check_not_below_nought => k_is)
    (case c_check_not_below_nought => k_is)
    (case k_check_not_below_nought => k_is)
    (case a_fall_places => k_is)
    (case l_fall_places => k_is)
    (case c_fall_places => k_is)
    (case k_fall_places => k_is)
    (case a_less_behind => k_is)
    (case l_less_behind => k_is)
    (case c_less_behind => k_is)
    (case k_less_behind => k_is)
    (case a_falls => k_is)
    (case l_falls => k_is)
    (case c_falls => k_is)
    (case k_falls => k_is)
    (case a_wrong_pairs => k_is)
    (case l_wrong_pairs => k_is)
    (case c_wrong_pairs => k_is)
    (case k_wrong_pairs => k_is)
    (case a_fall_sum => k_is)
    (case l_fall_sum => k_is)
    (case c_fall_sum => k_is)
    (case k_fall_sum => k_is)
    (case a_entry => k_is)
    (case l_entry => k_is)
    (case c_entry => k_is)
    (case k_entry => k_is)
    (case a_all_by_falls => k_is)
    (case l_all_by_falls => k_is)
    (case c_all_by_falls => k_is)
    (case k_all_by_falls => k_is)
    (case a_all_by_wrong_pairs => k_is)
    (case l_all_by_wrong_pairs => k_is)
    (case c_all_by_wrong_pairs => k_is)
    (case k_all_by_wrong_pairs => k_is)
    (case a_many_falls => k_is)
    (case l_many_falls => k_is)
    (case c_many_falls => k_is)
    (case k_many_falls => k_is)
    (case a_many_wrong => k_is)
    (case l_many_wrong => k_is)
    (case c_many_wrong => k_is)
    (case k_many_wrong => k_is)
    (case a_parted => k_is)
    (case l_parted => k_is)
    (case c_parted => k_is)
    (case k_parted => k_is)
    (case a_last_put_first => k_is)
    (case l_last_put_first => k_is)
    (case c_last_put_first => k_is)
    (case k_last_put_first => k_is)
    (case a_first_put_last => k_is)
    (case l_first_put_last => k_is)
    (case c_first_put_last => k_is)
    (case k_first_put_last => k_is)
    (case a_exchanged => k_is)
    (case l_exchanged => k_is)
    (case c_exchanged => k_is)
    (case k_exchanged => k_is)
    (case a_exchanged_back => k_is)
    (case l_exchanged_back => k_is)
    (case c_exchanged_back => k_is)
    (case k_exchanged_back => k_is)
    (case a__law_cell_at => k_is)
    (case l__law_cell_at => k_is)
    (case c__law_cell_at => k_is)
    (case k__law_cell_at => k_is)
    (case a__law_which => k_is)
    (case l__law_which => k_is)
    (case c__law_which => k_is)
    (case k__law_which => k_is)
    (case a__law_within => k_is)
    (case l__law_within => k_is)
    (case c__law_within => k_is)
    (case k__law_within => k_is)
    (case a__law_of_one => k_is)
    (case l__law_of_one => k_is)
    (case c__law_of_one => k_is)
    (case k__law_of_one => k_is)
    (case a__law_no_row => k_is)
    (case l__law_no_row => k_is)
    (case c__law_no_row => k_is)
    (case k__law_no_row => k_is)
    (case a__law_no_shape => k_is)
    (case l__law_no_shape => k_is)
    (case c__law_no_shape => k_is)
    (case k__law_no_shape => k_is)
    (case a__law_no_order => k_is)
    (case l__law_no_order => k_is)
    (case c__law_no_order => k_is)
    (case k__law_no_order => k_is)
    (case a__law_no_size => k_is)
    (case l__law_no_size => k_is)
    (case c__law_no_size => k_is)
    (case k__law_no_size => k_is)
    (case a__law_no_number => k_is)
    (case l__law_no_number => k_is)
    (case c__law_no_number => k_is)
    (case k__law_no_number => k_is)
    (case a__law_done => k_is)
    (case l__law_done => k_is)
    (case c__law_done => k_is)
    (case k__law_done => k_is)
    (case a_law => k_is)
    (case l_law => k_is)
    (case c_law => k_is)
    (case k_law => k_is)
    (case z_len => k_is)
    (case z_set => k_is)
    (case z_sorted => k_is)
    (case z_list => k_is)
    (case z_range => k_is)
    (case z_isinstance => k_is)
    (case z_sum => k_is)
    (case z_min => k_is)
    (case z_ValueError => k_is)
    (case m_MOST_NUMBERS => k_is)
    (case m_MOST_OF_ORDER => k_is)
    (case m_MOST_WHERE_ALL => k_is)
    (case m_GREATEST_SIZE => k_is)
    (case m_OrderError => k_is)
    (case m_NoRow => k_is)
    (case m_NoShape => k_is)
    (case m_NoOrder => k_is)
    (case m_NoSize => k_is)
    (case m_TooLong => k_is)
    (case m_HasOrder => k_is)
    (case m_NoNumber => k_is)
    (case m_RISING => k_is)
    (case xE => first | k_is | k_exc | rfl | decide)
    (case xR => first | k_is | k_exc | rfl | decide)
    (case xS => first | k_is | k_exc | rfl | decide)
    (case xO => first | k_is | k_exc | rfl | decide)
    (case xZ => first | k_is | k_exc | rfl | decide)
    (case xT => first | k_is | k_exc | rfl | decide)
    (case xH => first | k_is | k_exc | rfl | decide)
    (case xN => first | k_is | k_exc | rfl | decide)
    (case lR => first | k_is | k_exc | rfl | decide)
    (case ee5 => first | k_is | k_exc | rfl | decide)
    (case ee6 => first | k_is | k_exc | rfl | decide)
    (case eR1 => first | k_is | k_exc | rfl | decide)
    (case eR2 => first | k_is | k_exc | rfl | decide)
    (case eR3 => first | k_is | k_exc | rfl | decide)
    (case eR4 => first | k_is | k_exc | rfl | decide)
    (case eR7 => first | k_is | k_exc | rfl | decide)
    (case eR8 => first | k_is | k_exc | rfl | decide)
    (case sRE => first | k_is | k_exc | rfl | decide)
    (case iRR => first | k_is | k_exc | rfl | decide)
    (case iRS => first | k_is | k_exc | rfl | decide)
    (case iRO => first | k_is | k_exc | rfl | decide)
    (case iRZ => first | k_is | k_exc | rfl | decide)
    (case iRT => first | k_is | k_exc | rfl | decide)
    (case iRH => first | k_is | k_exc | rfl | decide)
    (case iRN => first | k_is | k_exc | rfl | decide)
    (case iRV => first | k_is | k_exc | rfl | decide)
    (case eS1 => first | k_is | k_exc | rfl | decide)
    (case eS2 => first | k_is | k_exc | rfl | decide)
    (case eS3 => first | k_is | k_exc | rfl | decide)
    (case eS4 => first | k_is | k_exc | rfl | decide)
    (case eS7 => first | k_is | k_exc | rfl | decide)
    (case eS8 => first | k_is | k_exc | rfl | decide)
    (case sSE => first | k_is | k_exc | rfl | decide)
    (case iSR => first | k_is | k_exc | rfl | decide)
    (case iSS => first | k_is | k_exc | rfl | decide)
    (case iSO => first | k_is | k_exc | rfl | decide)
    (case iSZ => first | k_is | k_exc | rfl | decide)
    (case iST => first | k_is | k_exc | rfl | decide)
    (case iSH => first | k_is | k_exc | rfl | decide)
    (case iSN => first | k_is | k_exc | rfl | decide)
    (case iSV => first | k_is | k_exc | rfl | decide)
    (case eO1 => first | k_is | k_exc | rfl | decide)
    (case eO2 => first | k_is | k_exc | rfl | decide)
    (case eO3 => first | k_is | k_exc | rfl | decide)
    (case eO4 => first | k_is | k_exc | rfl | decide)
    (case eO7 => first | k_is | k_exc | rfl | decide)
    (case eO8 => first | k_is | k_exc | rfl | decide)
    (case sOE => first | k_is | k_exc | rfl | decide)
    (case iOR => first | k_is | k_exc | rfl | decide)
    (case iOS => first | k_is | k_exc | rfl | decide)
    (case iOO => first | k_is | k_exc | rfl | decide)
    (case iOZ => first | k_is | k_exc | rfl | decide)
    (case iOT => first | k_is | k_exc | rfl | decide)
    (case iOH => first | k_is | k_exc | rfl | decide)
    (case iON => first | k_is | k_exc | rfl | decide)
    (case iOV => first | k_is | k_exc | rfl | decide)
    (case eZ1 => first | k_is | k_exc | rfl | decide)
    (case eZ2 => first | k_is | k_exc | rfl | decide)
    (case eZ3 => first | k_is | k_exc | rfl | decide)
    (case eZ4 => first | k_is | k_exc | rfl | decide)
    (case eZ7 => first | k_is | k_exc | rfl | decide)
    (case eZ8 => first | k_is | k_exc | rfl | decide)
    (case sZE => first | k_is | k_exc | rfl | decide)
    (case iZR => first | k_is | k_exc | rfl | decide)
    (case iZS => first | k_is | k_exc | rfl | decide)
    (case iZO => first | k_is | k_exc | rfl | decide)
    (case iZZ => first | k_is | k_exc | rfl | decide)
    (case iZT => first | k_is | k_exc | rfl | decide)
    (case iZH => first | k_is | k_exc | rfl | decide)
    (case iZN => first | k_is | k_exc | rfl | decide)
    (case iZV => first | k_is | k_exc | rfl | decide)
    (case eT1 => first | k_is | k_exc | rfl | decide)
    (case eT2 => first | k_is | k_exc | rfl | decide)
    (case eT3 => first | k_is | k_exc | rfl | decide)
    (case eT4 => first | k_is | k_exc | rfl | decide)
    (case eT7 => first | k_is | k_exc | rfl | decide)
    (case eT8 => first | k_is | k_exc | rfl | decide)
    (case sTE => first | k_is | k_exc | rfl | decide)
    (case iTR => first | k_is | k_exc | rfl | decide)
    (case iTS => first | k_is | k_exc | rfl | decide)
    (case iTO => first | k_is | k_exc | rfl | decide)
    (case iTZ => first | k_is | k_exc | rfl | decide)
    (case iTT => first | k_is | k_exc | rfl | decide)
    (case iTH => first | k_is | k_exc | rfl | decide)
    (case iTN => first | k_is | k_exc | rfl | decide)
    (case iTV => first | k_is | k_exc | rfl | decide)
    (case eH1 => first | k_is | k_exc | rfl | decide)
    (case eH2 => first | k_is | k_exc | rfl | decide)
    (case eH3 => first | k_is | k_exc | rfl | decide)
    (case eH4 => first | k_is | k_exc | rfl | decide)
    (case eH7 => first | k_is | k_exc | rfl | decide)
    (case eH8 => first | k_is | k_exc | rfl | decide)
    (case sHE => first | k_is | k_exc | rfl | decide)
    (case iHR => first | k_is | k_exc | rfl | decide)
    (case iHS => first | k_is | k_exc | rfl | decide)
    (case iHO => first | k_is | k_exc | rfl | decide)
    (case iHZ => first | k_is | k_exc | rfl | decide)
    (case iHT => first | k_is | k_exc | rfl | decide)
    (case iHH => first | k_is | k_exc | rfl | decide)
    (case iHN => first | k_is | k_exc | rfl | decide)
    (case iHV => first | k_is | k_exc | rfl | decide)
    (case eN1 => first | k_is | k_exc | rfl | decide)
    (case eN2 => first | k_is | k_exc | rfl | decide)
    (case eN3 => first | k_is | k_exc | rfl | decide)
    (case eN4 => first | k_is | k_exc | rfl | decide)
    (case eN7 => first | k_is | k_exc | rfl | decide)
    (case eN8 => first | k_is | k_exc | rfl | decide)
    (case sNE => first | k_is | k_exc | rfl | decide)
    (case iNR => first | k_is | k_exc | rfl | decide)
    (case iNS => first | k_is | k_exc | rfl | decide)
    (case iNO => first | k_is | k_exc | rfl | decide)
    (case iNZ => first | k_is | k_exc | rfl | decide)
    (case iNT => first | k_is | k_exc | rfl | decide)
    (case iNH => first | k_is | k_exc | rfl | decide)
    (case iNN => first | k_is | k_exc | rfl | decide)
    (case iNV => first | k_is | k_exc | rfl | decide)
#print axioms PySem.Challenge.cw_shapeorders_k14_each_refusal_its_own_holds
