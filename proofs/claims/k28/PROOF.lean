import PyProof.Rows.All
import Wide.All
import OpenK.AllK
import Wide.FinOn
import Lean
import PyProof.EqAt
import PyProof.EqKinds
import PyProof.TupleCall
import KE.KMinKey
import PyProof.Rows.CallKwBuiltin
import PyProof.ListRange
import PyProof.Rows.SortWalk
import PySem.Challenge.RW_wishmart_k28_what_is_a_barter

set_option Elab.async false
set_option linter.all false
set_option maxRecDepth 100000
/-! THE HAND LAYER, for ints, bools, texts, own classes, LISTS and tuples (index, slices, in, append, pop ..), calls, loops. Paste it whole ahead of your own text; what your proof does not reach may be deleted. -/
namespace L2
open PySem PySem.Spec PyProof.Rows

/-- a key: an int or a str -/
abbrev Key := Sum Int Str
def keyIs : Key → Value → Bool
  | .inl k, v => Value.isInt k v
  | .inr x, v => Value.isStrOf x v
def keyH (w : World) : Key → Int
  | .inl k => hashInt k
  | .inr x => hashStr w x
theorem keyIs_shape : ∀ {k : Key} {v : Value}, keyIs k v = true → (∃ i t, k = Sum.inl i ∧ v = Value.int i t) ∨ (∃ x t, k = Sum.inr x ∧ v = Value.str x t)
  | .inl i, v, h => by
    obtain ⟨t, e⟩ := Value.isInt_shape (k := i) (v := v) h
    exact .inl ⟨i, t, rfl, e⟩
  | .inr x, v, h => by
    obtain ⟨t, e⟩ := Value.isStrOf_shape (x := x) (v := v) h
    exact .inr ⟨x, t, rfl, e⟩
theorem key_ll (a b : Int) : decide ((Sum.inl a : Key) = Sum.inl b) = (a == b) := by
  by_cases e : a = b
  · subst e; simp
  · have h : ¬ (Sum.inl a : Key) = Sum.inl b := fun q => e (Sum.inl.inj q)
    rw [decide_eq_false h]
    exact (beq_eq_false_iff_ne.mpr e).symm
theorem key_rr (a b : Str) : decide ((Sum.inr a : Key) = Sum.inr b) = decide (a = b) := by
  by_cases e : a = b
  · subst e; simp
  · have h : ¬ (Sum.inr a : Key) = Sum.inr b := fun q => e (Sum.inr.inj q)
    rw [decide_eq_false h, decide_eq_false e]
theorem key_lr (a : Int) (b : Str) : decide ((Sum.inl a : Key) = Sum.inr b) = false := decide_eq_false (fun q => nomatch q)
theorem key_rl (a : Str) (b : Int) : decide ((Sum.inr a : Key) = Sum.inl b) = false := decide_eq_false (fun q => nomatch q)

def mixKind (prog : Program) (w : World) : PySem.KeyKind prog w Key where
  is := keyIs
  hash := keyH w
  inj := fun v a b ha hb => by
    rcases keyIs_shape ha with ⟨i, t, rfl, rfl⟩ | ⟨x, t, rfl, rfl⟩
    · rcases keyIs_shape hb with ⟨j, u, rfl, e⟩ | ⟨y, u, rfl, e⟩
      · injection e with e1 _; rw [e1]
      · exact nomatch e
    · rcases keyIs_shape hb with ⟨j, u, rfl, e⟩ | ⟨y, u, rfl, e⟩
      · exact nomatch e
      · injection e with e1 _; rw [e1]
  byValue := fun k v h => by
    rcases keyIs_shape h with ⟨i, t, rfl, rfl⟩ | ⟨x, t, rfl, rfl⟩ <;> rfl
  pyHash := fun hv h => by
    rcases keyIs_shape hv with ⟨i, t, rfl, rfl⟩ | ⟨x, t, rfl, rfl⟩
    · exact wpAny_pyHash_int h
    · exact wpAny_pyHash_str h
  eqBool := fun hu hv h => by
    rcases keyIs_shape hu with ⟨i, t, rfl, rfl⟩ | ⟨x, t, rfl, rfl⟩
    · rcases keyIs_shape hv with ⟨j, u, rfl, rfl⟩ | ⟨y, u, rfl, rfl⟩
      · rw [key_ll] at h; exact wpAny_eqBool_int h
      · rw [key_lr] at h; exact SeqAt.EqAt.int_str i t y u _ _ _ _ h
    · rcases keyIs_shape hv with ⟨j, u, rfl, rfl⟩ | ⟨y, u, rfl, rfl⟩
      · rw [key_rl] at h; exact SeqAt.EqAt.str_int x t j u _ _ _ _ h
      · rw [key_rr] at h; exact wpAny_eqBool_str h
  «strs» := fun k x t v h => by
    rcases keyIs_shape h with ⟨i, u, rfl, e⟩ | ⟨y, u, rfl, e⟩
    · exact nomatch e
    · injection e with e1 _
      subst e1
      cases v <;> rfl

end L2

namespace L2
open PySem PySem.Spec PyProof.Rows

/-- a value, without the heap -/
inductive V where
  | non | bl (b : Bool) | int (i : Int) | str (x : Str) | byt (b : Array UInt8) | flt (b : UInt64) | ref (a : Addr) | ty (n : String)
  deriving DecidableEq

def RelV : V → Value → Prop
  | .non, u => u = Value.none
  | .bl b, u => u = Value.bool b
  | .int i, u => ∃ t, u = Value.int i t
  | .str x, u => ∃ t, u = Value.str x t
  | .byt b, u => ∃ t, u = Value.bytes b t
  | .flt b, u => ∃ t, u = Value.float b t
  | .ref a, u => u = Value.ref a
  | .ty n, u => u = Value.type n

abbrev Vals : List V → List Value → Prop := Paired RelV
theorem Vals.length {xs : List V} {us : List Value} (r : Vals xs us) : xs.length = us.length := Paired.length r
theorem Vals.get : ∀ {xs : List V} {us : List Value} {i : Nat} {x : V}, Vals xs us → xs[i]? = some x → ∃ u, us[i]? = some u ∧ RelV x u
  | _, _, _, _, .nil, e => by simp at e
  | _, _, 0, _, .cons r _, e => by simp at e; subst e; exact ⟨_, rfl, r⟩
  | _, _, i + 1, x, .cons _ t, e => by
    obtain ⟨u, h1, h2⟩ := Vals.get (i := i) (x := x) t (by simpa using e)
    exact ⟨u, by simpa using h1, h2⟩
theorem Vals.set {x : V} {u : Value} (r : RelV x u) : ∀ {xs : List V} {us : List Value} (i : Nat), Vals xs us → Vals (xs.set i x) (us.set i u)
  | _, _, _, .nil => .nil
  | _, _, 0, .cons _ t => .cons r t
  | _, _, i + 1, .cons q t => .cons q (Vals.set r i t)
theorem Vals.append : ∀ {xs ys : List V} {us ws : List Value}, Vals xs us → Vals ys ws → Vals (xs ++ ys) (us ++ ws)
  | _, _, _, _, .nil, s => s
  | _, _, _, _, .cons r t, s => .cons r (Vals.append t s)
theorem Vals.take : ∀ {xs : List V} {us : List Value} (n : Nat), Vals xs us → Vals (xs.take n) (us.take n)
  | _, _, 0, _ => .nil
  | _, _, _ + 1, .nil => .nil
  | _, _, n + 1, .cons r t => .cons r (Vals.take n t)
theorem Vals.drop : ∀ {xs : List V} {us : List Value} (n : Nat), Vals xs us → Vals (xs.drop n) (us.drop n)
  | _, _, 0, r => r
  | _, _, _ + 1, .nil => .nil
  | _, _, n + 1, .cons _ t => Vals.drop n t
def RelO : Option V → Option Value → Prop
  | some v, some u => RelV v u
  | none, none => True
  | _, _ => False
def KV {κ : Type} : List (κ × V) → List (κ × Value) → Prop := Paired fun (p : κ × V) (q : κ × Value) => p.1 = q.1 ∧ RelV p.2 q.2

/-- a key of a dict (00_mix): an int or a text -/
def kV : Key → V
  | .inl i => .int i
  | .inr x => .str x

/-- what stands at a tracked address -/
inductive HO where
  /-- a list -/
  | lst (xs : List V)
  /-- a tuple (never changes) -/
  | tup (xs : List V)
  /-- a dict whose keys are ints and texts; one whose keys are tuples of ints and texts (the empty one is both) -/
  | dK (kvs : List (Key × V)) | dT (kvs : List (List Key × V))
  /-- a set of ints: its members, its size -/
  | set (S : Int → Bool) (n : Nat)
  /-- an instance of the class at C, its dict at dx, its attributes -/
  | ins (C dx : Addr) (fs : List (Str × V))
  /-- the dict of the instance at x -/
  | own (x : Addr)
  /-- the dict of an exception -/
  | xd (fs : List (Str × V))
  /-- a bound method, f of x -/
  | met (f x : Addr)
  /-- a range object lo, lo + 1, .. below hi -/
  | rng (lo hi : Int)
  /-- a thing that is known to the object (the script; a dict while a loop walks it): read, never written while it is so -/
  | frz (o : Obj) (u : HO)
  /-- a code object's table -/
  | tbl (ps : Array Value)
  /-- any other thing, by what is true of its one object (a def of one's own: SetO a S n := HO.ext fun h => ..) -/
  | ext (φ : Heap → Prop)

abbrev Hp := Addr → Option HO
def upd (H : Hp) (a : Addr) (o : HO) : Hp := fun b => if b = a then some o else H b
theorem upd_same {H : Hp} {a : Addr} {o : HO} : upd H a o a = some o := by unfold upd; rw [if_pos rfl]
theorem upd_ne {H : Hp} {a b : Addr} {o : HO} (h : b ≠ a) : upd H a o b = H b := by unfold upd; rw [if_neg h]
theorem ne_of_none {H : Hp} {a b : Addr} {o : HO} (h : H a = some o) (h' : H b = none) : a ≠ b := by
  intro e; subst e; rw [h] at h'; cases h'

section
variable (P : Program) (w : World)
def ObjOk (H : Hp) (h : Heap) (a : Addr) : HO → Prop
  | .lst xs => xs.length ≤ sizeLine ∧ ∃ (its : List Value) (n : Nat), Vals xs its ∧ h.get? a = some { cls := .type "list", data := .seq its.toArray n }
  | .tup xs => xs.length ≤ sizeLine ∧ ∃ its : List Value, Vals xs its ∧ IsTup h a its.toArray
  | .dK kvs => kvs.length ≤ sizeLine ∧ (a == sysModules) = false ∧ ∃ vs, KV kvs vs ∧ h.DictOf (mixKind P w) a vs
  | .dT kvs => kvs.length ≤ sizeLine ∧ (a == sysModules) = false ∧ ∃ xs : List (List Key × Addr × Value),
      Paired (fun (p : List Key × V) (q : List Key × Addr × Value) => p.1 = q.1 ∧ H q.2.1 = some (.tup (p.1.map kV)) ∧ RelV p.2 q.2.2) kvs xs ∧
      ∃ o es ep, h.get? a = some o ∧ o.ExactDict ∧ o.data = .dict es ep ∧ es.toList = xs.map (entryOfKey (tupleKind (mixKind P w))) ∧ (xs.map (·.1)).Nodup
  | .set S n => h.SetOf (intKind P w) a S n
  | .ins C dx fs => H dx = some (.own a) ∧ fs.length ≤ 1000 ∧ dx ≠ a ∧ h.get? a = some (PySem.W.instObj C dx) ∧
      ∃ mA, h.Ns1 dx mA ∧ (∀ f, RelO (fs.lookup f) (mA f)) ∧ PySem.Within mA (fs.map (·.1))
  | .own _ => ∃ o, h.get? a = some o
  | .xd fs => ∃ mA, h.Ns1 a mA ∧ ∀ f, RelO (fs.lookup f) (mA f)
  | .rng lo hi => ∃ t u v, h.get? a = some { cls := .type "range", data := .fields #[.int lo t, .int hi u, .int 1 v] }
  | .frz o u => h.get? a = some o ∧ ObjOk H h a u
  | .tbl ps => h.get? a = some { cls := .none, data := .fields ps }
  | .met f x => h.get? a = some (PySem.W.methodObj (.ref f) (.ref x))
  | .ext φ => φ h ∧ (∃ o, h.get? a = some o) ∧ ∀ h1 h2 : Heap, φ h1 → (∀ o, h1.get? a = some o → h2.get? a = some o) → φ h2
/-- the abstract heap is held -/
def HOk (H : Hp) (h : Heap) : Prop := ∀ a o, H a = some o → ObjOk P w H h a o
end

section
variable {P : Program} {w : World} {H H' : Hp} {h h' : Heap} {a : Addr} {o : HO}
theorem ObjOk.lt (x : ObjOk P w H h a o) : a < h.objs.size := by
  cases o with
  | lst xs => obtain ⟨_, _, _, _, e⟩ := x; exact Heap.lt_size e
  | tup xs => obtain ⟨_, _, _, p⟩ := x; exact p.lt
  | dK kvs => obtain ⟨_, _, _, _, o, _, _, e, _⟩ := x; exact Heap.lt_size e
  | dT kvs => obtain ⟨_, _, _, _, o, _, _, e, _⟩ := x; exact Heap.lt_size e
  | set S n => obtain ⟨o, _, _, _, e, _⟩ := x; exact Heap.lt_size e
  | ins C dx fs => obtain ⟨_, _, _, e, _⟩ := x; exact Heap.lt_size e
  | own y => obtain ⟨_, e⟩ := x; exact Heap.lt_size e
  | xd fs => obtain ⟨_, ⟨_, _, _, e, _⟩, _⟩ := x; exact Heap.lt_size e
  | rng lo hi => obtain ⟨_, _, _, e⟩ := x; exact Heap.lt_size e
  | frz ob u => obtain ⟨e, _⟩ := x; exact Heap.lt_size e
  | tbl ps => exact Heap.lt_size (show h.get? a = some _ from x)
  | met f y => exact Heap.lt_size (show h.get? a = some _ from x)
  | ext φ => obtain ⟨_, ⟨_, e⟩, _⟩ := x; exact Heap.lt_size e
theorem Paired.mapP {α β : Type} {F G : α → β → Prop} : ∀ {l₁ : List α} {l₂ : List β}, Paired F l₁ l₂ → (∀ a b, F a b → G a b) → Paired G l₁ l₂
  | _, _, .nil, _ => .nil
  | _, _, .cons r t, f => .cons (f _ _ r) (Paired.mapP t f)
/-- what an object's description leans on: its own object, its own dict, the tuples -/
theorem ObjOk.stay (x : ObjOk P w H h a o) (k : ∀ b u, (b = a ∨ H b = some (.own a)) → h.get? b = some u → h'.get? b = some u)
    (ho : ∀ b, H b = some (.own a) → H' b = some (.own a)) (ht : ∀ b xs, H b = some (.tup xs) → H' b = some (.tup xs)) : ObjOk P w H' h' a o := by
  induction o with
  | lst xs => obtain ⟨z, its, n, r, e⟩ := x; exact ⟨z, its, n, r, k _ _ (.inl rfl) e⟩
  | tup xs => obtain ⟨z, its, r, ob, e, c⟩ := x; exact ⟨z, its, r, ob, k _ _ (.inl rfl) e, c⟩
  | dK kvs => obtain ⟨z, y, vs, r, ob, es, ep, e, c⟩ := x; exact ⟨z, y, vs, r, ob, es, ep, k _ _ (.inl rfl) e, c⟩
  | dT kvs =>
    obtain ⟨z, y, xs, r, ob, es, ep, e, c⟩ := x
    exact ⟨z, y, xs, Paired.mapP r fun p q z => ⟨z.1, ht _ _ z.2.1, z.2.2⟩, ob, es, ep, k _ _ (.inl rfl) e, c⟩
  | set S n => obtain ⟨ob, es, ep, t, e, c⟩ := x; exact ⟨ob, es, ep, t, k _ _ (.inl rfl) e, c⟩
  | ins C dx fs =>
    obtain ⟨d, z, ne, e, mA, ⟨od, es, ep, e2, c⟩, r⟩ := x
    exact ⟨ho _ d, z, ne, k _ _ (.inl rfl) e, mA, ⟨od, es, ep, k _ _ (.inr d) e2, c⟩, r⟩
  | own y => obtain ⟨ob, e⟩ := x; exact ⟨ob, k _ _ (.inl rfl) e⟩
  | xd fs => obtain ⟨mA, ⟨od, es, ep, e, c⟩, r⟩ := x; exact ⟨mA, ⟨od, es, ep, k _ _ (.inl rfl) e, c⟩, r⟩
  | rng lo hi => obtain ⟨t, u, v, e⟩ := x; exact ⟨t, u, v, k _ _ (.inl rfl) e⟩
  | frz ob u ih => obtain ⟨e, q⟩ := x; exact ⟨k _ _ (.inl rfl) e, ih q⟩
  | tbl ps =>
    have e : h.get? a = some { cls := .none, data := .fields ps } := x
    show h'.get? a = some { cls := .none, data := .fields ps }
    exact k a _ (.inl rfl) e
  | met f y =>
    have e : h.get? a = some (PySem.W.methodObj (.ref f) (.ref y)) := x
    show h'.get? a = some (PySem.W.methodObj (.ref f) (.ref y))
    exact k a _ (.inl rfl) e
  | ext φ => obtain ⟨p, ⟨o, e⟩, st⟩ := x; exact ⟨st _ _ p fun o q => k _ _ (.inl rfl) q, ⟨o, k _ _ (.inl rfl) e⟩, st⟩
theorem HOk.lt (x : HOk P w H h) (e : H a = some o) : a < h.objs.size := (x a o e).lt
theorem HOk.fresh (x : HOk P w H h) (e : h.objs.size ≤ a) : H a = none := by
  cases q : H a with
  | none => rfl
  | some u => exact absurd (Nat.lt_of_lt_of_le (x.lt q) e) (Nat.lt_irrefl _)
/-- every object of the heap is kept -/
theorem HOk.kept (x : HOk P w H h) (k : ∀ b u, h.get? b = some u → h'.get? b = some u) : HOk P w H h' := fun a o e =>
  (x a o e).stay (fun b u _ q => k b u q) (fun _ q => q) fun _ _ q => q
/-- a new object is laid and tracked -/
theorem HOk.laid (x : HOk P w H h) (k : ∀ b u, h.get? b = some u → h'.get? b = some u) (hp : h.objs.size ≤ a) (new : ObjOk P w (upd H a o) h' a o) : HOk P w (upd H a o) h' := fun b u e => by
  have hn := x.fresh hp
  by_cases hb : b = a
  · subst hb; rw [upd_same] at e; cases e; exact new
  · rw [upd_ne hb] at e
    exact (x b u e).stay (fun c v _ q => k c v q) (fun c q => by rw [upd_ne (ne_of_none q hn)]; exact q) fun c xs q => by rw [upd_ne (ne_of_none q hn)]; exact q
end

/-- what may be read as u: it is u, or a known u -/
def Rd (H : Hp) (a : Addr) (u : HO) : Prop := H a = some u ∨ ∃ o, H a = some (.frz o u)
theorem Rd.ok {P : Program} {w : World} {H : Hp} {h : Heap} {a : Addr} {u : HO} (r : Rd H a u) (x : HOk P w H h) : ObjOk P w H h a u := by
  rcases r with r | ⟨o, r⟩
  · exact x a u r
  · obtain ⟨_, q⟩ := x a _ r
    exact q
/-- what may be written -/
def Mut : Option HO → Prop
  | some (.lst _) => True
  | some (.dK _) => True
  | some (.dT _) => True
  | some (.set _ _) => True
  | some (.ins _ _ _) => True
  | some (.ext _) => True
  | _ => False
section
variable {P : Program} {w : World} {H : Hp} {h h' : Heap} {x e : Addr} {o' : HO}
/-- the object at e is changed: x itself, or the dict of the instance x -/
theorem HOk.write (ok : HOk P w H h) (mu : Mut (H x)) (he : e = x ∨ H e = some (.own x)) (k : ∀ b u, b ≠ e → h.get? b = some u → h'.get? b = some u) (heo : ∃ u, h'.get? e = some u)
    (new : ObjOk P w (upd H x o') h' x o') : HOk P w (upd H x o') h' := fun b u q => by
  have nown : ∀ c y, H c = some (.own y) → c ≠ x := fun c y r z => by subst z; rw [r] at mu; exact mu
  have ntup : ∀ c xs, H c = some (.tup xs) → c ≠ x := fun c xs r z => by subst z; rw [r] at mu; exact mu
  by_cases hb : b = x
  · subst hb; rw [upd_same] at q; cases q; exact new
  · rw [upd_ne hb] at q
    by_cases hbe : b = e
    · have q' : H b = some (.own x) := by
        rcases he with z | z
        · exact absurd (hbe.trans z) hb
        · rw [hbe]; exact z
      rw [q] at q'; cases q'
      obtain ⟨v, hv⟩ := heo
      exact ⟨v, by rw [hbe]; exact hv⟩
    · refine (ok b u q).stay (fun c v hc r => k c v ?_ r) (fun c r => by rw [upd_ne (nown c b r)]; exact r) fun c xs r => by rw [upd_ne (ntup c xs r)]; exact r
      rcases hc with rfl | hc
      · exact hbe
      · rintro rfl
        rcases he with z | z
        · exact nown c b hc z
        · rw [hc] at z; cases z; exact hb rfl
end

/-! ### kept unless tracked; of the frames at fs (the callers') the slots may change (an exception that passes writes there); of the records at ex (iterators) nothing is said -/
structure Un (fs ex : List Addr) (H H' : Hp) (h h' : Heap) : Prop where
  keep : ∀ b o, h.get? b = some o → H b = none → b ∉ fs → b ∉ ex → h'.get? b = some o
  slot : ∀ b o, h.get? b = some o → H b = none → b ∈ fs → b ∉ ex → ∃ sl, h'.get? b = some { o with slots := sl }
  free : ∀ b o, h.get? b = some o → H b = none → b ∉ ex → H' b = none
  there : ∀ b o, h.get? b = some o → b ∉ ex → ∃ o', h'.get? b = some o'
  tups : ∀ b xs, H b = some (.tup xs) → H' b = some (.tup xs)
  frzs : ∀ b o u, H b = some (.frz o u) → H' b = some (.frz o u)
  tbls : ∀ b ps, H b = some (.tbl ps) → ∃ more, H' b = some (.tbl (ps ++ more))
section
variable {fs fs' ex ex' : List Addr} {H H1 H2 : Hp} {h h1 h2 h' : Heap} {a x e : Addr} {o : HO}
theorem Un.any (u : Un fs ex H H1 h h1) {b : Addr} {ob : Obj} (q : h.get? b = some ob) (n : H b = none) (hx : b ∉ ex) : ∃ sl, h1.get? b = some { ob with slots := sl } := by
  by_cases hb : b ∈ fs
  · exact u.slot b ob q n hb hx
  · exact ⟨ob.slots, u.keep b ob q n hb hx⟩
theorem Un.kept (k : ∀ b u, h.get? b = some u → h'.get? b = some u) : Un fs ex H H h h' :=
  ⟨fun b ob q _ _ _ => k b ob q, fun b ob q _ _ _ => ⟨ob.slots, k b ob q⟩, fun _ _ _ n _ => n, fun b ob q _ => ⟨ob, k b ob q⟩, fun _ _ q => q, fun _ _ _ q => q, fun _ ps q => ⟨#[], by rw [q]; simp⟩⟩
theorem Un.refl : Un fs ex H H h h := Un.kept fun _ _ q => q
theorem Un.laid (k : ∀ b u, h.get? b = some u → h'.get? b = some u) (hp : h.objs.size ≤ a) (hn : H a = none) : Un fs ex H (upd H a o) h h' where
  keep := fun b u q _ _ _ => k b u q
  slot := fun b u q _ _ _ => ⟨u.slots, k b u q⟩
  free := fun b u q n _ => by rw [upd_ne (Nat.ne_of_lt (Nat.lt_of_lt_of_le (Heap.lt_size q) hp))]; exact n
  there := fun b u q _ => ⟨u, k b u q⟩
  tups := fun b xs q => by rw [upd_ne (ne_of_none q hn)]; exact q
  frzs := fun b u xs q => by rw [upd_ne (ne_of_none q hn)]; exact q
  tbls := fun b ps q => ⟨#[], by rw [upd_ne (ne_of_none q hn), q]; simp⟩
theorem Un.write (mu : Mut (H x)) (he : e = x ∨ H e = some (.own x)) (k : ∀ b u, b ≠ e → h.get? b = some u → h'.get? b = some u) (heo : ∃ u, h'.get? e = some u) : Un fs ex H (upd H x o) h h' := by
  have hx : ∀ b, H b = none → b ≠ x := fun b n z => by subst z; rw [n] at mu; exact mu
  have hb : ∀ b, H b = none → b ≠ e := fun b n z => by
    subst z
    rcases he with r | r
    · exact hx b n r
    · rw [n] at r; cases r
  have hm : ∀ b u, H b = some u → ¬ Mut (some u) → b ≠ x := fun b u q nm z => by subst z; rw [q] at mu; exact nm mu
  refine ⟨fun b u q n _ _ => k b u (hb b n) q, fun b u q n _ _ => ⟨u.slots, k b u (hb b n) q⟩, fun b u q n _ => by rw [upd_ne (hx b n)]; exact n, fun b u q _ => ?_,
    fun b xs q => by rw [upd_ne (hm b _ q fun z => z)]; exact q, fun b u xs q => by rw [upd_ne (hm b _ q fun z => z)]; exact q, fun b ps q => ⟨#[], by rw [upd_ne (hm b _ q fun z => z), q]; simp⟩⟩
  by_cases hbe : b = e
  · subst hbe; exact heo
  · exact ⟨u, k b u hbe q⟩
end

/-! ### the heap without what is tracked -/
def trk (h : Heap) (H : Hp) : List Addr := (List.range h.objs.size).filter fun a => (H a).isSome
def hidT (h : Heap) (H : Hp) : Heap := PySem.W.hideAll h (trk h H)
theorem hidT_size (h : Heap) (H : Hp) : (hidT h H).objs.size = h.objs.size := PySem.W.hideAll_size _ _
theorem hidT_get {h : Heap} {H : Hp} {b : Addr} {o : Obj} (e : h.get? b = some o) (n : H b = none) : (hidT h H).get? b = some o :=
  PySem.W.hideAll_get _ e fun hm => by
    have q : (H b).isSome = true := (List.mem_filter.mp hm).2
    rw [n] at q; simp at q
theorem of_hidT {h : Heap} {H : Hp} {b : Addr} {o : Obj} (e : (hidT h H).get? b = some o) : h.get? b = some o ∧ H b = none := by
  have e' : h.get? b = some o := PySem.W.of_hideAll (trk h H) e
  refine ⟨e', ?_⟩
  cases q : H b with
  | none => rfl
  | some x =>
    have hm : b ∈ trk h H := List.mem_filter.mpr ⟨List.mem_range.mpr (Heap.lt_size e'), by simp [q]⟩
    have z : (hidT h H).get? b = none := PySem.W.hideAll_none (trk h H) hm
    rw [z] at e; cases e

/-! ### OpenK's ledger, filled with every new object but one -/
end L2

namespace L2
open PySem PySem.Spec PyProof.Rows

/-- the module's facts, over the base: the heap at the law's entry without what is tracked there -/
structure Mod (K : PySem.W.Frag) (mg : Str → Option Value) (base : Heap) : Prop where
  kin : K.In base
  glob : base.Ns mainGlobals mg
  blt : ∃ mb, base.Ns builtinsNs mb ∧ ∀ x : Str, x ≠ "__name__" → mb x = bootBuiltins x
  nolimit : base.NoLimit

/-- the context: a def's body (or a comprehension's block) running. base: fixed through the whole law; s₀, H₀: the entry; outer: the frames whose slots others may change (a def's callers); stack: all frames that run;
   ex: iterators that were made ahead of the entry and are walked here (a comprehension's); fn: the names whose cells were made at the entry (a def: all; a comprehension's block: its own); calm: not within an except suite; pn: pins that every state bears; xe: what is wanted of an exception that leaves the code -/
structure Cx where
  prog : Program
  w : World
  K : PySem.W.Frag
  mg : Str → Option Value
  base : Heap
  A : Around
  N : List Str
  s₀ : Shared
  H₀ : Hp
  env : Env
  outer : List Env
  stack : List Env
  ex : List Addr
  fn : Str → Bool
  calm : Bool
  pn : List (Addr × Obj)
  xe : Value → Shared → Prop
/-- the callers' frames -/
def frs (l : List Env) : List Addr := l.filterMap (·.frame)
abbrev Cx.fs (X : Cx) : List Addr := frs X.outer

def Vis (sc : Scope) (x : Str) : Prop := sc.names.lookup x = some .local ∨ sc.names.lookup x = some .cell ∨ sc.names.lookup x = some .free
def Loc (sc : Scope) (x : Str) : Prop := sc.names.lookup x = some .local ∨ sc.names.lookup x = some .cell
def Look (env : Env) (h : Heap) (m : Str → Option Value) (x : Str) (u : Value) : Prop :=
  (env.kindOf x = some .local ∧ m x = some u) ∨ ((env.kindOf x = some .cell ∨ env.kindOf x = some .free) ∧ ∃ c, env.cells.lookup x = some c ∧ h.IsCell c (some u))

structure Cx.Ok (X : Cx) : Prop where
  mod : Mod X.K X.mg X.base
  kind : X.env.scope.kind = .function
  glob : X.env.globals = mainGlobals
  blt : X.env.builtins = builtinsNs
  above : X.s₀.heap.objs.size ≤ X.env.locals
  inj : ∀ x y c, X.env.cells.lookup x = some c → X.env.cells.lookup y = some c → x = y
  has : ∀ x, (X.env.kindOf x = some .cell ∨ X.env.kindOf x = some .free) → ∃ c, X.env.cells.lookup x = some c
  cab : ∀ x c, X.fn x = true → X.env.cells.lookup x = some c → X.s₀.heap.objs.size ≤ c
  hd : X.calm = true → X.A.handled = none
  frames : X.A.frames = some X.stack
  stk : X.stack = X.outer ∨ (X.stack = X.env :: X.outer ∧ X.env.frame = some X.env.locals)
  exf : ∀ b ∈ X.ex, b ≠ X.env.locals ∧ ∀ x c, X.env.cells.lookup x = some c → c ≠ b
  bs : ∀ b o, X.base.get? b = some o → X.s₀.heap.get? b = some o ∧ X.H₀ b = none
  bsz : X.base.objs.size ≤ X.s₀.heap.objs.size
  noex : ∀ b o, X.base.get? b = some o → b ∉ X.ex
  exfs : ∀ b ∈ X.ex, b ∉ X.fs
  funs : X.s₀.heap.FunFrames X.base X.outer
  frf : ∀ b ∈ X.fs, X.H₀ b = none

structure Inv (X : Cx) (pins : List (Addr × Obj)) (σ : List (Option V)) (H : Hp) (s : Shared) : Prop where
  ok : X.Ok
  os : s.os = X.s₀.os
  bare : AllBare s.gens
  base : Un X.fs X.ex X.H₀ H X.s₀.heap s.heap
  loc : ∃ m, s.heap.Ns X.env.locals m ∧ ∀ (i : Nat) (x : Str) (v : V), X.N[i]? = some x → σ[i]? = some (some v) → Vis X.env.scope x → ∃ u, RelV v u ∧ Look X.env s.heap m x u
  cell : ∀ x c, X.env.cells.lookup x = some c → ∃ v, s.heap.IsCell c v
  free : H X.env.locals = none
  freeC : ∀ x c, X.env.cells.lookup x = some c → H c = none
  pin : ∀ p ∈ X.pn ++ pins, s.heap.get? p.1 = some p.2 ∧ H p.1 = none ∧ p.1 ≠ X.env.locals ∧ p.1 ∉ X.fs ∧ ∀ v, p.2.data ≠ .cell v
  hok : HOk X.prog X.w H s.heap
  len : σ.length = X.N.length

section
variable {X : Cx} {pins : List (Addr × Obj)} {σ : List (Option V)} {H H' : Hp} {s : Shared} {h' : Heap}

theorem Cx.Ok.nofr (ok : X.Ok) {b : Addr} {o : Obj} (e : X.base.get? b = some o) : b ∉ X.fs := fun hb => by
  have := (ok.funs.mem hb).1
  rw [e] at this; cases this
theorem Inv.bs (I : Inv X pins σ H s) : ∀ b o, X.base.get? b = some o → s.heap.get? b = some o ∧ H b = none := fun b o e =>
  ⟨I.base.keep b o (I.ok.bs b o e).1 (I.ok.bs b o e).2 (I.ok.nofr e) (I.ok.noex b o e), I.base.free b o (I.ok.bs b o e).1 (I.ok.bs b o e).2 (I.ok.noex b o e)⟩
theorem Inv.bk (I : Inv X pins σ H s) : ∀ b o, X.base.get? b = some o → s.heap.get? b = some o := fun b o e => (I.bs b o e).1
theorem Inv.mod (I : Inv X pins σ H s) : Mod X.K X.mg X.base := I.ok.mod
theorem Inv.kIn (I : Inv X pins σ H s) : X.K.In s.heap := I.ok.mod.kin.keeps I.bk
theorem Inv.lt (I : Inv X pins σ H s) : X.env.locals < s.heap.objs.size := let ⟨_, hn, _⟩ := I.loc; hn.lt
theorem Inv.sz (I : Inv X pins σ H s) : X.s₀.heap.objs.size ≤ s.heap.objs.size := Nat.le_trans I.ok.above (Nat.le_of_lt I.lt)
theorem Inv.nofs (I : Inv X pins σ H s) {a : Addr} (h : s.heap.objs.size ≤ a) : a ∉ X.fs := fun hb => by
  obtain ⟨_, o, ho, _⟩ := I.ok.funs.mem hb
  exact absurd (Nat.lt_of_lt_of_le (Heap.lt_size ho) (Nat.le_trans I.sz h)) (Nat.lt_irrefl _)
theorem Inv.cne (I : Inv X pins σ H s) : ∀ x c, X.env.cells.lookup x = some c → c ≠ X.env.locals := fun x c e z => by
  obtain ⟨v, o, ho, hd⟩ := I.cell x c e
  obtain ⟨m, ⟨o', es, ep, ho', hd', _⟩, _⟩ := I.loc
  rw [z, ho'] at ho; cases ho; rw [hd'] at hd; cases hd
theorem Inv.funs (I : Inv X pins σ H s) : s.heap.FunFrames X.base X.outer := by
  have all : ∀ (l : List Env), (∀ b ∈ frs l, b ∈ X.fs) → X.s₀.heap.FunFrames X.base l → s.heap.FunFrames X.base l := by
    intro l
    induction l with
    | nil => intro _ _; trivial
    | cons env r ih =>
      intro hs hl
      obtain ⟨hk, ⟨L, o, hf, hn, ho, hd⟩, hr⟩ := hl
      have hL : L ∈ X.fs := hs L (by unfold frs; rw [List.filterMap_cons, hf]; exact List.mem_cons_self)
      obtain ⟨sl, e⟩ := I.base.slot L o ho (I.ok.frf L hL) hL fun z => I.ok.exfs L z hL
      exact ⟨hk, ⟨L, _, hf, hn, e, hd⟩, ih (fun b hb => hs b (by unfold frs; rw [List.filterMap_cons, hf]; exact List.mem_cons_of_mem _ hb)) hr⟩
  exact all X.outer (fun _ hb => hb) I.ok.funs

/-- the frames that run, for a call -/
theorem Inv.stack (I : Inv X pins σ H s) : s.heap.FunFrames X.base X.stack := by
  rcases I.ok.stk with e | ⟨e, hf⟩
  · rw [e]; exact I.funs
  · rw [e]
    obtain ⟨m, hn, _⟩ := I.loc
    refine .cons (by rw [I.ok.kind]; decide) hf hn ?_ I.funs
    exact Heap.get?_none_of_le (Nat.le_trans I.ok.bsz I.ok.above)
theorem Inv.stkSub (I : Inv X pins σ H s) : ∀ b ∈ frs X.stack, b ∈ X.env.locals :: X.fs := fun b hb => by
  rcases I.ok.stk with e | ⟨e, hf⟩
  · rw [e] at hb; exact List.mem_cons_of_mem _ hb
  · rw [e] at hb
    unfold frs at hb
    rw [List.filterMap_cons, hf] at hb
    exact hb
theorem Inv.stkFree (I : Inv X pins σ H s) : ∀ b ∈ frs X.stack, H b = none := fun b hb => by
  rcases List.mem_cons.mp (I.stkSub b hb) with e | hb
  · rw [e]; exact I.free
  · obtain ⟨_, o, ho, _⟩ := I.ok.funs.mem hb
    exact I.base.free b o ho (I.ok.frf b hb) fun z => I.ok.exfs b z hb

/-- THE STEP: the untracked objects but the frame and the records at ch are kept (the callers' frames up to slots), the frame's map is kept, the new abstract heap is held -/
theorem Inv.step {g' : Array GenState} {t' : Nat} {d' : Drawn} {ch : List Addr} (I : Inv X pins σ H s)
    (hch : ∀ b ∈ ch, (b ∈ X.ex ∨ X.s₀.heap.objs.size ≤ b) ∧ b ≠ X.env.locals ∧ (∀ x c, X.env.cells.lookup x = some c → c ≠ b) ∧ ∀ p ∈ X.pn ++ pins, p.1 ≠ b)
    (keep : ∀ b o, b ≠ X.env.locals → b ∉ X.fs → b ∉ ch → s.heap.get? b = some o → H b = none → h'.get? b = some o)
    (slot : ∀ b o, b ≠ X.env.locals → b ∈ X.fs → b ∉ ch → s.heap.get? b = some o → H b = none → ∃ sl, h'.get? b = some { o with slots := sl }) (free : ∀ b o, b ∉ ch → s.heap.get? b = some o → H b = none → H' b = none)
    (there : ∀ b o, b ∉ ch → s.heap.get? b = some o → ∃ o', h'.get? b = some o')
    (tups : ∀ b xs, H b = some (.tup xs) → H' b = some (.tup xs)) (frzs : ∀ b o u, H b = some (.frz o u) → H' b = some (.frz o u)) (tbls : ∀ b ps, H b = some (.tbl ps) → ∃ more, H' b = some (.tbl (ps ++ more)))
    (ns : ∀ m, s.heap.Ns X.env.locals m → h'.Ns X.env.locals m) (hok : HOk X.prog X.w H' h') (hg : AllBare g') :
    Inv X pins σ H' { s with heap := h', gens := g', drawn := d', toks := t' } := by
  have neL : ∀ b o, X.s₀.heap.get? b = some o → b ≠ X.env.locals := fun b o e => Nat.ne_of_lt (Nat.lt_of_lt_of_le (Heap.lt_size e) I.ok.above)
  have neC : ∀ b o, X.s₀.heap.get? b = some o → b ∉ X.ex → b ∉ ch := fun b o e hx hb => by
    rcases (hch b hb).1 with z | z
    · exact hx z
    · exact absurd (Nat.lt_of_lt_of_le (Heap.lt_size e) z) (Nat.lt_irrefl _)
  have cellK : ∀ x c, X.env.cells.lookup x = some c → ∀ v, s.heap.IsCell c v → h'.IsCell c v := fun x c e v ⟨o, ho, hd⟩ => by
    have nch : c ∉ ch := fun z => (hch c z).2.2.1 x c e rfl
    by_cases hc : c ∈ X.fs
    · obtain ⟨sl, q⟩ := slot c o (I.cne x c e) hc nch ho (I.freeC x c e)
      exact ⟨_, q, hd⟩
    · exact ⟨o, keep c o (I.cne x c e) hc nch ho (I.freeC x c e), hd⟩
  refine ⟨I.ok, I.os, hg, ⟨fun b o e n hb hx => ?_, fun b o e n hb hx => ?_, fun b o e n hx => ?_, fun b o e hx => ?_, fun b xs e => tups b xs (I.base.tups b xs e), fun b o xs e => frzs b o xs (I.base.frzs b o xs e), fun b ps e => ?_⟩, ?_, fun x c e => ?_, ?_, fun x c e => ?_, fun p hp => ?_, hok, I.len⟩
  · exact keep b o (neL b o e) hb (neC b o e hx) (I.base.keep b o e n hb hx) (I.base.free b o e n hx)
  · obtain ⟨sl, e1⟩ := I.base.slot b o e n hb hx
    obtain ⟨sl', e2⟩ := slot b _ (neL b o e) hb (neC b o e hx) e1 (I.base.free b o e n hx)
    exact ⟨sl', e2⟩
  · obtain ⟨o', e1⟩ := I.base.there b o e hx
    exact free b o' (neC b o e hx) e1 (I.base.free b o e n hx)
  · obtain ⟨o', e1⟩ := I.base.there b o e hx
    exact there b o' (neC b o e hx) e1
  · obtain ⟨m1, e1⟩ := I.base.tbls b ps e
    obtain ⟨m2, e2⟩ := tbls b _ e1
    exact ⟨m1 ++ m2, by rw [e2, Array.append_assoc]⟩
  · obtain ⟨m, hn, hl⟩ := I.loc
    refine ⟨m, ns m hn, fun i x v e1 e2 e3 => ?_⟩
    obtain ⟨u, r, l⟩ := hl i x v e1 e2 e3
    refine ⟨u, r, ?_⟩
    rcases l with l | ⟨k, c, e, z⟩
    · exact .inl l
    · exact .inr ⟨k, c, e, cellK x c e _ z⟩
  · obtain ⟨v, z⟩ := I.cell x c e
    exact ⟨v, cellK x c e v z⟩
  · obtain ⟨m, ⟨o, _, _, ho, _⟩, _⟩ := I.loc
    exact free _ o (fun z => (hch _ z).2.1 rfl) ho I.free
  · obtain ⟨v, o, ho, hd⟩ := I.cell x c e
    exact free c o (fun z => (hch c z).2.2.1 x c e rfl) ho (I.freeC x c e)
  · obtain ⟨e, n, ne, nf, d⟩ := I.pin p hp
    have nch : p.1 ∉ ch := fun z => (hch p.1 z).2.2.2 p hp rfl
    exact ⟨keep p.1 p.2 ne nf nch e n, free p.1 p.2 nch e n, ne, nf, d⟩
/-- .. where the frame's own object is kept too -/
theorem Inv.un {t' : Nat} (I : Inv X pins σ H s) (u : Un X.fs [] H H' s.heap h') (hok : HOk X.prog X.w H' h') : Inv X pins σ H' { s with heap := h', toks := t' } := by
  obtain ⟨m, ⟨o, es, ep, ho, r⟩, _⟩ := id I.loc
  obtain ⟨sl, hL⟩ := u.any ho I.free (by simp)
  exact I.step (g' := s.gens) (d' := s.drawn) (ch := []) (fun _ z => nomatch z) (fun b o _ hb _ e n => u.keep b o e n hb (by simp)) (fun b o _ hb _ e n => u.slot b o e n hb (by simp)) (fun b o _ e n => u.free b o e n (by simp)) (fun b o _ e => u.there b o e (by simp)) u.tups u.frzs u.tbls (fun m' hm => by
    obtain ⟨o', es', ep', ho', r'⟩ := hm
    rw [ho] at ho'; cases ho'
    exact ⟨_, es', ep', hL, r'⟩) hok I.bare
/-- behind a call (or a comprehension's block): the slots of this frame may have changed too, the records at ch may have turned -/
theorem Inv.call {g' : Array GenState} {t' : Nat} {d' : Drawn} {ch : List Addr} (I : Inv X pins σ H s) (u : Un (frs X.stack) ch H H' s.heap h') (hok : HOk X.prog X.w H' h') (hg : AllBare g')
    (hch : ∀ b ∈ ch, (b ∈ X.ex ∨ X.s₀.heap.objs.size ≤ b) ∧ b ≠ X.env.locals ∧ (∀ x c, X.env.cells.lookup x = some c → c ≠ b) ∧ ∀ p ∈ X.pn ++ pins, p.1 ≠ b) :
    Inv X pins σ H' { s with heap := h', gens := g', drawn := d', toks := t' } := by
  obtain ⟨m, ⟨o, es, ep, ho, r⟩, _⟩ := id I.loc
  obtain ⟨sl, hL⟩ := u.any ho I.free fun z => (hch _ z).2.1 rfl
  exact I.step (ch := ch) hch (fun b o hL hb hc e n => u.keep b o e n (fun z => (List.mem_cons.mp (I.stkSub b z)).elim hL hb) hc) (fun b o _ _ hc e n => u.any e n hc) (fun b o hc e n => u.free b o e n hc) (fun b o hc e => u.there b o e hc) u.tups u.frzs u.tbls (fun m' hm => by
    obtain ⟨o', es', ep', ho', r'⟩ := hm
    rw [ho] at ho'; cases ho'
    exact ⟨_, es', ep', hL, r'⟩) hok hg
/-- an untracked record of ours (an iterator) has turned -/
theorem Inv.turned {t' : Nat} {it : Addr} (I : Inv X pins σ H s) (k : ∀ b o, b ≠ it → s.heap.get? b = some o → h'.get? b = some o) (hn : H it = none) (hL : it ≠ X.env.locals)
    (h1 : it ∈ X.ex ∨ X.s₀.heap.objs.size ≤ it) (h2 : ∀ x c, X.env.cells.lookup x = some c → c ≠ it) (h3 : ∀ p ∈ X.pn ++ pins, p.1 ≠ it) : Inv X pins σ H { s with heap := h', toks := t' } := by
  have nit : ∀ b u, H b = some u → b ≠ it := fun b u e z => by rw [z, hn] at e; cases e
  refine I.step (g' := s.gens) (d' := s.drawn) (ch := [it]) (fun b hb => ?_) (fun b o _ _ hc e _ => k b o (fun z => hc (by simp [z])) e) (fun b o _ _ hc e _ => ⟨o.slots, k b o (fun z => hc (by simp [z])) e⟩) (fun _ _ _ _ n => n)
    (fun b o hc e => ⟨o, k b o (fun z => hc (by simp [z])) e⟩) (fun _ _ e => e) (fun _ _ _ e => e) (fun b ps e => ⟨#[], by rw [e]; simp⟩) (fun m hm => ?_) (fun b u e => ?_) I.bare
  · have e : b = it := by simpa using hb
    subst e
    exact ⟨h1, hL, h2, h3⟩
  · obtain ⟨o, es, ep, ho, r⟩ := hm
    exact ⟨o, es, ep, k _ o (Ne.symm hL) ho, r⟩
  · refine (I.hok b u e).stay (fun c v hc q => k c v ?_ q) (fun _ q => q) fun _ _ q => q
    rcases hc with z | z
    · rw [z]; exact nit b u e
    · exact nit c _ z
theorem Inv.tok (I : Inv X pins σ H s) (t : Nat) : Inv X pins σ H { s with toks := t } := I.un (h' := s.heap) (t' := t) Un.refl I.hok
/-- all objects kept -/
theorem Inv.kept {t' : Nat} (I : Inv X pins σ H s) (k : ∀ b u, s.heap.get? b = some u → h'.get? b = some u) : Inv X pins σ H { s with heap := h', toks := t' } := I.un (Un.kept k) (I.hok.kept k)
/-- a new object laid and tracked -/
theorem Inv.laid {a : Addr} {o : HO} {t' : Nat} (I : Inv X pins σ H s) (k : ∀ b u, s.heap.get? b = some u → h'.get? b = some u) (hp : s.heap.objs.size ≤ a) (new : ObjOk X.prog X.w (upd H a o) h' a o) :
    Inv X pins σ (upd H a o) { s with heap := h', toks := t' } := I.un (Un.laid k hp (I.hok.fresh hp)) (I.hok.laid k hp new)
/-- an object written -/
theorem Inv.write {x e : Addr} {o : HO} {t' : Nat} (I : Inv X pins σ H s) (mu : Mut (H x)) (he : e = x ∨ H e = some (.own x)) (k : ∀ b u, b ≠ e → s.heap.get? b = some u → h'.get? b = some u) (heo : ∃ u, h'.get? e = some u)
    (new : ObjOk X.prog X.w (upd H x o) h' x o) : Inv X pins σ (upd H x o) { s with heap := h', toks := t' } := I.un (Un.write mu he k heo) (I.hok.write mu he k heo new)
theorem Inv.pins_of {pins' : List (Addr × Obj)} (I : Inv X pins σ H s) (h : ∀ p ∈ pins', s.heap.get? p.1 = some p.2 ∧ H p.1 = none ∧ p.1 ≠ X.env.locals ∧ p.1 ∉ X.fs ∧ ∀ v, p.2.data ≠ .cell v) : Inv X pins' σ H s :=
  ⟨I.ok, I.os, I.bare, I.base, I.loc, I.cell, I.free, I.freeC, fun p hp => (List.mem_append.mp hp).elim (fun z => I.pin p (List.mem_append_left _ z)) (h p), I.hok, I.len⟩

theorem nodup_ix {N : List Str} (hN : N.Nodup) {i j : Nat} {x : Str} (a : N[i]? = some x) (b : N[j]? = some x) : i = j := by
  obtain ⟨h1, e1⟩ := List.getElem?_eq_some_iff.mp a
  obtain ⟨h2, e2⟩ := List.getElem?_eq_some_iff.mp b
  exact (List.getElem_inj hN).mp (e1.trans e2.symm)

/-- a name is stored; what changed -/
theorem store_ok2 {M : Model} {A : Around} {E : Value → Shared → Prop} {i : Nat} {x : Str} {v : V} {u : Value} {Q : Unit → Shared → Prop} (I : Inv X pins σ H s) (hN : X.N.Nodup) (hi : X.N[i]? = some x) (hx : Loc X.env.scope x) (r : RelV v u)
    (h : ∀ s', Inv X pins (σ.set i (some v)) H s' → (∃ a, Heap.SameBut a s.heap s'.heap ∧ (a = X.env.locals ∨ X.env.cells.lookup x = some a)) → Q () s') (hf : X.fn x = true ∨ X.env.scope.names.lookup x = some .local := by first | exact .inl rfl | exact .inr rfl | assumption) : wpAny M A (storeName X.env x u) Q E s := by
  obtain ⟨m, hn, hl⟩ := id I.loc
  have hcls : (X.env.scope.kind == .class || (X.env.scope.kind == .module && X.env.locals != X.env.globals)) = false := by rw [I.ok.kind]; rfl
  have hiσ : i < σ.length := by rw [I.len]; exact (List.getElem?_eq_some_iff.mp hi).1
  have cne := I.cne
  have tracked : ∀ {a : Addr} {h' : Heap}, (∃ o, s.heap.get? a = some o ∧ H a = none) → Heap.SameBut a s.heap h' → HOk X.prog X.w H h' := fun {a h'} ha hs b ob e => by
    obtain ⟨_, _, hfree⟩ := ha
    refine (I.hok b ob e).stay (fun c w' hc q => (hs.2 c ?_).trans q) (fun _ q => q) fun _ _ q => q
    rintro rfl
    rcases hc with rfl | hc
    · rw [hfree] at e; cases e
    · rw [hfree] at hc; cases hc
  rcases hx with hk | hk
  · refine wpAny_storeName_local hk hn (fun h' hn' hs => ?_) hcls
    obtain ⟨oL, _, _, hoL, _⟩ := id hn
    refine h _ ⟨I.ok, I.os, I.bare, ⟨fun b o e n hb hx => ?_, fun b o e n hb hx => ?_, I.base.free, fun b o e hx => ?_, I.base.tups, I.base.frzs, I.base.tbls⟩, ⟨_, hn', fun j y v' e1 e2 e3 => ?_⟩, fun y c e => ?_, I.free, I.freeC, fun p hp => ?_, tracked ⟨oL, hoL, I.free⟩ hs, by simpa using I.len⟩ ⟨_, hs, .inl rfl⟩
    · exact (hs.2 b (Nat.ne_of_lt (Nat.lt_of_lt_of_le (Heap.lt_size e) I.ok.above))).trans (I.base.keep b o e n hb hx)
    · obtain ⟨sl, e1⟩ := I.base.slot b o e n hb hx
      exact ⟨sl, (hs.2 b (Nat.ne_of_lt (Nat.lt_of_lt_of_le (Heap.lt_size e) I.ok.above))).trans e1⟩
    · obtain ⟨o', e1⟩ := I.base.there b o e hx
      exact ⟨o', (hs.2 b (Nat.ne_of_lt (Nat.lt_of_lt_of_le (Heap.lt_size e) I.ok.above))).trans e1⟩
    · by_cases hj : j = i
      · subst hj
        rw [hi] at e1; cases e1
        rw [List.getElem?_set_self hiσ] at e2
        cases e2
        exact ⟨u, r, .inl ⟨hk, by simp⟩⟩
      · rw [List.getElem?_set_ne (Ne.symm hj)] at e2
        obtain ⟨u', r', q⟩ := hl j y v' e1 e2 e3
        refine ⟨u', r', ?_⟩
        rcases q with ⟨k, e⟩ | ⟨k, c, e, z⟩
        · refine .inl ⟨k, ?_⟩
          have : y ≠ x := fun e => hj (nodup_ix hN e1 (e ▸ hi))
          simp [this, e]
        · exact .inr ⟨k, c, e, z.sameBut hs (cne y c e)⟩
    · obtain ⟨w', z⟩ := I.cell y c e
      exact ⟨w', z.sameBut hs (cne y c e)⟩
    · obtain ⟨e, n, ne, nf, d⟩ := I.pin p hp
      exact ⟨(hs.2 p.1 ne).trans e, n, ne, nf, d⟩
  · have hfn : X.fn x = true := by
      rcases hf with z | z
      · exact z
      · rw [z] at hk; cases hk
    obtain ⟨c, hc⟩ := I.ok.has x (.inl hk)
    obtain ⟨w', z⟩ := I.cell x c hc
    refine wpAny_storeName_cell I.ok.kind hk hc z (fun h' hc' hs => ?_)
    obtain ⟨oc, hoc, hocd⟩ := id z
    refine h { s with heap := h' } ⟨I.ok, I.os, I.bare, ⟨fun b o e n hb hx => ?_, fun b o e n hb hx => ?_, I.base.free, fun b o e hx => ?_, I.base.tups, I.base.frzs, I.base.tbls⟩, ⟨m, hn.sameBut hs (Ne.symm (cne x c hc)), fun j y v' e1 e2 e3 => ?_⟩, fun y c' e => ?_, I.free, I.freeC, fun p hp => ?_, tracked ⟨oc, hoc, I.freeC x c hc⟩ hs, by simpa using I.len⟩ ⟨c, hs, .inr hc⟩
    · exact (hs.2 b (Nat.ne_of_lt (Nat.lt_of_lt_of_le (Heap.lt_size e) (I.ok.cab x c hfn hc)))).trans (I.base.keep b o e n hb hx)
    · obtain ⟨sl, e1⟩ := I.base.slot b o e n hb hx
      exact ⟨sl, (hs.2 b (Nat.ne_of_lt (Nat.lt_of_lt_of_le (Heap.lt_size e) (I.ok.cab x c hfn hc)))).trans e1⟩
    · obtain ⟨o', e1⟩ := I.base.there b o e hx
      exact ⟨o', (hs.2 b (Nat.ne_of_lt (Nat.lt_of_lt_of_le (Heap.lt_size e) (I.ok.cab x c hfn hc)))).trans e1⟩
    · by_cases hj : j = i
      · subst hj
        rw [hi] at e1; cases e1
        rw [List.getElem?_set_self hiσ] at e2
        cases e2
        exact ⟨u, r, .inr ⟨.inl hk, c, hc, hc'⟩⟩
      · rw [List.getElem?_set_ne (Ne.symm hj)] at e2
        obtain ⟨u', r', q⟩ := hl j y v' e1 e2 e3
        refine ⟨u', r', ?_⟩
        rcases q with q | ⟨k, c', e, z'⟩
        · exact .inl q
        · refine .inr ⟨k, c', e, z'.sameBut hs ?_⟩
          rintro rfl
          exact hj (nodup_ix hN e1 (I.ok.inj _ _ _ e hc ▸ hi))
    · by_cases hcc : c' = c
      · subst hcc; exact ⟨_, hc'⟩
      · obtain ⟨w2, z2⟩ := I.cell y c' e
        exact ⟨w2, z2.sameBut hs hcc⟩
    · obtain ⟨e, n, ne, nf, d⟩ := I.pin p hp
      refine ⟨(hs.2 p.1 ?_).trans e, n, ne, nf, d⟩
      intro q
      rw [q, hoc] at e
      have q' : oc = p.2 := Option.some.inj e
      exact d w' (by rw [← q']; exact hocd)
theorem store_ok {M : Model} {A : Around} {E : Value → Shared → Prop} {i : Nat} {x : Str} {v : V} {u : Value} {Q : Unit → Shared → Prop} (I : Inv X pins σ H s) (hN : X.N.Nodup) (hi : X.N[i]? = some x) (hx : Loc X.env.scope x) (r : RelV v u)
    (h : ∀ s', Inv X pins (σ.set i (some v)) H s' → Q () s') (hf : X.fn x = true ∨ X.env.scope.names.lookup x = some .local := by first | exact .inl rfl | exact .inr rfl | assumption) : wpAny M A (storeName X.env x u) Q E s :=
  store_ok2 I hN hi hx r (fun s' I' _ => h s' I') hf
/-- behind a call or a block, the state as it is -/
theorem Inv.call' {s' : Shared} {ch : List Addr} (I : Inv X pins σ H s) (ho : s'.os = s.os) (u : Un (frs X.stack) ch H H' s.heap s'.heap) (hok : HOk X.prog X.w H' s'.heap) (hg : AllBare s'.gens)
    (hch : ∀ b ∈ ch, (b ∈ X.ex ∨ X.s₀.heap.objs.size ≤ b) ∧ b ≠ X.env.locals ∧ (∀ x c, X.env.cells.lookup x = some c → c ≠ b) ∧ ∀ p ∈ X.pn ++ pins, p.1 ≠ b) : Inv X pins σ H' s' := by
  obtain ⟨h', g', d', t', o'⟩ := s'
  have e : o' = s.os := ho
  subst e
  exact I.call (g' := g') (t' := t') (d' := d') u hok hg hch
end

/-! ### the judgements -/
/-- an exception: its class, its own dict's address (where it has one), the abstract heap behind it -/
abbrev XK := Value → Option Addr → Hp → Prop
abbrev St := List (Option V)
abbrev VK := V → Hp → Prop
/-- an expression's reading; a test's; an argument list's -/
abbrev TE := St → Hp → VK → Prop
abbrev TT := St → Hp → (Bool → Hp → Prop) → Prop
abbrev TA := St → Hp → (List V → Hp → Prop) → Prop
/-- what is wanted behind a statement -/
structure Ends where
  nx : St → Hp → Prop
  rt : VK
  bk : St → Hp → Prop := fun _ _ => False
  ct : St → Hp → Prop := fun _ _ => False
abbrev TS := Ends → St → Hp → Prop

def EP (X : Cx) (pins : List (Addr × Obj)) (σ : St) (Q : VK) (u : Value) (s' : Shared) : Prop := ∃ v H', Inv X pins σ H' s' ∧ RelV v u ∧ Q v H'
def TP (X : Cx) (pins : List (Addr × Obj)) (σ : St) (Q : Bool → Hp → Prop) (b : Bool) (s' : Shared) : Prop := ∃ H', Inv X pins σ H' s' ∧ Q b H'
def AP (X : Cx) (pins : List (Addr × Obj)) (σ : St) (Q : List V → Hp → Prop) (us : List Value) (s' : Shared) : Prop := ∃ vs H', Inv X pins σ H' s' ∧ Vals vs us ∧ Q vs H'
def SP (X : Cx) (pins : List (Addr × Obj)) (D : Ends) (f : Flow) (s' : Shared) : Prop :=
  match f with
  | .next => ∃ σ' H', Inv X pins σ' H' s' ∧ D.nx σ' H'
  | .brk => ∃ σ' H', Inv X pins σ' H' s' ∧ D.bk σ' H'
  | .cont => ∃ σ' H', Inv X pins σ' H' s' ∧ D.ct σ' H'
  | .ret u => ∃ v σ' H', Inv X pins σ' H' s' ∧ RelV v u ∧ D.rt v H'

def PE (X : Cx) (e : Expr) (t : TE) : Prop :=
  ∀ (pins : List (Addr × Obj)) (s : Shared) (σ : St) (H : Hp) (Q : VK), Inv X pins σ H s → t σ H Q → wpAny (model X.prog X.w) X.A (eval e X.env) (EP X pins σ Q) X.xe s
def PT (X : Cx) (e : Expr) (t : TT) : Prop :=
  ∀ (pins : List (Addr × Obj)) (s : Shared) (σ : St) (H : Hp) (Q : Bool → Hp → Prop), Inv X pins σ H s → t σ H Q → wpAny (model X.prog X.w) X.A (isTrue e X.env (eval e X.env)) (TP X pins σ Q) X.xe s
/-- a test whatever its 'whole' is (and, or) -/
def PW (X : Cx) (e : Expr) (t : TT) : Prop :=
  ∀ (whole : Sem Value) (pins : List (Addr × Obj)) (s : Shared) (σ : St) (H : Hp) (Q : Bool → Hp → Prop), Inv X pins σ H s → t σ H Q → wpAny (model X.prog X.w) X.A (isTrue e X.env whole) (TP X pins σ Q) X.xe s
theorem PW.pt {X : Cx} {e : Expr} {t : TT} (h : PW X e t) : PT X e t := h _
/-- an argument list (no star), from the left -/
def PA (X : Cx) (es : List Expr) (t : TA) : Prop :=
  ∀ (pos : Pos) (pins : List (Addr × Obj)) (s : Shared) (σ : St) (H : Hp) (Q : List V → Hp → Prop), Inv X pins σ H s → t σ H Q → wpAny (model X.prog X.w) X.A (spliced (backTo pos (starEach es X.env))) (AP X pins σ Q) X.xe s
def PS (X : Cx) (st : Stmt) (t : TS) : Prop :=
  ∀ (pins : List (Addr × Obj)) (s : Shared) (σ : St) (H : Hp) (D : Ends), Inv X pins σ H s → t D σ H → wpAny (model X.prog X.w) X.A (exec st X.env) (SP X pins D) X.xe s
def PSs (X : Cx) (st : List Stmt) (t : TS) : Prop :=
  ∀ (pins : List (Addr × Obj)) (s : Shared) (σ : St) (H : Hp) (D : Ends), Inv X pins σ H s → t D σ H → wpAny (model X.prog X.w) X.A (execs st X.env) (SP X pins D) X.xe s
/-- weaken the end -/
theorem thn {α : Type} {t : Sem α} {Q Q' : α → Shared → Prop} {M : Model} {A : Around} {E : Value → Shared → Prop} {s : Shared} (h : wpAny M A t Q E s) (hQ : ∀ a s, Q a s → Q' a s) : wpAny M A t Q' E s := wpAny_mono h hQ fun _ _ x => x
end L2

namespace L2
open PySem PySem.Spec PyProof.Rows
section
variable {X : Cx}

/-! ### names and constants -/
def tVar (i : Nat) : TE := fun σ H Q => ∃ v, σ[i]? = some (some v) ∧ Q v H
def tC (v : V) : TE := fun _ H Q => Q v H
theorem pe_var {i : Nat} {x : Str} {pos : Pos} (hN : X.N[i]? = some x) (hv : Vis X.env.scope x) (hd : (x == ("__debug__" : Str)) = false := by decide) (hcd : (x == ("__classdict__" : Str)) = false := by decide) : PE X (.Name x pos) (tVar i) := by
  intro pins s σ H Q I h
  obtain ⟨v, e, h⟩ := h
  obtain ⟨m, hn, hl⟩ := I.loc
  obtain ⟨u, r, l⟩ := hl i x v hN e hv
  have fin : EP X pins σ Q u s := ⟨v, H, I, r, h⟩
  rcases l with ⟨hk, hm⟩ | ⟨hk, c, hc, hcell⟩
  · exact wpAny_Name (wpAny_loadName_local I.ok.kind hk hn hm fin) hd
  · rcases hk with hk | hk
    · exact wpAny_Name (wpAny_loadName_cell I.ok.kind hk hc hcell fin) hd
    · exact wpAny_Name (wpAny_loadName_free I.ok.kind hk hc hcell fin hcd) hd
theorem pe_int {i j pos} : PE X (.Constant (.int i) j pos) (tC (.int i)) := fun _ _ _ H _ I h => wpAny_Constant_int ⟨.int i, H, I.tok _, ⟨_, rfl⟩, h⟩
theorem pe_bl {b j pos} : PE X (.Constant (.bool b) j pos) (tC (.bl b)) := fun _ _ _ H _ I h => Constant_bool ⟨.bl b, H, I, rfl, h⟩
theorem pe_non {j pos} : PE X (.Constant .none j pos) (tC .non) := fun _ _ _ H _ I h => Constant_none ⟨.non, H, I, rfl, h⟩
theorem pe_str {x j pos} : PE X (.Constant (.str x) j pos) (tC (.str x)) := fun _ _ _ H _ I h => Calls.Constant_str ⟨.str x, H, I.tok _, ⟨_, rfl⟩, h⟩

/-- a global name of the def -/
def Gl (X : Cx) (x : Str) : Prop := X.env.kindOf x = some .globalImplicit
theorem ld_glob {E : Value → Shared → Prop} {pins : List (Addr × Obj)} {s : Shared} {σ : St} {H : Hp} {x : Str} {u : Value} {pos : Pos} {Q : Value → Shared → Prop} (I : Inv X pins σ H s) (hg : Gl X x) (hm : X.mg x = some u) (h : Q u s)
    (hd : (x == ("__debug__" : Str)) = false := by decide) : wpAny (model X.prog X.w) X.A (eval (.Name x pos) X.env) Q E s :=
  Calls.Name_function_global I.ok.kind hg (Calls.loadGlobal_global (by rw [I.ok.glob]; exact I.mod.glob.keeps I.bk) hm h) hd
theorem ld_blt {E : Value → Shared → Prop} {pins : List (Addr × Obj)} {s : Shared} {σ : St} {H : Hp} {x : Str} {u : Value} {pos : Pos} {Q : Value → Shared → Prop} (I : Inv X pins σ H s) (hg : Gl X x) (hm : X.mg x = none) (hv : bootBuiltins x = some u) (h : Q u s)
    (hn : x ≠ "__name__" := by decide) (hd : (x == ("__debug__" : Str)) = false := by decide) : wpAny (model X.prog X.w) X.A (eval (.Name x pos) X.env) Q E s := by
  obtain ⟨mb, h1, h2⟩ := I.mod.blt
  exact Calls.Name_function_global I.ok.kind hg (Calls.loadGlobal_builtin (by rw [I.ok.glob]; exact I.mod.glob.keeps I.bk) hm (by rw [I.ok.blt]; exact h1.keeps I.bk) ((h2 x hn).trans hv) h) hd
/-- a module's constant, a class, a function, as a value -/
theorem pe_glob {x : Str} {v : V} {u : Value} {pos : Pos} (hg : Gl X x) (hm : X.mg x = some u) (r : RelV v u) (hd : (x == ("__debug__" : Str)) = false := by decide) : PE X (.Name x pos) (tC v) :=
  fun _ _ _ H _ I h => ld_glob I hg hm ⟨v, H, I, r, h⟩ hd
/-! ### arithmetic -/
variable {a b : Expr} {ta tb : TE} {pos : Pos}
/-! ### comparisons -/
/-- a comparison as a value, as a test -/
def tB (t : TE) : TT := fun σ H Q => t σ H fun x H1 => ∃ c, x = .bl c ∧ Q c H1
/-- an expression whose value is a bool, as a test -/
theorem pt_val {e : Expr} {t : TE} (h : PE X e t) (he : ∀ whole, isTrue e X.env whole = (do let v ← whole; standAt e.pos; holding [v] (truthy v)) := by intro _; rfl) : PT X e (tB t) := by
  intro pins s σ H Q I hw
  refine isTrue_plain (thn (h pins s σ H _ I hw) fun v s1 ⟨x, H1, I1, r1, q1⟩ => ?_) (he _)
  obtain ⟨d, rfl, q⟩ := q1
  cases r1
  exact wpAny_truthy_bool ⟨H1, I1, q⟩

/-! ### and, or, not -/
variable {tA tB' : TT} {rest : List Expr}
def tOr (t u : TT) : TT := fun σ H Q => t σ H fun c H1 => if c = true then Q true H1 else u σ H1 Q
def tNot (t : TT) : TT := fun σ H Q => t σ H fun c H1 => Q (!c) H1
theorem pw_or1 (ha : PT X a tA) : PW X (.BoolOp .Or [a] pos) tA := by
  intro wh pins s σ H Q I h
  refine isTrue_or (thn (ha pins s σ H Q I h) fun c s1 e => ?_)
  cases c with
  | false => exact isTrue_or_nil e
  | true => exact e
theorem pw_or (ha : PT X a tA) (hb : PW X (.BoolOp .Or (b :: rest) pos) tB') : PW X (.BoolOp .Or (a :: b :: rest) pos) (tOr tA tB') := by
  intro wh pins s σ H Q I h
  refine isTrue_or (thn (ha pins s σ H _ I h) fun c s1 ⟨H1, I1, q1⟩ => ?_)
  cases c with
  | true => exact ⟨H1, I1, q1⟩
  | false => exact hb wh pins s1 σ H1 Q I1 q1
theorem pt_not (ha : PT X a tA) : PT X (.UnaryOp .Not a pos) (tNot tA) := by
  intro pins s σ H Q I h
  exact isTrue_not (ha pins s σ H (fun c H1 => Q (!c) H1) I h)
/-- .. as values (bools) -/
def tAndV (ta tb : TE) : TE := fun σ H Q => ta σ H fun x H1 => ∃ c, x = .bl c ∧ if c = true then tb σ H1 Q else Q (.bl false) H1
def tNotV (ta : TE) : TE := fun σ H Q => ta σ H fun x H1 => ∃ c, x = .bl c ∧ Q (.bl (!c)) H1
theorem pe_one {op} {t : TE} (h : PE X a t) : PE X (.BoolOp op [a] pos) t := fun pins s σ H Q I hw => BoolOp_one (h pins s σ H Q I hw)
theorem pe_and (ha : PE X a ta) (hb : PE X (.BoolOp .And (b :: rest) pos) tb) : PE X (.BoolOp .And (a :: b :: rest) pos) (tAndV ta tb) := by
  intro pins s σ H Q I h
  refine BoolOp_and (thn (ha pins s σ H _ I h) fun v s1 ⟨x, H1, I1, r1, q1⟩ => ?_)
  obtain ⟨c, rfl, q1⟩ := q1
  cases r1
  refine wpAny_truthy_bool ?_
  cases c with
  | true => exact hb pins s1 σ H1 Q I1 q1
  | false => exact ⟨.bl false, H1, I1, rfl, q1⟩
theorem pe_not (ha : PE X a ta) : PE X (.UnaryOp .Not a pos) (tNotV ta) := by
  intro pins s σ H Q I h
  refine UnaryOp_ (thn (ha pins s σ H _ I h) fun v s1 ⟨x, H1, I1, r1, q1⟩ => ?_)
  obtain ⟨c, rfl, q1⟩ := q1
  cases r1
  exact not_of (wpAny_truthy_bool ⟨.bl (!c), H1, I1, rfl, q1⟩)
end
end L2

namespace L2
open PySem PySem.Spec PyProof.Rows

/-! ### a list, a tuple that is read: tracked, frozen, or an object of the module -/
def SqL (K : PySem.W.Frag) (H : Hp) (a : Addr) (xs : List V) : Prop :=
  Rd H a (.lst xs) ∨
    ∃ (o : Obj) (its : Array Value) (n : Nat), K.lookup a = some o ∧ o.cls = .type "list" ∧ o.dict = none ∧ o.data = .seq its n ∧ its.size ≤ sizeLine ∧ Vals xs its.toList
def SqT (K : PySem.W.Frag) (H : Hp) (a : Addr) (xs : List V) : Prop :=
  Rd H a (.tup xs) ∨
    ∃ (o : Obj) (its : Array Value) (n : Nat), K.lookup a = some o ∧ o.cls = .type "tuple" ∧ o.data = .seq its n ∧ its.size ≤ sizeLine ∧ Vals xs its.toList
def absV : Value → Option V
  | .none => some .non
  | .bool b => some (.bl b)
  | .int i _ => some (.int i)
  | .str x _ => some (.str x)
  | .bytes b _ => some (.byt b)
  | .float b _ => some (.flt b)
  | .ref a => some (.ref a)
  | .type n => some (.ty n)
  | _ => none
theorem RelV.abs {x : V} {u : Value} (r : RelV x u) : absV u = some x := by
  cases x with
  | non => cases r; rfl
  | bl _ => cases r; rfl
  | int _ => obtain ⟨t, rfl⟩ := r; rfl
  | str _ => obtain ⟨t, rfl⟩ := r; rfl
  | byt _ => obtain ⟨t, rfl⟩ := r; rfl
  | flt _ => obtain ⟨t, rfl⟩ := r; rfl
  | ref _ => cases r; rfl
  | ty _ => cases r; rfl
theorem RelV.inj {x y : V} {u : Value} (r : RelV x u) (q : RelV y u) : x = y := Option.some.inj (r.abs.symm.trans q.abs)
theorem Vals.inj : ∀ {xs ys : List V} {us : List Value}, Vals xs us → Vals ys us → xs = ys
  | _, _, _, .nil, .nil => rfl
  | _, _, _, .cons r t, .cons r' t' => by rw [r.inj r', Vals.inj t t']
section
variable {X : Cx} {pins : List (Addr × Obj)} {σ : St} {H : Hp} {s : Shared} {a : Addr} {xs ys : List V}
theorem SqL.of {K : PySem.W.Frag} (h : H a = some (.lst xs)) : SqL K H a xs := .inl (.inl h)
theorem SqT.of {K : PySem.W.Frag} (h : H a = some (.tup xs)) : SqT K H a xs := .inl (.inl h)
theorem Inv.list (I : Inv X pins σ H s) (h : SqL X.K H a xs) : ∃ its : List Value, Vals xs its ∧ PlainL s.heap a its.toArray ∧ xs.length ≤ sizeLine := by
  rcases h with h | ⟨o, its, n, hk, hc, hd, hs, hz, r⟩
  · obtain ⟨z, its, n, r, e⟩ := h.ok I.hok
    exact ⟨its, r, ⟨_, n, e, rfl, rfl, rfl⟩, z⟩
  · refine ⟨its.toList, r, ⟨o, n, I.kIn a o hk, hc, hd, by simpa using hs⟩, ?_⟩
    have e := r.length
    simp only [Array.length_toList] at e
    omega
theorem Inv.tuple (I : Inv X pins σ H s) (h : SqT X.K H a xs) : ∃ its : List Value, Vals xs its ∧ IsTup s.heap a its.toArray ∧ xs.length ≤ sizeLine := by
  rcases h with h | ⟨o, its, n, hk, hc, hs, hz, r⟩
  · obtain ⟨z, its, r, p⟩ := h.ok I.hok
    exact ⟨its, r, p, z⟩
  · refine ⟨its.toList, r, ⟨o, I.kIn a o hk, hc, n, by simpa using hs⟩, ?_⟩
    have e := r.length
    simp only [Array.length_toList] at e
    omega
theorem Inv.list_inj (I : Inv X pins σ H s) (h : SqL X.K H a xs) (h' : SqL X.K H a ys) : xs = ys := by
  obtain ⟨its, r, ⟨o, n, e, _, _, d⟩, _⟩ := I.list h
  obtain ⟨its', r', ⟨o', n', e', _, _, d'⟩, _⟩ := I.list h'
  rw [e] at e'; cases e'
  rw [d] at d'
  injection d' with d1 _
  have : its = its' := by simpa using congrArg Array.toList d1
  subst this
  exact r.inj r'
theorem Inv.tuple_inj (I : Inv X pins σ H s) (h : SqT X.K H a xs) (h' : SqT X.K H a ys) : xs = ys := by
  obtain ⟨its, r, ⟨o, e, _, n, d⟩, _⟩ := I.tuple h
  obtain ⟨its', r', ⟨o', e', _, n', d'⟩, _⟩ := I.tuple h'
  rw [e] at e'; cases e'
  rw [d] at d'
  injection d' with d1 _
  have : its = its' := by simpa using congrArg Array.toList d1
  subst this
  exact r.inj r'
end

/-! ### another wish about exceptions -/
abbrev Cx.wish (X : Cx) (E : Value → Shared → Prop) : Cx := { X with xe := E }
/-- no exception leaves -/
abbrev Cx.nox (X : Cx) : Cx := X.wish fun _ _ => False
theorem Cx.Ok.wish {X : Cx} (ok : X.Ok) (E : Value → Shared → Prop) : (X.wish E).Ok :=
  ⟨ok.mod, ok.kind, ok.glob, ok.blt, ok.above, ok.inj, ok.has, ok.cab, ok.hd, ok.frames, ok.stk, ok.exf, ok.bs, ok.bsz, ok.noex, ok.exfs, ok.funs, ok.frf⟩
theorem Cx.Ok.unwish {X : Cx} {E : Value → Shared → Prop} (ok : (X.wish E).Ok) : X.Ok :=
  ⟨ok.mod, ok.kind, ok.glob, ok.blt, ok.above, ok.inj, ok.has, ok.cab, ok.hd, ok.frames, ok.stk, ok.exf, ok.bs, ok.bsz, ok.noex, ok.exfs, ok.funs, ok.frf⟩
section
variable {X : Cx} {pins : List (Addr × Obj)} {σ : St} {H : Hp} {s : Shared} {E : Value → Shared → Prop}
theorem Inv.wish (I : Inv X pins σ H s) (E : Value → Shared → Prop) : Inv (X.wish E) pins σ H s := ⟨I.ok.wish E, I.os, I.bare, I.base, I.loc, I.cell, I.free, I.freeC, I.pin, I.hok, I.len⟩
theorem Inv.unwish (I : Inv (X.wish E) pins σ H s) : Inv X pins σ H s := ⟨I.ok.unwish, I.os, I.bare, I.base, I.loc, I.cell, I.free, I.freeC, I.pin, I.hok, I.len⟩
theorem SP.unwish {D : Ends} {f : Flow} {s' : Shared} (h : SP (X.wish E) pins D f s') : SP X pins D f s' := by
  cases f with
  | next => obtain ⟨σ', H', I, q⟩ := h; exact ⟨σ', H', I.unwish, q⟩
  | brk => obtain ⟨σ', H', I, q⟩ := h; exact ⟨σ', H', I.unwish, q⟩
  | cont => obtain ⟨σ', H', I, q⟩ := h; exact ⟨σ', H', I.unwish, q⟩
  | ret u => obtain ⟨v, σ', H', I, r, q⟩ := h; exact ⟨v, σ', H', I.unwish, r, q⟩
theorem PSs.nox {st : List Stmt} {t : TS} (h : PSs X.nox st t) : PSs X st t := fun pins s σ H D I hw =>
  wpAny_mono (h pins s σ H D (I.wish _) hw) (fun _ _ q => q.unwish) fun _ _ z => False.elim z
end

/-! ### blocks and small statements -/
section
variable {X : Cx} {st : Stmt} {rest : List Stmt} {t u : TS} {e : Expr} {te : TE} {pos : Pos}
def tNext : TS := fun D σ H => D.nx σ H
def tSeq (t u : TS) : TS := fun D σ H => t { D with nx := u D } σ H
theorem pss_nil : PSs X [] tNext := fun _ _ σ H _ I h => wpAny_execs_nil ⟨σ, H, I, h⟩
theorem pss_cons (h1 : PS X st t) (h2 : PSs X rest u) : PSs X (st :: rest) (tSeq t u) := by
  intro pins s σ H D I h
  refine wpAny_execs_cons (thn (h1 pins s σ H { D with nx := u D } I h) fun f s1 q => ?_)
  cases f with
  | next =>
    obtain ⟨σ', H', I', q⟩ := q
    exact h2 pins s1 σ' H' D I' q
  | ret v => exact q
  | brk => exact q
  | cont => exact q
theorem pss_one (h1 : PS X st t) : PSs X [st] t := by
  intro pins s σ H D I h
  refine wpAny_execs_cons (thn (h1 pins s σ H D I h) fun f s1 q => ?_)
  cases f with
  | next => exact wpAny_execs_nil q
  | ret v => exact q
  | brk => exact q
  | cont => exact q
/-- in a def's body nothing is shown -/
theorem Inv.quiet {pins : List (Addr × Obj)} {σ : St} {H : Hp} {s : Shared} (I : Inv X pins σ H s) : interactive X.env = false := by simp [interactive, I.ok.kind]
/-- an expression whose value is dropped -/
def tDrop (te : TE) : TS := fun D σ H => te σ H fun _ H1 => D.nx σ H1
theorem ps_expr (he : PE X e te) (hs : swapsWith e none pos.line X.env = pure false := by rfl) : PS X (.Expr e pos) (tDrop te) := by
  intro pins s σ H D I h
  exact wpAny_Expr_any (thn (he pins s σ H _ I h) fun v s1 ⟨x, H1, I1, r1, q1⟩ => ⟨σ, H1, I1, q1⟩) I.quiet hs
def tRet (te : TE) : TS := fun D σ H => te σ H D.rt
theorem ps_ret (he : PE X e te) : PS X (.Return (some e) pos) (tRet te) := by
  intro pins s σ H D I h
  exact wpAny_Return_some (thn (he pins s σ H _ I h) fun v s1 ⟨x, H1, I1, r1, q1⟩ => ⟨x, σ, H1, I1, r1, q1⟩)
def tIfS (c : TT) (t u : TS) : TS := fun D σ H => c σ H fun b H1 => if b = true then t D σ H1 else u D σ H1
theorem ps_if {c : Expr} {a b : List Stmt} {tc : TT} (hc : PT X c tc) (ha : PSs X a t) (hb : PSs X b u) : PS X (.If c a b pos) (tIfS tc t u) := by
  intro pins s σ H D I h
  refine wpAny_If (thn (hc pins s σ H _ I h) fun d s1 ⟨H1, I1, q1⟩ => ?_)
  cases d with
  | true => exact ha pins s1 σ H1 D I1 q1
  | false => exact hb pins s1 σ H1 D I1 q1
end

/-! ### targets -/
abbrev TG := V → St → Hp → (St → Hp → Prop) → Prop
abbrev TGs := List V → St → Hp → (St → Hp → Prop) → Prop
def PG (X : Cx) (target : Expr) (t : TG) : Prop :=
  ∀ (pins : List (Addr × Obj)) (s : Shared) (σ : St) (H : Hp) (v : V) (u : Value) (Q : St → Hp → Prop), Inv X pins σ H s → RelV v u → t v σ H Q →
    wpAny (model X.prog X.w) X.A (assign target X.env u) (fun _ s' => ∃ σ' H', Inv X pins σ' H' s' ∧ Q σ' H') X.xe s
/-- several targets, one after another -/
def PGs (X : Cx) (ts : List Expr) (t : TGs) : Prop :=
  ∀ (pins : List (Addr × Obj)) (s : Shared) (σ : St) (H : Hp) (vs : List V) (us : List Value) (Q : St → Hp → Prop), Inv X pins σ H s → Vals vs us → t vs σ H Q →
    wpAny (model X.prog X.w) X.A (assignInOrder ((assignEach ts X.env).map (·.2)) us) (fun _ s' => ∃ σ' H', Inv X pins σ' H' s' ∧ Q σ' H') X.xe s
/-- o[i] = v, by values -/
abbrev TSet := V → V → V → Hp → (Hp → Prop) → Prop
def PSet (X : Cx) (t : TSet) : Prop :=
  ∀ (pins : List (Addr × Obj)) (s : Shared) (σ : St) (H : Hp) (o i v : V) (ov iv u : Value) (Q : Hp → Prop), Inv X pins σ H s → RelV o ov → RelV i iv → RelV v u → t o i v H Q →
    wpAny (model X.prog X.w) X.A (setItem ov iv u) (fun _ s' => ∃ H', Inv X pins σ H' s' ∧ Q H') X.xe s
section
variable {X : Cx} {pos : Pos}
def gName (i : Nat) : TG := fun v σ H Q => Q (σ.set i (some v)) H
theorem pg_name {i : Nat} {x : Str} (hN : X.N.Nodup) (hi : X.N[i]? = some x) (hx : Loc X.env.scope x) (hf : X.fn x = true ∨ X.env.scope.names.lookup x = some .local := by first | exact .inl rfl | exact .inr rfl | assumption) : PG X (.Name x pos) (gName i) := by
  intro pins s σ H v u Q I r h
  exact wpAny_assign_Name (store_ok I hN hi hx r (fun s' I' => ⟨_, H, I', h⟩) hf)
def gNil : TGs := fun vs σ H Q => vs = [] ∧ Q σ H
def gCons (t : TG) (u : TGs) : TGs := fun vs σ H Q => ∃ v r, vs = v :: r ∧ t v σ H fun σ' H' => u r σ' H' Q
theorem pgs_nil : PGs X [] gNil := by
  intro pins s σ H vs us Q I r h
  obtain ⟨e, h⟩ := h
  subst e
  cases r
  exact assignInOrder_nil ⟨σ, H, I, h⟩
theorem pgs_cons {e : Expr} {es : List Expr} {t : TG} {u : TGs} (h1 : PG X e t) (h2 : PGs X es u)
    (hs : (assignEach (e :: es) X.env).map (·.2) = assign e X.env :: (assignEach es X.env).map (·.2) := by rfl) : PGs X (e :: es) (gCons t u) := by
  intro pins s σ H vs us Q I r h
  obtain ⟨v, vr, e1, h⟩ := h
  subst e1
  cases r with
  | cons r rr =>
    rw [hs]
    refine assignInOrder_cons (thn (h1 pins s σ H _ _ _ I r h) fun _ s1 ⟨σ1, H1, I1, q1⟩ => ?_)
    exact h2 pins s1 σ1 H1 _ _ Q I1 rr q1
/-- (a, b, ..) = a tuple of that length -/
def gTup (K : PySem.W.Frag) (n : Nat) (t : TGs) : TG := fun v σ H Q => ∃ a xs, v = .ref a ∧ SqT K H a xs ∧ xs.length = n ∧ t xs σ H Q
theorem pg_tup {es : List Expr} {k : Nat} {t : TGs} {n : Nat} (hc : X.calm = true) (h : PGs X es t)
    (hn : (assignEach es X.env).length = n := by rfl) (hst : (assignEach es X.env).findIdx? (·.1) = none := by rfl) : PG X (.Tuple es k pos) (gTup X.K n t) := by
  intro pins s σ H v u Q I r hw
  obtain ⟨a, xs, e1, hq, hl, hw⟩ := hw
  subst e1
  cases r
  obtain ⟨its, rv, ht, hz⟩ := I.tuple hq
  refine assign_Tuple_tuple (I.ok.hd hc) ht (by simp [hn, ← hl, rv.length]) hst fun h' hx => ?_
  have I1 : Inv X pins σ H { s with heap := h' } := I.kept (t' := s.toks) fun b o e => hx b o (Nat.ne_of_lt (Heap.lt_size e)) e
  exact h pins _ σ H xs _ Q I1 (by simpa using rv) hw
/-- o[i] = .. -/
def gSub (to ti : TE) (t : TSet) : TG := fun v σ H Q => to σ H fun o H1 => ti σ H1 fun i H2 => t o i v H2 fun H3 => Q σ H3
theorem pg_sub {o i : Expr} {to ti : TE} {t : TSet} (ho : PE X o to) (hi : PE X i ti) (hs : PSet X t)
    (ha : ∀ v, assign (.Subscript o i pos) X.env v = (do
      let ov ← holding [v] (eval o X.env)
      let iv ← holding [v, ov] (eval i X.env)
      standAt pos
      holding [v, ov, iv] (setItem ov iv v)
      release [v, ov, iv] []) := by intro _; rfl) : PG X (.Subscript o i pos) (gSub to ti t) := by
  intro pins s σ H v u Q I r h
  rw [ha]
  refine wpAny_bind (wpAny_holding (thn (ho pins s σ H _ I h) fun ov s1 ⟨x, H1, I1, r1, q1⟩ => ?_))
  refine wpAny_bind (wpAny_holding (thn (hi pins s1 σ H1 _ I1 q1) fun iv s2 ⟨y, H2, I2, r2, q2⟩ => ?_))
  refine wpAny_bind (wpAny_standAt (wpAny_bind (wpAny_holding (thn (hs pins s2 σ H2 x y v ov iv u _ I2 r1 r2 r q2) fun _ s3 ⟨H3, I3, q3⟩ => ?_))))
  exact wpAny_release ⟨σ, H3, I3, q3⟩
/-- target = value -/
def tAsg (te : TE) (g : TG) : TS := fun D σ H => te σ H fun x H1 => g x σ H1 D.nx
theorem ps_asg {tg e : Expr} {te : TE} {g : TG} (he : PE X e te) (hg : PG X tg g) (hs : swapsWithSole [tg] e pos.line X.env = pure false := by rfl) (hw : swappedStores [tg] e X.env = pure none := by rfl)
    (h1 : (assignEach [tg] X.env).map (·.2) = [assign tg X.env] := by rfl) : PS X (.Assign [tg] e pos) (tAsg te g) := by
  intro pins s σ H D I h
  refine wpAny_Assign_stores (thn (he pins s σ H _ I h) fun v s1 ⟨x, H1, I1, r1, q1⟩ => ?_) hs hw
  rw [h1]
  exact thn (hg pins s1 σ H1 x v _ I1 r1 q1) fun _ s2 q => q
/-- name = value -/
theorem ps_set {i : Nat} {x : Str} {e : Expr} {te : TE} {pos' : Pos} (hN : X.N.Nodup) (hi : X.N[i]? = some x) (hx : Loc X.env.scope x) (he : PE X e te) (hs : swapsWith e (some (.Name x pos')) pos.line X.env = pure false := by rfl) (hf : X.fn x = true ∨ X.env.scope.names.lookup x = some .local := by first | exact .inl rfl | exact .inr rfl | assumption) :
    PS X (.Assign [.Name x pos'] e pos) (tAsg te (gName i)) := by
  intro pins s σ H D I h
  refine wpAny_Assign_Name (thn (he pins s σ H _ I h) fun v s1 ⟨y, H1, I1, r1, q1⟩ => ?_) hs
  exact store_ok I1 hN hi hx r1 (fun s2 I2 => ⟨_, H1, I2, q1⟩) hf
end

/-! ### while -/
section
variable {X : Cx} {pos : Pos}
end

/-! ### what a loop or a comprehension walks -/
/-- at turn i: it yields x (the heap may grow), or it stops -/
structure It where
  go : Nat → Hp → Prop
  yld : Nat → Hp → V → Hp → Prop
  stop : Nat → Hp → Prop
/-- the iterator's own objects may turn: they are not the frame's, not pinned, younger than the entry (or a comprehension's own) -/
def FpOk (X : Cx) (pins : List (Addr × Obj)) (H : Hp) (b : Addr) : Prop :=
  H b = none ∧ b ≠ X.env.locals ∧ b ∉ X.fs ∧ (b ∈ X.ex ∨ X.s₀.heap.objs.size ≤ b) ∧ (∀ x c, X.env.cells.lookup x = some c → c ≠ b) ∧ ∀ p ∈ X.pn ++ pins, p.1 ≠ b
theorem Inv.fpOk {X : Cx} {pins : List (Addr × Obj)} {σ : St} {H H' : Hp} {s : Shared} {b : Addr} (I : Inv X pins σ H s) (hb : s.heap.objs.size ≤ b) (hn : H' b = none) : FpOk X pins H' b := by
  refine ⟨hn, Nat.ne_of_gt (Nat.lt_of_lt_of_le I.lt hb), I.nofs hb, .inr (Nat.le_trans I.sz hb), fun x c e z => ?_, fun p hp z => ?_⟩
  · obtain ⟨v, q⟩ := I.cell x c e
    exact absurd (Nat.lt_of_lt_of_le q.lt (by rw [z]; exact hb)) (Nat.lt_irrefl _)
  · exact absurd (Nat.lt_of_lt_of_le (Heap.lt_size (I.pin p hp).1) (by rw [z]; exact hb)) (Nat.lt_irrefl _)
structure Turn (P : Program) (w : World) (K : PySem.W.Frag) (tg : Expr) (J : It) (fp : List Addr) (it : Addr) (tn : Nat → Heap → Prop) : Prop where
  mem : it ∈ fp
  obj : ∀ i h, tn i h → ∀ b ∈ fp, ∃ o, h.get? b = some o ∧ ∀ v, o.data ≠ .cell v
  keep : ∀ i h h', tn i h → (∀ b ∈ fp, ∀ o, h.get? b = some o → h'.get? b = some o) → tn i h'
  item : ∀ (X : Cx), X.prog = P → X.w = w → X.K = K → X.calm = true → ∀ (i : Nat) (pins : List (Addr × Obj)) (s : Shared) (σ : St) (H : Hp) (E : Value → Shared → Prop), Inv X pins σ H s → (∀ b ∈ fp, FpOk X pins H b) → tn i s.heap → J.go i H →
    wpAny (model P w) X.A (pyNext (.ref it)) (fun r s1 => ∃ u, r = some u ∧
      wpAny (model P w) X.A (letOwnedTupleGo tg (.ref it) u) (fun _ s2 => ∃ x H', Inv X pins σ H' s2 ∧ RelV x u ∧ J.yld i H x H' ∧ tn (i + 1) s2.heap ∧ ∀ b ∈ fp, H' b = none) E s1) E s
  done : ∀ (X : Cx), X.prog = P → X.w = w → X.K = K → X.calm = true → ∀ (i : Nat) (pins : List (Addr × Obj)) (s : Shared) (σ : St) (H : Hp) (E : Value → Shared → Prop), Inv X pins σ H s → (∀ b ∈ fp, FpOk X pins H b) → tn i s.heap → J.stop i H →
    wpAny (model P w) X.A (pyNext (.ref it)) (fun r s1 => r = none ∧ Inv X pins σ H s1) E s
  self : ∀ (A : Around) (i : Nat) (s : Shared) (Q : Value → Shared → Prop) (E : Value → Shared → Prop), tn i s.heap → Q (.ref it) s → wpAny (model P w) A (pyIter (.ref it)) Q E s
abbrev TI := St → Hp → (It → Hp → Prop) → Prop
/-- an iterator has come -/
def PIE (X : Cx) (pins : List (Addr × Obj)) (σ : St) (tg : Expr) (R : It → Hp → Prop) (itv : Value) (s2 : Shared) : Prop :=
  ∃ (it : Addr) (fp : List Addr) (tn : Nat → Heap → Prop) (J : It) (H' : Hp), itv = .ref it ∧ Inv X pins σ H' s2 ∧ Turn X.prog X.w X.K tg J fp it tn ∧ tn 0 s2.heap ∧ (∀ b ∈ fp, FpOk X pins H' b) ∧ R J H'
def PI (X : Cx) (tg iter : Expr) (wi : TI) : Prop :=
  ∀ (pins : List (Addr × Obj)) (s : Shared) (σ : St) (H : Hp) (R : It → Hp → Prop), Inv X pins σ H s → wi σ H R →
    wpAny (model X.prog X.w) X.A (eval iter X.env) (fun v s1 => wpAny (model X.prog X.w) X.A (pyIter v) (PIE X pins σ tg R) X.xe s1) X.xe s

/-- the step ahead of the store is nothing for an iterator that keeps no tuple -/
theorem go_of {M : Model} {A : Around} {E : Value → Shared → Prop} {s : Shared} {tg : Expr} {it : Addr} {u : Value} {o : Obj} {n : String} {vs : Array Value} {Q : Unit → Shared → Prop} (ho : s.heap.get? it = some o) (hc : o.cls = .type n) (hd : o.data = .fields vs)
    (hn : ["enumerate", "zip", "dict_itemiterator", "dict_reverseitemiterator", "odict_iterator", "itertools.zip_longest", "itertools.pairwise"].contains n = false) (hQ : Q () s) : wpAny M A (letOwnedTupleGo tg (.ref it) u) Q E s := by
  unfold letOwnedTupleGo
  cases tg <;> first
    | exact wpAny_pure hQ
    | (cases u <;> first
        | exact wpAny_pure hQ
        | (refine wpAny_bind (wpAny_load ho ?_)
           rw [hc, hd]
           show wpAny M A (if (["enumerate", "zip", "dict_itemiterator", "dict_reverseitemiterator", "odict_iterator", "itertools.zip_longest", "itertools.pairwise"].contains n && vs[0]? == some (rawInt _)) = true then _ else _) Q E s
           rw [if_neg (by intro h; rw [hn, Bool.false_and] at h; cases h)]
           exact wpAny_pure hQ))

/-- the list at a, as it stands at each turn (a loop may append to it) -/
def Itl (K : PySem.W.Frag) (a : Addr) : It :=
  ⟨fun i H => ∃ xs x, SqL K H a xs ∧ xs[i]? = some x, fun i H x H' => H' = H ∧ ∀ xs, SqL K H a xs → xs[i]? = some x, fun i H => ∃ xs, SqL K H a xs ∧ xs.length ≤ i⟩
def Itt (K : PySem.W.Frag) (a : Addr) : It :=
  ⟨fun i H => ∃ xs x, SqT K H a xs ∧ xs[i]? = some x, fun i H x H' => H' = H ∧ ∀ xs, SqT K H a xs → xs[i]? = some x, fun i H => ∃ xs, SqT K H a xs ∧ xs.length ≤ i⟩
/-- lo, lo + 1, .. (n of them) -/
def Itr (lo : Int) (n : Nat) : It := ⟨fun i _ => i < n, fun i H x H' => H' = H ∧ x = .int (lo + i), fun i _ => n ≤ i⟩
theorem turn_list {P : Program} {w : World} {K : PySem.W.Frag} {tg : Expr} (a it : Addr) : Turn P w K tg (Itl K a) [it] it (fun i h => h.IsListIter it a i) where
  mem := by simp
  obj := fun i h st b hb => by
    have e : b = it := by simpa using hb
    subst e
    obtain ⟨o, e, c, d⟩ := st
    exact ⟨o, e, fun v z => by rw [d] at z; cases z⟩
  keep := fun i h h' st k => st.at fun o e => k it (by simp) o e
  item := by
    intro X hP hw hK hc i pins s σ H E I hf st hg
    subst hP hw hK
    obtain ⟨xs, x, hq, hx⟩ := hg
    obtain ⟨its, rv, p, hz⟩ := I.list hq
    obtain ⟨u, hu, ru⟩ := rv.get hx
    obtain ⟨f0, f1, f2, f3, f4, f5⟩ := hf it (by simp)
    refine wpAny_pyNext_list_item st p.isList (x := u) (by simpa using hu) fun h' st' sb => ?_
    have I1 : Inv X pins σ H { s with heap := h' } := I.turned (t' := s.toks) (fun b o hb e => (sb.2 b hb).trans e) f0 f1 f3 f4 f5
    obtain ⟨o, e, c, d⟩ := id st'
    exact ⟨u, rfl, go_of (s := { s with heap := h' }) e c d (by decide) ⟨x, H, I1, ru, ⟨rfl, fun ys hy => by rw [I.list_inj hy hq]; exact hx⟩, st', fun b hb => (hf b hb).1⟩⟩
  done := by
    intro X hP hw hK hc i pins s σ H E I hf st hg
    subst hP hw hK
    obtain ⟨xs, hq, hx⟩ := hg
    obtain ⟨its, rv, p, hz⟩ := I.list hq
    obtain ⟨f0, f1, f2, f3, f4, f5⟩ := hf it (by simp)
    have hl := rv.length
    exact wpAny_pyNext_list_end (I.ok.hd hc) st p.isList (by simp; omega) fun h' eb => ⟨rfl, I.turned (t' := s.toks) (fun b o hb e => eb b o hb e) f0 f1 f3 f4 f5⟩
  self := fun _ _ _ _ _ st h => wpAny_pyIter_listiter st h
theorem turn_tuple {P : Program} {w : World} {K : PySem.W.Frag} {tg : Expr} (a it : Addr) : Turn P w K tg (Itt K a) [it] it (fun i h => h.IsTupleIter it a i) where
  mem := by simp
  obj := fun i h st b hb => by
    have e : b = it := by simpa using hb
    subst e
    obtain ⟨o, e, c, d⟩ := st
    exact ⟨o, e, fun v z => by rw [d] at z; cases z⟩
  keep := fun i h h' st k => st.at fun o e => k it (by simp) o e
  item := by
    intro X hP hw hK hc i pins s σ H E I hf st hg
    subst hP hw hK
    obtain ⟨xs, x, hq, hx⟩ := hg
    obtain ⟨its, rv, p, hz⟩ := I.tuple hq
    obtain ⟨u, hu, ru⟩ := rv.get hx
    obtain ⟨f0, f1, f2, f3, f4, f5⟩ := hf it (by simp)
    refine wpAny_pyNext_tuple_item st (show s.heap.IsTuple a its.toArray from p) (x := u) (by simpa using hu) fun h' st' sb => ?_
    have I1 : Inv X pins σ H { s with heap := h' } := I.turned (t' := s.toks) (fun b o hb e => (sb.2 b hb).trans e) f0 f1 f3 f4 f5
    obtain ⟨o, e, c, d⟩ := id st'
    exact ⟨u, rfl, go_of (s := { s with heap := h' }) e c d (by decide) ⟨x, H, I1, ru, ⟨rfl, fun ys hy => by rw [I.tuple_inj hy hq]; exact hx⟩, st', fun b hb => (hf b hb).1⟩⟩
  done := by
    intro X hP hw hK hc i pins s σ H E I hf st hg
    subst hP hw hK
    obtain ⟨xs, hq, hx⟩ := hg
    obtain ⟨its, rv, p, hz⟩ := I.tuple hq
    obtain ⟨f0, f1, f2, f3, f4, f5⟩ := hf it (by simp)
    have hl := rv.length
    exact wpAny_pyNext_tuple_end (I.ok.hd hc) st (show s.heap.IsTuple a its.toArray from p) (by simp; omega) fun h' eb => ⟨rfl, I.turned (t' := s.toks) (fun b o hb e => eb b o hb e) f0 f1 f3 f4 f5⟩
  self := fun _ _ _ _ _ st h => wpAny_pyIter_tupleiter st h
theorem turn_range {P : Program} {w : World} {K : PySem.W.Frag} {tg : Expr} (it : Addr) (lo : Int) (n : Nat) : Turn P w K tg (Itr lo n) [it] it (fun i h => IsRangeIter h it (lo + (i : Nat) * 1) ((n : Int) - (i : Nat)) 1) where
  mem := by simp
  obj := fun i h st b hb => by
    have e : b = it := by simpa using hb
    subst e
    exact ⟨_, st, fun v z => by
      have z' : Data.fields _ = Data.cell v := z
      cases z'⟩
  keep := fun i h h' st k => k it (by simp) _ st
  item := by
    intro X hP hw hK hc i pins s σ H E I hf st hg
    subst hP hw hK
    obtain ⟨f0, f1, f2, f3, f4, f5⟩ := hf it (by simp)
    have W := Walks.range (prog := X.prog) (w := X.w) (I.ok.hd hc) it lo 1 n
    refine W.item i s _ _ hg st fun v h' tk hv st' kk => ?_
    obtain ⟨t, rfl⟩ := hv
    have I1 : Inv X pins σ H { s with heap := h', toks := tk } := I.turned (fun b o hb e => kk b o (by simpa using hb) e) f0 f1 f3 f4 f5
    refine ⟨_, rfl, go_of (s := { s with heap := h', toks := tk }) (n := "range_iterator") st' rfl rfl (by decide) ⟨.int (lo + i), H, I1, ⟨t, ?_⟩, ⟨rfl, rfl⟩, st', fun b hb => (hf b hb).1⟩⟩
    rw [Int.mul_one]
  done := by
    intro X hP hw hK hc i pins s σ H E I hf st hg
    subst hP hw hK
    obtain ⟨f0, f1, f2, f3, f4, f5⟩ := hf it (by simp)
    exact wpAny_pyNext_range_end (I.ok.hd hc) st (by have : n ≤ i := hg; omega) fun h' eb => ⟨rfl, I.turned (t' := s.toks) (fun b o hb e => eb b o hb e) f0 f1 f3 f4 f5⟩
  self := fun _ _ _ _ _ st h => wpAny_pyIter_rangeiter st h
end L2

namespace L2
open PySem PySem.Spec PyProof.Rows
section
variable {X : Cx} {tg : Expr}
def iList (K : PySem.W.Frag) (tl : TE) : TI := fun σ H R => tl σ H fun x H1 => ∃ a, x = .ref a ∧ (∃ xs, SqL K H1 a xs) ∧ R (Itl K a) H1
def iTup (K : PySem.W.Frag) (tl : TE) : TI := fun σ H R => tl σ H fun x H1 => ∃ a, x = .ref a ∧ (∃ xs, SqT K H1 a xs) ∧ R (Itt K a) H1
/-- a range object just made, walked -/
theorem range_it {pins : List (Addr × Obj)} {σ : St} {H : Hp} {s : Shared} {R : It → Hp → Prop} {E : Value → Shared → Prop} {lo hi : Int} {t u v : Tok} {tk : Nat} (I : Inv X pins σ H s) (h1 : -(2 ^ 62) ≤ lo) (h2 : lo < 2 ^ 62) (h3 : -(2 ^ 62) ≤ hi) (h4 : hi < 2 ^ 62)
    (q : R (Itr lo (hi - lo).toNat) H) : wpAny (model X.prog X.w) X.A (pyIter (.ref s.heap.objs.size)) (PIE X pins σ tg R) E { s with heap := s.heap.push { cls := .type "range", data := .fields #[.int lo t, .int hi u, .int 1 v] }, toks := tk } := by
  refine wpAny_pyIter_range (IsRange.new ..) (small_one h1 h2 h3 h4) ?_
  have I1 : Inv X pins σ H { s with heap := s.heap.push { cls := .type "range", data := .fields #[.int lo t, .int hi u, .int 1 v] }, toks := tk } := I.kept fun b o e => Heap.get?_push_of_some _ e
  refine ⟨(s.heap.push { cls := .type "range", data := .fields #[.int lo t, .int hi u, .int 1 v] }).objs.size, [(s.heap.push { cls := .type "range", data := .fields #[.int lo t, .int hi u, .int 1 v] }).objs.size], _, _, H, rfl,
    I1.kept (t' := tk) fun b o e => Heap.get?_push_of_some _ e, turn_range _ lo (hi - lo).toNat, ?_, fun b hb => ?_, q⟩
  · have e1 : lo + ((0 : Nat) : Int) * 1 = lo := by simp
    have e2 : (((hi - lo).toNat : Nat) : Int) - ((0 : Nat) : Int) = Builtin.Range.rangeSize lo hi 1 := by rw [rangeSize_one]; split <;> omega
    show IsRangeIter _ _ (lo + ((0 : Nat) : Int) * 1) ((((hi - lo).toNat : Nat) : Int) - ((0 : Nat) : Int)) 1
    rw [e1, e2]
    exact Heap.get?_push_size _ rfl
  · have e : b = (s.heap.push { cls := .type "range", data := .fields #[.int lo t, .int hi u, .int 1 v] }).objs.size := by simpa using hb
    subst e
    exact I1.fpOk (Nat.le_refl _) (I1.hok.fresh (Nat.le_refl _))
def iRng1 (ta : TA) : TI := fun σ H R => ta σ H fun vs H1 => ∃ j : Int, vs = [.int j] ∧ -(2 ^ 62) ≤ j ∧ j < 2 ^ 62 ∧ R (Itr 0 j.toNat) H1
theorem pi_range1 {a : Expr} {ta : TA} {p pos : Pos} (hg : Gl X "range") (hm : X.mg "range" = none) (ha : PA X [a] ta) (hs : starEach [a] X.env = [(false, eval a X.env)] := by rfl) : PI X tg (.Call (.Name "range" p) [a] [] pos) (iRng1 ta) := by
  intro pins s σ H R I h
  refine Call_ (ld_blt I hg hm boot_range (PyProof.Rows.callWith_type1 (thn (ha pos pins s σ H _ I h) fun us s1 ⟨vs, H1, I1, r1, q1⟩ => ?_) hs rfl))
  obtain ⟨j, e, q1, q2, q⟩ := q1
  subst e
  cases r1 with
  | cons r rr =>
    cases rr
    obtain ⟨t, rfl⟩ := r
    exact call_range_1 (range_it I1 (by omega) (by omega) q1 q2 (by simpa using q))
/-! ### for -/
/-- W: the invariant by the turn and a measure; N: what the body is to reach -/
def tFor (wi : TI) (g : TG) (tb : TS) : TS := fun D σ H => wi σ H fun J H1 => ∃ W : Nat → Nat → St → Hp → Prop, (∃ m, W 0 m σ H1) ∧ ∀ i m σ H, W i m σ H →
  (J.stop i H ∧ D.nx σ H) ∨ (J.go i H ∧ ∃ N : St → Hp → Prop, (∀ σ' H', N σ' H' → ∃ m', m' < m ∧ W (i + 1) m' σ' H') ∧ ∀ x H', J.yld i H x H' → g x σ H' fun σ2 H2 => tb { D with nx := N, ct := N, bk := D.nx } σ2 H2)
/-- the records at fp as they stand -/
def pinsAt (fp : List Addr) (h : Heap) : List (Addr × Obj) := fp.filterMap fun b => (h.get? b).map fun o => (b, o)
theorem mem_pinsAt {fp : List Addr} {h : Heap} {b : Addr} {o : Obj} (hb : b ∈ fp) (e : h.get? b = some o) : (b, o) ∈ pinsAt fp h := List.mem_filterMap.mpr ⟨b, hb, by rw [e]; rfl⟩
theorem of_pinsAt {fp : List Addr} {h : Heap} {p : Addr × Obj} (hp : p ∈ pinsAt fp h) : p.1 ∈ fp ∧ h.get? p.1 = some p.2 := by
  obtain ⟨b, hb, e⟩ := List.mem_filterMap.mp hp
  cases q : h.get? b with
  | none => rw [q] at e; cases e
  | some o =>
    rw [q] at e
    have e' : (b, o) = p := Option.some.inj e
    subst e'
    exact ⟨hb, q⟩
theorem Inv.pinned {pins : List (Addr × Obj)} {σ : St} {H : Hp} {s : Shared} {fp : List Addr} (I : Inv X pins σ H s) (hf : ∀ b ∈ fp, FpOk X pins H b) (ho : ∀ b ∈ fp, ∃ o, s.heap.get? b = some o ∧ ∀ v, o.data ≠ .cell v) : Inv X (pins ++ pinsAt fp s.heap) σ H s :=
  I.pins_of fun p hp => (List.mem_append.mp hp).elim (fun z => I.pin p (List.mem_append_right _ z)) fun z => by
    obtain ⟨hb, e⟩ := of_pinsAt z
    obtain ⟨f0, f1, f2, _⟩ := hf p.1 hb
    obtain ⟨o, e', d⟩ := ho p.1 hb
    rw [e] at e'; cases e'
    exact ⟨e, f0, f1, f2, d⟩
theorem Inv.unpinned {pins pl : List (Addr × Obj)} {σ : St} {H : Hp} {s : Shared} (I : Inv X (pins ++ pl) σ H s) : Inv X pins σ H s := I.pins_of fun p hp => I.pin p (List.mem_append_right _ (List.mem_append_left _ hp))
theorem ps_for {iter : Expr} {body : List Stmt} {wi : TI} {g : TG} {tb : TS} {pos : Pos} (hp : PassesOwn (model X.prog X.w) X.A X.env X.xe) (hc : X.calm = true) (hi : PI X tg iter wi) (hg : PG X tg g) (hb : PSs X body tb)
    (hs : ∀ x, foldedSetIterable iter X.env x = pure x := by intro _; rfl) : PS X (.For tg iter body [] pos) (tFor wi g tb) := by
  intro pins s σ H D I h
  refine wpAny_For (thn (hi pins s σ H _ I h) fun v s1 h1 => thn h1 fun itv s2 h2 => ?_) hs
  obtain ⟨it, fp, tn, J, H2, e, I2, T, st2, f2, W, ⟨m0, w0⟩, turn⟩ := h2
  subst e
  -- what stays true of the iterator's objects through the loop
  have stat : ∀ {H' : Hp}, (∀ b ∈ fp, H' b = none) → ∀ b ∈ fp, FpOk X pins H' b := fun hn b hb => ⟨hn b hb, (f2 b hb).2⟩
  refine codeAny_forLoop_any (fun n s' => ∃ i σ' H', Inv X pins σ' H' s' ∧ tn i s'.heap ∧ (∀ b ∈ fp, H' b = none) ∧ W i n σ' H') ?_ m0 ⟨0, σ, H2, I2, st2, fun b hb => (f2 b hb).1, w0⟩
  rintro n s3 ⟨i, σ3, H3, I3, st3, fr3, w3⟩
  rcases turn i n σ3 H3 w3 with ⟨stop, qn⟩ | ⟨go, N, hN, step⟩
  · refine wpAny_passesOwn hp (thn (T.done X rfl rfl rfl hc i pins s3 σ3 H3 X.xe I3 (stat fr3) st3 stop) fun r s4 ⟨hr, I4⟩ => ?_)
    subst hr
    exact wpAny_execs_nil ⟨σ3, H3, I4, qn⟩
  · refine wpAny_passesOwn hp (thn (T.item X rfl rfl rfl hc i pins s3 σ3 H3 X.xe I3 (stat fr3) st3 go) fun r s4 ⟨u, hr, h4⟩ => ?_)
    subst hr
    refine wpAny_passesOwn hp (thn h4 fun _ s5 ⟨x, H5, I5, r5, y5, st5, fr5⟩ => ?_)
    have I5' := I5.pinned (stat fr5) (T.obj _ _ st5)
    refine wpAny_passesOwn hp (thn (hg _ s5 σ3 H5 x u _ I5' r5 (step x H5 y5)) fun _ s6 ⟨σ6, H6, I6, q6⟩ => ?_)
    refine wpAny_passesOwn hp (thn (hb _ s6 σ6 H6 _ I6 q6) fun f s7 q7 => ?_)
    have again : ∀ {σ7 : St} {H7 : Hp}, Inv X (pins ++ pinsAt fp s5.heap) σ7 H7 s7 → N σ7 H7 → ∃ m, m < n ∧ ∃ i σ' H', Inv X pins σ' H' s7 ∧ tn i s7.heap ∧ (∀ b ∈ fp, H' b = none) ∧ W i m σ' H' := fun {σ7 H7} I7 n7 => by
      obtain ⟨m', hm, w7⟩ := hN σ7 H7 n7
      refine ⟨m', hm, i + 1, σ7, H7, I7.unpinned, T.keep _ _ _ st5 fun b hb o e => (I7.pin (b, o) (List.mem_append_right _ (List.mem_append_right _ (mem_pinsAt hb e)))).1, fun b hb => ?_, w7⟩
      obtain ⟨o, e, d⟩ := T.obj _ _ st5 b hb
      exact (I7.pin (b, o) (List.mem_append_right _ (List.mem_append_right _ (mem_pinsAt hb e)))).2.1
    cases f with
    | next => obtain ⟨σ7, H7, I7, n7⟩ := q7; exact again I7 n7
    | cont => obtain ⟨σ7, H7, I7, n7⟩ := q7; exact again I7 n7
    | brk => obtain ⟨σ7, H7, I7, q7⟩ := q7; exact ⟨σ7, H7, I7.unpinned, q7⟩
    | ret v => obtain ⟨x7, σ7, H7, I7, r7, q7⟩ := q7; exact ⟨x7, σ7, H7, I7.unpinned, r7, q7⟩
end

/-! ### the forms one uses -/
/-- over a list that the body leaves as it is -/
theorem for_list {K : PySem.W.Frag} {a : Addr} {xs : List V} {g : TG} {tb : TS} {D : Ends} {σ : St} {H : Hp} (Pv : Nat → St → Hp → Prop) (h0 : Pv 0 σ H) (hl : ∀ i σ H, i ≤ xs.length → Pv i σ H → SqL K H a xs)
    (hs : ∀ i x σ H, xs[i]? = some x → Pv i σ H → g x σ H fun σ2 H2 => tb { D with nx := Pv (i + 1), ct := Pv (i + 1), bk := D.nx } σ2 H2) (hd : ∀ σ H, Pv xs.length σ H → D.nx σ H) :
    ∃ W : Nat → Nat → St → Hp → Prop, (∃ m, W 0 m σ H) ∧ ∀ i m σ H, W i m σ H →
      ((Itl K a).stop i H ∧ D.nx σ H) ∨ ((Itl K a).go i H ∧ ∃ N : St → Hp → Prop, (∀ σ' H', N σ' H' → ∃ m', m' < m ∧ W (i + 1) m' σ' H') ∧ ∀ x H', (Itl K a).yld i H x H' → g x σ H' fun σ2 H2 => tb { D with nx := N, ct := N, bk := D.nx } σ2 H2) := by
  refine ⟨fun i m σ H => m = xs.length - i ∧ i ≤ xs.length ∧ Pv i σ H, ⟨xs.length, by simp, Nat.zero_le _, h0⟩, ?_⟩
  rintro i m σ H ⟨rfl, hi, p⟩
  have q := hl i σ H hi p
  by_cases hlt : i < xs.length
  · refine .inr ⟨⟨xs, xs[i], q, by simp [hlt]⟩, Pv (i + 1), fun σ' H' p' => ⟨xs.length - (i + 1), by omega, rfl, hlt, p'⟩, fun x H' y => ?_⟩
    obtain ⟨e, y⟩ := y
    subst e
    exact hs i x σ _ (y xs q) p
  · have e : i = xs.length := by omega
    subst e
    exact .inl ⟨⟨xs, q, Nat.le_refl _⟩, hd σ H p⟩
theorem for_tup {K : PySem.W.Frag} {a : Addr} {xs : List V} {g : TG} {tb : TS} {D : Ends} {σ : St} {H : Hp} (Pv : Nat → St → Hp → Prop) (h0 : Pv 0 σ H) (hl : ∀ i σ H, i ≤ xs.length → Pv i σ H → SqT K H a xs)
    (hs : ∀ i x σ H, xs[i]? = some x → Pv i σ H → g x σ H fun σ2 H2 => tb { D with nx := Pv (i + 1), ct := Pv (i + 1), bk := D.nx } σ2 H2) (hd : ∀ σ H, Pv xs.length σ H → D.nx σ H) :
    ∃ W : Nat → Nat → St → Hp → Prop, (∃ m, W 0 m σ H) ∧ ∀ i m σ H, W i m σ H →
      ((Itt K a).stop i H ∧ D.nx σ H) ∨ ((Itt K a).go i H ∧ ∃ N : St → Hp → Prop, (∀ σ' H', N σ' H' → ∃ m', m' < m ∧ W (i + 1) m' σ' H') ∧ ∀ x H', (Itt K a).yld i H x H' → g x σ H' fun σ2 H2 => tb { D with nx := N, ct := N, bk := D.nx } σ2 H2) := by
  refine ⟨fun i m σ H => m = xs.length - i ∧ i ≤ xs.length ∧ Pv i σ H, ⟨xs.length, by simp, Nat.zero_le _, h0⟩, ?_⟩
  rintro i m σ H ⟨rfl, hi, p⟩
  have q := hl i σ H hi p
  by_cases hlt : i < xs.length
  · refine .inr ⟨⟨xs, xs[i], q, by simp [hlt]⟩, Pv (i + 1), fun σ' H' p' => ⟨xs.length - (i + 1), by omega, rfl, hlt, p'⟩, fun x H' y => ?_⟩
    obtain ⟨e, y⟩ := y
    subst e
    exact hs i x σ _ (y xs q) p
  · have e : i = xs.length := by omega
    subst e
    exact .inl ⟨⟨xs, q, Nat.le_refl _⟩, hd σ H p⟩
theorem for_range {lo : Int} {n : Nat} {g : TG} {tb : TS} {D : Ends} {σ : St} {H : Hp} (Pv : Nat → St → Hp → Prop) (h0 : Pv 0 σ H)
    (hs : ∀ i σ H, i < n → Pv i σ H → g (.int (lo + i)) σ H fun σ2 H2 => tb { D with nx := Pv (i + 1), ct := Pv (i + 1), bk := D.nx } σ2 H2) (hd : ∀ σ H, Pv n σ H → D.nx σ H) :
    ∃ W : Nat → Nat → St → Hp → Prop, (∃ m, W 0 m σ H) ∧ ∀ i m σ H, W i m σ H →
      ((Itr lo n).stop i H ∧ D.nx σ H) ∨ ((Itr lo n).go i H ∧ ∃ N : St → Hp → Prop, (∀ σ' H', N σ' H' → ∃ m', m' < m ∧ W (i + 1) m' σ' H') ∧ ∀ x H', (Itr lo n).yld i H x H' → g x σ H' fun σ2 H2 => tb { D with nx := N, ct := N, bk := D.nx } σ2 H2) := by
  refine ⟨fun i m σ H => m = n - i ∧ i ≤ n ∧ Pv i σ H, ⟨n, by simp, Nat.zero_le _, h0⟩, ?_⟩
  rintro i m σ H ⟨rfl, hi, p⟩
  by_cases hlt : i < n
  · refine .inr ⟨hlt, Pv (i + 1), fun σ' H' p' => ⟨n - (i + 1), by omega, rfl, hlt, p'⟩, fun x H' y => ?_⟩
    obtain ⟨e, y⟩ := y
    subst e y
    exact hs i σ _ hlt p
  · have e : i = n := by omega
    subst e
    exact .inl ⟨Nat.le_refl _, hd σ H p⟩
end L2

namespace L2
open PySem PySem.Spec PyProof.Rows

abbrev R2 := V → V → Hp → VK → Prop
/-- a two-place operation on values: f is binaryOp op, inplaceOp op or compareOp op -/
def OpR (X : Cx) (f : Value → Value → Sem Value) (r : R2) : Prop :=
  ∀ (pins : List (Addr × Obj)) (s : Shared) (σ : St) (H : Hp) (x y : V) (v u : Value) (Q : VK), Inv X pins σ H s → RelV x v → RelV y u → r x y H Q →
    wpAny (model X.prog X.w) X.A (f v u) (EP X pins σ Q) X.xe s
/-- a one-place operation -/
def UnR (X : Cx) (f : Value → Sem Value) (r : V → Hp → VK → Prop) : Prop :=
  ∀ (pins : List (Addr × Obj)) (s : Shared) (σ : St) (H : Hp) (x : V) (v : Value) (Q : VK), Inv X pins σ H s → RelV x v → r x H Q →
    wpAny (model X.prog X.w) X.A (f v) (EP X pins σ Q) X.xe s
/-- a call of a value that is known (a builtin, a type) with values -/
def CallR (X : Cx) (f : Value) (r : List V → Hp → VK → Prop) : Prop :=
  ∀ (pins : List (Addr × Obj)) (s : Shared) (σ : St) (H : Hp) (xs : List V) (us : List Value) (Q : VK), Inv X pins σ H s → Vals xs us → r xs H Q →
    wpAny (model X.prog X.w) X.A (call f us) (EP X pins σ Q) X.xe s
def tOp (r : R2) (ta tb : TE) : TE := fun σ H Q => ta σ H fun x H1 => tb σ H1 fun y H2 => r x y H2 Q
def tUn (r : V → Hp → VK → Prop) (ta : TE) : TE := fun σ H Q => ta σ H fun x H1 => r x H1 Q
/-- ints in, under C, and a value out -/
def rI (C : Int → Int → Prop) (g : Int → Int → V) : R2 := fun x y H Q => ∃ i j, x = .int i ∧ y = .int j ∧ C i j ∧ Q (g i j) H
def rI0 (g : Int → Int → V) : R2 := fun x y H Q => ∃ i j, x = .int i ∧ y = .int j ∧ Q (g i j) H
def rU (g : Int → V) : V → Hp → VK → Prop := fun x H Q => ∃ i, x = .int i ∧ Q (g i) H

section
variable {X : Cx} {a b c : Expr} {ta tb tc : TE} {pos : Pos}

theorem binT (ha : PE X a ta) (hb : PE X b tb) {pins : List (Addr × Obj)} {s : Shared} {σ : St} {H : Hp} {R : V → V → Hp → Prop} (I : Inv X pins σ H s)
    (h : ta σ H fun x H1 => tb σ H1 fun y H2 => R x y H2) {Q : Value → Shared → Prop} {f : Value → Value → Sem Value}
    (hf : ∀ v u s2 x y H2, Inv X pins σ H2 s2 → RelV x v → RelV y u → R x y H2 → wpAny (model X.prog X.w) X.A (f v u) Q X.xe s2) :
    wpAny (model X.prog X.w) X.A (eval a X.env) (fun v s₁ => wpAny (model X.prog X.w) X.A (eval b X.env) (fun u s₂ => wpAny (model X.prog X.w) X.A (f v u) Q X.xe s₂) X.xe s₁) X.xe s := by
  refine thn (ha pins s σ H _ I h) fun v s1 ⟨x, H1, I1, r1, q1⟩ => ?_
  refine thn (hb pins s1 σ H1 _ I1 q1) fun u s2 ⟨y, H2, I2, r2, q2⟩ => ?_
  exact hf v u s2 x y H2 I2 r1 r2 q2

theorem pe_op {op : Operator} {r : R2} (ho : OpR X (binaryOp op) r) (ha : PE X a ta) (hb : PE X b tb) : PE X (.BinOp a op b pos) (tOp r ta tb) := by
  intro pins s σ H Q I h
  exact wpAny_BinOp (binT ha hb I h fun v u s2 x y H2 I2 rx ry q => ho pins s2 σ H2 x y v u Q I2 rx ry q)
theorem pe_un {op : UnaryOp} {r : V → Hp → VK → Prop} (ho : UnR X (unaryOp op) r) (ha : PE X a ta) : PE X (.UnaryOp op a pos) (tUn r ta) := by
  intro pins s σ H Q I h
  exact UnaryOp_ (thn (ha pins s σ H _ I h) fun v s1 ⟨x, H1, I1, r1, q1⟩ => ho pins s1 σ H1 x v Q I1 r1 q1)
/-! ### ints -/
theorem opI {f : Value → Value → Sem Value} {C : Int → Int → Prop} {g : Int → Int → Int}
    (rule : ∀ (i j : Int) (t u : Tok) (s : Shared) (Q : Value → Shared → Prop) (E : Value → Shared → Prop), C i j → Q (.int (g i j) s.toks) { s with toks := s.toks + 1 } → wpAny (model X.prog X.w) X.A (f (.int i t) (.int j u)) Q E s) :
    OpR X f (rI C fun i j => .int (g i j)) := by
  intro pins s σ H x y v u Q I rx ry h
  obtain ⟨i, j, rfl, rfl, hc, q⟩ := h
  obtain ⟨t, rfl⟩ := rx
  obtain ⟨t', rfl⟩ := ry
  exact rule i j t t' s _ _ hc ⟨.int (g i j), H, I.tok _, ⟨_, rfl⟩, q⟩
theorem opI0 {f : Value → Value → Sem Value} {g : Int → Int → Int}
    (rule : ∀ (i j : Int) (t u : Tok) (s : Shared) (Q : Value → Shared → Prop) (E : Value → Shared → Prop), Q (.int (g i j) s.toks) { s with toks := s.toks + 1 } → wpAny (model X.prog X.w) X.A (f (.int i t) (.int j u)) Q E s) :
    OpR X f (rI0 fun i j => .int (g i j)) := by
  intro pins s σ H x y v u Q I rx ry h
  obtain ⟨i, j, rfl, rfl, q⟩ := h
  obtain ⟨t, rfl⟩ := rx
  obtain ⟨t', rfl⟩ := ry
  exact rule i j t t' s _ _ ⟨.int (g i j), H, I.tok _, ⟨_, rfl⟩, q⟩
theorem opB0 {f : Value → Value → Sem Value} {g : Int → Int → Bool}
    (rule : ∀ (i j : Int) (t u : Tok) (s : Shared) (Q : Value → Shared → Prop) (E : Value → Shared → Prop), Q (.bool (g i j)) s → wpAny (model X.prog X.w) X.A (f (.int i t) (.int j u)) Q E s) :
    OpR X f (rI0 fun i j => .bl (g i j)) := by
  intro pins s σ H x y v u Q I rx ry h
  obtain ⟨i, j, rfl, rfl, q⟩ := h
  obtain ⟨t, rfl⟩ := rx
  obtain ⟨t', rfl⟩ := ry
  exact rule i j t t' s _ _ ⟨.bl (g i j), H, I, rfl, q⟩

def CDiv (i j : Int) : Prop := 0 < j ∧ j < 1073741824
def CPow (i j : Int) : Prop := 0 ≤ j ∧ j ≤ 1000000 ∧ i.natAbs < 2 ^ 64
def CMul (i j : Int) : Prop := (-(2 ^ 64) < i ∧ i < 2 ^ 64) ∨ (-(2 ^ 64) < j ∧ j < 2 ^ 64)
theorem CMul.ok {i j : Int} (h : CMul i j) : IntMulOk i j := by
  rcases h with ⟨h1, h2⟩ | ⟨h1, h2⟩
  · exact .of_left (intBits_le_64 h1 h2)
  · exact .of_right (intBits_le_64 h1 h2)
theorem op_add : OpR X (binaryOp .Add) (rI0 fun i j => .int (i + j)) := opI0 fun _ _ _ _ _ _ _ q => add_int q
theorem op_sub : OpR X (binaryOp .Sub) (rI0 fun i j => .int (i - j)) := opI0 fun _ _ _ _ _ _ _ q => sub_int q
theorem op_mul : OpR X (binaryOp .Mult) (rI CMul fun i j => .int (i * j)) := opI fun _ _ _ _ _ _ _ hc q => mul_int q hc.ok
/-- // by a positive divisor -/
theorem op_fdiv : OpR X (binaryOp .FloorDiv) (rI CDiv fun i j => .int (i / j)) := opI fun i j _ _ _ _ _ hc q => by
  have h1 : (0 : Int) < j := hc.1
  have h2 : j < 1073741824 := hc.2
  exact floordiv_int (by omega) (by rw [Int.fdiv_eq_ediv_of_nonneg i (by omega)]; exact q) (.inl (PyProof.noPylong_small (by omega)))
/-- % by a positive divisor of any size -/
theorem op_mod : OpR X (binaryOp .Mod) (rI (fun _ j => 0 < j) fun i j => .int (i % j)) := opI fun i j _ _ _ _ _ hc q => by
  have h1 : (0 : Int) < j := hc
  exact mod_int' (by omega) (by rw [Int.fmod_eq_emod_of_nonneg i (by omega)]; exact q)
theorem op_pow : OpR X (binaryOp .Pow) (rI CPow fun i j => .int (i ^ j.toNat)) := opI fun _ _ _ _ _ _ _ hc q => pow_int_small hc.1 hc.2.1 hc.2.2 q
theorem unI {f : Value → Sem Value} {g : Int → Int}
    (rule : ∀ (i : Int) (t : Tok) (s : Shared) (Q : Value → Shared → Prop) (E : Value → Shared → Prop), Q (.int (g i) s.toks) { s with toks := s.toks + 1 } → wpAny (model X.prog X.w) X.A (f (.int i t)) Q E s) :
    UnR X f (rU fun i => .int (g i)) := by
  intro pins s σ H x v Q I rx h
  obtain ⟨i, rfl, q⟩ := h
  obtain ⟨t, rfl⟩ := rx
  exact rule i t s _ _ ⟨.int (g i), H, I.tok _, ⟨_, rfl⟩, q⟩
theorem un_neg : UnR X (unaryOp .USub) (rU fun i => .int (-i)) := unI fun _ _ _ _ _ q => neg_int q
/-! ### bools among ints: n += (a < b) -/
end

/-! ### comparisons -/
/-- the scalars that == tells apart as data does -/
def scal : V → V → Bool
  | .non, .non => true | .non, .int _ => true | .int _, .non => true | .non, .bl _ => true | .bl _, .non => true | .non, .str _ => true | .str _, .non => true
  | .int _, .int _ => true | .bl _, .bl _ => true | .str _, .str _ => true | .byt _, .byt _ => true
  | .int _, .str _ => true | .str _, .int _ => true | .bl _, .str _ => true | .str _, .bl _ => true
  | _, _ => false
def rEq : R2 := fun x y H Q => scal x y = true ∧ Q (.bl (decide (x = y))) H
def rNe : R2 := fun x y H Q => scal x y = true ∧ Q (.bl (!decide (x = y))) H

theorem dec_int {i j : Int} : decide (V.int i = V.int j) = (i == j) := by
  rw [Bool.eq_iff_iff]
  simp
theorem dec_bl {i j : Bool} : decide (V.bl i = V.bl j) = (i == j) := by
  rw [Bool.eq_iff_iff]
  simp
theorem dec_str {i j : Str} : decide (V.str i = V.str j) = (i == j) := by
  rw [Bool.eq_iff_iff]
  simp
theorem dec_byt {i j : Array UInt8} : decide (V.byt i = V.byt j) = (i.toList == j.toList) := by
  rw [Bool.eq_iff_iff]
  cases i
  cases j
  simp

section
variable {X : Cx} {a b c : Expr} {ta tb tc : TE} {pos : Pos}
theorem fin_bl {pins : List (Addr × Obj)} {σ : St} {H : Hp} {s : Shared} {Q : VK} {k k' : Bool} (I : Inv X pins σ H s) (q : Q (.bl k) H) (e : k = k') : EP X pins σ Q (.bool k') s := by
  subst e
  exact ⟨.bl k, H, I, rfl, q⟩
theorem op_eq : OpR X (compareOp .Eq) rEq := by
  intro pins s σ H x y v u Q I rx ry h
  obtain ⟨hs, q⟩ := h
  cases x with
  | non =>
    cases rx
    cases y with
    | non => cases ry; exact PySem.EqNone.eq_none_none (fin_bl I q (by simp))
    | bl j => cases ry; exact PySem.EqNone.eq_none_bool (fin_bl I q (by simp))
    | int j => obtain ⟨t', rfl⟩ := ry; exact PySem.EqNone.eq_none_int (fin_bl I q (by simp))
    | str j => obtain ⟨t', rfl⟩ := ry; exact PySem.EqNone.eq_none_str (fin_bl I q (by simp))
    | _ => exact absurd (show false = true from hs) Bool.false_ne_true
  | bl i =>
    cases rx
    cases y with
    | non => cases ry; exact PySem.EqNone.eq_bool_none (fin_bl I q (by simp))
    | bl j => cases ry; exact eq_bool (fin_bl I q dec_bl)
    | str j => obtain ⟨t', rfl⟩ := ry; exact PySem.EqMixed.eq_bool_str (fin_bl I q (by simp))
    | _ => exact absurd (show false = true from hs) Bool.false_ne_true
  | int i =>
    obtain ⟨t, rfl⟩ := rx
    cases y with
    | non => cases ry; exact PySem.EqNone.eq_int_none (fin_bl I q (by simp))
    | int j => obtain ⟨t', rfl⟩ := ry; exact eq_int (fin_bl I q dec_int)
    | str j => obtain ⟨t', rfl⟩ := ry; exact PySem.EqMixed.eq_int_str (fin_bl I q (by simp))
    | _ => exact absurd (show false = true from hs) Bool.false_ne_true
  | str i =>
    obtain ⟨t, rfl⟩ := rx
    cases y with
    | non => cases ry; exact PySem.EqNone.eq_str_none (fin_bl I q (by simp))
    | bl j => cases ry; exact PySem.EqMixed.eq_str_bool (fin_bl I q (by simp))
    | int j => obtain ⟨t', rfl⟩ := ry; exact PySem.EqMixed.eq_str_int (fin_bl I q (by simp))
    | str j => obtain ⟨t', rfl⟩ := ry; exact eq_str (fin_bl I q dec_str)
    | _ => exact absurd (show false = true from hs) Bool.false_ne_true
  | byt i =>
    obtain ⟨t, rfl⟩ := rx
    cases y with
    | byt j => obtain ⟨t', rfl⟩ := ry; exact PySem.W.eq_bytes (fin_bl I q dec_byt)
    | _ => exact absurd (show false = true from hs) Bool.false_ne_true
  | _ => cases y <;> exact absurd (show false = true from hs) Bool.false_ne_true
theorem op_ne : OpR X (compareOp .NotEq) rNe := by
  intro pins s σ H x y v u Q I rx ry h
  obtain ⟨hs, q⟩ := h
  cases x with
  | non =>
    cases rx
    cases y with
    | non => cases ry; exact PySem.EqNone.ne_none_none (fin_bl I q (by simp))
    | bl j => cases ry; exact PySem.EqNone.ne_none_bool (fin_bl I q (by simp))
    | int j => obtain ⟨t', rfl⟩ := ry; exact PySem.EqNone.ne_none_int (fin_bl I q (by simp))
    | str j => obtain ⟨t', rfl⟩ := ry; exact PySem.EqNone.ne_none_str (fin_bl I q (by simp))
    | _ => exact absurd (show false = true from hs) Bool.false_ne_true
  | bl i =>
    cases rx
    cases y with
    | non => cases ry; exact PySem.EqNone.ne_bool_none (fin_bl I q (by simp))
    | bl j => cases ry; exact ne_bool (fin_bl I q (congrArg not dec_bl))
    | str j => obtain ⟨t', rfl⟩ := ry; exact PySem.EqMixed.ne_bool_str (fin_bl I q (by simp))
    | _ => exact absurd (show false = true from hs) Bool.false_ne_true
  | int i =>
    obtain ⟨t, rfl⟩ := rx
    cases y with
    | non => cases ry; exact PySem.EqNone.ne_int_none (fin_bl I q (by simp))
    | int j => obtain ⟨t', rfl⟩ := ry; exact ne_int (fin_bl I q (congrArg not dec_int))
    | str j => obtain ⟨t', rfl⟩ := ry; exact PySem.EqMixed.ne_int_str (fin_bl I q (by simp))
    | _ => exact absurd (show false = true from hs) Bool.false_ne_true
  | str i =>
    obtain ⟨t, rfl⟩ := rx
    cases y with
    | non => cases ry; exact PySem.EqNone.ne_str_none (fin_bl I q (by simp))
    | bl j => cases ry; exact PySem.EqMixed.ne_str_bool (fin_bl I q (by simp))
    | int j => obtain ⟨t', rfl⟩ := ry; exact PySem.EqMixed.ne_str_int (fin_bl I q (by simp))
    | str j => obtain ⟨t', rfl⟩ := ry; exact ne_str (fin_bl I q (congrArg not dec_str))
    | _ => exact absurd (show false = true from hs) Bool.false_ne_true
  | byt i =>
    obtain ⟨t, rfl⟩ := rx
    cases y with
    | byt j => obtain ⟨t', rfl⟩ := ry; exact PySem.W.ne_bytes (fin_bl I q (congrArg not dec_byt))
    | _ => exact absurd (show false = true from hs) Bool.false_ne_true
  | _ => cases y <;> exact absurd (show false = true from hs) Bool.false_ne_true

theorem op_lt : OpR X (compareOp .Lt) (rI0 fun i j => .bl (decide (i < j))) := opB0 fun _ _ _ _ _ _ _ q => lt_int q
theorem op_le : OpR X (compareOp .LtE) (rI0 fun i j => .bl (decide (i ≤ j))) := opB0 fun _ _ _ _ _ _ _ q => le_int q
theorem op_gt : OpR X (compareOp .Gt) (rI0 fun i j => .bl (decide (j < i))) := opB0 fun _ _ _ _ _ _ _ q => gt_int q
theorem nomark (b : Expr) {op : CmpOp} (h : op ≠ .In := by decide) (h2 : op ≠ .NotIn := by decide) : behindInMarks op b = false := by
  have e1 : (op == CmpOp.In) = false := by cases op <;> first | rfl | exact absurd rfl h
  have e2 : (op == CmpOp.NotIn) = false := by cases op <;> first | rfl | exact absurd rfl h2
  cases b <;> simp [behindInMarks, e1, e2]
/-- a comparison as a value; hm: nomark b, or (for in, not in) by with_unfolding_all rfl -/
theorem pe_cmpR {op : CmpOp} {r : R2} (ho : OpR X (compareOp op) r) (ha : PE X a ta) (hb : PE X b tb) (hm : behindInMarks op b = false) : PE X (.Compare a [op] [b] pos) (tOp r ta tb) := by
  intro pins s σ H Q I h
  exact wpAny_Compare1 (binT ha hb I h fun v u s2 x y H2 I2 rx ry q => ho pins s2 σ H2 x y v u Q I2 rx ry q) hm
/-- a reading of a value as a test -/
def tTest (t : TE) : TT := fun σ H Q => t σ H fun x H' => ∃ k, x = .bl k ∧ Q k H'
theorem pt_cmpR {op : CmpOp} {r : R2} (ho : OpR X (compareOp op) r) (ha : PE X a ta) (hb : PE X b tb) (hm : behindInMarks op b = false) : PT X (.Compare a [op] [b] pos) (tTest (tOp r ta tb)) := by
  intro pins s σ H Q I h
  refine wpAny_isTrue_Compare1 (thn (ha pins s σ H _ I h) fun v s1 ⟨x, H1, I1, r1, q1⟩ => thn (hb pins s1 σ H1 _ I1 q1) fun u s2 ⟨y, H2, I2, r2, q2⟩ =>
    thn (ho pins s2 σ H2 x y v u _ I2 r1 r2 q2) fun c s3 ⟨z, H3, I3, r3, k, e, q3⟩ => ?_) hm
  subst e
  cases r3
  exact wpAny_truthy_bool ⟨H3, I3, q3⟩
/-- a op1 b op2 c -/
def tChain (r r' : R2) (ta tb tc : TE) : TE := fun σ H Q => ta σ H fun x H1 => tb σ H1 fun y H2 => r x y H2 fun z H3 => ∃ k, z = .bl k ∧
  (if k = true then tc σ H3 fun w' H4 => r' y w' H4 Q else Q (.bl false) H3)
theorem pe_chain {op op' : CmpOp} {r r' : R2} (ho : OpR X (compareOp op) r) (ho' : OpR X (compareOp op') r') (ha : PE X a ta) (hb : PE X b tb) (hc : PE X c tc)
    (hm : lastMarks [op, op'] [b, c] = false := by with_unfolding_all rfl) : PE X (.Compare a [op, op'] [b, c] pos) (tChain r r' ta tb tc) := by
  intro pins s σ H Q I h
  refine Compare_chain (thn (ha pins s σ H _ I h) fun v s1 ⟨x, H1, I1, r1, q1⟩ => chain_link (thn (hb pins s1 σ H1 _ I1 q1) fun u s2 ⟨y, H2, I2, r2, q2⟩ =>
    thn (ho pins s2 σ H2 x y v u _ I2 r1 r2 q2) fun d s3 ⟨z, H3, I3, r3, k, e, q3⟩ => ?_)) hm
  subst e
  cases r3
  refine wpAny_truthy_bool ?_
  cases k with
  | false => exact ite_ff ⟨.bl false, H3, I3, rfl, q3⟩
  | true => exact ite_tt (chain_last (thn (hc pins s3 σ H3 _ I3 q3) fun w' s4 ⟨z', H4, I4, r4, q4⟩ => ho' pins s4 σ H4 y z' u w' Q I4 r2 r4 q4))
theorem pt_chain {op op' : CmpOp} {r r' : R2} (ho : OpR X (compareOp op) r) (ho' : OpR X (compareOp op') r') (ha : PE X a ta) (hb : PE X b tb) (hc : PE X c tc)
    (hm : lastMarks [op, op'] [b, c] = false := by with_unfolding_all rfl) : PT X (.Compare a [op, op'] [b, c] pos) (tTest (tChain r r' ta tb tc)) := by
  intro pins s σ H Q I h
  refine isTrue_chain (thn (ha pins s σ H _ I h) fun v s1 ⟨x, H1, I1, r1, q1⟩ => test_link (thn (hb pins s1 σ H1 _ I1 q1) fun u s2 ⟨y, H2, I2, r2, q2⟩ =>
    thn (ho pins s2 σ H2 x y v u _ I2 r1 r2 q2) fun d s3 ⟨z, H3, I3, r3, k, e, q3⟩ => ?_)) hm
  subst e
  cases r3
  refine wpAny_truthy_bool ?_
  cases k with
  | false =>
    obtain ⟨k', e', q'⟩ := q3
    cases e'
    exact ite_ff ⟨H3, I3, q'⟩
  | true =>
    refine ite_tt (test_last (thn (hc pins s3 σ H3 _ I3 q3) fun w' s4 ⟨z', H4, I4, r4, q4⟩ => thn (ho' pins s4 σ H4 y z' u w' _ I4 r2 r4 q4) fun d' s5 ⟨z2, H5, I5, r5, k2, e2, q5⟩ => ?_))
    subst e2
    cases r5
    exact wpAny_truthy_bool ⟨H5, I5, q5⟩

/-! ### truth -/
theorem line63 : (sizeLine : Nat) < 2 ^ 63 := by rw [sizeLine_eq]; decide
/-! ### strs and bytes -/
/-! ### scalar builtins, by CallR -/
theorem vals1 {x : V} {us : List Value} (r : Vals [x] us) : ∃ u, us = [u] ∧ RelV x u := by
  cases r with
  | cons r1 r2 => cases r2; exact ⟨_, rfl, r1⟩
theorem vals2 {x y : V} {us : List Value} (r : Vals [x, y] us) : ∃ u w', us = [u, w'] ∧ RelV x u ∧ RelV y w' := by
  cases r with
  | cons r1 r2 =>
    cases r2 with
    | cons r3 r4 => cases r4; exact ⟨_, _, rfl, r1, r3⟩
theorem call_max2 (hc : X.calm = true) : CallR X (.builtin "max") (fun xs H Q => ∃ i j, xs = [.int i, .int j] ∧ Q (.int (if j > i then j else i)) H) := by
  intro pins s σ H xs us Q I r h
  obtain ⟨i, j, rfl, q⟩ := h
  obtain ⟨u, w', rfl, ⟨t, rfl⟩, ⟨t', rfl⟩⟩ := vals2 r
  refine max_two_ints (I.ok.hd hc) fun h' tk k => ⟨_, H, I.kept k, ?_, q⟩
  by_cases hj : j > i
  · rw [if_pos hj, if_pos hj]; exact ⟨_, rfl⟩
  · rw [if_neg hj, if_neg hj]; exact ⟨_, rfl⟩
theorem call_min2 (hc : X.calm = true) : CallR X (.builtin "min") (fun xs H Q => ∃ i j, xs = [.int i, .int j] ∧ Q (.int (if j < i then j else i)) H) := by
  intro pins s σ H xs us Q I r h
  obtain ⟨i, j, rfl, q⟩ := h
  obtain ⟨u, w', rfl, ⟨t, rfl⟩, ⟨t', rfl⟩⟩ := vals2 r
  refine min_two_ints (I.ok.hd hc) fun h' tk k => ⟨_, H, I.kept k, ?_, q⟩
  by_cases hj : j < i
  · rw [if_pos hj, if_pos hj]; exact ⟨_, rfl⟩
  · rw [if_neg hj, if_neg hj]; exact ⟨_, rfl⟩
theorem call_int1 : CallR X (.type "int") (fun xs H Q => (∃ i, xs = [.int i] ∧ Q (.int i) H) ∨ ∃ k, xs = [.bl k] ∧ Q (.int (if k then 1 else 0)) H) := by
  intro pins s σ H xs us Q I r h
  rcases h with ⟨i, rfl, q⟩ | ⟨k, rfl, q⟩
  · obtain ⟨u, rfl, t, rfl⟩ := vals1 r
    exact call_int_int ⟨.int i, H, I, ⟨_, rfl⟩, q⟩
  · obtain ⟨u, rfl, r1⟩ := vals1 r
    cases r1
    exact call_int_bool ⟨.int (if k then 1 else 0), H, I.tok _, ⟨_, rfl⟩, q⟩
end
end L2

namespace L2
open PySem PySem.Spec PyProof.Rows

/-! ### an instance, its attributes a map -/
structure ObjM (h : Heap) (x dx C : Addr) (mA : Str → Option Value) : Prop where
  obj : h.get? x = some (PySem.W.instObj C dx)
  ns : h.Ns1 dx mA
  ne : dx ≠ x

theorem lookIn_ns {h : Heap} {dx : Addr} {mA : Str → Option Value} (n : h.Ns1 dx mA) : ∃ od, h.get? dx = some od ∧ ∀ name, PySem.W.lookIn name od = some (mA name) := by
  obtain ⟨o, es, ep, ho, hd, hk, _, hm⟩ := n
  refine ⟨o, ho, fun name => ?_⟩
  have e := hm name
  unfold nsFind findBy at e
  rw [← Array.find?_toList] at e
  unfold PySem.W.lookIn
  rw [hd]
  dsimp only
  split
  · rename_i y q
    rw [q] at e
    exact congrArg some e
  · rename_i q
    rw [q] at e
    have a : es.toList.any (·.refKey) = false := by
      rw [List.any_eq_false]
      intro y hy
      obtain ⟨z, t, hkey⟩ := hk y (Array.mem_toList_iff.mp hy)
      simp [DictEntry.refKey, hkey]
    have a' : ¬ es.toList.any (·.refKey) = true := by rw [a]; exact Bool.false_ne_true
    rw [if_neg a']
    exact congrArg some e

theorem ObjM.look {h : Heap} {x dx C : Addr} {mA : Str → Option Value} (I : ObjM h x dx C mA) : ∃ od, PySem.W.InstAt h x (PySem.W.instObj C dx) C (some od) ∧ ∀ name, PySem.W.lookIn name od = some (mA name) :=
  let ⟨od, ho, hl⟩ := lookIn_ns I.ns
  ⟨od, ⟨I.obj, rfl, rfl, ho⟩, hl⟩

section
variable {prog : Program} {w : World} {A : Around} {E : Value → Shared → Prop} {s : Shared} {K : PySem.W.Frag} {x dx C f : Addr} {mA : Str → Option Value} {name : Str} {v : Value}

end

/-! ### the attributes as a list of pairs -/
section
variable {P : Program} {w : World} {H H' : Hp} {h h' : Heap} {a C dx : Addr} {fs fs' : List (Str × V)}
theorem ins_get (hok : HOk P w H h) (e : H a = some (.ins C dx fs)) : ∃ mA, ObjM h a dx C mA ∧ (∀ f, RelO (fs.lookup f) (mA f)) ∧ PySem.Within mA (fs.map (·.1)) ∧ fs.length ≤ 1000 ∧ H dx = some (.own a) := by
  obtain ⟨d, z, ne, ob, mA, n, r, q⟩ := (show ObjOk P w H h a (.ins C dx fs) from hok a _ e)
  exact ⟨mA, ⟨ob, n, ne⟩, r, q, z, d⟩
end

/-! ### what of the text a class must have -/
structure Cls (K : PySem.W.Frag) (C : Addr) : Prop where
  pg : PySem.W.plainGet K C Str.empty = true
  hd : PySem.W.hasDictIn K C = true
  po : PySem.W.plainOver K C = true
  sa : PySem.W.findIn K (.ref C) "__setattr__" = some (some (.builtin "object.__setattr__"))
theorem Cls.get {K : PySem.W.Frag} {C : Addr} (c : Cls K C) (f : Str) : PySem.W.plainGet K C f = true := c.pg
section
variable {X : Cx} {pins : List (Addr × Obj)} {σ : St} {H : Hp} {s : Shared} {a C dx : Addr} {fs : List (Str × V)} {f : Str} {v : V} {A : Around} {E : Value → Shared → Prop}

end

/-! ### readings and rules -/
section
variable {X : Cx} {o e value : Expr} {f : Str} {pos pos' tpos : Pos} {ta tv : TE}
end

/-! ### isinstance -/
section
variable {X : Cx} {pins : List (Addr × Obj)} {σ : St} {H : Hp} {s : Shared} {A : Around} {E : Value → Shared → Prop} {Q : Value → Shared → Prop} {c : Value} {b : Bool}
/-- the type of a value, as the fragment's deciders take it; for an instance its class -/
inductive TyOf (K : PySem.W.Frag) (H : Hp) : V → Value → Prop where
  | non : TyOf K H .non (.type "NoneType")
  | bl (x : Bool) : TyOf K H (.bl x) (.type "bool")
  | int (i : Int) : TyOf K H (.int i) (.type "int")
  | str (x : Str) : TyOf K H (.str x) (.type "str")
  | flt (x : UInt64) : TyOf K H (.flt x) (.type "float")
  | lst {a : Addr} {xs : List V} (e : H a = some (.lst xs)) : TyOf K H (.ref a) (.type "list")
  | frz {a : Addr} {o : Obj} {xs : List V} (e : H a = some (.frz o (.lst xs))) : TyOf K H (.ref a) (.type "list")
  | tup {a : Addr} {xs : List V} (e : H a = some (.tup xs)) : TyOf K H (.ref a) (.type "tuple")
  | dK {a : Addr} {kvs : List (Key × V)} (e : H a = some (.dK kvs)) : TyOf K H (.ref a) (.type "dict")
  | dT {a : Addr} {kvs : List (List Key × V)} (e : H a = some (.dT kvs)) : TyOf K H (.ref a) (.type "dict")
  | ins {a C dx : Addr} {fs : List (Str × V)} (e : H a = some (.ins C dx fs)) (cl : Cls K C) (ha : PySem.W.findIn K (.ref C) "__class__" = some (some (.builtin "object.__class__")))
      (hn : PySem.W.specialIn K (.builtin "object.__class__") "__get__" = some (some (.builtin "getset_descriptor.__get__"))) (htk : PySem.W.takesIn K (.builtin "object.__class__") = some true)
      (hm : PySem.W.mroIn K C (.type "object") = some true) : TyOf K H (.ref a) (.ref C)
/-- isinstance(x, c) for one class c, a built-in or an own one: kitOne's answer -/
theorem isinst_ok {x : V} {u t : Value} (I : Inv X pins σ H s) (rx : RelV x u) (ty : TyOf X.K H x t) (e : PySem.W.kitOne X.K t c = some b) (h : ∀ tk, Q (.bool b) { s with toks := tk }) :
    wpAny (model X.prog X.w) A (call (.builtin "isinstance") [u, c]) Q E s := by
  cases ty with
  | non => cases (show u = Value.none from rx); exact PySem.W.kia_one PySem.W.kitx_none I.kIn True.intro e (fun z => nomatch z) h
  | bl y => cases (show u = Value.bool y from rx); exact PySem.W.kia_one PySem.W.kitx_bool I.kIn True.intro e (fun z => nomatch z) h
  | int i => obtain ⟨t, q⟩ := (show ∃ t, u = Value.int i t from rx); cases q; exact PySem.W.kia_one PySem.W.kitx_int I.kIn True.intro e (fun z => nomatch z) h
  | str y => obtain ⟨t, q⟩ := (show ∃ t, u = Value.str y t from rx); cases q; exact PySem.W.kia_one PySem.W.kitx_str I.kIn True.intro e (fun z => nomatch z) h
  | flt y => obtain ⟨t, q⟩ := (show ∃ t, u = Value.float y t from rx); cases q; exact PySem.W.kia_one PySem.W.kitx_float I.kIn True.intro e (fun z => nomatch z) h
  | @lst a xs ea =>
    cases (show u = Value.ref a from rx)
    obtain ⟨_, _, n, _, h1⟩ := (show ObjOk X.prog X.w H s.heap a (.lst xs) from I.hok a _ ea)
    exact PySem.W.kia_one PySem.W.kitx_list I.kIn ⟨_, h1, rfl⟩ e (fun z => nomatch z) h
  | @frz a ob xs ea =>
    cases (show u = Value.ref a from rx)
    obtain ⟨_, _, _, n, _, h1⟩ := (show ObjOk X.prog X.w H s.heap a (.frz ob (.lst xs)) from I.hok a _ ea)
    exact PySem.W.kia_one PySem.W.kitx_list I.kIn ⟨_, h1, rfl⟩ e (fun z => nomatch z) h
  | @tup a xs ea =>
    cases (show u = Value.ref a from rx)
    obtain ⟨_, _, _, p⟩ := (show ObjOk X.prog X.w H s.heap a (.tup xs) from I.hok a _ ea)
    obtain ⟨o, h1, h2, _⟩ := p
    exact PySem.W.kia_one PySem.W.kitx_tuple I.kIn ⟨o, h1, h2⟩ e (fun z => nomatch z) h
  | @dK a kvs ea =>
    cases (show u = Value.ref a from rx)
    obtain ⟨_, _, vs, _, p⟩ := (show ObjOk X.prog X.w H s.heap a (.dK kvs) from I.hok a _ ea)
    obtain ⟨o, es, ep, h1, h2, _⟩ := p
    exact PySem.W.kia_one PySem.W.kitx_dict I.kIn ⟨o, h1, h2.1⟩ e (fun z => nomatch z) h
  | @dT a kvs ea =>
    cases (show u = Value.ref a from rx)
    obtain ⟨_, _, xs, _, o, es, ep, h1, h2, _⟩ := (show ObjOk X.prog X.w H s.heap a (.dT kvs) from I.hok a _ ea)
    exact PySem.W.kia_one PySem.W.kitx_dict I.kIn ⟨o, h1, h2.1⟩ e (fun z => nomatch z) h
  | @ins a C dx fs ea cl ha hn htk hm =>
    cases (show u = Value.ref a from rx)
    obtain ⟨mA, O, _⟩ := ins_get I.hok ea
    obtain ⟨od, J, _⟩ := O.look
    exact PySem.W.kia_one (PySem.W.kitx_own (cl.get _) cl.hd ha hn htk hm) I.kIn J e (fun z => nomatch z) h
end
end L2

namespace L2
open PySem PySem.Spec PyProof.Rows

/-! ### room -/
structure Room (k : Nat) (A : Around) : Prop where
  hd : A.handled = none
  dp : A.depth + 3 * k + 5 < recursionLimit
  un : A.units + 16 * k + 200 < cLine
theorem Room.mono {j k : Nat} {A : Around} (r : Room k A) (h : j ≤ k) : Room j A := ⟨r.hd, by have := r.dp; omega, by have := r.un; omega⟩
theorem Room.deeper {k : Nat} {A : Around} (r : Room (k + 1) A) (env : Env) : Room k (A.deeper env) :=
  ⟨r.hd, by have := r.dp; show A.depth + 1 + 3 * k + 5 < _; omega, by have := r.un; show A.units + 3 + 16 * k + 200 < _; omega⟩
theorem Room.depth {k : Nat} {A : Around} (r : Room k A) : A.depth < recursionLimit := by have := r.dp; omega
theorem Room.units {k : Nat} {A : Around} (r : Room k A) : A.units + 64 < cLine := by have := r.un; omega
/-! ### argument lists and displays -/
def tNil : TA := fun _ H Q => Q [] H
def tCons (ta : TE) (tr : TA) : TA := fun σ H Q => ta σ H fun x H1 => tr σ H1 fun xs H2 => Q (x :: xs) H2
section
variable {X : Cx} {e : Expr} {es : List Expr} {te : TE} {t : TA} {pos : Pos}
theorem pa_nil : PA X [] tNil := fun _ _ _ _ H Q I h => Calls.spliced_nil ⟨[], H, I, .nil, h⟩
theorem pa_cons (ha : PE X e te) (hr : PA X es t) (hs : starEach (e :: es) X.env = (false, eval e X.env) :: starEach es X.env := by rfl) : PA X (e :: es) (tCons te t) := by
  intro pos pins s σ H Q I h
  rw [hs]
  show wpAny _ _ (spliced ((false, eval e X.env) :: backTo pos (starEach es X.env))) _ _ s
  refine Calls.spliced_cons (thn (ha pins s σ H _ I h) fun u s1 ⟨x, H1, I1, r1, q1⟩ => ?_)
  exact thn (hr pos pins s1 σ H1 _ I1 q1) fun us s2 ⟨xs, H2, I2, r2, q2⟩ => ⟨x :: xs, H2, I2, .cons r1 r2, q2⟩

/-- a tuple, a list of written items -/
def tTup (t : TA) : TE := fun σ H Q => t σ H fun xs H1 => xs.length ≤ sizeLine ∧ ∀ p, H1 p = none → Q (.ref p) (upd H1 p (.tup xs))
def tLst (t : TA) : TE := fun σ H Q => t σ H fun xs H1 => xs.length ≤ sizeLine ∧ ∀ p, H1 p = none → Q (.ref p) (upd H1 p (.lst xs))
theorem pe_tup {x1} (h : PA X es t) : PE X (.Tuple es x1 pos) (tTup t) := by
  intro pins s σ H Q I hq
  refine wpAny_Tuple_spliced (thn (h pos pins s σ H _ I hq) fun us s1 ⟨xs, H1, I1, r, z, q⟩ => ⟨by rw [← r.length]; exact z, ?_⟩)
  have hf : H1 s1.heap.objs.size = none := I1.hok.fresh (Nat.le_refl _)
  refine ⟨.ref s1.heap.objs.size, upd H1 s1.heap.objs.size (.tup xs), I1.laid (t' := s1.toks) (fun b u e => Heap.get?_push_of_some _ e) (Nat.le_refl _) ?_, rfl, q _ hf⟩
  exact ⟨z, us, r, ⟨_, Heap.get?_push_size _ rfl, rfl, _, rfl⟩⟩
theorem pe_lst (h : PA X es t) : PE X (.List es pos) (tLst t) := by
  intro pins s σ H Q I hq
  refine wpAny_List_spliced (thn (h pos pins s σ H _ I hq) fun us s1 ⟨xs, H1, I1, r, z, q⟩ => ⟨by rw [← r.length]; exact z, ?_⟩)
  have hf : H1 s1.heap.objs.size = none := I1.hok.fresh (Nat.le_refl _)
  refine ⟨.ref s1.heap.objs.size, upd H1 s1.heap.objs.size (.lst xs), I1.laid (t' := s1.toks) (fun b u e => Heap.get?_push_of_some _ e) (Nat.le_refl _) ?_, rfl, q _ hf⟩
  exact ⟨z, us, 0, r, Heap.get?_push_size _ rfl⟩
end

/-! ### what a def promises -/
/-- a def's promise: the bound arguments in the parameters' order, the heap, the wanted end, the wanted exception -/
abbrev Sp := List V → Hp → VK → XK → Prop
/-- how an exception lies behind a call (file 08 gives it): the callers' frames, abstract heap and state ahead of the call, the wish, the exception, the state -/
abbrev CXT := List Env → Hp → Shared → XK → Value → Shared → Prop

/-- the state at a call -/
structure Env0 (P : Program) (w : World) (K : PySem.W.Frag) (mg : Str → Option Value) (base : Heap) (A : Around) (outer : List Env) (s : Shared) (H : Hp) : Prop where
  frames : A.frames = some outer
  mod : Mod K mg base
  bs : ∀ b o, base.get? b = some o → s.heap.get? b = some o ∧ H b = none
  bsz : base.objs.size ≤ s.heap.objs.size
  funs : s.heap.FunFrames base outer
  frf : ∀ b ∈ frs outer, H b = none
  hok : HOk P w H s.heap
  bare : AllBare s.gens
/-- a call's end -/
def CE (outer : List Env) (P : Program) (w : World) (H : Hp) (s : Shared) (Q : VK) (u : Value) (s' : Shared) : Prop :=
  ∃ v H', s'.os = s.os ∧ AllBare s'.gens ∧ Un (frs outer) [] H H' s.heap s'.heap ∧ HOk P w H' s'.heap ∧ RelV v u ∧ Q v H'
def CR (CX : CXT) (outer : List Env) (P : Program) (w : World) (H : Hp) (s : Shared) (Q : VK) (E : XK) (r : Result) (s' : Shared) : Prop :=
  match r with
  | .ok (.ret u) => CE outer P w H s Q u s'
  | .ok _ => False
  | .error e => CX outer H s E e s'
structure FnOk (P : Program) (w : World) (K : PySem.W.Frag) (mg : Str → Option Value) (base : Heap) (CX : CXT) (k : Nat) (f : Addr) (fd : FuncData) (ps : List Str) (sp : Sp) : Prop where
  len : ∀ vs H Q E, sp vs H Q E → vs.length = ps.length
  run : ∀ (A : Around) (outer : List Env) (s : Shared) (H : Hp) (args : Args) (us : List Value) (vs : List V) (Q : VK) (E : XK), Room k A → Env0 P w K mg base A outer s H → BindsTo s fd args (ps.zip us) → Vals vs us → sp vs H Q E →
    codeAny (model P w) A (.call (.ref f) args) (CR CX outer P w H s Q E) s
section
variable {X : Cx} {pins : List (Addr × Obj)} {σ : St} {H : Hp} {s s' : Shared}
/-- from a body: what a callee wants -/
theorem Inv.env0 (I : Inv X pins σ H s) : Env0 X.prog X.w X.K X.mg X.base X.A X.stack s H :=
  ⟨I.ok.frames, I.ok.mod, I.bs, Nat.le_trans I.ok.bsz I.sz, I.stack, I.stkFree, I.hok, I.bare⟩
/-- behind a call -/
theorem Inv.after {Q : VK} {u : Value} (I : Inv X pins σ H s) (h : CE X.stack X.prog X.w H s Q u s') : EP X pins σ Q u s' := by
  obtain ⟨v, H', os, bare, un, hok, r, q⟩ := h
  obtain ⟨hh, g, d, t, os'⟩ := s'
  obtain rfl : os' = s.os := os
  exact ⟨v, H', I.call (h' := hh) (g' := g) (d' := d) (t' := t) (ch := []) un hok bare (fun b z => absurd z (by simp)), r, q⟩
end

/-! ### calls -/
/-- f(..): the written arguments, then the defaults dvs; E: what is wanted of an exception -/
def tCall (sp : Sp) (dvs : List V) (E : XK) (t : TA) : TE := fun σ H Q => t σ H fun vs H1 => sp (vs ++ dvs) H1 Q E
/-- how the parameters are bound: us the positional arguments, kw the keywords' values by name, ds the defaults that fill up -/
def Binds (K : PySem.W.Frag) (fd : FuncData) (ps : List Str) (ds : List Value) : Prop :=
  ∀ (s : Shared) (us : List Value), K.In s.heap → (us ++ ds).length = ps.length → BindsTo s fd ⟨us, []⟩ (ps.zip (us ++ ds))
/-- every parameter is given -/
theorem Binds.all {K : PySem.W.Frag} {fd : FuncData} {ps : List Str} (h : ∀ us : List Value, us.length = ps.length → bindArgs fd ⟨us, []⟩ = pure (ps.zip us)) : Binds K fd ps [] := fun s us _ hl => by
  rw [List.append_nil] at hl ⊢
  exact .of_eq (h us hl)

/-- an exception of a callee reaches what this body wants of exceptions -/
def Passes (CX : CXT) (X : Cx) (E : XK) : Prop := ∀ (pins : List (Addr × Obj)) (σ : St) (H : Hp) (s : Shared) (e : Value) (s' : Shared), Inv X pins σ H s → CX X.stack H s E e s' → X.xe e s'

section
variable {X : Cx} {CX : CXT} {k : Nat} {f C : Addr} {fd : FuncData} {ps : List Str} {sp : Sp} {dvs : List V} {ds : List Value} {E : XK} {x m : Str} {p pos apos : Pos} {e o : Expr} {es : List Expr} {ta : TE} {t : TA}

/-- the callee runs -/
theorem run_fn {pins : List (Addr × Obj)} {σ : St} {H : Hp} {s : Shared} {Q : VK} {us : List Value} {vs : List V} (F : FnOk X.prog X.w X.K X.mg X.base CX k f fd ps sp) (hr : Room k X.A) (hb : Binds X.K fd ps ds) (hd : Vals dvs ds) (hx : Passes CX X E)
    (I : Inv X pins σ H s) (r : Vals vs us) (h : sp (vs ++ dvs) H Q E) : wpAny (model X.prog X.w) X.A (call (.ref f) us) (EP X pins σ Q) X.xe s := by
  have r2 : Vals (vs ++ dvs) (us ++ ds) := r.append hd
  have hl : (us ++ ds).length = ps.length := by rw [← r2.length]; exact F.len _ _ _ _ h
  refine wpAny_call (codeAny_mono (F.run X.A X.stack s H ⟨us, []⟩ (us ++ ds) (vs ++ dvs) Q E hr I.env0 (hb s us I.kIn hl) r2 h) fun r s' hq => ?_)
  cases r with
  | error e => exact hx pins σ H s e s' I hq
  | ok fl =>
    cases fl with
    | ret u => exact I.after hq
    | next => exact False.elim hq
    | brk => exact False.elim hq
    | cont => exact False.elim hq

theorem pe_call (F : FnOk X.prog X.w X.K X.mg X.base CX k f fd ps sp) (hr : Room k X.A) (hg : Gl X x) (hm : X.mg x = some (.ref f)) (hk : PySem.W.keepIn X.K (.ref f) = true) (hb : Binds X.K fd ps ds) (hd : Vals dvs ds) (hx : Passes CX X E)
    (ha : PA X (e :: es) t) (hdb : (x == ("__debug__" : Str)) = false := by decide) (he : starEach (e :: es) X.env = (false, eval e X.env) :: starEach es X.env := by rfl) (hpl : (backTo pos (starEach es X.env)).any (·.1) = false := by rfl) :
    PE X (.Call (.Name x p) (e :: es) [] pos) (tCall sp dvs E t) := by
  intro pins s σ H Q I h
  refine wpAny_Call_Name_kw (ld_glob I hg hm ?_ hdb)
  refine PySem.W.callWith_K (h₀ := X.base) I.ok.mod.kin hk (thn (ha pos pins s σ H _ I h) fun us s1 ⟨vs, H1, I1, r, q⟩ => ⟨I1.kIn, ?_⟩) he hpl
  exact run_fn F hr hb hd hx I1 r q
end

/-! ### keywords -/
section
variable {X : Cx} {CX : CXT} {k : Nat} {f C : Addr} {fd : FuncData} {ps ks : List Str} {sp : Sp} {E : XK} {x m : Str} {p pos apos kpos : Pos} {e o : Expr} {es : List Expr} {kws : List Keyword} {te ta : TE} {t tk : TA} {nm : Option Str}
variable {g : List Value → List Value → List Value} {gV : List V → List V → List V}
end

/-! ### a def's body keeps its promise -/
/-- names: the parameters first -/
structure FnScope (N P : List Str) (sc : Scope) : Prop where
  kind : sc.kind = .function
  co : sc.isCoroutine = false
  gen : sc.isGenerator = false
  nd : N.Nodup
  pre : N.take P.length = P
  par : ∀ x ∈ P, sc.names.lookup x = some .local ∨ sc.names.lookup x = some .cell
  nofree : ∀ y ∈ sc.names, y.2 ≠ .free

theorem bindL_out {kindOf : Str → Option NameKind} {x : Str} : ∀ {binds : List (Str × Value)} {m : Str → Option Value}, (∀ v, (x, v) ∉ binds) → bindL kindOf binds m x = m x
  | [], _, _ => rfl
  | (n, v) :: r, m, h => by
    unfold bindL
    rw [bindL_out fun w hw => h w (List.mem_cons_of_mem _ hw)]
    split
    · have : x ≠ n := by rintro rfl; exact h v List.mem_cons_self
      simp [this]
    · rfl
theorem bindC_out {kindOf : Str → Option NameKind} {x : Str} : ∀ {binds : List (Str × Value)} {m : Str → Option Value}, (∀ v, (x, v) ∉ binds) → bindC kindOf binds m x = m x
  | [], _, _ => rfl
  | (n, v) :: r, m, h => by
    unfold bindC
    rw [bindC_out fun w hw => h w (List.mem_cons_of_mem _ hw)]
    split
    · rfl
    · have : x ≠ n := by rintro rfl; exact h v List.mem_cons_self
      simp [this]
theorem bindL_get {kindOf : Str → Option NameKind} {x : Str} {v : Value} : ∀ {P : List Str} {vs : List Value} {i : Nat} {m : Str → Option Value}, P.Nodup → P[i]? = some x → vs[i]? = some v → kindOf x = some .local →
    bindL kindOf (P.zip vs) m x = some v
  | [], _, _, _, _, h, _, _ => by simp at h
  | _ :: _, [], _, _, _, _, h, _ => by simp at h
  | p :: P, w :: vs, 0, m, nd, h1, h2, hk => by
    simp at h1 h2; subst h1; subst h2
    show bindL kindOf ((p, w) :: P.zip vs) m p = _
    unfold bindL
    rw [bindL_out fun v hv => (List.nodup_cons.mp nd).1 (List.of_mem_zip hv).1, if_pos hk]
    simp
  | p :: P, w :: vs, i + 1, m, nd, h1, h2, hk => by
    show bindL kindOf ((p, w) :: P.zip vs) m x = _
    unfold bindL
    exact bindL_get (i := i) (List.nodup_cons.mp nd).2 (by simpa using h1) (by simpa using h2) hk
theorem bindC_get {kindOf : Str → Option NameKind} {x : Str} {v : Value} : ∀ {P : List Str} {vs : List Value} {i : Nat} {m : Str → Option Value}, P.Nodup → P[i]? = some x → vs[i]? = some v → kindOf x ≠ some .local →
    bindC kindOf (P.zip vs) m x = some v
  | [], _, _, _, _, h, _, _ => by simp at h
  | _ :: _, [], _, _, _, _, h, _ => by simp at h
  | p :: P, w :: vs, 0, m, nd, h1, h2, hk => by
    simp at h1 h2; subst h1; subst h2
    show bindC kindOf ((p, w) :: P.zip vs) m p = _
    unfold bindC
    rw [bindC_out fun v hv => (List.nodup_cons.mp nd).1 (List.of_mem_zip hv).1, if_neg hk]
    simp
  | p :: P, w :: vs, i + 1, m, nd, h1, h2, hk => by
    show bindC kindOf ((p, w) :: P.zip vs) m x = _
    unfold bindC
    exact bindC_get (i := i) (List.nodup_cons.mp nd).2 (by simpa using h1) (by simpa using h2) hk

/-- the names' values at the entry -/
def start (N : List Str) (vs : List V) : St := vs.map some ++ List.replicate (N.length - vs.length) none

/-- the context of a def's body, at its entry; an exception leaves the frame, then lies as CX says -/
def cxOf (CX : CXT) (P : Program) (w : World) (K : PySem.W.Frag) (mg : Str → Option Value) (base : Heap) (N : List Str) (qual : Str) (scope : Scope) (f : Addr) (cd : Value) (A : Around) (outer : List Env) (s : Shared) (H : Hp) (E : XK) : Cx where
  prog := P
  w := w
  K := K
  mg := mg
  base := base
  A := A.deeper (envOfC qual scope s.heap.objs.size f cd)
  N := N
  s₀ := s
  H₀ := H
  env := envOfC qual scope s.heap.objs.size f cd
  outer := outer
  stack := envOfC qual scope s.heap.objs.size f cd :: outer
  ex := []
  calm := true
  fn := fun _ => true
  pn := []
  xe := fun e s' => wpAny (model P w) (A.deeper (envOfC qual scope s.heap.objs.size f cd)) (leaving (envOfC qual scope s.heap.objs.size f cd) e) (fun _ s'' => CX outer H s E e s'') (fun e' s'' => CX outer H s E e' s'') s'

theorem cell_has {sc : Scope} {n : Nat} {x : Str} (h : sc.names.lookup x = some .cell) : ∃ c, (cellsFrom n sc.names []).lookup x = some c := by
  have q := PySem.W.cellsFrom_some sc.names n [] (.inl h)
  exact Option.isSome_iff_exists.mp q

theorem inv_start {CX : CXT} {P : Program} {w : World} {K : PySem.W.Frag} {mg : Str → Option Value} {base : Heap} {N ps : List Str} {qual : Str} {scope : Scope} {f : Addr} {cd : Value} {A : Around} {outer : List Env} {s s1 : Shared} {H : Hp} {E : XK} {us : List Value} {vs : List V}
    (S : FnScope N ps scope) (hd : A.handled = none) (e0 : Env0 P w K mg base A outer s H) (hl : vs.length = ps.length) (r : Vals vs us)
    (x : InCallC s s.heap.objs.size (bindL (envOfC qual scope s.heap.objs.size f cd).kindOf (ps.zip us) fun _ => none) (cellsFrom (s.heap.objs.size + 1) scope.names []) (bindC (envOfC qual scope s.heap.objs.size f cd).kindOf (ps.zip us) fun _ => none) s1) :
    Inv (cxOf CX P w K mg base N qual scope f cd A outer s H E) [] (start N vs) H s1 := by
  have hpl : ps.length ≤ N.length := by have := congrArg List.length S.pre; rw [List.length_take] at this; omega
  obtain ⟨h1, tk, rfl, hk⟩ := x.done
  have noA : ∀ b : Addr, b ∉ (cxOf CX P w K mg base N qual scope f cd A outer s H E).ex := fun b z => absurd (show b ∈ ([] : List Addr) from z) (by simp)
  refine ⟨⟨e0.mod, S.kind, rfl, rfl, Nat.le_refl _, fun y z c h1 h2 => ?_, fun y hy => ?_, fun y c _ h => ?_, fun _ => hd, Around.frames_deeper e0.frames, .inr ⟨rfl, rfl⟩, fun b z => absurd z (noA b), e0.bs, e0.bsz, fun b _ _ => noA b, fun b z => absurd z (noA b), e0.funs, e0.frf⟩,
    rfl, e0.bare, Un.kept hk, ⟨_, x.toInCall.ns, fun i y v h1 h2 h3 => ?_⟩, fun y c h => ⟨_, x.cell y c h⟩, e0.hok.fresh (Nat.le_refl _), fun y c h => ?_, fun p hp => absurd (show p ∈ ([] : List (Addr × Obj)) from hp) (by simp), e0.hok.kept hk, ?_⟩
  · exact name_of_addr x.apart (PySem.mem_of_lookup h1) (PySem.mem_of_lookup h2)
  · have hy : scope.names.lookup y = some .cell ∨ scope.names.lookup y = some .free := hy
    rcases hy with hy | hy
    · exact cell_has hy
    · exact absurd rfl (S.nofree _ (PySem.mem_of_lookup hy))
  · exact Nat.le_of_lt (x.above y c (PySem.mem_of_lookup h))
  · have hi : i < vs.length := by
      unfold start at h2
      by_cases hi : i < vs.length
      · exact hi
      · rw [List.getElem?_append_right (by simpa using hi)] at h2
        rw [List.getElem?_replicate] at h2
        split at h2 <;> cases h2
    have ha : vs[i]? = some v := by
      unfold start at h2
      rw [List.getElem?_append_left (by simpa using hi), List.getElem?_map] at h2
      cases e : vs[i]? with
      | none => rw [e] at h2; cases h2
      | some a => rw [e] at h2; cases h2; rfl
    obtain ⟨u, hu, rv⟩ := r.get ha
    have hp : ps[i]? = some y := by
      rw [← S.pre, List.getElem?_take_of_lt (by omega)]; exact h1
    have ndP : ps.Nodup := by rw [← S.pre]; exact S.nd.sublist (List.take_sublist _ _)
    refine ⟨u, rv, ?_⟩
    rcases S.par y (List.mem_of_getElem? hp) with k | k
    · exact .inl ⟨k, bindL_get ndP hp hu k⟩
    · obtain ⟨c, e⟩ := cell_has (n := s.heap.objs.size + 1) k
      refine .inr ⟨.inl k, c, e, ?_⟩
      have q := x.cell y c e
      rw [bindC_get ndP hp hu (by show scope.names.lookup y ≠ _; rw [k]; decide)] at q
      exact q
  · exact e0.hok.fresh (Nat.le_of_lt (x.above y c (PySem.mem_of_lookup h)))
  · unfold start
    show _ = N.length
    rw [List.length_append, List.length_map, List.length_replicate]
    omega

/-- THE RULE: a def (or a method) of the text, by its body. The body's reading t is chosen for each entry; it is run at the parameters' values -/
theorem fn_of {CX : CXT} {P : Program} {w : World} {K : PySem.W.Frag} {mg : Str → Option Value} {base : Heap} {k : Nat} {f : Addr} {name qual : Str} {params : Arguments} {body : List Stmt} {scope : Scope} {dV kV doc pm cdv ct oc : Value} {an od : Option Addr}
    {osl : Array (Option Value)} {N ps : List Str} {sp : Sp} (lk : K.lookup f = some ⟨oc, od, .func (PySem.W.fnOf name qual params body scope dV kV doc pm an cdv ct), osl⟩) (hcd : PySem.W.codeIn K cdv qual = true) (S : FnScope N ps scope)
    (len : ∀ vs H Q E, sp vs H Q E → vs.length = ps.length)
    (hbody : ∀ (A : Around) (outer : List Env) (s : Shared) (H : Hp) (vs : List V) (Q : VK) (E : XK), Room k (A.deeper (envOfC qual scope s.heap.objs.size f cdv)) → sp vs H Q E →
      ∃ t, PSs (cxOf CX P w K mg base N qual scope f cdv A outer s H E) body t ∧ t { nx := fun _ H' => Q .non H', rt := Q } (start N vs) H) :
    FnOk P w K mg base CX (k + 1) f (PySem.W.fnOf name qual params body scope dV kV doc pm an cdv ct) ps sp := by
  refine ⟨len, fun A outer s H args us vs Q E hr e0 hb r hsp => ?_⟩
  have hl := len _ _ _ _ hsp
  have KX : K.In s.heap := e0.mod.kin.keeps fun b o e => (e0.bs b o e).1
  have lim : s.heap.NoLimit := e0.mod.nolimit.keeps fun b o e => (e0.bs b o e).1
  have hkind : ∀ y ∈ ps.zip us, scope.names.lookup y.1 = some .local ∨ (scope.names.lookup y.1 = some .cell ∧ ((cellsFrom (s.heap.objs.size + 1) scope.names []).lookup y.1).isSome = true) := fun ⟨n, v⟩ hy => by
    rcases S.par n (List.of_mem_zip hy).1 with q | q
    · exact .inl q
    · exact .inr ⟨q, PySem.W.cellsFrom_some _ _ _ (.inl q)⟩
  refine codeAny_call_function hr.depth (KX _ _ lk) rfl S.co S.gen rfl (PySem.W.codeRec_of KX hcd) (hb _ _ _ _ ?_)
  refine wpAny_newFunctionEnv_cells S.kind hkind fun env he s1 x => ?_
  subst he
  refine ⟨lim.keeps x.toInCall.keep, codeAny_func ?_⟩
  obtain ⟨t, ht, hq⟩ := hbody A outer s H vs Q E (hr.deeper _) hsp
  have I : Inv (cxOf CX P w K mg base N qual scope f cdv A outer s H E) [] (start N vs) H s1 := inv_start S hr.hd e0 hl r x
  refine wpAny_mono (ht [] s1 (start N vs) H _ I hq) (fun fl s' hs => ?_) fun e s' hs => hs
  have fin : ∀ {σ' : St} {H' : Hp} {v : V} {u : Value}, Inv (cxOf CX P w K mg base N qual scope f cdv A outer s H E) [] σ' H' s' → RelV v u → Q v H' → CE outer P w H s Q u s' :=
    fun {σ' H' v u} J rv q => ⟨v, H', J.os, J.bare, J.base, J.hok, rv, q⟩
  cases fl with
  | ret u =>
    obtain ⟨v, σ', H', J, rv, q⟩ := hs
    exact fin J rv q
  | next =>
    obtain ⟨σ', H', J, q⟩ := hs
    exact fin (v := V.non) (u := Value.none) J rfl q
  | brk =>
    obtain ⟨_, _, _, q⟩ := hs
    exact False.elim q
  | cont =>
    obtain ⟨_, _, _, q⟩ := hs
    exact False.elim q
end L2

namespace L2
open PySem PySem.Spec PyProof.Rows
section
variable {X : Cx} {x : Str} {p pos : Pos} {e : Expr} {es : List Expr} {t : TA} {id T : String} {r : List V → Hp → VK → Prop}

def tCB (r : List V → Hp → VK → Prop) (t : TA) : TE := fun σ H Q => t σ H fun vs H1 => r vs H1 Q
/-- f(e, ..), f a built-in function -/
theorem pe_callB (hc : CallR X (.builtin id) r) (hg : Gl X x) (hm : X.mg x = none) (hv : bootBuiltins x = some (.builtin id)) (ha : PA X (e :: es) t) (hn : x ≠ "__name__" := by decide) (hdb : (x == ("__debug__" : Str)) = false := by decide)
    (he : starEach (e :: es) X.env = (false, eval e X.env) :: starEach es X.env := by rfl) (hpl : (backTo pos (starEach es X.env)).any (·.1) = false := by rfl) : PE X (.Call (.Name x p) (e :: es) [] pos) (tCB r t) := by
  intro pins s σ H Q I h
  refine wpAny_Call_Name_kw (ld_blt I hg hm hv ?_ hn hdb)
  exact PyProof.Rows.callWith_builtin1 (thn (ha pos pins s σ H _ I h) fun us s1 ⟨vs, H1, I1, r1, q1⟩ => hc pins s1 σ H1 vs us Q I1 r1 q1) he hpl
/-- T(e, ..), T a built-in type -/
theorem pe_callTy (hc : CallR X (.type T) r) (hg : Gl X x) (hm : X.mg x = none) (hv : bootBuiltins x = some (.type T)) (ha : PA X (e :: es) t) (hn : x ≠ "__name__" := by decide) (hdb : (x == ("__debug__" : Str)) = false := by decide)
    (he : starEach (e :: es) X.env = (false, eval e X.env) :: starEach es X.env := by rfl) (hpl : (backTo pos (starEach es X.env)).any (·.1) = false := by rfl) : PE X (.Call (.Name x p) (e :: es) [] pos) (tCB r t) := by
  intro pins s σ H Q I h
  refine wpAny_Call_Name_kw (ld_blt I hg hm hv ?_ hn hdb)
  exact PyProof.Rows.callWith_type1 (thn (ha pos pins s σ H _ I h) fun us s1 ⟨vs, H1, I1, r1, q1⟩ => hc pins s1 σ H1 vs us Q I1 r1 q1) he hpl
end
end L2

namespace HT
open PySem PyProof.Rows

section
open PySem.SeqAt
open PySem.AutoSeq1 (wpAny_loadPart')
open PySem.MeetsSeq PySem.MeetsSeq2 PySem.MeetsSeq3

end

section
variable {prog : Program} {w : World} {A : Around} {E : Value → Shared → Prop} {s : Shared}

/-- t + u, t not empty -/
theorem cat_tup {t b : Addr} {vs ws : List Value} {Q : Value → Shared → Prop} (ht : IsTup s.heap t vs.toArray) (hb : IsTup s.heap b ws.toArray) (hv : vs ≠ [])
    (h1 : ws = [] → Q (.ref t) s) (h2 : ws ≠ [] → Q (.ref s.heap.objs.size) { s with heap := s.heap.push { cls := .type "tuple", data := .seq (vs ++ ws).toArray } })
    (hsz : vs.length + ws.length ≤ sizeLine) : wpAny (model prog w) A (binaryOp .Add (.ref t) (.ref b)) Q E s := by
  obtain ⟨⟨cls, dd, data, sl⟩, ho, hc, n, hd⟩ := id ht
  obtain ⟨⟨cls2, dd2, data2, sl2⟩, ho2, hc2, n2, hd2⟩ := id hb
  simp only at hc hd hc2 hd2
  subst hc hd hc2 hd2
  have e : vs.toArray ++ ws.toArray = (vs ++ ws).toArray := by simp
  by_cases hw : ws = []
  · exact concat_meets ⟨_, ho, rfl⟩ ⟨_, ho2, rfl⟩ noFill_tuple_add seq_tuple_add PySem.F.slot_tuple_add PySem.F.entry_tuple_add (PySem.F.args_tuple_add_2 _ _)
      (tuple_addW1 t b vs.toArray ws.toArray n n2 dd dd2 sl sl2 (by simpa using hv) (by simp [hw])) ⟨ho, ho2, h1 hw⟩
  · refine concat_meets ⟨_, ho, rfl⟩ ⟨_, ho2, rfl⟩ noFill_tuple_add seq_tuple_add PySem.F.slot_tuple_add PySem.F.entry_tuple_add (PySem.F.args_tuple_add_2 _ _)
      (tuple_addW2 t b vs.toArray ws.toArray n n2 dd dd2 sl sl2 (by simpa using hv) (by simpa using hw) (by rw [List.size_toArray, List.size_toArray]; exact hsz)) ⟨ho, ho2, ?_⟩
    rw [e]
    exact h2 hw

/-! ### t[a:b], not the whole -/
/-- a slice's bound as a place among n (d where it is left out) -/
def sIx (n d : Nat) : Option Int → Nat
  | none => d
  | some v => if v < 0 then (v + (n : Int)).toNat else min v.toNat n
theorem sIx_none (n d : Nat) : sIx n d none = d := rfl
theorem sIx_le (n d : Nat) (hd : d ≤ n) (o : Option Int) : sIx n d o ≤ n := by
  cases o with
  | none => exact hd
  | some v =>
    show (if v < 0 then (v + (n : Int)).toNat else min v.toNat n) ≤ n
    by_cases hv : v < 0
    · rw [if_pos hv]; omega
    · rw [if_neg hv]; exact Nat.min_le_right _ _
theorem clip_eq (v : Int) (n d : Nat) : (if v < 0 then max (v + (n : Int)) 0 else min v (n : Int)) = ((sIx n d (some v) : Nat) : Int) := by
  show (if v < 0 then max (v + (n : Int)) 0 else min v (n : Int)) = (((if v < 0 then (v + (n : Int)).toNat else min v.toNat n) : Nat) : Int)
  by_cases hv : v < 0
  · simp only [if_pos hv]; omega
  · simp only [if_neg hv]; omega
theorem adjust_gen (lo hi : Option Int) (n : Nat) : Builtin.Slice.sliceAdjust lo hi 1 (n : Int) = (((sIx n 0 lo : Nat) : Int), ((sIx n n hi : Nat) : Int)) := by
  have h1 : ¬ ((1 : Int) < 0) := by omega
  unfold Builtin.Slice.sliceAdjust
  simp only [h1, if_false]
  refine Prod.ext ?_ ?_
  · cases lo with
    | none => rfl
    | some v => exact clip_eq v n 0
  · cases hi with
    | none => rfl
    | some v => exact clip_eq v n n
theorem places_gen (i j : Nat) : Builtin.Slice.slicePlaces (i : Int) (j : Int) 1 = j - i := by
  unfold Builtin.Slice.slicePlaces
  have h1 : (1 : Int) > 0 := by omega
  simp only [h1, if_true, Int.ediv_one]
  split <;> omega
theorem slicePart_ {v : Value} {o : Option Int} {Q : Option Int → Shared → Prop} (p : IsPart v o) (h : Q o s) : wpAny (model prog w) A (Builtin.Slice.slicePartIndex v) Q E s := by
  cases p with
  | none => exact slicePart_none h
  | int i t => exact slicePart_int h
theorem sliceApplied_gen {sl : Addr} {vl vu : Value} {lo hi : Option Int} {n : Nat} {Q : Int × Int × Nat → Shared → Prop} (hs : s.heap.IsSliceOf sl vl vu .none) (pl : IsPart vl lo) (pu : IsPart vu hi)
    (h : Q (((sIx n 0 lo : Nat) : Int), 1, sIx n n hi - sIx n 0 lo) s) : wpAny (model prog w) A (Builtin.Slice.sliceApplied (.ref sl) (pure (n : Int))) Q E s := by
  obtain ⟨os, hos, hcs, hds⟩ := id hs
  unfold Builtin.Slice.sliceApplied Builtin.Slice.sliceFields
  refine wpAny_bind (wpAny_bind (wpAny_field hos hds (x := vl) rfl (wpAny_bind (wpAny_field hos hds (x := vu) rfl (wpAny_bind (wpAny_field hos hds (x := .none) rfl (wpAny_pure ?_)))))))
  refine wpAny_bind (slicePart_none ?_)
  show wpAny _ _ (if ((1 : Int) == 0) = true then _ else _) _ _ s
  rw [if_neg (by decide)]
  refine wpAny_bind (slicePart_ pl (wpAny_bind (slicePart_ pu (wpAny_bind (wpAny_pure ?_)))))
  show wpAny _ _ (match Builtin.Slice.sliceAdjust lo hi 1 (n : Int) with | (lo, hi) => pure (lo, (1 : Int), Builtin.Slice.slicePlaces lo hi 1)) _ _ s
  rw [adjust_gen lo hi n]
  show wpAny _ _ (pure (((sIx n 0 lo : Nat) : Int), (1 : Int), Builtin.Slice.slicePlaces ((sIx n 0 lo : Nat) : Int) ((sIx n n hi : Nat) : Int) 1)) _ _ s
  rw [places_gen]
  exact wpAny_pure h
theorem pick_gen (xs : Array Value) (i k : Nat) : ((List.range k).filterMap fun (m : Nat) => xs[((i : Int) + (m : Int) * 1).toNat]?).toArray = ((xs.toList.drop i).take k).toArray := by
  have e : (fun (m : Nat) => xs[((i : Int) + (m : Int) * 1).toNat]?) = fun m => xs[i + m]? := by
    funext m
    have : ((i : Int) + (m : Int) * 1).toNat = i + m := by omega
    rw [this]
  rw [e]
  have := pick_run xs i k
  rw [List.filterMap_map] at this
  have e2 : ((fun x => xs[x]?) ∘ fun x => i + x) = fun m => xs[i + m]? := rfl
  rw [e2] at this
  rw [this]

theorem getItem_tuple_cut {t sl : Addr} {items : Array Value} {vl vu : Value} {lo hi : Option Int} {Q : Value → Shared → Prop} (ht : IsTup s.heap t items) (hs : s.heap.IsSliceOf sl vl vu .none) (pl : IsPart vl lo) (pu : IsPart vu hi)
    (hw : ¬ (sIx items.size 0 lo = 0 ∧ sIx items.size items.size hi = items.size))
    (h : Q (.ref s.heap.objs.size) { s with heap := s.heap.push { cls := .type "tuple", data := .seq ((items.toList.drop (sIx items.size 0 lo)).take (sIx items.size items.size hi - sIx items.size 0 lo)).toArray } })
    (hsz : items.size ≤ sizeLine) : wpAny (model prog w) A (getItem (.ref t) (.ref sl)) Q E s := by
  have htake : sizeOk (.seq ((items.toList.drop (sIx items.size 0 lo)).take (sIx items.size items.size hi - sIx items.size 0 lo)).toArray) := by
    show ((items.toList.drop (sIx items.size 0 lo)).take (sIx items.size items.size hi - sIx items.size 0 lo)).toArray.size ≤ sizeLine
    rw [List.size_toArray, List.length_take, List.length_drop, Array.length_toList]
    omega
  have hj : sIx items.size items.size hi ≤ items.size := sIx_le _ _ (Nat.le_refl _) hi
  obtain ⟨os, hos, hcs, hds⟩ := id hs
  have hTs : s.TypeIs (.ref sl) "slice" := ⟨os, hos, hcs⟩
  unfold getItem
  try with_reducible refine wpAny_holding ?_
  first | refine wpAny_bind (wpAny_pure ?_) | skip
  refine wpAny_bind (wpAny_sequenceKey ht.typeIs (by decide) ?_)
  refine wpAny_bind (wpAny_callSpecial?_slot (name := Str.ofString "__getitem__") ht.typeIs PyProof.Rows.slot_tuple_getitem
    (wpAny_call_entry PyProof.Rows.slot_tuple_getitem ht.typeIs entry_tuple_getitem ?_ (args_tuple_getitem _ _)))
  show wpAny _ _ (Builtin.Tuple.tupleItemsOf (.ref t) >>= _) _ _ s
  refine wpAny_bind (tupleItemsOf_ ht ?_)
  refine wpAny_bind (wpAny_typeOf hTs ?_)
  rw [if_pos (by decide)]
  refine wpAny_bind (sliceApplied_gen hs pl pu ?_)
  have hno : ¬ ((((sIx items.size 0 lo : Nat) : Int) == 0 && (1 : Int) == 1 && (sIx items.size items.size hi - sIx items.size 0 lo) == items.size) = true) := by
    intro q
    rw [Bool.and_eq_true, Bool.and_eq_true] at q
    have q1 : ((sIx items.size 0 lo : Nat) : Int) = 0 := eq_of_beq q.1.1
    have q2 : sIx items.size items.size hi - sIx items.size 0 lo = items.size := eq_of_beq q.2
    exact hw ⟨by omega, by omega⟩
  show wpAny _ _ (if (((sIx items.size 0 lo : Nat) : Int) == 0 && (1 : Int) == 1 && (sIx items.size items.size hi - sIx items.size 0 lo) == items.size) = true then _ else _) _ _ s
  rw [if_neg hno, pick_gen]
  first
    | exact wpAny_bind (m := Builtin.Tuple.tupleExact _) (wpAny_newObj_type (wpAny_pure ⟨_, rfl, wpAny_pure h⟩) htake)
    | exact wpAny_bind (m := Builtin.Tuple.tupleExact _) (wpAny_newObj_type (wpAny_bind (wpAny_pure (wpAny_pure ⟨_, rfl, wpAny_pure h⟩))) htake)
    | exact wpAny_bind (wpAny_bind (m := Builtin.Tuple.tupleExact _) (wpAny_newObj_type (wpAny_pure (wpAny_pure ⟨_, rfl, wpAny_pure h⟩)) htake))
    | exact wpAny_bind (wpAny_bind (m := Builtin.Tuple.tupleExact _) (wpAny_newObj_type (wpAny_pure ⟨_, rfl, wpAny_pure h⟩) htake))
end
end HT

namespace L2
open PySem PySem.Spec PyProof.Rows

/-! ### the parts of a slice -/
abbrev TO := St → Hp → (Option Int → Hp → Prop) → Prop
/-- a slice's part (left out, or an int) -/
def PO (X : Cx) (e : Option Expr) (t : TO) : Prop :=
  ∀ (pins : List (Addr × Obj)) (s : Shared) (σ : St) (H : Hp) (Q : Option Int → Hp → Prop), Inv X pins σ H s → t σ H Q →
    wpAny (model X.prog X.w) X.A (evalPart e X.env) (fun u s' => ∃ o H', Inv X pins σ H' s' ∧ IsPart u o ∧ Q o H') X.xe s
def tNoPart : TO := fun _ H Q => Q none H
def tPart (t : TE) : TO := fun σ H Q => t σ H fun x H1 => ∃ i, x = .int i ∧ Q (some i) H1

section
variable {X : Cx} {e : Expr} {te : TE} {lo hi : Option Expr} {tl th : TO} {pos p2 : Pos}

theorem po_none : PO X none tNoPart := by
  intro pins s σ H Q I h
  rw [evalPart_none]
  exact wpAny_pure ⟨none, H, I, .none, h⟩
theorem po_some (h : PE X e te) : PO X (some e) (tPart te) := by
  intro pins s σ H Q I hw
  rw [evalPart_some]
  refine thn (h pins s σ H _ I hw) fun u s1 ⟨x, H1, I1, r1, q1⟩ => ?_
  obtain ⟨i, rfl, q⟩ := q1
  obtain ⟨t, rfl⟩ := r1
  exact ⟨some i, H1, I1, .int i t, q⟩

/-- what a slice of a value is, by values: the slice object stands at sl -/
def SlR (X : Cx) (r : V → Option Int → Option Int → Hp → VK → Prop) : Prop :=
  ∀ (pins : List (Addr × Obj)) (s : Shared) (σ : St) (H : Hp) (x : V) (v vl vu : Value) (lo hi : Option Int) (sl : Addr) (Q : VK), Inv X pins σ H s → RelV x v → s.heap.IsSliceOf sl vl vu .none → IsPart vl lo → IsPart vu hi → r x lo hi H Q →
    ∃ T id, typeLookup (.type T) "__getitem__" = pure (some (.builtin id)) ∧ s.TypeIs v T ∧ wpAny (model X.prog X.w) X.A (getItem v (.ref sl)) (EP X pins σ Q) X.xe s
def tSl (r : V → Option Int → Option Int → Hp → VK → Prop) (te : TE) (tl th : TO) : TE := fun σ H Q => te σ H fun x H1 => tl σ H1 fun l H2 => th σ H2 fun u H3 => r x l u H3 Q
/-- a[lo:hi], any a -/
theorem pe_slice {r : V → Option Int → Option Int → Hp → VK → Prop} (hr : SlR X r) (he : PE X e te) (hl : PO X lo tl) (hu : PO X hi th) : PE X (.Subscript e (.Slice lo hi none p2) pos) (tSl r te tl th) := by
  intro pins s σ H Q I h
  refine Subscript_ (thn (he pins s σ H _ I h) fun v s1 ⟨x, H1, I1, r1, q1⟩ => ?_)
  refine wpAny_Slice (thn (hl pins s1 σ H1 _ I1 q1) fun vl s2 ⟨l, H2, I2, pl, q2⟩ => thn (hu pins s2 σ H2 _ I2 q2) fun vu s3 ⟨u, H3, I3, pu, q3⟩ => ?_)
  rw [evalPart_none]
  refine wpAny_pure ?_
  have I4 : Inv X pins σ H3 { s3 with heap := s3.heap.push { cls := .type "slice", data := .fields #[vl, vu, .none] } } := I3.kept (t' := s3.toks) fun b ob q => Heap.get?_push_of_some _ q
  obtain ⟨T, id, hT, ht, hg⟩ := hr pins { s3 with heap := s3.heap.push { cls := .type "slice", data := .fields #[vl, vu, .none] } } σ H3 x v vl vu l u s3.heap.objs.size Q I4 r1 (Heap.IsSliceOf.new ..) pl pu q3
  show wpAny (model X.prog X.w) X.A (subscriptTail e (.Slice lo hi none p2) v (.ref s3.heap.objs.size)) (EP X pins σ Q) X.xe { s3 with heap := s3.heap.push { cls := .type "slice", data := .fields #[vl, vu, .none] } }
  exact tail_any (ops := [.ref s3.heap.objs.size, v]) ht hT hg (by with_unfolding_all rfl)

/-- the items of xs[lo:hi] -/
def cutV (xs : List V) (lo hi : Option Int) : List V := (xs.drop (HT.sIx xs.length 0 lo)).take (HT.sIx xs.length xs.length hi - HT.sIx xs.length 0 lo)
theorem cutV_length (xs : List V) (lo hi : Option Int) : (cutV xs lo hi).length ≤ xs.length := by
  unfold cutV
  rw [List.length_take, List.length_drop]
  omega
/-- t[lo:hi], not the whole of it (the whole would be t itself) -/
def rSlT (K : PySem.W.Frag) : V → Option Int → Option Int → Hp → VK → Prop := fun x lo hi H Q => ∃ a xs, x = .ref a ∧ SqT K H a xs ∧
  ¬ (HT.sIx xs.length 0 lo = 0 ∧ HT.sIx xs.length xs.length hi = xs.length) ∧ ∀ p, H p = none → Q (.ref p) (upd H p (.tup (cutV xs lo hi)))
theorem sl_tup : SlR X (rSlT X.K) := by
  intro pins s σ H x v vl vu lo hi sl Q I rx hs pl pu h
  obtain ⟨a, xs, rfl, hx, hw, q⟩ := h
  cases rx
  obtain ⟨its, r, ht, hz⟩ := I.tuple hx
  have hlen : its.toArray.size = xs.length := by rw [List.size_toArray]; exact r.length.symm
  refine ⟨"tuple", _, PyProof.Rows.slot_tuple_getitem.lookup, ht.typeIs, ?_⟩
  refine HT.getItem_tuple_cut ht hs pl pu (by rw [hlen]; exact hw) ?_ (by rw [hlen]; exact hz)
  rw [hlen]
  refine ⟨.ref s.heap.objs.size, _, I.laid (t' := s.toks) (o := .tup (cutV xs lo hi)) (fun b ob q => Heap.get?_push_of_some _ q) (Nat.le_refl _) ?_, rfl, q _ (I.hok.fresh (Nat.le_refl _))⟩
  exact ⟨Nat.le_trans (cutV_length xs lo hi) hz, _, (r.drop (HT.sIx xs.length 0 lo)).take (HT.sIx xs.length xs.length hi - HT.sIx xs.length 0 lo), IsTup.new _ _⟩

/-! ### t < u, t + u -/
/-- t + u, t not empty: u empty gives t itself -/
def rCatT (K : PySem.W.Frag) : R2 := fun x y H Q => ∃ a b xs ys, x = .ref a ∧ y = .ref b ∧ SqT K H a xs ∧ SqT K H b ys ∧ xs ≠ [] ∧ xs.length + ys.length ≤ sizeLine ∧
  (ys = [] → Q (.ref a) H) ∧ (ys ≠ [] → ∀ p, H p = none → Q (.ref p) (upd H p (.tup (xs ++ ys))))
theorem Vals.nil_iff {xs : List V} {us : List Value} (r : Vals xs us) : us = [] ↔ xs = [] := by
  cases r with
  | nil => simp
  | cons _ _ => simp
theorem op_catT : OpR X (binaryOp .Add) (rCatT X.K) := by
  intro pins s σ H x y v u Q I rx ry h
  obtain ⟨a, b, xs, ys, rfl, rfl, ha, hb, hx, hz, q1, q2⟩ := h
  cases rx
  cases ry
  obtain ⟨its, r1, p1, _⟩ := I.tuple ha
  obtain ⟨its2, r2, p2, _⟩ := I.tuple hb
  refine HT.cat_tup p1 p2 (fun z => hx (r1.nil_iff.mp z)) (fun z => ⟨.ref a, H, I, rfl, q1 (r2.nil_iff.mp z)⟩) (fun z => ?_) (by rw [← r1.length, ← r2.length]; exact hz)
  refine ⟨.ref s.heap.objs.size, _, I.laid (t' := s.toks) (o := .tup (xs ++ ys)) (fun b ob q => Heap.get?_push_of_some _ q) (Nat.le_refl _) ?_, rfl, q2 (fun w => z (r2.nil_iff.mpr w)) _ (I.hok.fresh (Nat.le_refl _))⟩
  exact ⟨by rw [List.length_append]; exact hz, _, r1.append r2, IsTup.new _ _⟩
end
end L2

namespace L2
open PySem PySem.Spec PyProof.Rows

/-! ### places -/
/-- the place that an index of any sign means -/
def ixN (n : Nat) (i : Int) : Option Nat := if 0 ≤ i then (if i < n then some i.toNat else none) else if -(n : Int) ≤ i then some (i + n).toNat else none
def atI {α : Type} (xs : List α) (i : Int) : Option α := (ixN xs.length i).bind fun j => xs[j]?
theorem ixN_seq {n : Nat} {i : Int} {j : Nat} (h : ixN n i = some j) : seqIndex? i n = some j ∧ j < n ∧ -(n : Int) ≤ i ∧ i < n := by
  unfold ixN at h
  by_cases h0 : 0 ≤ i
  · rw [if_pos h0] at h
    by_cases h1 : i < n
    · rw [if_pos h1] at h
      have e : i.toNat = j := Option.some.inj h
      exact ⟨by rw [seqIndex_of h0 h1, e], by omega, by omega, h1⟩
    · rw [if_neg h1] at h; cases h
  · rw [if_neg h0] at h
    by_cases h1 : -(n : Int) ≤ i
    · rw [if_pos h1] at h
      have e : (i + n).toNat = j := Option.some.inj h
      exact ⟨by rw [seqIndex_neg (by omega) h1, e], by omega, h1, by omega⟩
    · rw [if_neg h1] at h; cases h
theorem atI_get {α : Type} {xs : List α} {i : Int} {v : α} (h : atI xs i = some v) : ∃ j, seqIndex? i xs.length = some j ∧ xs[j]? = some v ∧ j < xs.length ∧ -(xs.length : Int) ≤ i ∧ i < xs.length := by
  unfold atI at h
  cases e : ixN xs.length i with
  | none => rw [e] at h; cases h
  | some j =>
    rw [e] at h
    obtain ⟨h1, h2, h3, h4⟩ := ixN_seq e
    exact ⟨j, h1, h, h2, h3, h4⟩
theorem atI_nat {α : Type} {xs : List α} {j : Nat} {v : α} (h : xs[j]? = some v) : atI xs (j : Int) = some v := by
  have hj : j < xs.length := (List.getElem?_eq_some_iff.mp h).1
  have e : ixN xs.length (j : Int) = some j := by
    unfold ixN
    rw [if_pos (by omega), if_pos (by omega)]; simp
  unfold atI; rw [e]; exact h
/-! ### what may be subscripted -/
/-- what stands as an index of a plain subscript -/
def PlainIx (b : Expr) : Prop := ∀ o i, subscripted b false o i = operate [o, i] (getItem o i)
/-- a subscript by values -/
def IxR (X : Cx) (r : R2) : Prop :=
  ∀ (value slice : Expr) (pins : List (Addr × Obj)) (s : Shared) (σ : St) (H : Hp) (x y : V) (v u : Value) (Q : VK), Inv X pins σ H s → RelV x v → RelV y u → r x y H Q →
    subscripted slice false v u = operate [v, u] (getItem v u) → wpAny (model X.prog X.w) X.A (subscriptTail value slice v u) (EP X pins σ Q) X.xe s
/-- a call of a builtin's method by values: the receiver, the arguments -/
def MtR (X : Cx) (id : String) (r : V → List V → Hp → VK → Prop) : Prop :=
  ∀ (pins : List (Addr × Obj)) (s : Shared) (σ : St) (H : Hp) (x : V) (xs : List V) (v : Value) (us : List Value) (Q : VK), Inv X pins σ H s → RelV x v → Vals xs us → r x xs H Q →
    wpAny (model X.prog X.w) X.A (call (.builtin id) (v :: us)) (EP X pins σ Q) X.xe s
section
variable {X : Cx} {a b : Expr} {ta tb : TE} {pos : Pos}
/-- a[b] -/
theorem pe_ix {r : R2} (hr : IxR X r) (ha : PE X a ta) (hb : PE X b tb) (hs : PlainIx b) : PE X (.Subscript a b pos) (tOp r ta tb) := by
  intro pins s σ H Q I h
  exact Subscript_ (binT ha hb I h fun v u s2 x y H2 I2 rx ry q => hr a b pins s2 σ H2 x y v u Q I2 rx ry q (hs _ _))

def rIxL (K : PySem.W.Frag) : R2 := fun x y H Q => ∃ p xs i v, x = .ref p ∧ y = .int i ∧ SqL K H p xs ∧ atI xs i = some v ∧ Q v H
def rIxT (K : PySem.W.Frag) : R2 := fun x y H Q => ∃ p xs i v, x = .ref p ∧ y = .int i ∧ SqT K H p xs ∧ atI xs i = some v ∧ Q v H
theorem ix_list : IxR X (rIxL X.K) := by
  intro value slice pins s σ H x y v u Q I rx ry h hs
  obtain ⟨p, xs, i, z, rfl, rfl, hq, he, q⟩ := h
  cases rx
  obtain ⟨t, rfl⟩ := ry
  obtain ⟨its, r, pl, hz⟩ := I.list hq
  obtain ⟨j, h1, h2, h3, h4, h5⟩ := atI_get he
  obtain ⟨w, ew, rw'⟩ := r.get h2
  have hl := r.length
  have hn := line63
  have fin : EP X pins σ Q w s := ⟨z, H, I, rw', q⟩
  by_cases h0 : 0 ≤ i
  · have hj : i.toNat = j := by
      rw [seqIndex_of h0 h5] at h1
      exact Option.some.inj h1
    exact item_listR pl.isList h0 (by omega) (by rw [hj]; simpa using ew) fin hs
  · have hj : (i + (its.toArray.size : Int)).toNat = j := by
      rw [seqIndex_neg (by omega) h4] at h1
      rw [List.size_toArray, ← hl]
      exact Option.some.inj h1
    exact subscriptTail_builtinR (x := w) pl.isList.typeIs slot_list_getitem.lookup
      (wpAny_getItem_list_neg (Q := fun r s' => r = w ∧ EP X pins σ Q r s') pl.isList (by omega) (by rw [List.size_toArray] <;> omega) (by omega) (by rw [hj]; simpa using ew) ⟨rfl, fin⟩) hs
theorem ix_tup : IxR X (rIxT X.K) := by
  intro value slice pins s σ H x y v u Q I rx ry h hs
  obtain ⟨p, xs, i, z, rfl, rfl, hq, he, q⟩ := h
  cases rx
  obtain ⟨t, rfl⟩ := ry
  obtain ⟨its, r, pl, hz⟩ := I.tuple hq
  obtain ⟨j, h1, h2, h3, h4, h5⟩ := atI_get he
  obtain ⟨w, ew, rw'⟩ := r.get h2
  have hl := r.length
  have hn := line63
  have fin : EP X pins σ Q w s := ⟨z, H, I, rw', q⟩
  exact subscriptTail_builtinR (x := w) pl.typeIs slot_tuple_getitem.lookup
    (getItem_tuple (j := j) (Q := fun r s' => r = w ∧ EP X pins σ Q r s') pl (by omega) (by omega) (by rw [List.size_toArray, ← hl]; exact h1) (by simpa using ew) ⟨rfl, fin⟩) hs
/-! ### xs[i] = v, any sign -/
/-- the list's object behind a store -/
theorem mapSeq_set (its : List Value) (n j : Nat) (u : Value) : Obj.mapSeq (·.setIfInBounds j u) { cls := .type "list", data := .seq its.toArray n } = { cls := .type "list", data := .seq (its.set j u).toArray n } := by
  simp [Obj.mapSeq]
theorem Inv.lst {pins : List (Addr × Obj)} {σ : St} {H : Hp} {s : Shared} {p : Addr} {xs : List V} (I : Inv X pins σ H s) (h : H p = some (.lst xs)) :
    ∃ (its : List Value) (n : Nat), Vals xs its ∧ s.heap.get? p = some { cls := .type "list", data := .seq its.toArray n } ∧ xs.length ≤ sizeLine := by
  obtain ⟨z, its, n, r, e⟩ := I.hok p _ h
  exact ⟨its, n, r, e, z⟩
/-- the list at p is written by an update of its object -/
theorem Inv.lstUpd {pins : List (Addr × Obj)} {σ : St} {H : Hp} {s : Shared} {p : Addr} {xs ys : List V} {its its' : List Value} {n n' : Nat} {f : Obj → Obj} (I : Inv X pins σ H s) (h : H p = some (.lst xs))
    (ho : s.heap.get? p = some { cls := .type "list", data := .seq its.toArray n }) (hf : f { cls := .type "list", data := .seq its.toArray n } = { cls := .type "list", data := .seq its'.toArray n' }) (r : Vals ys its') (hz : ys.length ≤ sizeLine) (t : Nat) :
    Inv X pins σ (upd H p (.lst ys)) { s with heap := s.heap.update p f, toks := t } := by
  have e : (s.heap.update p f).get? p = some { cls := .type "list", data := .seq its'.toArray n' } := by
    rw [Heap.get?_update_self f ho (by rw [hf] <;> rfl), hf]
  refine I.write (x := p) (e := p) (by rw [h]; trivial) (.inl rfl) (fun b u hb q => (Heap.get?_update_other _ _ (Ne.symm hb)).trans q) ⟨_, e⟩ ?_
  exact ⟨hz, its', n', r, e⟩
def rSetL : V → V → V → Hp → (Hp → Prop) → Prop := fun o i v H Q => ∃ p xs k j, o = .ref p ∧ i = .int k ∧ H p = some (.lst xs) ∧ ixN xs.length k = some j ∧ Q (upd H p (.lst (xs.set j v)))
theorem set_list : PSet X rSetL := by
  intro pins s σ H o i v ov iv u Q I ro ri rv h
  obtain ⟨p, xs, k, j, rfl, rfl, hp, hj, q⟩ := h
  cases ro
  obtain ⟨t, rfl⟩ := ri
  obtain ⟨its, n, r, ho, hz⟩ := I.lst hp
  obtain ⟨h1, h2, h3, h4⟩ := ixN_seq hj
  have hl := r.length
  have hn := line63
  have I' : Inv X pins σ (upd H p (.lst (xs.set j v))) { s with heap := s.heap.update p (Obj.mapSeq (·.setIfInBounds j u)) } :=
    I.lstUpd hp ho (mapSeq_set its n j u) (r.set rv j) (by rw [List.length_set]; exact hz) s.toks
  by_cases h0 : 0 ≤ k
  · have hk : k.toNat = j := by
      rw [seqIndex_of h0 h4] at h1
      exact Option.some.inj h1
    exact PySem.W.ki_setAt ho h0 (by omega) (by rw [List.size_toArray, ← hl]; exact h4) (by rw [hk]; exact ⟨_, I', q⟩)
  · have hk : (k + (its.toArray.size : Int)).toNat = j := by
      rw [seqIndex_neg (by omega) h3] at h1
      rw [List.size_toArray, ← hl]
      exact Option.some.inj h1
    exact PySem.W.ki_setBack ho (by omega) (by rw [List.size_toArray, ← hl]; exact h3) (by omega) (by rw [hk]; exact ⟨_, I', q⟩)

/-! ### slices -/
/-! ### in, not in: flat items -/
/-! ### len, list(x), tuple(x) of any list or tuple that is read -/
theorem call_len_seq : CallR X (.builtin "len") (fun xs H Q => ∃ p ys, xs = [.ref p] ∧ (SqL X.K H p ys ∨ SqT X.K H p ys) ∧ Q (.int ys.length) H) := by
  intro pins s σ H xs us Q I r h
  obtain ⟨p, ys, rfl, hq, q⟩ := h
  obtain ⟨u, rfl, rx⟩ := vals1 r
  cases rx
  have hn := line63
  rcases hq with hq | hq
  · obtain ⟨its, r', pl, hz⟩ := I.list hq
    have hlen := r'.length
    exact Calls.call_len_list pl.isList (by simp only [List.size_toArray] <;> omega) ⟨.int ys.length, H, I.tok _, ⟨s.toks + 1, by rw [List.size_toArray, hlen]⟩, q⟩
  · obtain ⟨its, r', pl, hz⟩ := I.tuple hq
    have hlen := r'.length
    exact len_tuple pl (by simp only [List.size_toArray] <;> omega) ⟨.int ys.length, H, I.tok _, ⟨s.toks + 1, by rw [List.size_toArray, hlen]⟩, q⟩
theorem call_list_of : CallR X (.type "list") (fun xs H Q => ∃ p ys, xs = [.ref p] ∧ (SqL X.K H p ys ∨ SqT X.K H p ys) ∧ ∀ l, H l = none → Q (.ref l) (upd H l (.lst ys))) := by
  intro pins s σ H xs us Q I r h
  obtain ⟨p, ys, rfl, hq, q⟩ := h
  obtain ⟨u, rfl, rx⟩ := vals1 r
  cases rx
  have fin : ∀ (its : List Value), Vals ys its → ys.length ≤ sizeLine → ∀ (h' : Heap) (c' : Nat), (∀ b o', s.heap.get? b = some o' → h'.get? b = some o') →
      h'.get? s.heap.objs.size = some { cls := .type "list", dict := none, data := .seq its.toArray c', slots := #[] } → EP X pins σ Q (.ref s.heap.objs.size) { s with heap := h' } := fun its r' hz h' c' kp e =>
    ⟨.ref s.heap.objs.size, _, I.laid (t' := s.toks) kp (Nat.le_refl _) (show ObjOk X.prog X.w _ h' _ (.lst ys) from ⟨hz, its, c', r', e⟩), rfl, q _ (I.hok.fresh (Nat.le_refl _))⟩
  rcases hq with hq | hq
  · obtain ⟨its, r', pl, hz⟩ := I.list hq
    have hlen := r'.length
    obtain ⟨o, ho, hc, n, hd⟩ := pl.isList
    exact call_list_seq p (.inl rfl) ho hc hd (fun h' c' kp e => fin its r' hz h' c' kp e) (by simp only [List.size_toArray] <;> omega)
  · obtain ⟨its, r', pl, hz⟩ := I.tuple hq
    have hlen := r'.length
    obtain ⟨o, ho, hc, n, hd⟩ := pl
    exact call_list_seq p (.inr rfl) ho hc hd (fun h' c' kp e => fin its r' hz h' c' kp e) (by simp only [List.size_toArray] <;> omega)
theorem call_tuple_of : CallR X (.type "tuple") (fun xs H Q => ∃ p ys, xs = [.ref p] ∧ ((SqL X.K H p ys ∧ ∀ l, H l = none → Q (.ref l) (upd H l (.tup ys))) ∨ (SqT X.K H p ys ∧ Q (.ref p) H))) := by
  intro pins s σ H xs us Q I r h
  obtain ⟨p, ys, rfl, h⟩ := h
  obtain ⟨u, rfl, rx⟩ := vals1 r
  cases rx
  rcases h with ⟨hq, q⟩ | ⟨hq, q⟩
  · obtain ⟨its, r', pl, hz⟩ := I.list hq
    have hlen := r'.length
    refine call_tuple_list pl.isList (fun h' kp => ?_) (by simp only [List.size_toArray] <;> omega)
    have I1 : Inv X pins σ H { s with heap := h' } := I.kept (t' := s.toks) kp
    have I2 : Inv X pins σ (upd H h'.objs.size (.tup ys)) { s with heap := h'.push { cls := .type "tuple", data := .seq its.toArray } } :=
      I1.laid (t' := s.toks) (fun b o e => Heap.get?_push_of_some _ e) (Nat.le_refl _) (show ObjOk X.prog X.w _ _ _ (.tup ys) from ⟨hz, its, r', IsTup.new _ _⟩)
    exact ⟨.ref h'.objs.size, _, I2, rfl, q _ (I1.hok.fresh (Nat.le_refl _))⟩
  · obtain ⟨its, r', pl, hz⟩ := I.tuple hq
    exact call_tuple_same pl ⟨.ref p, H, I, rfl, q⟩

/-! ### the call of a builtin's method: o.m(..) -/
/-- the value is of that builtin type -/
def tyV (K : PySem.W.Frag) (T : String) (x : V) (H : Hp) : Prop := match x with
  | .str _ => T = "str"
  | .int _ => T = "int"
  | .ref p => (T = "list" ∧ ∃ xs, SqL K H p xs) ∨ (T = "tuple" ∧ ∃ o, K.lookup p = some o ∧ o.cls = .type "tuple" ∧ o.dict = none) ∨
      (T = "dict" ∧ ((∃ kvs, H p = some (.dK kvs)) ∨ ∃ kvs, H p = some (.dT kvs))) ∨ (T = "set" ∧ ∃ S n, H p = some (.set S n))
  | _ => False
theorem tyV_is {pins : List (Addr × Obj)} {σ : St} {H : Hp} {s : Shared} {T : String} {x : V} {v : Value} (I : Inv X pins σ H s) (r : RelV x v) (ty : tyV X.K T x H) :
    s.TypeIs v T ∧ ∀ a, v = .ref a → ∃ ob, s.heap.get? a = some ob ∧ ob.dict = none := by
  cases x with
  | str z =>
    obtain ⟨t, rfl⟩ := r
    cases (show T = "str" from ty)
    exact ⟨typeIs_str s z t, fun _ e => nomatch e⟩
  | int i =>
    obtain ⟨t, rfl⟩ := r
    cases (show T = "int" from ty)
    exact ⟨typeIs_int s i t, fun _ e => nomatch e⟩
  | ref p =>
    cases r
    rcases ty with ⟨rfl, xs, hq⟩ | ⟨rfl, o, hk, hc, hd⟩ | ⟨rfl, hk⟩ | ⟨rfl, S, n, hk⟩
    · obtain ⟨its, _, pl, _⟩ := I.list hq
      refine ⟨pl.isList.typeIs, fun a e => ?_⟩
      cases e
      obtain ⟨o, n, e, c, hd, _⟩ := pl
      exact ⟨o, e, hd⟩
    · refine ⟨⟨o, I.kIn p o hk, hc⟩, fun a e => ?_⟩
      cases e
      exact ⟨o, I.kIn _ o hk, hd⟩
    · have z : ∃ o, s.heap.get? p = some o ∧ o.ExactDict := by
        rcases hk with ⟨kvs, hk⟩ | ⟨kvs, hk⟩
        · obtain ⟨_, _, _, _, o, _, _, e, ex, _⟩ := I.hok p _ hk
          exact ⟨o, e, ex⟩
        · obtain ⟨_, _, _, _, o, _, _, e, ex, _⟩ := I.hok p _ hk
          exact ⟨o, e, ex⟩
      obtain ⟨o, e, ex⟩ := z
      refine ⟨⟨o, e, ex.1⟩, fun a e2 => ?_⟩
      cases e2
      exact ⟨o, e, ex.2.1⟩
    · obtain ⟨o, _, _, _, e, ex, _⟩ := I.hok p _ hk
      refine ⟨⟨o, e, ex.1⟩, fun a e2 => ?_⟩
      cases e2
      exact ⟨o, e, ex.2.1⟩
  | _ => exact False.elim ty
def tBM (K : PySem.W.Frag) (T : String) (r : V → List V → Hp → VK → Prop) (to : TE) (t : TA) : TE := fun σ H Q => to σ H fun x H1 => tyV K T x H1 ∧ t σ H1 fun xs H2 => r x xs H2 Q
variable {o e : Expr} {es : List Expr} {to : TE} {t : TA} {name : Str} {apos cpos : Pos} {T id : String} {r : V → List V → Hp → VK → Prop}
/- xs.append(e), list.index on a module's tuple .. are MtR facts of 06m -/
end
end L2

namespace L2
open PySem PySem.Spec PyProof.Rows

def MtM (X : Cx) (id : String) (r : V → List V → Hp → VK → Prop) : Prop :=
  ∀ (pins : List (Addr × Obj)) (s : Shared) (σ : St) (H : Hp) (x : V) (xs : List V) (v : Value) (us : List Value) (Q : VK), Inv X pins σ H s → RelV x v → Vals xs us → r x xs H Q →
    wpAny (model X.prog X.w) X.A (call (.builtin id) (v :: us)) (EP X pins σ Q) X.xe s

/-! ### lists of values -/
theorem Vals.one : ∀ {x : V} {us : List Value}, Vals [x] us → ∃ u, us = [u] ∧ RelV x u
  | _, _, .cons r .nil => ⟨_, rfl, r⟩
theorem Vals.rep {xs : List V} {us : List Value} (h : Vals xs us) : ∀ k : Nat, Vals (List.replicate k xs).flatten (List.replicate k us).flatten
  | 0 => .nil
  | k + 1 => by
    rw [List.replicate_succ, List.replicate_succ, List.flatten_cons, List.flatten_cons]
    exact Vals.append h (Vals.rep h k)
theorem foldl_rep (its : List Value) : ∀ (k : Nat) (acc : List Value),
    List.foldl (fun x1 x2 => x1 ++ x2) acc.toArray (List.replicate k its.toArray) = (acc ++ (List.replicate k its).flatten).toArray
  | 0, acc => by simp
  | k + 1, acc => by
    have e : acc.toArray ++ its.toArray = (acc ++ its).toArray := by simp
    have e2 : (acc ++ its) ++ (List.replicate k its).flatten = acc ++ (List.replicate (k + 1) its).flatten := by
      rw [List.replicate_succ, List.flatten_cons, List.append_assoc]
    rw [← e2, ← foldl_rep its k (acc ++ its), ← e, List.replicate_succ, List.foldl_cons]

section
variable {X : Cx} {pins : List (Addr × Obj)} {σ : St} {H : Hp} {s : Shared} {l b : Addr} {xs ys zs : List V}

/-! ### the two steps: a tracked list is rewritten, a new list is laid -/
theorem Inv.lset {its its' : List Value} {n : Nat} {f : Array Value → Array Value} {t' : Nat} (I : Inv X pins σ H s) (hH : H l = some (.lst xs))
    (e : s.heap.get? l = some { cls := .type "list", data := .seq its.toArray n }) (hf : f its.toArray = its'.toArray) (hv : Vals ys its') (hz : ys.length ≤ sizeLine) :
    Inv X pins σ (upd H l (.lst ys)) { s with heap := s.heap.update l (Obj.mapSeq f), toks := t' } := by
  have q := PySem.IsL.update e f
  rw [hf] at q
  refine I.write (x := l) (e := l) (by rw [hH]; exact trivial) (.inl rfl) (fun b' u hb hu => (Heap.get?_update_other s.heap (Obj.mapSeq f) (Ne.symm hb)).trans hu) ⟨_, q⟩ ?_
  exact ⟨hz, its', _, hv, q⟩
theorem Inv.lnew {its : List Value} {t' : Nat} (I : Inv X pins σ H s) (hv : Vals ys its) (hz : ys.length ≤ sizeLine) :
    Inv X pins σ (upd H s.heap.objs.size (.lst ys)) { s with heap := s.heap.push { cls := .type "list", data := .seq its.toArray }, toks := t' } :=
  I.laid (fun _ _ q => Heap.get?_push_of_some _ q) (Nat.le_refl _) ⟨hz, its, 0, hv, Heap.get?_push_size _ rfl⟩
theorem Inv.fresh (I : Inv X pins σ H s) : H s.heap.objs.size = none := I.hok.fresh (Nat.le_refl _)
theorem Inv.lstM (I : Inv X pins σ H s) (hH : H l = some (.lst xs)) : xs.length ≤ sizeLine ∧ ∃ (its : List Value) (n : Nat), Vals xs its ∧ xs.length = its.length ∧ s.heap.get? l = some { cls := .type "list", data := .seq its.toArray n } := by
  obtain ⟨z, its, n, r, e⟩ := I.hok l _ hH
  exact ⟨z, its, n, r, r.length, e⟩

theorem notLongL {n : Nat} (h : n ≤ sizeLine) : Builtin.List.listTooLong n = false := by
  unfold Builtin.List.listTooLong
  exact decide_eq_false (by omega)
end

section
variable {X : Cx}

/-! ### methods -/
def rAppend : V → List V → Hp → VK → Prop := fun x vs H Q => ∃ l xs y, x = .ref l ∧ vs = [y] ∧ H l = some (.lst xs) ∧ xs.length < sizeLine ∧ Q .non (upd H l (.lst (xs ++ [y])))
theorem mt_append : MtM X "list.append" rAppend := by
  intro pins s σ H x vs v us Q I rx rv h
  obtain ⟨l, xs, y, rfl, rfl, hH, hz, q⟩ := h
  cases rx
  obtain ⟨u, rfl, ru⟩ := rv.one
  obtain ⟨z, its, n, r, hl, e⟩ := I.lstM hH
  refine call_meets F.slot_list_append ⟨_, e, rfl⟩ F.entry_list_append (F.args_list_append_2 _ _) (PySem.list_append l its.toArray n u (by rw [List.size_toArray]; omega)) ⟨e, ?_⟩
  refine ⟨.non, _, I.lset (its' := its ++ [u]) hH e (by simp) (r.append (.cons ru .nil)) ?_, rfl, q⟩
  rw [List.length_append, List.length_singleton]
  omega

/-! ### list + list, list += list, list * int -/
def rCat : R2 := fun x y H Q => ∃ l b xs zs, x = .ref l ∧ y = .ref b ∧ H l = some (.lst xs) ∧ H b = some (.lst zs) ∧ xs.length + zs.length ≤ sizeLine ∧ ∀ p, H p = none → Q (.ref p) (upd H p (.lst (xs ++ zs)))
theorem op_cat : OpR X (binaryOp .Add) rCat := by
  intro pins s σ H x y v u Q I rx ry h
  obtain ⟨l, b, xs, zs, rfl, rfl, hH, hB, hz, q⟩ := h
  cases rx
  cases ry
  obtain ⟨z, its, n, r, hl, e⟩ := I.lstM hH
  obtain ⟨z2, its2, n2, r2, hl2, e2⟩ := I.lstM hB
  refine PySem.P.add_list e e2 ?_ (by rw [List.size_toArray, List.size_toArray]; omega)
  have ea : its.toArray ++ its2.toArray = (its ++ its2).toArray := by simp
  rw [ea]
  exact ⟨.ref _, _, I.lnew (t' := s.toks) (r.append r2) (by rw [List.length_append]; omega), rfl, q _ I.fresh⟩
/-- a list times an int (a negative one is nothing) -/
def rRep : R2 := fun x y H Q => ∃ l k xs, x = .ref l ∧ y = .int k ∧ H l = some (.lst xs) ∧ -(2 ^ 63) ≤ k ∧ k < 2 ^ 63 ∧ xs.length * k.toNat ≤ sizeLine ∧
  ∀ p, H p = none → Q (.ref p) (upd H p (.lst (List.replicate k.toNat xs).flatten))
theorem len_rep {α : Type} (xs : List α) (k : Nat) : (List.replicate k xs).flatten.length = k * xs.length := by
  induction k with
  | zero => simp
  | succ k ih => rw [List.replicate_succ, List.flatten_cons, List.length_append, ih, Nat.succ_mul, Nat.add_comm]
theorem op_rep : OpR X (binaryOp .Mult) rRep := by
  intro pins s σ H x y v u Q I rx ry h
  obtain ⟨l, k, xs, rfl, rfl, hH, h1, h2, hz, q⟩ := h
  cases rx
  obtain ⟨t, rfl⟩ := ry
  obtain ⟨z, its, n, r, hl, e⟩ := I.lstM hH
  have hlen : its.toArray.size * k.toNat ≤ sizeLine := by rw [List.size_toArray, ← hl]; exact hz
  have hcap : ¬ its.toArray.size * k.toNat > (2 ^ 63 - 1) / 8 := by
    have : (sizeLine : Nat) ≤ (2 ^ 63 - 1) / 8 := by decide
    omega
  have hfit : ¬ (!Builtin.List.listFitsIndex k) = true := by
    rw [fitsIndex_both h1 h2]
    exact Bool.false_ne_true
  have hlong : ¬ Builtin.List.listTooLong (its.toArray.size * k.toNat) = true := by
    rw [notLongL hlen]
    exact Bool.false_ne_true
  have hnew : List.foldl (fun x1 x2 => x1 ++ x2) #[] (List.replicate (if its.toArray.isEmpty = true then 0 else k.toNat) its.toArray) = (List.replicate k.toNat its).flatten.toArray := by
    have f0 : ∀ m : Nat, List.foldl (fun x1 x2 => x1 ++ x2) #[] (List.replicate m its.toArray) = (List.replicate m its).flatten.toArray := fun m => by
      have := foldl_rep its m []
      rw [List.nil_append] at this
      exact this
    rw [f0]
    cases its with
    | nil => simp
    | cons a r' => rw [if_neg (by simp)]
  refine wpAny_binaryOp_repeat_ref (T := "list") (U := "int") (by decide) ⟨_, e, rfl⟩ (fun s' => typeIs_int s' k t) noFill_list_mul F.fills_int_mul F.slot_int_rmul repeat_list F.slot_int_index.lookup
    (call_meets F.slot_int_rmul (typeIs_int s k t) F.entry_int_rmul (F.args_int_rmul_2 _ _) (int___rmul___int_list k t l its.toArray n)
      ⟨e, rfl, ⟨_, e, rfl⟩, call_meets F.slot_list_mul ⟨_, e, rfl⟩ F.entry_list_mul (F.args_list_mul_2 _ _) (AutoListH.list___mul___list_int_3 l its.toArray n k t hfit hcap hlong) ⟨e, ?_⟩⟩)
  rw [hnew]
  exact ⟨.ref _, _, I.lnew (t' := s.toks) (r.rep k.toNat) (by rw [len_rep, Nat.mul_comm]; exact hz), rfl, q _ I.fresh⟩

/-! ### del xs[i] -/
end

/-! ### xs[a:b] = ys -/
section
variable {prog : Program} {w : World} {A : Around} {E : Value → Shared → Prop} {s : Shared}
end

section
variable {X : Cx}
end
end L2

namespace Att
open PySem PySem.W PySem.Calls PyProof.Rows

/-! ### the script -/
theorem ints_of_wellAll {P : Params} {h : Heap} : ∀ (ns : List Int) (vs : List Value), WellAll P h vs (ns.map WData.int) → IntsAre vs ns := by
  intro ns
  induction ns with
  | nil =>
    intro vs w
    rw [List.map_nil] at w
    cases w
    exact .nil
  | cons n ns ih =>
    intro vs w
    rw [List.map_cons] at w
    cases w with
    | cons a b =>
      cases a
      exact .cons _ _ (ih _ b)

theorem script_of {l : OpenLaw} {n : Nat} (hn : l.most = some n) {P : Params} {h : Heap} {args : List WData} {vals : List Value}
    (hpre : l.row.toRowW.claim.pre args = true) (hwl : WellAll P h vals args) :
    ∃ a vs ns, vals = [Value.ref a] ∧ args = [WData.list (ns.map WData.int)] ∧ h.get? a = some { cls := .type "list", data := .seq vs.toArray } ∧ IntsAre vs ns ∧ ns.length ≤ n := by
  have hsh : WShape.hasAll [] args [.list .int] = true := (pre_splitW hpre).1
  have hc : l.pre.holds [] { args := args } = true := (pre_splitW hpre).2
  obtain ⟨d, r, rfl, h1, h2⟩ := hasAllW_cons hsh
  obtain rfl := hasAllW_nil h2
  obtain ⟨xs, rfl, h3⟩ := hasW_list h1
  obtain ⟨ns, rfl⟩ := items_int h3
  have hlen : ns.length ≤ n := by
    unfold OpenLaw.pre at hc
    have h4 : (WTm.not (.lt (.lit (.int (n : Int))) (.len (.arg 0)))).holds [] { args := [.list (ns.map .int)] } = true := by
      have h4 := (holds_andW hc).1
      rw [hn] at h4
      exact h4
    have h5 := condW_of h4 (w_not (w_lt w_lit (w_len_list (w_arg rfl))))
    rw [List.length_map] at h5
    refine Nat.le_of_not_lt fun q => ?_
    have q' : (n : Int) < ((ns.length : Nat) : Int) := by omega
    first
      | (rw [decide_eq_true q'] at h5; exact absurd h5 (by decide))
      | (simp at h5; omega)
  cases hwl with
  | cons w1 w2 =>
    cases w2
    cases w1 with
    | list ho hall => exact ⟨_, _, ns, rfl, rfl, ho, ints_of_wellAll ns _ hall, hlen⟩

theorem post_true (l : OpenLaw) (args : List WData) : l.row.toRowW.claim.post args (.bool true) args = true :=
  postW_of (r := l.row.toRowW) (X := (true == true))
    (show WShape.has [] (.bool true) .bool = true by first | rfl | decide | simp [WShape.has, WShape.arms, WShape.armsAll])
    (show (WTm.eq .res (.lit (.bool true))).value [] { args := args, res := some (.bool true), after := args } = some (.bool (true == true)) from w_eq_bool (w_res rfl) w_lit) rfl

/-! ### the attachment: holds_open's last premise (the goal 'hc' behind k_head) from a wpAny of the law's body -/
/-- the same from a codeAny of the CALL (for a layer whose function contracts speak of calls) -/
theorem attach_call {l : OpenLaw} {n : Nat} {q : Program} {loose : List Str} {XP : (Str → Option Value) → Heap → Prop} {YP : World → Heap → Prop} {d : DefRec}
    (hn : l.most = some n) (hdf : d.params.defaults = [])
    (call : ∀ (w : World) (s₀ s₁ : Shared) (mg mb : Str → Option Value) (fa : Addr) (o : Obj) (pm cd doc : Value) (a : Addr) (vs : List Value) (ns : List Int),
      Ground q loose [] XP w s₀ mg mb s₁.heap → YP w s₁.heap →
      s₁.heap.get? fa = some o → o.data = .func (docDef d.name d.params d.body d.scope pm cd doc) → s₁.heap.CodeRec cd d.name → mg d.name = some (.ref fa) →
      s₁.heap.get? a = some { cls := .type "list", data := .seq vs.toArray } → IntsAre vs ns → ns.length ≤ n → s₁.gens = #[] →
      codeAny (model l.prog w) callerA (.call (.ref fa) ⟨[.ref a], []⟩) (fun r s' => r = .ok (.ret (.bool true)) ∧ OldK s₁.heap s'.heap ∧ s'.os = s₁.os ∧ AllBare s'.gens) s₁) :
    WalkO q loose XP YP l.row.toRowW d [] (fun f vs => PySem.call f vs) := by
  intro w s₀ s₁ mg mb G Y fa o pm cd doc dV kV ho hd hcd hD hmg hg args vals as hpre hlay hrd hwl hlo
  obtain rfl : dV = .none := Dflts.none hD hdf
  obtain rfl : kV = .none := Dflts.noKw hD
  obtain ⟨a, vs, ns, rfl, rfl, hobj, hints, hlen⟩ := script_of hn hpre hwl
  refine enter_call (codeAny_mono (call w s₀ s₁ mg mb fa o pm cd doc a vs ns G Y ho (fd_plain hd) hcd hmg hobj hints hlen hg) fun r s' hq => ?_)
  obtain ⟨rfl, h2, h3, h4⟩ := hq
  exact ⟨.inl ⟨.bool true, .bool true, [], rfl, fun _ => rfl, .bool true, post_true l _, fun _ => ⟨List.Pairwise.nil, fun _ hm => (nomatch hm)⟩⟩, h2, h3, h4⟩

/-! ### rules over ANY heap (no ledger) from facts about the written part K: the library's own take a ledger (News) for what they write -/
section
variable {prog : Program} {w : World} {A : Around} {E : Value → Shared → Prop} {s : Shared} {K : Frag}

/-! the whole heap as the ledger: makes every rule that writes through a ledger a rule over any heap -/
end
end Att

namespace L2
open PySem PySem.Spec PyProof.Rows

theorem vals_ints : ∀ {vs : List Value} {ns : List Int}, IntsAre vs ns → Vals (ns.map V.int) vs
  | _, _, .nil => .nil
  | _, _, .cons n t h => .cons ⟨t, rfl⟩ (vals_ints h)

/-- nothing is tracked but the script, known to the object (or it is an object of the module) -/
def Only (H : Hp) : Prop := ∀ b, H b = none ∨ ∃ o xs, H b = some (.frz o (.lst xs))

/-- THE HEAD: the law's promise, at the heap behind the top. F, the promise of the law's def, may use that base is part of the heap (so K.In base, base.Ns mainGlobals mg stand in Mod) -/
theorem law_call {P : Program} {w : World} {K : PySem.W.Frag} {mg mb : Str → Option Value} {CX : CXT} {k : Nat} {fa a : Addr} {fd : FuncData} {x : Str} {sp : Sp} {s₁ : Shared} {vs : List Value} {ns : List Int}
    (KX : K.In s₁.heap) (hns : s₁.heap.Ns mainGlobals mg) (hb : s₁.heap.Ns builtinsNs mb) (hbb : ∀ x : Str, x ≠ "__name__" → mb x = bootBuiltins x) (hlim : s₁.heap.NoLimit) (hg : s₁.gens = #[])
    (ha : s₁.heap.get? a = some { cls := .type "list", data := .seq vs.toArray }) (hi : IntsAre vs ns) (hl : ns.length ≤ sizeLine) (hr : Room k callerA)
    (F : ∀ base : Heap, K.In base → base.Ns mainGlobals mg → FnOk P w K mg base CX k fa fd [x] sp) (hbind : ∀ (s : Shared) (u : Value), BindsTo s fd ⟨[u], []⟩ [(x, u)])
    (hsp : ∀ H : Hp, Only H → SqL K H a (ns.map V.int) → sp [.ref a] H (fun v _ => v = .bl true) fun _ _ _ => False)
    (hCX : ∀ H e s', CX [] H s₁ (fun _ _ _ => False) e s' → False) :
    codeAny (model P w) callerA (.call (.ref fa) ⟨[.ref a], []⟩) (fun r s' => r = .ok (.ret (.bool true)) ∧ OldK s₁.heap s'.heap ∧ s'.os = s₁.os ∧ AllBare s'.gens) s₁ := by
  have rv := vals_ints hi
  have lenV := hi.length
  -- from an abstract heap in which nothing but the script may be tracked
  have core : ∀ H : Hp, Only H → SqL K H a (ns.map V.int) → HOk P w H s₁.heap → (∀ b, H b ≠ none → b = a) → (H a ≠ none → K.lookup a = none) →
      codeAny (model P w) callerA (.call (.ref fa) ⟨[.ref a], []⟩) (fun r s' => r = .ok (.ret (.bool true)) ∧ OldK s₁.heap s'.heap ∧ s'.os = s₁.os ∧ AllBare s'.gens) s₁ := by
    intro H hO hS hok hA hK
    have base_of : ∀ {b : Addr} {o : Obj}, s₁.heap.get? b = some o → H b = none → (hidT s₁.heap H).get? b = some o := fun e n => hidT_get e n
    have noA : ∀ {b : Addr} {o : Obj} {es : Array DictEntry} {ep : Nat}, s₁.heap.get? b = some o → o.data = .dict es ep → H b = none := fun {b o es ep} e d => by
      cases q : H b with
      | none => rfl
      | some u =>
        have e' : b = a := hA b (by rw [q]; simp)
        subst e'
        rw [ha] at e; cases e
        have d' : Data.seq vs.toArray _ = Data.dict es ep := d
        cases d'
    have nsK : ∀ {b : Addr} {m : Str → Option Value}, s₁.heap.Ns b m → (hidT s₁.heap H).Ns b m := fun {b m} ⟨o, es, ep, e, d, r⟩ => ⟨o, es, ep, base_of e (noA e d), d, r⟩
    have hKb : K.In (hidT s₁.heap H) := fun b o e => base_of (KX b o e) (by
      cases q : H b with
      | none => rfl
      | some u =>
        have e' : b = a := hA b (by rw [q]; simp)
        subst e'
        rw [hK (by rw [q]; simp)] at e; cases e)
    have hM : Mod K mg (hidT s₁.heap H) := ⟨hKb, nsK hns, ⟨mb, nsK hb, hbb⟩, let ⟨mc, h1, h2⟩ := hlim; ⟨mc, nsK h1, h2⟩⟩
    have e0 : Env0 P w K mg (hidT s₁.heap H) callerA [] s₁ H := ⟨rfl, hM, fun b o e => of_hidT e, Nat.le_of_eq (hidT_size _ _), trivial, fun b hb => absurd (show b ∈ ([] : List Addr) from hb) (by simp), hok, .of_eq hg⟩
    refine codeAny_mono ((F _ hKb (nsK hns)).run callerA [] s₁ H ⟨[.ref a], []⟩ [.ref a] [.ref a] _ _ hr e0 (hbind s₁ (.ref a)) (.cons rfl .nil) (hsp H hO hS)) fun r s' h => ?_
    cases r with
    | error e => exact (hCX H e s' h).elim
    | ok fl =>
      cases fl with
      | next => exact False.elim h
      | brk => exact False.elim h
      | cont => exact False.elim h
      | ret u =>
        obtain ⟨v, H', os, bare, un, hok', r', q⟩ := h
        have q' : v = .bl true := q
        subst q'
        obtain rfl : u = Value.bool true := r'
        refine ⟨rfl, OldK.of_keep fun b o e => ?_, os, bare⟩
        cases q : H b with
        | none => exact un.keep b o e q (by intro z; exact absurd (show b ∈ ([] : List Addr) from z) (by simp)) (by simp)
        | some u =>
          rcases hO b with z | ⟨ob, xs, z⟩
          · rw [q] at z; cases z
          · have z2 := un.frzs b ob _ z
            obtain ⟨e1, _⟩ := hok b _ z
            obtain ⟨e2, _⟩ := hok' b _ z2
            rw [e] at e1; cases e1
            exact e2
  cases hk : K.lookup a with
  | some o =>
    -- the script is one of the module's own objects
    have e := KX a o hk
    rw [ha] at e
    cases e
    refine core (fun _ => none) (fun _ => .inl rfl) (.inr ⟨_, vs.toArray, _, hk, rfl, rfl, rfl, by rw [List.size_toArray, lenV]; exact hl, by simpa using rv⟩) (fun b u z => by have z' : (none : Option HO) = some u := z; cases z') (fun b z => absurd rfl z) fun z => absurd rfl z
  | none =>
    refine core (fun b => if b = a then some (.frz { cls := .type "list", data := .seq vs.toArray } (.lst (ns.map V.int))) else none) (fun b => ?_) (.inl (.inr ⟨{ cls := .type "list", data := .seq vs.toArray }, if_pos rfl⟩)) (fun b u z => ?_) (fun b z => ?_) fun _ => hk
    · by_cases hb : b = a
      · exact .inr ⟨_, _, if_pos hb⟩
      · exact .inl (if_neg hb)
    · by_cases hb : b = a
      · have z' := (if_pos hb).symm.trans z
        cases z'
        subst hb
        exact ⟨ha, by rw [List.length_map]; exact hl, vs, _, rv, ha⟩
      · have z' := (if_neg hb).symm.trans z
        cases z'
    · by_cases hb : b = a
      · exact hb
      · exact absurd (if_neg hb) z
end L2

namespace L2
open PySem PySem.Spec PyProof.Rows

/-- the goal that k_head leaves (case hc), from the law's promise. F gives the function object fd (K's own) once, then the promise over every base -/
theorem walk_of {l : PySem.W.OpenLaw} {n k : Nat} {q : Program} {loose : List Str} {XP : (Str → Option Value) → Heap → Prop} {YP : World → Heap → Prop} {d : DefRec} {K : Params → PySem.W.Frag} {CX : World → CXT} {sp : World → Sp} {x : Str}
    (hn : l.most = some n) (hn2 : n ≤ sizeLine) (hdf : d.params.defaults = []) (hr : Room k callerA)
    (hY : ∀ (w : World) (h : Heap), YP w h → (K w.params).In h)
    (F : ∀ (w : World) (mg : Str → Option Value) (fa : Addr) (h : Heap), (K w.params).In h → h.Ns mainGlobals mg → mg d.name = some (.ref fa) →
      ∃ fd : FuncData, (∀ (s : Shared) (u : Value), BindsTo s fd ⟨[u], []⟩ [(x, u)]) ∧
        ∀ base : Heap, (K w.params).In base → base.Ns mainGlobals mg → FnOk l.prog w (K w.params) mg base (CX w) k fa fd [x] (sp w))
    (hsp : ∀ (w : World) (H : Hp) (a : Addr) (ns : List Int), ns.length ≤ n → Only H → SqL (K w.params) H a (ns.map V.int) → sp w [.ref a] H (fun v _ => v = .bl true) fun _ _ _ => False)
    (hCX : ∀ (w : World) (H : Hp) (s : Shared) (e : Value) (s' : Shared), CX w [] H s (fun _ _ _ => False) e s' → False) :
    PySem.W.WalkO q loose XP YP l.row.toRowW d [] (fun f vs => PySem.call f vs) := by
  refine Att.attach_call hn hdf fun w s₀ s₁ mg mb fa o pm cd doc a vs ns G Y ho hd hcd hmg hobj hints hlen hg => ?_
  have KX := hY w _ Y
  obtain ⟨fd, hb, hF⟩ := F w mg fa _ KX G.T.g hmg
  exact law_call KX G.T.g G.T.b G.T.builtins G.T.nolimit hg hobj hints (Nat.le_trans hlen hn2) hr hF hb (fun H hO hS => hsp w H a ns hlen hO hS) fun H e s' => hCX w H s₁ e s'
end L2

/- THE LAST THEOREM (shape; LID, My.* are yours):
   My.Adr: a structure of the addresses that your layer names (classes, functions); My.Txt K t: a structure (Prop) of the equations over K;
   My.txt_mk : {K} {implicit addresses ..} (e1 : nsIn K mainGlobals "law" = some (some (.ref f))) (e2 : K.lookup f = some ⟨oc, od, .func (fnOf "law" "law" params body scope dV kV doc pm an cdv ct), sl⟩) (e3 : codeIn K cdv "law" = true) .. : ∃ t, My.Txt K t

set_option maxRecDepth 100000 in
set_option maxHeartbeats 0 in
theorem PySem.Challenge.cw_LID_holds : PySem.Challenge.rw_LID.Holds := by
  w_on; o_law; k_head; (case hw => w_witness2)
  k_fill
  refine L2.walk_of (l := PySem.Challenge.rw_LID) (n := 63) (k := 40) (x := "script") (CX := fun w => ..) (sp := fun _ => My.sp_law) rfl (by decide) rfl ⟨rfl, by decide, by decide⟩ (fun w h Y => PySem.W.kIn_of Y) ?F ?S ?C
  case F =>
    intro w mg fa h KX G hmg
    have T : ∃ t, My.Txt (L2.KOf KX) t := by
      dsimp only [L2.KOf]                          -- K must stand as «<heap const> w.params» for k_is
      refine' My.txt_mk ?e1 ?e2 ?e3 ..
      (case e1 => PySem.W.k_is)                    -- in the order: a name -> its address -> its object -> its parts
      (case e2 => PySem.W.k_is)
      ..
    obtain ⟨t, T⟩ := T
    have e0 := hmg.symm.trans (PySem.W.mg_of KX G T.law)
    cases e0                                       -- fa is the law's own address
    exact ⟨_, fun s u => .of_eq rfl, fun base kb nb => My.law_fn T kb nb⟩     -- if «.of_eq rfl» comes too early: refine' ⟨_, ?b, fun base kb nb => My.law_fn T kb nb⟩; exact fun s u => .of_eq rfl
  case S => exact fun w H a ns hl hO hS => ..
  case C => exact ..
(the tactic k_is has no namespace: write k_is) -/

/-! SHORT WORDS over the layer: a def of the text, its body, what a loop and a test want. -/
namespace L2
open PySem PySem.Spec PyProof.Rows

/-! ### the text by places -/
def defArgs (s : Stmt) : Arguments := match s with
  | .FunctionDef _ a _ _ _ _ _ _ _ _ => a
  | _ => { posonlyargs := [], args := [], vararg := none, kwonlyargs := [], kw_defaults := [], kwarg := none, defaults := [] }
def defBody (s : Stmt) : List Stmt := match s with
  | .FunctionDef _ _ b _ _ _ _ _ _ _ => b
  | _ => []
def defScope (s : Stmt) : Scope := match s with
  | .FunctionDef _ _ _ _ _ _ sc _ _ _ => sc
  | _ => { kind := .function, names := [], isGenerator := false, isCoroutine := false }

/-! ### no exception leaves a def -/
abbrev CX0 : CXT := fun _ _ _ _ _ _ => False
abbrev E0 : XK := fun _ _ _ => False
theorem pass0 {X : Cx} : Passes CX0 X E0 := fun _ _ _ _ _ _ _ h => h.elim

/-! ### a def (or method) of the text as it stands behind the top -/
structure Fun (K : PySem.W.Frag) (x qual : Str) (st : Stmt) (f : Addr) (fd : FuncData) : Prop where
  ex : ∃ (oc : Value) (od : Option Addr) (kV doc pm : Value) (an : Option Addr) (cdv ct : Value) (osl : Array (Option Value)),
    fd = PySem.W.fnOf x qual (defArgs st) (defBody st) (defScope st) .none kV doc pm an cdv ct ∧ K.lookup f = some ⟨oc, od, .func fd, osl⟩ ∧ PySem.W.codeIn K cdv qual = true
  kp : PySem.W.keepIn K (.ref f) = true
section
variable {P : Program} {w : World} {K : PySem.W.Frag} {mg : Str → Option Value} {base : Heap}
/-- THE RULE for a def: its body as a term of rules, and the reading of that term -/
theorem Fun.ok {x qual : Str} {st : Stmt} {f : Addr} {fd : FuncData} {N ps : List Str} {k : Nat} {sp : Sp} (F : Fun K x qual st f fd) (S : FnScope N ps (defScope st)) (len : ∀ vs H Q E, sp vs H Q E → vs.length = ps.length)
    (hbody : ∀ (cdv : Value) (A : Around) (outer : List Env) (s : Shared) (H : Hp) (vs : List V) (Q : VK) (E : XK), Room k (A.deeper (envOfC qual (defScope st) s.heap.objs.size f cdv)) → sp vs H Q E →
      ∃ t, PSs (cxOf CX0 P w K mg base N qual (defScope st) f cdv A outer s H E).nox (defBody st) t ∧ t { nx := fun _ H' => Q .non H', rt := Q } (start N vs) H) : FnOk P w K mg base CX0 (k + 1) f fd ps sp := by
  obtain ⟨oc, od, kV, doc, pm, an, cdv, ct, osl, rfl, lk, hcd⟩ := F.ex
  refine fn_of lk hcd S len fun A outer s H vs Q E hr hsp => ?_
  obtain ⟨t, h, q⟩ := hbody cdv A outer s H vs Q E hr hsp
  exact ⟨t, h.nox, q⟩
/-- how its arguments bind (no defaults): h is «fun _ _ _ _ _ _ us hl => match us, hl with | [_, _], _ => rfl», one _ a parameter -/
theorem Fun.binds {x qual : Str} {st : Stmt} {f : Addr} {fd : FuncData} {ps : List Str} (F : Fun K x qual st f fd)
    (h : ∀ (kV doc pm : Value) (an : Option Addr) (cdv ct : Value) (us : List Value), us.length = ps.length → bindArgs (PySem.W.fnOf x qual (defArgs st) (defBody st) (defScope st) .none kV doc pm an cdv ct) ⟨us, []⟩ = pure (ps.zip us)) : Binds K fd ps [] := by
  obtain ⟨oc, od, kV, doc, pm, an, cdv, ct, osl, rfl, lk, hcd⟩ := F.ex
  exact .all (h kV doc pm an cdv ct)
theorem fun_mk {x qual : Str} {st : Stmt} {f : Addr} {oc : Value} {od an : Option Addr} {osl : Array (Option Value)} {kV doc pm cdv ct : Value} (l : K.lookup f = some ⟨oc, od, .func (PySem.W.fnOf x qual (defArgs st) (defBody st) (defScope st) .none kV doc pm an cdv ct), osl⟩)
    (c : PySem.W.codeIn K cdv qual = true) (k : PySem.W.keepIn K (.ref f) = true) : Fun K x qual st f (PySem.W.fnOf x qual (defArgs st) (defBody st) (defScope st) .none kV doc pm an cdv ct) := ⟨⟨oc, od, kV, doc, pm, an, cdv, ct, osl, rfl, l, c⟩, k⟩
end
/-! ### expressions in short: the name that stands in the i-th slot -/
section
variable {X : Cx}
theorem pv (i : Nat) {x : Str} {pos : Pos} (hN : X.N[i]? = some x := by rfl) (hv : Vis X.env.scope x := by first | exact Or.inl rfl | exact Or.inr (Or.inl rfl) | exact Or.inr (Or.inr rfl)) (hd : (x == ("__debug__" : Str)) = false := by decide)
    (hcd : (x == ("__classdict__" : Str)) = false := by decide) : PE X (.Name x pos) (tVar i) := pe_var hN hv hd hcd
end

/-! ### tests -/
theorem iteF {A B : Prop} (h : B) : if false = true then A else B := by
  rw [if_neg Bool.false_ne_true]
  exact h
theorem iteT {A B : Prop} (h : A) : if true = true then A else B := by
  rw [if_pos rfl]
  exact h
theorem ite2 {c A B : Prop} [Decidable c] (h1 : c → A) (h2 : ¬ c → B) : if c then A else B := by
  by_cases h : c
  · rw [if_pos h]
    exact h1 h
  · rw [if_neg h]
    exact h2 h
/-! ### heaps -/
end L2

set_option Elab.async false
set_option linter.all false
set_option maxRecDepth 100000
namespace L2
open PySem PySem.Spec PyProof.Rows

/-! ### a comprehension's closure and cells -/
def cloF (env : Env) : List (Str × NameKind) → List (Str × Addr) → List (Str × Addr)
  | [], acc => acc
  | (n, k) :: r, acc => if k == .free then cloF env r ((n, (env.cells.lookup n).getD 0) :: acc) else cloF env r acc
theorem clo_forIn {env : Env} (f : Str × NameKind → List (Str × Addr) → Sem (ForInStep (List (Str × Addr))))
    (hf : ∀ n k cs, f (n, k) cs = if k == .free then (do let a ← cellOf env n; pure (.yield ((n, a) :: cs))) else pure (.yield cs)) :
    ∀ (names : List (Str × NameKind)) (acc : List (Str × Addr)), (∀ x ∈ names, x.2 = .free → (env.cells.lookup x.1).isSome = true) → forIn names acc f = pure (cloF env names acc)
  | [], acc, _ => by rw [List.forIn_nil]; rfl
  | (n, k) :: r, acc, h => by
    rw [List.forIn_cons, hf]
    unfold cloF
    have hr : ∀ x ∈ r, x.2 = .free → (env.cells.lookup x.1).isSome = true := fun x hx => h x (List.mem_cons_of_mem _ hx)
    by_cases hk : (k == NameKind.free) = true
    · rw [if_pos hk, if_pos hk]
      have e := h (n, k) List.mem_cons_self (by simpa using hk)
      obtain ⟨c, hc⟩ := Option.isSome_iff_exists.mp e
      unfold cellOf
      simp only at hc
      rw [hc]
      simp only [pure_bind, Option.getD_some]
      exact clo_forIn f hf r _ hr
    · rw [if_neg hk, if_neg hk, pure_bind]
      exact clo_forIn f hf r _ hr
theorem closureFor_cells {scope : Scope} {env : Env} (h : ∀ x ∈ scope.names, x.2 = .free → (env.cells.lookup x.1).isSome = true) : closureFor scope env = pure (cloF env scope.names []) := by
  show (forIn scope.names ([] : List (Str × Addr)) _ >>= fun cs => pure cs) = _
  rw [clo_forIn (env := env) _ (fun n k cs => by cases hk : k == NameKind.free <;> simp [hk]) scope.names [] h]
  simp only [pure_bind]
theorem clo_look {env : Env} {x : Str} {c : Addr} : ∀ (names : List (Str × NameKind)) (acc : List (Str × Addr)), (∀ x ∈ names, x.2 = .free → (env.cells.lookup x.1).isSome = true) →
    (cloF env names acc).lookup x = some c → env.cells.lookup x = some c ∨ acc.lookup x = some c
  | [], _, _, e => .inr e
  | (n, k) :: r, acc, h, e => by
    unfold cloF at e
    have hr : ∀ x ∈ r, x.2 = .free → (env.cells.lookup x.1).isSome = true := fun x hx => h x (List.mem_cons_of_mem _ hx)
    by_cases hk : (k == NameKind.free) = true
    · rw [if_pos hk] at e
      rcases clo_look r _ hr e with q | q
      · exact .inl q
      · rw [List.lookup_cons] at q
        cases hb : x == n with
        | true =>
          rw [hb] at q
          have hx : x = n := by simpa using hb
          obtain ⟨c', hc⟩ := Option.isSome_iff_exists.mp (h (n, k) List.mem_cons_self (by simpa using hk))
          simp only at hc
          rw [hc] at q
          subst hx
          rw [hc]
          exact .inl (by simpa using q)
        | false => rw [hb] at q; exact .inr q
    · rw [if_neg hk] at e
      exact clo_look r _ hr e
theorem clo_some {env : Env} {x : Str} : ∀ (names : List (Str × NameKind)) (acc : List (Str × Addr)), ((x, NameKind.free) ∈ names ∨ (acc.lookup x).isSome = true) → ((cloF env names acc).lookup x).isSome = true
  | [], _, h => h.elim (fun e => nomatch e) id
  | (n, k) :: r, acc, h => by
    unfold cloF
    by_cases hk : (k == NameKind.free) = true
    · rw [if_pos hk]
      refine clo_some r _ ?_
      rcases h with h | h
      · rcases List.mem_cons.mp h with e | h
        · cases e; exact .inr (by rw [List.lookup_cons]; simp)
        · exact .inl h
      · refine .inr ?_
        rw [List.lookup_cons]
        split
        · rfl
        · exact h
    · rw [if_neg hk]
      refine clo_some r _ ?_
      rcases h with h | h
      · rcases List.mem_cons.mp h with e | h
        · cases e; exact absurd (by decide) hk
        · exact .inl h
      · exact .inr h
theorem cf_look {x : Str} {c : Addr} : ∀ (names : List (Str × NameKind)) (k : Nat) (acc : List (Str × Addr)), (cellsFrom k names acc).lookup x = some c → k ≤ c ∨ (acc.lookup x = some c ∧ (x, NameKind.cell) ∉ names)
  | [], _, _, e => .inr ⟨e, by simp⟩
  | (n, kd) :: r, k, acc, e => by
    unfold cellsFrom at e
    by_cases hk : (kd == NameKind.cell) = true
    · rw [if_pos hk] at e
      rcases cf_look r _ _ e with q | ⟨q, nr⟩
      · exact .inl (by omega)
      · rw [List.lookup_cons] at q
        cases hb : x == n with
        | true => rw [hb] at q; cases q; exact .inl (Nat.le_refl _)
        | false =>
          rw [hb] at q
          refine .inr ⟨q, fun z => ?_⟩
          rcases List.mem_cons.mp z with z | z
          · cases z; simp at hb
          · exact nr z
    · rw [if_neg hk] at e
      rcases cf_look r _ _ e with q | ⟨q, nr⟩
      · exact .inl q
      · refine .inr ⟨q, fun z => ?_⟩
        rcases List.mem_cons.mp z with z | z
        · cases z; exact hk (by simp)
        · exact nr z
theorem cf_inj : ∀ (names : List (Str × NameKind)) (k : Nat) (acc : List (Str × Addr)), (∀ p ∈ acc, p.2 < k) → (∀ p q, p ∈ acc → q ∈ acc → p.2 = q.2 → p.1 = q.1) → ∀ p q, p ∈ cellsFrom k names acc → q ∈ cellsFrom k names acc → p.2 = q.2 → p.1 = q.1
  | [], _, _, _, hi, p, q, hp, hq, e => hi p q hp hq e
  | (n, kd) :: r, k, acc, hb, hi, p, q, hp, hq, e => by
    unfold cellsFrom at hp hq
    by_cases hk : (kd == NameKind.cell) = true
    · rw [if_pos hk] at hp hq
      refine cf_inj r (k + 1) ((n, k) :: acc) (fun z hz => ?_) (fun y z hy hz e => ?_) p q hp hq e
      · rcases List.mem_cons.mp hz with rfl | hz
        · exact Nat.lt_succ_self _
        · exact Nat.lt_succ_of_lt (hb z hz)
      · rcases List.mem_cons.mp hy with hy | hy <;> rcases List.mem_cons.mp hz with hz | hz
        · rw [hy, hz]
        · subst hy; exact absurd (hb z hz) (by rw [← e]; exact Nat.lt_irrefl _)
        · subst hz; exact absurd (hb y hy) (by rw [e]; exact Nat.lt_irrefl _)
        · exact hi y z hy hz e
    · rw [if_neg hk] at hp hq
      exact cf_inj r k acc hb hi p q hp hq e
theorem cf_cell : ∀ (names : List (Str × NameKind)) (h : Heap) (acc : List (Str × Addr)) (p : Str × Addr), p ∈ cellsFrom h.objs.size names acc → p ∈ acc ∨ ((pushCells h names).IsCell p.2 none ∧ h.objs.size ≤ p.2)
  | [], _, _, _, e => .inl e
  | (n, kd) :: r, h, acc, p, e => by
    unfold cellsFrom at e
    unfold pushCells
    by_cases hk : (kd == NameKind.cell) = true
    · rw [if_pos hk] at e ⊢
      have hs : (h.push { cls := .type "cell", data := .cell none }).objs.size = h.objs.size + 1 := Heap.size_push ..
      rw [← hs] at e
      rcases cf_cell r _ _ p e with q | ⟨q, l⟩
      · rcases List.mem_cons.mp q with rfl | q
        · exact .inr ⟨Heap.IsCell.keeps ⟨_, Heap.get?_push_size _ rfl, rfl⟩ (pushCells_keeps _ _), Nat.le_refl _⟩
        · exact .inl q
      · exact .inr ⟨q, by omega⟩
    · rw [if_neg hk] at e ⊢
      exact cf_cell r h acc p e
/-- the block's env is made -/
theorem newEnv_comp {M : Model} {A : Around} {E : Value → Shared → Prop} {s : Shared} {scope : Scope} {globals : Addr} {cl : List (Str × Addr)} {qual : Str} {outer : Env} {Q : Env → Shared → Prop}
    (hQ : Q (newEnv scope s.heap.objs.size globals (cellsFrom (s.heap.objs.size + 1) scope.names cl) qual none .none (some outer) builtinsNs) { s with heap := pushCells (s.heap.push { cls := .type "dict", data := .dict #[] }) scope.names }) :
    wpAny M A (newFunctionEnv scope globals cl [] qual none .none (some outer)) Q E s := by
  simp only [newFunctionEnv, Option.isSome_some, if_true]
  refine wpAny_bind (wpAny_alloc ?_)
  refine wpAny_bind (wpAny_layCells _ (fun name kind cells => by cases hkc : kind == NameKind.cell <;> simp [hkc]) _ _ _ _ ?_)
  rw [show ({ s with heap := s.heap.push { cls := .type "dict", data := .dict #[] } } : Shared).heap.objs.size = s.heap.objs.size + 1 from Heap.size_push ..]
  rw [List.forIn_nil]
  exact wpAny_bind (wpAny_pure (wpAny_pure hQ))

/-- the loop of a list comprehension with one for, any target -/
theorem comp_loop {prog : Program} {w : World} {A : Around} {R : Result → Shared → Prop} {s : Shared} {elt target iter : Expr} {ifs : List Expr} {scope : Scope} {pos : Pos} {it acc : Value} {env : Env} (I : Nat → Shared → Prop)
    (turn : ∀ n s, I n s → wpAny (model prog w) A (pyNext it) (fun r s₁ => match r with
      | none => R (.ok .next) s₁
      | some v => wpAny (model prog w) A (letOwnedTupleGo target it v) (fun _ s₁' => wpAny (model prog w) A (assign target env v) (fun _ s₂ =>
          wpAny (model prog w) A (forIn ifs true fun c r => if r = true then do let ok ← isTrue c env (eval c env); pure (ForInStep.yield ok) else pure (ForInStep.yield r)) (fun ok s₃ =>
            if ok = true then wpAny (model prog w) A (eval elt env) (fun x s₄ =>
              wpAny (model prog w) A (call (.builtin "list.append") [acc, x]) (fun _ s₅ => ∃ m, m < n ∧ I m s₅) (fun _ _ => False) s₄) (fun _ _ => False) s₃
            else ∃ m, m < n ∧ I m s₃) (fun _ _ => False) s₂) (fun _ _ => False) s₁') (fun _ _ => False) s₁) (fun _ _ => False) s)
    (n : Nat) (h : I n s) :
    codeAny (model prog w) A (.compLoop (.ListComp elt [⟨target, iter, ifs, 0⟩] scope pos) 0 it acc env) R s := by
  refine codeAny_loop rfl I (fun n s hI => ?_) n h
  show wpAny _ A ((compTurn (.ListComp elt [⟨target, iter, ifs, 0⟩] scope pos) 0 it acc env).onRaise (fun x => do noteFrame x env; theTreesLotGoes x)) _ _ s
  refine wpAny_noted ?_
  rw [compTurn_list]
  refine wpAny_bind (wpAny_standAt (wpAny_bind (wpAny_mono (turn n s hI) (fun r s₁ h₁ => ?_) fun _ _ h' => h'.elim)))
  cases r with
  | none => exact wpAny_pure h₁
  | some v =>
    refine wpAny_bind (wpAny_mono h₁ (fun _ s₁' h₁' => ?_) fun _ _ h' => h'.elim)
    refine wpAny_bind (wpAny_mono h₁' (fun _ s₂ h₂ => wpAny_bind (wpAny_mono h₂ (fun ok s₃ h₃ => ?_) fun _ _ h' => h'.elim)) fun _ _ h' => h'.elim)
    cases ok with
    | false => exact wpAny_pure ⟨rfl, h₃⟩
    | true =>
      exact wpAny_bind (wpAny_bind (wpAny_mono h₃ (fun x s₄ h₄ => wpAny_bind (wpAny_mono h₄ (fun _ s₅ h₅ => wpAny_pure (wpAny_pure ⟨rfl, h₅⟩)) fun _ _ h' => h'.elim)) fun _ _ h' => h'.elim))

/-! ### the block's context -/
def compE (scope : Scope) (C : Addr) (env : Env) : Env := compEnvC scope (cellsFrom (C + 1) scope.names (cloF env scope.names [])) C env
def cxC (X : Cx) (scope : Scope) (C : Addr) (N : List Str) (fp : List Addr) (s : Shared) (H : Hp) : Cx where
  prog := X.prog
  w := X.w
  K := X.K
  mg := X.mg
  base := X.base
  A := X.A
  N := N
  s₀ := s
  H₀ := H
  env := compE scope C X.env
  outer := X.stack
  stack := X.stack
  ex := fp
  fn := fun x => decide ((x, NameKind.cell) ∈ scope.names)
  calm := X.calm
  pn := []
  xe := fun _ _ => False

/-- the tests of a comprehension -/
def PIfs (X : Cx) (ifs : List Expr) (t : TT) : Prop :=
  ∀ (pins : List (Addr × Obj)) (s : Shared) (σ : St) (H : Hp) (Q : Bool → Hp → Prop), Inv X pins σ H s → t σ H Q →
    wpAny (model X.prog X.w) X.A (forIn ifs true fun c r => if r = true then do let ok ← isTrue c X.env (eval c X.env); pure (ForInStep.yield ok) else pure (ForInStep.yield r)) (TP X pins σ Q) X.xe s
def tYes : TT := fun _ H Q => Q true H
theorem pifs_nil {X : Cx} : PIfs X [] tYes := fun _ s σ H Q I h => wpAny_tests_nil ⟨H, I, h⟩
theorem pifs_one {X : Cx} {c : Expr} {t : TT} (h : PT X c t) : PIfs X [c] t := fun pins s σ H Q I q => wpAny_tests_one (h pins s σ H Q I q)

/-- captured names: name and its slot outside -/
def blkσ (own : Nat) (cap : List Nat) (σ : St) : St := List.replicate own none ++ cap.map fun i => (σ[i]?).getD none

structure BlkOk (X : Cx) (scope : Scope) (own : List Str) (cap : List Str) (ix : List Nat) : Prop where
  kind : scope.kind = .function
  names : ∀ x ∈ scope.names, x.2 = .local → scope.names.lookup x.1 = some .local
  nd : (scope.names.map (·.1)).Nodup
  frees : ∀ x ∈ scope.names, x.2 = .free → X.env.kindOf x.1 = some .cell ∨ X.env.kindOf x.1 = some .free
  caps : ∀ (j : Nat) (x : Str), cap[j]? = some x → (x, NameKind.free) ∈ scope.names
  at' : ∀ (j : Nat) (x : Str), cap[j]? = some x → ∃ i, ix[j]? = some i ∧ X.N[i]? = some x
  len : cap.length = ix.length

theorem relabel_look {env : Env} {scope : Scope} {x : Str} {k : NameKind} (h : (relabel scope env).names.lookup x = some k) : (x, k) ∈ scope.names ∨ (k = .cell ∧ (x, NameKind.free) ∈ scope.names) := by
  have m := PySem.mem_of_lookup h
  obtain ⟨⟨n, k'⟩, hm, e⟩ := List.mem_map.mp m
  simp only at e
  split at e
  · rename_i hc
    cases e
    have : k' = NameKind.free := by simp at hc; exact hc.1.1
    subst this
    exact .inr ⟨rfl, hm⟩
  · cases e; exact .inl hm

theorem nodup_keys {names : List (Str × NameKind)} (nd : (names.map (·.1)).Nodup) {x : Str} {k k' : NameKind} (h : (x, k) ∈ names) (h' : (x, k') ∈ names) : k = k' := by
  induction names with
  | nil => cases h
  | cons p r ih =>
    rw [List.map_cons, List.nodup_cons] at nd
    rcases List.mem_cons.mp h with e | h <;> rcases List.mem_cons.mp h' with e' | h'
    · rw [← e'] at e; cases e; rfl
    · exact absurd (List.mem_map.mpr ⟨_, h', by rw [← e]⟩) nd.1
    · exact absurd (List.mem_map.mpr ⟨_, h, by rw [← e']⟩) nd.1
    · exact ih nd.2 h h'

section
variable {X : Cx} {pins : List (Addr × Obj)} {σ : St} {H : Hp} {s : Shared} {scope : Scope} {own cap : List Str} {ix : List Nat}

/-- the block begins: s stands behind the making of the accumulator -/
theorem Inv.block (I : Inv X pins σ H s) (B : BlkOk X scope own cap ix) {fp : List Addr} (hf : ∀ b ∈ fp, FpOk X pins H b) (ho : ∀ b ∈ fp, ∃ o, s.heap.get? b = some o) :
    Inv (cxC X scope s.heap.objs.size (own ++ cap) fp s H) [] (blkσ own.length ix σ) H { s with heap := pushCells (s.heap.push { cls := .type "dict", data := .dict #[] }) scope.names } := by
  have has : ∀ x ∈ scope.names, x.2 = .free → (X.env.cells.lookup x.1).isSome = true := fun x hx hk => by
    obtain ⟨c, e⟩ := I.ok.has x.1 (B.frees x hx hk)
    rw [e]; rfl
  have keep : ∀ b o, s.heap.get? b = some o → (pushCells (s.heap.push { cls := .type "dict", data := .dict #[] }) scope.names).get? b = some o := fun b o e => pushCells_keeps _ _ b o (Heap.get?_push_of_some _ e)
  have old : ∀ x c, X.env.cells.lookup x = some c → c < s.heap.objs.size := fun x c e => let ⟨v, q⟩ := I.cell x c e; q.lt
  have cs_look : ∀ x c, (cellsFrom (s.heap.objs.size + 1) scope.names (cloF X.env scope.names [])).lookup x = some c → s.heap.objs.size + 1 ≤ c ∨ (X.env.cells.lookup x = some c ∧ (x, NameKind.cell) ∉ scope.names) := fun x c e => by
    rcases cf_look _ _ _ e with q | ⟨q, nm⟩
    · exact .inl q
    · rcases clo_look _ _ has q with q | q
      · exact .inr ⟨q, nm⟩
      · cases q
  have clo_mem : ∀ p ∈ cloF X.env scope.names [], X.env.cells.lookup p.1 = some p.2 := by
    have aux : ∀ (names : List (Str × NameKind)) (acc : List (Str × Addr)), (∀ x ∈ names, x.2 = .free → (X.env.cells.lookup x.1).isSome = true) → (∀ p ∈ acc, X.env.cells.lookup p.1 = some p.2) → ∀ p ∈ cloF X.env names acc, X.env.cells.lookup p.1 = some p.2 := by
      intro names
      induction names with
      | nil => intro acc _ h p hp; exact h p hp
      | cons y r ih =>
        intro acc h h2 p hp
        obtain ⟨n, k⟩ := y
        unfold cloF at hp
        by_cases hk : (k == NameKind.free) = true
        · rw [if_pos hk] at hp
          refine ih _ (fun x hx => h x (List.mem_cons_of_mem _ hx)) (fun q hq => ?_) p hp
          rcases List.mem_cons.mp hq with rfl | hq
          · obtain ⟨c, e⟩ := Option.isSome_iff_exists.mp (h (n, k) List.mem_cons_self (by simpa using hk))
            simp only at e ⊢
            rw [e]; rfl
          · exact h2 q hq
        · rw [if_neg hk] at hp
          exact ih _ (fun x hx => h x (List.mem_cons_of_mem _ hx)) h2 p hp
    exact aux _ _ has (fun p hp => nomatch hp)
  have cinj : ∀ x y c, (cellsFrom (s.heap.objs.size + 1) scope.names (cloF X.env scope.names [])).lookup x = some c → (cellsFrom (s.heap.objs.size + 1) scope.names (cloF X.env scope.names [])).lookup y = some c → x = y := fun x y c e1 e2 =>
    cf_inj scope.names (s.heap.objs.size + 1) (cloF X.env scope.names []) (fun p hp => Nat.lt_succ_of_lt (old p.1 p.2 (clo_mem p hp)))
      (fun p q hp hq e => I.ok.inj p.1 q.1 p.2 (clo_mem p hp) (by rw [e]; exact clo_mem q hq)) (x, c) (y, c) (PySem.mem_of_lookup e1) (PySem.mem_of_lookup e2) rfl
  have ccell : ∀ x c, (cellsFrom (s.heap.objs.size + 1) scope.names (cloF X.env scope.names [])).lookup x = some c → ∃ v, (pushCells (s.heap.push { cls := .type "dict", data := .dict #[] }) scope.names).IsCell c v := fun x c e => by
    have m := PySem.mem_of_lookup e
    have hs : (s.heap.push { cls := .type "dict", data := .dict #[] }).objs.size = s.heap.objs.size + 1 := Heap.size_push ..
    rw [← hs] at m
    rcases cf_cell _ _ _ _ m with q | ⟨q, _⟩
    · obtain ⟨v, z⟩ := I.cell _ _ (clo_mem _ q)
      exact ⟨v, z.keeps keep⟩
    · exact ⟨none, q⟩
  have fplt : ∀ b ∈ fp, b < s.heap.objs.size := fun b hb => let ⟨o, e⟩ := ho b hb; Heap.lt_size e
  refine ⟨⟨I.ok.mod, ?_, I.ok.glob, I.ok.blt, Nat.le_refl _, cinj, fun x hx => ?_, fun x c hfx e => ?_, I.ok.hd, I.ok.frames, .inl rfl, fun b hb => ⟨?_, fun x c e => ?_⟩, I.bs, Nat.le_trans I.ok.bsz I.sz, fun b o e hb => ?_, fun b hb hz => ?_, I.stack, I.stkFree⟩,
    rfl, I.bare, Un.kept keep, ⟨fun _ => none, (Heap.Ns.new s.heap (.type "dict")).keeps (pushCells_keeps _ _), fun i x v h1 h2 h3 => ?_⟩, ccell, I.hok.fresh (Nat.le_refl _), fun x c e => ?_, fun p hp => absurd (show p ∈ ([] : List (Addr × Obj)) from hp) (by simp), I.hok.kept keep, ?_⟩
  · exact B.kind
  · have hx' : (relabel scope X.env).names.lookup x = some .cell ∨ (relabel scope X.env).names.lookup x = some .free := hx
    have : ((cellsFrom (s.heap.objs.size + 1) scope.names (cloF X.env scope.names [])).lookup x).isSome = true := by
      have fr : (x, NameKind.free) ∈ scope.names → ((cellsFrom (s.heap.objs.size + 1) scope.names (cloF X.env scope.names [])).lookup x).isSome = true := fun z => PySem.W.cellsFrom_some _ _ _ (.inr (clo_some _ _ (.inl z)))
      have ce : (x, NameKind.cell) ∈ scope.names → ((cellsFrom (s.heap.objs.size + 1) scope.names (cloF X.env scope.names [])).lookup x).isSome = true := fun z => by
        have aux : ∀ (names : List (Str × NameKind)) (k : Nat) (acc : List (Str × Addr)), (x, NameKind.cell) ∈ names → ((cellsFrom k names acc).lookup x).isSome = true := by
          intro names
          induction names with
          | nil => intro _ _ z; cases z
          | cons y r ih =>
            intro k acc z
            obtain ⟨n, kd⟩ := y
            unfold cellsFrom
            by_cases hk : (kd == NameKind.cell) = true
            · rw [if_pos hk]
              rcases List.mem_cons.mp z with e | z
              · cases e
                exact PySem.W.cellsFrom_some _ _ _ (.inr (by rw [List.lookup_cons]; simp))
              · exact ih _ _ z
            · rw [if_neg hk]
              rcases List.mem_cons.mp z with e | z
              · cases e; exact absurd (by decide) hk
              · exact ih _ _ z
        exact aux _ _ _ z
      rcases hx' with q | q
      · rcases relabel_look q with q | ⟨_, q⟩
        · exact ce q
        · exact fr q
      · rcases relabel_look q with q | ⟨e, _⟩
        · exact fr q
        · cases e
    exact Option.isSome_iff_exists.mp this
  · have hm : (x, NameKind.cell) ∈ scope.names := of_decide_eq_true hfx
    rcases cs_look x c e with q | ⟨_, nm⟩
    · exact Nat.le_trans (Nat.le_succ _) q
    · exact absurd hm nm
  · exact Nat.ne_of_lt (fplt b hb)
  · rcases cs_look x c e with q | ⟨q, _⟩
    · exact Nat.ne_of_gt (Nat.lt_of_lt_of_le (fplt b hb) (Nat.le_trans (Nat.le_succ _) q))
    · exact (hf b hb).2.2.2.2.1 x c q
  · rcases (hf b hb).2.2.2.1 with z | z
    · exact I.ok.noex b o e z
    · exact absurd (Nat.lt_of_lt_of_le (Heap.lt_size e) (Nat.le_trans I.ok.bsz z)) (Nat.lt_irrefl _)
  · rcases List.mem_cons.mp (I.stkSub b hz) with e | z
    · exact (hf b hb).2.1 e
    · exact (hf b hb).2.2.1 z
  · -- a captured name
    have h1 : (own ++ cap)[i]? = some x := h1
    have hi : own.length ≤ i := by
      by_cases hi : i < own.length
      · unfold blkσ at h2
        rw [List.getElem?_append_left (by simpa using hi), List.getElem?_replicate, if_pos hi] at h2
        cases h2
      · omega
    rw [List.getElem?_append_right hi] at h1
    unfold blkσ at h2
    rw [List.getElem?_append_right (by simpa using hi), List.length_replicate, List.getElem?_map] at h2
    obtain ⟨j, hj, hN⟩ := B.at' _ _ h1
    rw [hj] at h2
    simp only [Option.map_some, Option.some.injEq] at h2
    have h2' : σ[j]? = some (some v) := by
      cases q : σ[j]? with
      | none => rw [q] at h2; simp at h2
      | some o => rw [q] at h2; simp at h2; rw [h2]
    have fm := B.caps _ _ h1
    have kd := B.frees _ fm rfl
    obtain ⟨m, hn, hl⟩ := I.loc
    obtain ⟨u, r, l⟩ := hl j x v hN h2' (by rcases kd with k | k; exact .inr (.inl k); exact .inr (.inr k))
    refine ⟨u, r, .inr ?_⟩
    have cellx : ∃ c, X.env.cells.lookup x = some c ∧ s.heap.IsCell c (some u) := by
      rcases l with ⟨k, _⟩ | ⟨_, c, e, z⟩
      · simp only at kd; rw [k] at kd; rcases kd with k | k <;> cases k
      · exact ⟨c, e, z⟩
    obtain ⟨c, ec, zc⟩ := cellx
    have ncell : (x, NameKind.cell) ∉ scope.names := fun z => by have := nodup_keys B.nd z fm; cases this
    refine ⟨?_, c, ?_, zc.keeps keep⟩
    · have h3' : (relabel scope X.env).names.lookup x = some .local ∨ (relabel scope X.env).names.lookup x = some .cell ∨ (relabel scope X.env).names.lookup x = some .free := h3
      rcases h3' with q | q | q
      · rcases relabel_look q with q | ⟨e, _⟩
        · have := nodup_keys B.nd q fm; cases this
        · cases e
      · exact .inl q
      · exact .inr q
    · show (cellsFrom (s.heap.objs.size + 1) scope.names (cloF X.env scope.names [])).lookup x = some c
      obtain ⟨c', e'⟩ := Option.isSome_iff_exists.mp (PySem.W.cellsFrom_some (x := x) scope.names (s.heap.objs.size + 1) (cloF X.env scope.names []) (.inr (clo_some _ _ (.inl fm))))
      rw [e']
      rcases cf_look _ _ _ e' with q | ⟨q, _⟩
      · exfalso
        have m := PySem.mem_of_lookup e'
        have aux : ∀ (names : List (Str × NameKind)) (k : Nat) (acc : List (Str × Addr)), (x, NameKind.cell) ∉ names → (cellsFrom k names acc).lookup x = acc.lookup x := by
          intro names
          induction names with
          | nil => intro _ _ _; rfl
          | cons y r ih =>
            intro k acc nm
            obtain ⟨n, kd⟩ := y
            unfold cellsFrom
            by_cases hk : (kd == NameKind.cell) = true
            · rw [if_pos hk, ih _ _ (fun z => nm (List.mem_cons_of_mem _ z)), List.lookup_cons]
              have : (x == n) = false := by
                simp only [beq_eq_false_iff_ne]
                intro e; subst e
                have : kd = .cell := by simpa using hk
                subst this
                exact nm List.mem_cons_self
              rw [this]
            · rw [if_neg hk, ih _ _ (fun z => nm (List.mem_cons_of_mem _ z))]
        rw [aux _ _ _ ncell] at e'
        rcases clo_look _ _ has e' with z | z
        · exact absurd (Nat.lt_of_lt_of_le (old _ _ z) (Nat.le_trans (Nat.le_succ _) q)) (Nat.lt_irrefl _)
        · cases z
      · rcases clo_look _ _ has q with z | z
        · rw [ec] at z; rw [z]
        · cases z
  · rcases cs_look x c e with q | ⟨q, _⟩
    · exact I.hok.fresh (Nat.le_trans (Nat.le_succ _) q)
    · exact I.freeC x c q
  · unfold blkσ
    show _ = (own ++ cap).length
    rw [List.length_append, List.length_append, List.length_replicate, List.length_map, B.len]
end
end L2

set_option Elab.async false
set_option linter.all false
set_option maxRecDepth 100000
namespace L2
open PySem PySem.Spec PyProof.Rows

def tCompN (g : TG) (tt : TT) (te : TE) (J : It) (acc : Addr) (σ₀ : St) (H₀ : Hp) (Q : VK) : Prop :=
  ∃ W : Nat → Nat → St → Hp → Prop, (∃ m, W 0 m σ₀ (upd H₀ acc (.lst []))) ∧ ∀ i m σ' H', W i m σ' H' →
    (J.stop i H' ∧ Q (.ref acc) H') ∨
    (J.go i H' ∧ ∃ N : St → Hp → Prop, (∀ σ2 H2, N σ2 H2 → ∃ m', m' < m ∧ W (i + 1) m' σ2 H2) ∧ ∀ x H2, J.yld i H' x H2 → g x σ' H2 fun σ3 H3 => tt σ3 H3 fun b H4 =>
      if b = true then te σ3 H4 fun y H5 => ∃ ys, H5 acc = some (.lst ys) ∧ ys.length < sizeLine ∧ N σ3 (upd H5 acc (.lst (ys ++ [y]))) else N σ3 H4)
/-- [elt for tg in iter if ..]: the accumulator stands at acc -/
def tComp (wi : TI) (g : TG) (tt : TT) (te : TE) (own : Nat) (ix : List Nat) : TE := fun σ H Q => wi σ H fun J H1 => ∀ acc, H1 acc = none → tCompN g tt te J acc (blkσ own ix σ) H1 Q

section
variable {X : Cx} {scope : Scope} {own cap : List Str} {ix : List Nat} {tg iter elt : Expr} {ifs : List Expr} {wi : TI} {g : TG} {tt : TT} {te : TE} {pos : Pos}

theorem comp_core {pins : List (Addr × Obj)} {σ : St} {H2 : Hp} {s2 : Shared} {it : Addr} {fp : List Addr} {tn : Nat → Heap → Prop} {J : It} {Q : VK} {RR : Value → Addr → Result → Shared → Prop} {E : Value → Shared → Prop}
    (B : BlkOk X scope own cap ix) (hc : X.calm = true)
    (hb : ∀ C fp s H, PG (cxC X scope C (own ++ cap) fp s H) tg g ∧ PIfs (cxC X scope C (own ++ cap) fp s H) ifs tt ∧ PE (cxC X scope C (own ++ cap) fp s H) elt te)
    (I2 : Inv X pins σ H2 s2) (T : Turn X.prog X.w X.K tg J fp it tn) (st2 : tn 0 s2.heap) (f2 : ∀ b ∈ fp, FpOk X pins H2 b)
    (q : ∀ acc, H2 acc = none → tCompN g tt te J acc (blkσ own.length ix σ) H2 Q)
    (hRR : ∀ D C H' s' m, Inv X pins σ H' s' → Q (.ref D) H' → s'.heap.Ns C m → FpOk X pins H' C → RR (.ref D) C (.ok .next) s') :
    wpAny (model X.prog X.w) X.A (newList []) (fun acc s₃ => wpAny (model X.prog X.w) X.A (newFunctionEnv scope X.env.globals (cloF X.env scope.names []) [] X.env.qual none .none (some X.env)) (fun cenv s₄ =>
      codeAny (model X.prog X.w) X.A (.compStart (.ListComp elt [⟨tg, iter, ifs, 0⟩] scope pos) 0 (.ref it) acc { cenv with scope := relabel scope X.env }) (RR acc cenv.locals) s₄) E s₃) E s2 := by
  refine wpAny_newObj_type (newEnv_comp ?_)
  have I3 : Inv X pins σ (upd H2 s2.heap.objs.size (.lst [])) { s2 with heap := s2.heap.push { cls := .type "list", dict := none, data := .seq ([] : List Value).toArray } } := I2.lnew (its := []) (ys := []) (t' := s2.toks) .nil (Nat.zero_le _)
  obtain ⟨W, ⟨m0, w0⟩, turn⟩ := q s2.heap.objs.size I2.fresh
  generalize hD : s2.heap.objs.size = D at I3 w0 turn ⊢
  have hlt : ∀ b ∈ fp, b < D := fun b hbm => by
    obtain ⟨o, e, _⟩ := T.obj 0 _ st2 b hbm
    rw [← hD]; exact Heap.lt_size e
  generalize hs3 : ({ s2 with heap := s2.heap.push { cls := .type "list", dict := none, data := .seq ([] : List Value).toArray } } : Shared) = s3 at I3 ⊢
  have keep3 : ∀ b o, s2.heap.get? b = some o → s3.heap.get? b = some o := fun b o e => by rw [← hs3]; exact Heap.get?_push_of_some _ e
  have f3 : ∀ b ∈ fp, FpOk X pins (upd H2 D (.lst [])) b := fun b hbm => ⟨by rw [upd_ne (Nat.ne_of_lt (hlt b hbm))]; exact (f2 b hbm).1, (f2 b hbm).2⟩
  have o3 : ∀ b ∈ fp, ∃ o, s3.heap.get? b = some o := fun b hbm => let ⟨o, e, _⟩ := T.obj 0 _ st2 b hbm; ⟨o, keep3 b o e⟩
  have I4 := I3.block B f3 o3
  have st4 : tn 0 (pushCells (s3.heap.push { cls := .type "dict", data := .dict #[] }) scope.names) := T.keep 0 _ _ st2 fun b _ o e => pushCells_keeps _ _ b o (Heap.get?_push_of_some _ (keep3 b o e))
  obtain ⟨hg, hif, he⟩ := hb s3.heap.objs.size fp s3 (upd H2 D (.lst []))
  generalize hX' : cxC X scope s3.heap.objs.size (own ++ cap) fp s3 (upd H2 D (.lst [])) = X' at I4 hg hif he
  have eP : X'.prog = X.prog := by rw [← hX']; rfl
  have eW : X'.w = X.w := by rw [← hX']; rfl
  have eK : X'.K = X.K := by rw [← hX']; rfl
  have eA : X'.A = X.A := by rw [← hX']; rfl
  have eE : X'.env = compE scope s3.heap.objs.size X.env := by rw [← hX']; rfl
  have ex : X'.xe = fun _ _ => False := by rw [← hX']; rfl
  have hc' : X'.calm = true := by rw [← hX']; exact hc
  have stat : ∀ {H' : Hp}, (∀ b ∈ fp, H' b = none) → ∀ b ∈ fp, FpOk X' [] H' b := fun hn b hbm => by
    subst hX'
    exact ⟨hn b hbm, (I4.ok.exf b hbm).1, I4.ok.exfs b hbm, .inl hbm, (I4.ok.exf b hbm).2, fun p hp => absurd (show p ∈ ([] : List (Addr × Obj)) from hp) (by simp)⟩
  have loop : ∀ s4 : Shared, s4 = { s3 with heap := pushCells (s3.heap.push { cls := .type "dict", data := .dict #[] }) scope.names } →
      codeAny (model X.prog X.w) X.A (.compLoop (.ListComp elt [⟨tg, iter, ifs, 0⟩] scope pos) 0 (.ref it) (.ref D) (compE scope s3.heap.objs.size X.env)) (RR (.ref D) s3.heap.objs.size) s4 := by
    rintro s4 rfl
    refine comp_loop (fun n s' => ∃ i σ' H', Inv X' [] σ' H' s' ∧ tn i s'.heap ∧ (∀ b ∈ fp, H' b = none) ∧ W i n σ' H') ?_ m0 ⟨0, _, _, I4, st4, fun b hbm => (f3 b hbm).1, w0⟩
    rintro n s5 ⟨i, σ5, H5, I5, st5, fr5, w5⟩
    rcases turn i n σ5 H5 w5 with ⟨stop, qn⟩ | ⟨go, N, hN, step⟩
    · have := T.done X' eP eW eK hc' i [] s5 σ5 H5 (fun _ _ => False) I5 (stat fr5) st5 stop
      rw [eA] at this
      refine thn this fun r s6 ⟨hr, I6⟩ => ?_
      subst hr
      subst hX'
      have J6 : Inv X pins σ H5 s6 := I3.call' (ch := fp) I6.os I6.base I6.hok I6.bare fun b hbm => ⟨(f3 b hbm).2.2.2.1, (f3 b hbm).2.1, (f3 b hbm).2.2.2.2.1, (f3 b hbm).2.2.2.2.2⟩
      obtain ⟨m, hn, _⟩ := I6.loc
      exact hRR D _ H5 s6 m J6 qn hn (I3.fpOk (Nat.le_refl _) I6.free)
    · have := T.item X' eP eW eK hc' i [] s5 σ5 H5 (fun _ _ => False) I5 (stat fr5) st5 go
      rw [eA] at this
      refine thn this fun r s6 ⟨u, hr, h6⟩ => ?_
      subst hr
      refine thn h6 fun _ s7 ⟨x, H7, I7, r7, y7, st7, fr7⟩ => ?_
      have I7' := I7.pinned (stat fr7) (T.obj _ _ st7)
      have a1 := hg _ s7 σ5 H7 x u _ I7' r7 (step x H7 y7)
      rw [eP, eW, eA, eE, ex] at a1
      refine thn a1 fun _ s8 ⟨σ8, H8, I8, q8⟩ => ?_
      have a2 := hif _ s8 σ8 H8 _ I8 q8
      rw [eP, eW, eA, eE, ex] at a2
      refine thn a2 fun b s9 ⟨H9, I9, q9⟩ => ?_
      have again : ∀ {s' : Shared} {σ' : St} {H' : Hp}, Inv X' ([] ++ pinsAt fp s7.heap) σ' H' s' → N σ' H' → ∃ m, m < n ∧ ∃ i σ' H', Inv X' [] σ' H' s' ∧ tn i s'.heap ∧ (∀ b ∈ fp, H' b = none) ∧ W i m σ' H' := fun {s' σ' H'} I' n' => by
        obtain ⟨m', hm, w'⟩ := hN σ' H' n'
        refine ⟨m', hm, i + 1, σ', H', I'.unpinned, T.keep _ _ _ st7 fun b hbm o e => (I'.pin (b, o) (List.mem_append_right _ (List.mem_append_right _ (mem_pinsAt hbm e)))).1, fun b hbm => ?_, w'⟩
        obtain ⟨o, e, d⟩ := T.obj _ _ st7 b hbm
        exact (I'.pin (b, o) (List.mem_append_right _ (List.mem_append_right _ (mem_pinsAt hbm e)))).2.1
      cases b with
      | false => exact again I9 q9
      | true =>
        rw [if_pos rfl] at q9 ⊢
        have a3 := he _ s9 σ8 H9 _ I9 q9
        rw [eP, eW, eA, eE, ex] at a3
        refine thn a3 fun yv s10 ⟨y, H10, I10, r10, ys, hys, hz, q10⟩ => ?_
        have a4 := mt_append (X := X') _ s10 σ8 H10 (.ref D) [y] (.ref D) [yv] (fun v H' => v = .non ∧ N σ8 H') I10 rfl (.cons r10 .nil) ⟨D, ys, y, rfl, rfl, hys, hz, rfl, q10⟩
        rw [eP, eW, eA, ex] at a4
        refine thn a4 fun _ s11 ⟨_, H11, I11, _, _, q11⟩ => again I11 q11
  exact codeAny_compStart_list (loop _ rfl) (T.self X.A 0 _ _ _ st4 (loop _ rfl))

theorem pe_comp (B : BlkOk X scope own cap ix) (hc : X.calm = true) (hi : PI X tg iter wi)
    (hb : ∀ C fp s H, PG (cxC X scope C (own ++ cap) fp s H) tg g ∧ PIfs (cxC X scope C (own ++ cap) fp s H) ifs tt ∧ PE (cxC X scope C (own ++ cap) fp s H) elt te)
    (hs : ∀ x, foldedSetIterable iter X.env x = pure x := by intro _; rfl) : PE X (.ListComp elt [⟨tg, iter, ifs, 0⟩] scope pos) (tComp wi g tt te own.length ix) := by
  intro pins s σ H Q I h
  rw [eval_ListComp]
  have has : ∀ x ∈ scope.names, x.2 = .free → (X.env.cells.lookup x.1).isSome = true := fun x hx hk => by
    obtain ⟨c, e⟩ := I.ok.has x.1 (B.frees x hx hk)
    rw [e]; rfl
  refine wpAny_comprehension_free (use := none) rfl hs (closureFor_cells has) B.kind B.names ?_
  show wpAny _ _ (eval iter X.env) _ _ s
  refine thn (hi pins s σ H _ I h) fun v s1 h1 => thn h1 fun itv s2 h2 => ?_
  obtain ⟨it, fp, tn, J, H2, e, I2, T, st2, f2, q⟩ := h2
  subst e
  refine comp_core (RR := fun acc C => compPost (model X.prog X.w) X.A X.xe none (EP X pins σ Q) acc C) B hc hb I2 T st2 f2 q ?_
  intro D C H' s' m I' q' hn fC
  refine ⟨m, hn, fun h' hsb => ⟨.ref D, H', ?_, rfl, q'⟩⟩
  exact I'.turned (t' := s'.toks) (it := C) (fun b o hbC e => (hsb.2 b hbC).trans e) fC.1 fC.2.1 fC.2.2.2.1 fC.2.2.2.2.1 fC.2.2.2.2.2

/-- name = [.. for ..], the name a plain local on the comprehension's row -/
theorem ps_setC {i : Nat} {y : Str} {py spos : Pos} (hN : X.N.Nodup) (hiN : X.N[i]? = some y) (hx : X.env.scope.names.lookup y = some .local) (B : BlkOk X scope own cap ix) (hc : X.calm = true) (hi : PI X tg iter wi)
    (hb : ∀ C fp s H, PG (cxC X scope C (own ++ cap) fp s H) tg g ∧ PIfs (cxC X scope C (own ++ cap) fp s H) ifs tt ∧ PE (cxC X scope C (own ++ cap) fp s H) elt te)
    (hsw : swapsWith (.ListComp elt [⟨tg, iter, ifs, 0⟩] scope pos) (some (.Name y py)) spos.line X.env = pure true := by rfl)
    (hs : ∀ x, foldedSetIterable iter X.env x = pure x := by intro _; rfl) : PS X (.Assign [.Name y py] (.ListComp elt [⟨tg, iter, ifs, 0⟩] scope pos) spos) (tAsg (tComp wi g tt te own.length ix) (gName i)) := by
  intro pins s σ H D I h
  rw [exec_Assign_Name_used _ _ _ _ hsw]
  have has : ∀ x ∈ scope.names, x.2 = .free → (X.env.cells.lookup x.1).isSome = true := fun x hx hk => by
    obtain ⟨c, e⟩ := I.ok.has x.1 (B.frees x hx hk)
    rw [e]; rfl
  refine wpAny_bind (wpAny_standAt (wpAny_bind ?_))
  show wpAny _ X.A (do let _ ← comprehension (.ListComp elt [⟨tg, iter, ifs, 0⟩] scope pos) scope X.env _ (newList []) false (eval iter X.env) (some (assign (.Name y py) X.env))) _ _ s
  refine wpAny_bind (wpAny_mono (wpAny_comprehension_free (use := some (assign (.Name y py) X.env)) (Q := fun _ s' => SP X pins D .next s') rfl hs (closureFor_cells has) B.kind B.names ?_) (fun _ s' hq => wpAny_pure (wpAny_pure hq)) fun _ _ e => e)
  refine thn (hi pins s σ H _ I h) fun v s1 h1 => thn h1 fun itv s2 h2 => ?_
  obtain ⟨it, fp, tn, J, H2, e, I2, T, st2, f2, q⟩ := h2
  subst e
  refine comp_core (RR := fun acc C => compPost (model X.prog X.w) X.A X.xe (some (assign (.Name y py) X.env)) (fun _ s' => SP X pins D .next s') acc C) B hc hb I2 T st2 f2 q ?_
  intro Da C H' s' m I' q' hn fC
  show wpAny _ X.A (assign (.Name y py) X.env (.ref Da)) _ _ s'
  obtain ⟨oC, es, ep, hoC, hdC, r⟩ := id hn
  have Ip : Inv X (pins ++ [(C, oC)]) σ H' s' := I'.pins_of fun p hp => by
    rcases List.mem_append.mp hp with z | z
    · exact I'.pin p (List.mem_append_right _ z)
    · obtain rfl : p = (C, oC) := by simpa using z
      exact ⟨hoC, fC.1, fC.2.1, fC.2.2.1, fun v e => by rw [hdC] at e; cases e⟩
  refine wpAny_assign_Name (store_ok Ip hN hiN (.inl hx) (v := .ref Da) rfl (fun s'' I'' => ?_) (.inr hx))
  have pC := (I''.pin (C, oC) (List.mem_append_right _ (List.mem_append_right _ (by simp)))).1
  refine ⟨m, ⟨oC, es, ep, pC, hdC, r⟩, fun h' hsb => ⟨_, H', ?_, q'⟩⟩
  exact I''.unpinned.turned (t' := s''.toks) (it := C) (fun b o hbC e => (hsb.2 b hbC).trans e) fC.1 fC.2.1 fC.2.2.2.1 fC.2.2.2.2.1 fC.2.2.2.2.2
end
end L2

set_option Elab.async false
set_option linter.all false
set_option maxRecDepth 100000
namespace L2
open PySem PySem.Spec PyProof.Rows

/-! ### any, all, sum, max over a list or a tuple of plain values -/
def tv : V → Bool
  | .bl b => b
  | .int i => i != 0
  | _ => false
def plainB : V → Bool
  | .bl _ => true
  | .int _ => true
  | .non => true
  | _ => false
theorem truthy_plain {prog : Program} {w : World} {A : Around} {E : Value → Shared → Prop} {s : Shared} {x : V} {v : Value} {Q : Bool → Shared → Prop} (r : RelV x v) (p : plainB x = true) (h : Q (tv x) s) : wpAny (model prog w) A (truthy v) Q E s := by
  cases x with
  | non => cases r; exact truthy_none h
  | bl b => cases r; exact wpAny_truthy_bool h
  | int i => obtain ⟨t, rfl⟩ := r; exact PySem.P.truthy_int h
  | _ => cases p
theorem all_range {xs : List V} {n : Nat} (hn : n = xs.length) (f : V → Bool) : (List.range n).all (fun i => (xs[i]?.map f).getD true) = xs.all f := by
  subst hn
  rw [Bool.eq_iff_iff]
  simp only [List.all_eq_true, List.mem_range]
  constructor
  · intro h x hx
    obtain ⟨i, hi, e⟩ := List.mem_iff_getElem.mp hx
    have := h i hi
    rw [List.getElem?_eq_getElem hi, e] at this
    simpa using this
  · intro h i hi
    rw [List.getElem?_eq_getElem hi]
    simpa using h _ (List.getElem_mem hi)
theorem any_range {xs : List V} {n : Nat} (hn : n = xs.length) (f : V → Bool) : (List.range n).any (fun i => (xs[i]?.map f).getD false) = xs.any f := by
  subst hn
  rw [Bool.eq_iff_iff]
  simp only [List.any_eq_true, List.mem_range]
  constructor
  · rintro ⟨i, hi, h⟩
    rw [List.getElem?_eq_getElem hi] at h
    exact ⟨_, List.getElem_mem hi, by simpa using h⟩
  · rintro ⟨x, hx, h⟩
    obtain ⟨i, hi, e⟩ := List.mem_iff_getElem.mp hx
    exact ⟨i, hi, by rw [List.getElem?_eq_getElem hi, e]; simpa using h⟩

section
variable {X : Cx}
/-- an iterator of a list or a tuple for a built-in that walks it -/
theorem iter_seq {pins : List (Addr × Obj)} {σ : St} {H : Hp} {s : Shared} {p : Addr} {xs : List V} {A : Around} {E : Value → Shared → Prop} {Q : Value → Shared → Prop} (I : Inv X pins σ H s) (hA : A.handled = none) (h : SqL X.K H p xs ∨ SqT X.K H p xs)
    (k : ∀ (it : Addr) (fp wr : List Addr) (its : List Value) (St : Nat → Heap → Prop) (s2 : Shared), Vals xs its → Walks X.prog X.w A it fp wr its.length (fun i v => its[i]? = some v) St → St 0 s2.heap → (∀ b ∈ fp, b < s2.heap.objs.size) →
      (∀ h' tk, (∀ b o, b ∉ wr → s2.heap.get? b = some o → h'.get? b = some o) → Inv X pins σ H { s2 with heap := h', toks := tk }) → Q (.ref it) s2) :
    wpAny (model X.prog X.w) A (pyIter (.ref p)) Q E s := by
  rcases h with h | h
  · obtain ⟨its, rv, pl, hz⟩ := I.list h
    have hp : p < s.heap.objs.size := by obtain ⟨o, n, e, _⟩ := pl; exact Heap.lt_size e
    refine wpAny_pyIter_list pl.isList ?_
    have W := Walks.list (prog := X.prog) (w := X.w) (A := A) hA s.heap.objs.size p (Nat.ne_of_lt hp) its.toArray
    refine k s.heap.objs.size [s.heap.objs.size, p] [s.heap.objs.size] its (fun i h => h.IsListIter s.heap.objs.size p i ∧ h.IsList p its.toArray) _ rv (by simpa using W) ⟨⟨_, Heap.get?_push_size _ rfl, rfl, rfl⟩, pl.isList.push _⟩ (fun b hb => ?_) (fun h' tk hk => ?_)
    · show b < (s.heap.push _).objs.size
      rw [Heap.size_push]
      rcases List.mem_cons.mp hb with rfl | hb
      · exact Nat.lt_succ_self _
      · rcases List.mem_cons.mp hb with rfl | hb
        · exact Nat.lt_succ_of_lt hp
        · cases hb
    · exact I.kept (t' := tk) fun b o e => hk b o (fun z => Nat.lt_irrefl _ (by have := Heap.lt_size e; simp at z; rw [z] at this; exact this)) (Heap.get?_push_of_some _ e)
  · obtain ⟨its, rv, pl, hz⟩ := I.tuple h
    have hp : p < s.heap.objs.size := by obtain ⟨o, e, _⟩ := pl; exact Heap.lt_size e
    have pt : s.heap.IsTuple p its.toArray := pl
    refine wpAny_pyIter_tuple pt ?_
    have W := Walks.tuple (prog := X.prog) (w := X.w) (A := A) hA s.heap.objs.size p (Nat.ne_of_lt hp) its.toArray
    refine k s.heap.objs.size [s.heap.objs.size, p] [s.heap.objs.size] its (fun i h => h.IsTupleIter s.heap.objs.size p i ∧ h.IsTuple p its.toArray) _ rv (by simpa using W) ⟨⟨_, Heap.get?_push_size _ rfl, rfl, rfl⟩, ?_⟩ (fun b hb => ?_) (fun h' tk hk => ?_)
    · obtain ⟨o, e, r⟩ := pt
      exact ⟨o, Heap.get?_push_of_some _ e, r⟩
    · show b < (s.heap.push _).objs.size
      rw [Heap.size_push]
      rcases List.mem_cons.mp hb with rfl | hb
      · exact Nat.lt_succ_self _
      · rcases List.mem_cons.mp hb with rfl | hb
        · exact Nat.lt_succ_of_lt hp
        · cases hb
    · exact I.kept (t' := tk) fun b o e => hk b o (fun z => Nat.lt_irrefl _ (by have := Heap.lt_size e; simp at z; rw [z] at this; exact this)) (Heap.get?_push_of_some _ e)

theorem Vals.at {xs : List V} {us : List Value} {i : Nat} {v : Value} (r : Vals xs us) (e : us[i]? = some v) : ∃ x, xs[i]? = some x ∧ RelV x v := by
  have hi : i < us.length := (List.getElem?_eq_some_iff.mp e).1
  have hx : i < xs.length := by rw [r.length]; exact hi
  obtain ⟨u, h1, h2⟩ := r.get (List.getElem?_eq_getElem hx)
  rw [e] at h1; cases h1
  exact ⟨_, List.getElem?_eq_getElem hx, h2⟩

theorem call_all (hc : X.calm = true) : CallR X (.builtin "all") (fun xs H Q => ∃ p ys, xs = [.ref p] ∧ (SqL X.K H p ys ∨ SqT X.K H p ys) ∧ ys.all plainB = true ∧ Q (.bl (ys.all tv)) H) := by
  intro pins s σ H xs us Q I r h
  obtain ⟨p, ys, rfl, hs, hp, q⟩ := h
  obtain ⟨u, rfl, ru⟩ := vals1 r
  cases ru
  refine call_all_walk (iter_seq I (A := X.A.in1) (I.ok.hd hc) hs fun it fp wr its St s2 rv W st hfp hk => ?_)
  refine ⟨it, fp, wr, its.length, _, St, (fun i => (ys[i]?.map tv).getD true), rfl, W, st, fun i v s' Q' E' hv hq => ?_, fun h' tk kk => ⟨.bl (ys.all tv), H, hk h' tk kk, ?_, q⟩⟩
  · obtain ⟨x, ex, rx⟩ := rv.at hv
    simp only [ex, Option.map_some, Option.getD_some] at hq
    exact truthy_plain rx (List.all_eq_true.mp hp x (List.mem_of_getElem? ex)) hq
  · rw [all_range rv.length.symm]; rfl
theorem call_any (hc : X.calm = true) : CallR X (.builtin "any") (fun xs H Q => ∃ p ys, xs = [.ref p] ∧ (SqL X.K H p ys ∨ SqT X.K H p ys) ∧ ys.all plainB = true ∧ Q (.bl (ys.any tv)) H) := by
  intro pins s σ H xs us Q I r h
  obtain ⟨p, ys, rfl, hs, hp, q⟩ := h
  obtain ⟨u, rfl, ru⟩ := vals1 r
  cases ru
  refine call_any_walk (iter_seq I (A := X.A.in1) (I.ok.hd hc) hs fun it fp wr its St s2 rv W st hfp hk => ?_)
  refine ⟨it, fp, wr, its.length, _, St, (fun i => (ys[i]?.map tv).getD false), rfl, W, st, fun i v s' Q' E' hv hq => ?_, fun h' tk kk => ⟨.bl (ys.any tv), H, hk h' tk kk, ?_, q⟩⟩
  · obtain ⟨x, ex, rx⟩ := rv.at hv
    simp only [ex, Option.map_some, Option.getD_some] at hq
    exact truthy_plain rx (List.all_eq_true.mp hp x (List.mem_of_getElem? ex)) hq
  · rw [any_range rv.length.symm]; rfl

theorem preSum_take (ns : List Int) : ∀ k, k ≤ ns.length → preSum (fun i => (ns[i]?).getD 0) k = (ns.take k).sum
  | 0, _ => by simp [preSum]
  | k + 1, h => by
    have hk : k < ns.length := h
    rw [preSum, preSum_take ns k (Nat.le_of_lt hk), List.getElem?_eq_getElem hk]
    have e : ns.take (k + 1) = ns.take k ++ [ns[k]] := by rw [List.take_add_one, List.getElem?_eq_getElem hk]; rfl
    rw [e, List.sum_append]
    simp
theorem call_sum (hc : X.calm = true) : CallR X (.builtin "sum") (fun xs H Q => ∃ (p : Addr) (ns : List Int), xs = [.ref p] ∧ (SqL X.K H p (ns.map V.int) ∨ SqT X.K H p (ns.map V.int)) ∧ Q (.int ns.sum) H) := by
  intro pins s σ H xs us Q I r h
  obtain ⟨p, ns, rfl, hs, q⟩ := h
  obtain ⟨u, rfl, ru⟩ := vals1 r
  cases ru
  refine call_sum_walkG (iter_seq I (A := X.A.in1) (I.ok.hd hc) hs fun it fp wr its St s2 rv W st hfp hk => ?_)
  refine ⟨it, fp, wr, its.length, _, St, (fun i => (ns[i]?).getD 0), rfl, W, st, hfp, fun i v hv => ?_, fun h' tk t' kk => ⟨.int ns.sum, H, hk h' tk kk, ⟨t', ?_⟩, q⟩⟩
  · obtain ⟨x, ex, rx⟩ := rv.at hv
    rw [List.getElem?_map] at ex
    cases e : ns[i]? with
    | none => rw [e] at ex; cases ex
    | some n =>
      rw [e] at ex
      cases ex
      simp only [e, Option.getD_some]
      exact rx
  · have hl : its.length = ns.length := by rw [← rv.length, List.length_map]
    rw [hl, preSum_take ns _ (Nat.le_refl _), List.take_length]
end

/-! ### isinstance(x, T), T a name -/
def tIsi (K : PySem.W.Frag) (c : Value) (te : TE) : TE := fun σ H Q => te σ H fun x H1 => ∃ t b, TyOf K H1 x t ∧ PySem.W.kitOne K t c = some b ∧ Q (.bl b) H1
section
variable {X : Cx} {e : Expr} {te : TE}
theorem spl2 {a b : Expr} {ta : TE} {pos : Pos} {pins : List (Addr × Obj)} {s : Shared} {σ : St} {H : Hp} {Q : List Value → Shared → Prop} (ha : PE X a ta) (I : Inv X pins σ H s) {R : V → Hp → Prop} (h : ta σ H R)
    (hs : starEach [a, b] X.env = [(false, eval a X.env), (false, eval b X.env)]) (k : ∀ u s1 x H1, Inv X pins σ H1 s1 → RelV x u → R x H1 → wpAny (model X.prog X.w) X.A (eval b X.env) (fun v s2 => Q [u, v] s2) X.xe s1) :
    wpAny (model X.prog X.w) X.A (spliced (backTo pos (starEach [a, b] X.env))) Q X.xe s := by
  rw [hs]
  refine Calls.spliced_cons (thn (ha pins s σ H _ I h) fun u s1 ⟨x, H1, I1, r, q⟩ => ?_)
  exact Calls.spliced_cons (thn (k u s1 x H1 I1 r q) fun v s2 h2 => Calls.spliced_nil h2)
/-- T a built-in type's name -/
theorem pe_isiB {T : Str} {n : String} {p p2 pos : Pos} (he : PE X e te) (hg : Gl X "isinstance") (hm : X.mg "isinstance" = none) (hgT : Gl X T) (hmT : X.mg T = none) (hv : bootBuiltins T = some (.type n))
    (hb : bootBuiltins "isinstance" = some (.builtin "isinstance")) (hnT : T ≠ "__name__" := by decide) (hdT : (T == ("__debug__" : Str)) = false := by decide)
    (hs : starEach [e, .Name T p2] X.env = [(false, eval e X.env), (false, eval (.Name T p2) X.env)] := by rfl)
    (hpl : (backTo pos (starEach [.Name T p2] X.env)).any (·.1) = false := by rfl) : PE X (.Call (.Name "isinstance" p) [e, .Name T p2] [] pos) (tIsi X.K (.type n) te) := by
  intro pins s σ H Q I h
  refine Call_ (ld_blt I hg hm hb (PyProof.Rows.callWith_builtin1 (spl2 (Q := fun us s1 => wpAny (model X.prog X.w) X.A (call (.builtin "isinstance") us) (EP X pins σ Q) X.xe s1) he I h hs fun u s1 x H1 I1 r q => ?_) ?_ hpl))
  · refine ld_blt I1 hgT hmT hv ?_ hnT hdT
    obtain ⟨t, b, ty, ek, q⟩ := q
    exact isinst_ok I1 r ty ek fun tk => ⟨.bl b, H1, I1.tok tk, rfl, q⟩
  · rw [hs]; rfl
end

/-! ### == and != of nested data -/
mutual
inductive DtV (K : PySem.W.Frag) (H : Hp) : V → PyData → Prop
  | non : DtV K H .non .none
  | bl (b : Bool) : DtV K H (.bl b) (.bool b)
  | int (i : Int) : DtV K H (.int i) (.int i)
  | str (x : Str) (ok : (PyData.str x).canLay0 = true) : DtV K H (.str x) (.str x)
  | lst {a : Addr} {xs : List V} {ds : List PyData} : SqL K H a xs → DtVs K H xs ds → DtV K H (.ref a) (.list ds)
  | tup {a : Addr} {xs : List V} {ds : List PyData} : SqT K H a xs → DtVs K H xs ds → DtV K H (.ref a) (.tuple ds)
inductive DtVs (K : PySem.W.Frag) (H : Hp) : List V → List PyData → Prop
  | nil : DtVs K H [] []
  | cons {x : V} {xs : List V} {d : PyData} {ds : List PyData} : DtV K H x d → DtVs K H xs ds → DtVs K H (x :: xs) (d :: ds)
end
section
variable {X : Cx} {pins : List (Addr × Obj)} {σ : St} {H : Hp} {s : Shared}
mutual
theorem DtV.reads (I : Inv X pins σ H s) : ∀ {x : V} {d : PyData} {u : Value}, DtV X.K H x d → RelV x u → ∃ as, Reads s.heap u d as
  | _, _, _, .non, r => by cases r; exact ⟨_, .none⟩
  | _, _, _, .bl b, r => by cases r; exact ⟨_, .bool b⟩
  | _, _, _, .int i, r => by obtain ⟨t, rfl⟩ := r; exact ⟨_, .int i t⟩
  | _, _, _, .str x _, r => by obtain ⟨t, rfl⟩ := r; exact ⟨_, .str x t⟩
  | _, _, _, .lst hq h, r => by
    cases r
    obtain ⟨its, rv, ⟨o, n, e, c, _, d⟩, _⟩ := I.list hq
    obtain ⟨as, ra⟩ := DtVs.reads I h rv
    exact ⟨_, .list e c d (by simpa using ra)⟩
  | _, _, _, .tup hq h, r => by
    cases r
    obtain ⟨its, rv, ⟨o, e, c, n, d⟩, _⟩ := I.tuple hq
    obtain ⟨as, ra⟩ := DtVs.reads I h rv
    exact ⟨_, .tuple e c d (by simpa using ra)⟩
theorem DtVs.reads (I : Inv X pins σ H s) : ∀ {xs : List V} {ds : List PyData} {us : List Value}, DtVs X.K H xs ds → Vals xs us → ∃ as, ReadsAll s.heap us ds as
  | _, _, _, .nil, r => by cases r; exact ⟨_, .nil⟩
  | _, _, _, .cons h t, r => by
    cases r with
    | cons r1 r2 =>
      obtain ⟨as, ra⟩ := DtV.reads I h r1
      obtain ⟨bs, rb⟩ := DtVs.reads I t r2
      exact ⟨_, .cons ra rb⟩
end
mutual
theorem DtV.lay {K : PySem.W.Frag} : ∀ {x : V} {d : PyData}, DtV K H x d → d.canLay0 = true
  | _, _, .non => rfl
  | _, _, .bl b => rfl
  | _, _, .int i => rfl
  | _, _, .str x ok => ok
  | _, _, .lst hq h => by have := DtVs.lay h; simpa [PyData.canLay0] using this
  | _, _, .tup hq h => by have := DtVs.lay h; simpa [PyData.canLay0] using this
theorem DtVs.lay {K : PySem.W.Frag} : ∀ {xs : List V} {ds : List PyData}, DtVs K H xs ds → PyData.canLayAll0 ds = true
  | _, _, .nil => rfl
  | _, _, .cons h t => by have h1 := DtV.lay h; have h2 := DtVs.lay t; simp [PyData.canLayAll0, h1, h2]
end
end
section
variable {X : Cx}
def rEqD (K : PySem.W.Frag) : R2 := fun x y H Q => ∃ dx dy, DtV K H x dx ∧ DtV K H y dy ∧ min dx.depth dy.depth ≤ 60 ∧ Q (.bl (PyData.eqv dx dy)) H
def rNeD (K : PySem.W.Frag) : R2 := fun x y H Q => ∃ dx dy, DtV K H x dx ∧ DtV K H y dy ∧ min dx.depth dy.depth ≤ 60 ∧ Q (.bl (!PyData.eqv dx dy)) H
theorem op_eqD (hu : X.A.units + 64 < cLine) : OpR X (compareOp .Eq) (rEqD X.K) := by
  intro pins s σ H x y v u Q I rx ry h
  obtain ⟨dx, dy, hx, hy, hd, q⟩ := h
  obtain ⟨as, ra⟩ := hx.reads I rx
  obtain ⟨bs, rb⟩ := hy.reads I ry
  exact SeqAt.eqOverData X.prog X.w X.A X.xe s v u dx dy as bs _ ra rb hx.lay hy.lay (by omega) ⟨.bl (PyData.eqv dx dy), H, I, rfl, q⟩
theorem op_neD (hu : X.A.units + 64 < cLine) : OpR X (compareOp .NotEq) (rNeD X.K) := by
  intro pins s σ H x y v u Q I rx ry h
  obtain ⟨dx, dy, hx, hy, hd, q⟩ := h
  obtain ⟨as, ra⟩ := hx.reads I rx
  obtain ⟨bs, rb⟩ := hy.reads I ry
  exact SeqAt.neOverData X.prog X.w X.A X.xe s v u dx dy as bs _ ra rb hx.lay hy.lay (by omega) ⟨.bl (!PyData.eqv dx dy), H, I, rfl, q⟩
end
end L2

set_option Elab.async false
set_option linter.all false
set_option maxRecDepth 100000
namespace PySem
open AutoSeq1 (wpAny_loadPart')
end PySem
namespace PySem
theorem noR_tuple_mul : fillsNumberSlot (.type "tuple") "mul" = pure false := by
  first
    | exact fillsNumberSlot_seq (id := "tuple.__mul__") (r := some (.builtin "tuple.__rmul__")) F.slot_tuple_mul.lookup (by decide +kernel) F.slot_tuple_rmul.lookup rfl
    | (unfold fillsNumberSlot; rfl)
theorem repeat_tuple : seqRepeat? (.type "tuple") = pure (some (.builtin "tuple.__mul__")) := by
  unfold seqRepeat?
  first | rfl | kernel_rfl
end PySem

set_option Elab.async false
set_option linter.all false
set_option maxRecDepth 100000
namespace PySem
open AutoSeq1 (wpAny_loadPart')
theorem int_rmul_tup (a : Int) (t : Tok) (l : Addr) (items : Array Value) (n : Nat) (dct : Option Addr) (sl : Array (Option Value)) :
    Meets (Builtin.«int.__rmul__» ⟨[.int a t, .ref l], []⟩) (fun _ R s => s.heap.get? l = some { cls := .type "tuple", dict := dct, data := .seq items n, slots := sl } ∧ R (.ok (.ret Value.notImplemented)) s) :=
  .of_wp fun prog w A R s h => by obtain ⟨hp, g, d, tk, os⟩ := s; obtain ⟨hl, h⟩ := h; wp_walk using wpAny_loadPart' hl; exact ⟨_, rfl, h⟩
set_option maxHeartbeats 2000000 in
theorem tup_mul_new (l : Addr) (items : Array Value) (n : Nat) (dct : Option Addr) (sl : Array (Option Value)) (x : Int) (u : Tok) (hne : items.isEmpty = false) (h1 : (x == 1) = false) (h2 : (decide (x < -(2 ^ 63)) || decide (x ≥ 2 ^ 63)) = false)
    (h3 : (decide (x ≤ 0) || items.isEmpty) = false) (h4 : decide ((items.size : Int) * x > (2 ^ 63 - 1) / 8) = false) (h5 : Builtin.Tuple.tupleTooMany ((items.size : Int) * x) = false) (h6 : (List.foldl (fun x1 x2 => x1 ++ x2) #[] (List.replicate x.toNat items)).size ≤ sizeLine) :
    Meets (Builtin.«tuple.__mul__» ⟨[.ref l, .int x u], []⟩) (fun _ R s => s.heap.get? l = some { cls := .type "tuple", dict := dct, data := .seq items n, slots := sl } ∧ R (.ok (.ret (Value.ref s.heap.objs.size))) { s with heap := s.heap.push { cls := Value.type "tuple", data := Data.seq (List.foldl (fun x1 x2 => x1 ++ x2) #[] (List.replicate x.toNat items)) } }) :=
  .of_wp fun prog w A R s h => by
    obtain ⟨hp, g, d, tk, os⟩ := s; obtain ⟨hl, h⟩ := h
    wp_walk using wpAny_loadPart' hl
    rw [if_neg (by rw [h2]; exact Bool.false_ne_true)]
    wp_walk using wpAny_loadPart' hl
    rw [if_neg (by rw [h3]; exact Bool.false_ne_true)]
    try dsimp only
    rw [if_neg (of_decide_eq_false h4)]
    try dsimp only
    rw [if_neg (by rw [h5]; exact Bool.false_ne_true)]
    try dsimp only
    refine wpAny_bind (wpAny_newObj_type ?_ h6)
    wp_walk
    exact ⟨_, rfl, h⟩
set_option maxHeartbeats 2000000 in
theorem tup_mul_one (l : Addr) (items : Array Value) (n : Nat) (dct : Option Addr) (sl : Array (Option Value)) (u : Tok) :
    Meets (Builtin.«tuple.__mul__» ⟨[.ref l, .int 1 u], []⟩) (fun _ R s => s.heap.get? l = some { cls := .type "tuple", dict := dct, data := .seq items n, slots := sl } ∧ R (.ok (.ret (Value.ref l))) s) :=
  .of_wp fun prog w A R s h => by
    obtain ⟨hp, g, d, tk, os⟩ := s; obtain ⟨hl, h⟩ := h
    wp_walk using wpAny_loadPart' hl
    exact ⟨_, rfl, h⟩
end PySem
namespace L2
open PySem PySem.Spec PyProof.Rows
section
variable {X : Cx}
/-- t * n, t not empty, n from 1 on -/
def rRepT (K : PySem.W.Frag) : R2 := fun x y H Q => ∃ (a : Addr) (k : Int) (xs : List V), x = .ref a ∧ y = .int k ∧ SqT K H a xs ∧ xs ≠ [] ∧ 1 ≤ k ∧ xs.length * k.toNat ≤ sizeLine ∧
  (k = 1 → Q (.ref a) H) ∧ (k ≠ 1 → ∀ p, H p = none → Q (.ref p) (upd H p (.tup (List.replicate k.toNat xs).flatten)))
theorem op_repT : OpR X (binaryOp .Mult) (rRepT X.K) := by
  intro pins s σ H x y v u Q I rx ry h
  obtain ⟨a, k, xs, rfl, rfl, hH, hne, h1, hz, q1, q2⟩ := h
  cases rx
  obtain ⟨t, rfl⟩ := ry
  obtain ⟨its, r, ⟨⟨cl, dc, dt, sl⟩, e, hc, n, hd⟩, hl⟩ := I.tuple hH
  simp only at hc hd
  subst hc hd
  have hlen := r.length
  have hty : s.TypeIs (.ref a) "tuple" := ⟨_, e, rfl⟩
  refine wpAny_binaryOp_repeat_ref (T := "tuple") (U := "int") (by decide) hty (fun s' => typeIs_int s' k t) noR_tuple_mul F.fills_int_mul F.slot_int_rmul repeat_tuple F.slot_int_index.lookup
    (call_meets F.slot_int_rmul (typeIs_int s k t) F.entry_int_rmul (F.args_int_rmul_2 _ _) (int_rmul_tup k t a its.toArray n dc sl) ⟨e, rfl, hty, ?_⟩)
  have hs : sizeLine = 16777216 := sizeLine_eq
  by_cases hk : k = 1
  · subst hk
    exact call_meets F.slot_tuple_mul hty F.entry_tuple_mul (F.args_tuple_mul_2 _ _) (tup_mul_one a its.toArray n dc sl t) ⟨e, ⟨.ref a, H, I, rfl, q1 rfl⟩⟩
  · have hpos : 0 < its.length := by rw [← hlen]; exact List.length_pos_iff.mpr hne
    have hmul : (its.length : Int) * k = ((its.length * k.toNat : Nat) : Int) := by
      rw [Int.natCast_mul, Int.toNat_of_nonneg (by omega)]
    have hz' : its.length * k.toNat ≤ 16777216 := by rw [← hlen, ← hs]; exact hz
    have hkb : k.toNat ≤ 16777216 := Nat.le_trans (Nat.le_mul_of_pos_left _ hpos) hz'
    have hnew : List.foldl (fun x1 x2 => x1 ++ x2) #[] (List.replicate k.toNat its.toArray) = (List.replicate k.toNat its).flatten.toArray := by
      have := foldl_rep its k.toNat []
      rw [List.nil_append] at this
      exact this
    have hfit : (List.foldl (fun x1 x2 => x1 ++ x2) #[] (List.replicate k.toNat its.toArray)).size ≤ sizeLine := by
      rw [hnew, List.size_toArray, len_rep, hs, Nat.mul_comm]; exact hz'
    refine call_meets F.slot_tuple_mul hty F.entry_tuple_mul (F.args_tuple_mul_2 _ _) (tup_mul_new a its.toArray n dc sl k t ?_ ?_ ?_ ?_ ?_ ?_ hfit) ⟨e, ?_⟩
    · cases its with
      | nil => simp at hpos
      | cons _ _ => simp
    · simpa using hk
    · rw [decide_eq_false (by omega), decide_eq_false (by omega)]; rfl
    · rw [decide_eq_false (by omega)]
      cases its with
      | nil => simp at hpos
      | cons _ _ => simp
    · refine decide_eq_false ?_
      rw [List.size_toArray, hmul]; omega
    · show decide (_ > _) = false
      refine decide_eq_false ?_
      rw [List.size_toArray, hmul, hs]; omega
    · rw [hnew]
      refine ⟨.ref _, _, I.laid (t' := s.toks) (o := .tup (List.replicate k.toNat xs).flatten) (fun _ _ q => Heap.get?_push_of_some _ q) (Nat.le_refl _) ⟨?_, _, r.rep k.toNat, IsTup.new s.heap _⟩, rfl, q2 hk _ I.fresh⟩
      rw [len_rep, Nat.mul_comm]; exact hz

/-! ### enumerate of a tuple, unpacked at once -/
end
end L2

set_option Elab.async false
set_option linter.all false
set_option maxRecDepth 100000
namespace L2
open PySem PySem.Spec PyProof.Rows
def Cn (σ₀ : St) (acc : Addr) (P : List V → Hp → Prop) (σ : St) (H : Hp) : Prop := (∀ v, σ.set 0 v = σ₀.set 0 v) ∧ ∃ ys, H acc = some (.lst ys) ∧ P ys H
theorem Cn.of {σ₀ : St} {acc : Addr} {P : List V → Hp → Prop} {w : Option V} {H : Hp} {ys : List V} (h : H acc = some (.lst ys)) (p : P ys H) : Cn σ₀ acc P (σ₀.set 0 w) H := ⟨fun v => by rw [List.set_set], ys, h, p⟩
/-- a block's facts, decided -/
def capOk (outer : List (Str × NameKind)) (N : List Str) (scope : Scope) (cap : List Str) (ix : List Nat) : Bool :=
  (scope.kind == .function) && (scope.names.all fun x => x.2 != .local || scope.names.lookup x.1 == some .local) && decide (scope.names.map (·.1)).Nodup &&
  (scope.names.all fun x => x.2 != .free || outer.lookup x.1 == some .cell || outer.lookup x.1 == some .free) && (cap.all fun x => decide ((x, NameKind.free) ∈ scope.names)) && (cap.zip ix).all (fun p => N[p.2]? == some p.1) && cap.length == ix.length
theorem BlkOk.of {X : Cx} {scope : Scope} {own cap : List Str} {ix : List Nat} (outer : List (Str × NameKind)) (N : List Str) (hsc : X.env.scope.names = outer := by rfl) (hN : X.N = N := by rfl) (h : capOk outer N scope cap ix = true := by decide +kernel) : BlkOk X scope own cap ix := by
  unfold capOk at h
  simp only [Bool.and_eq_true, List.all_eq_true, beq_iff_eq, decide_eq_true_eq, Bool.or_eq_true, bne_iff_ne, ne_eq] at h
  obtain ⟨⟨⟨⟨⟨⟨h1, h2⟩, h3⟩, h4⟩, h5⟩, h6⟩, h7⟩ := h
  refine ⟨h1, fun x hx hl => ?_, h3, fun x hx hl => ?_, fun j x e => h5 x (List.mem_of_getElem? e), fun j x e => ?_, h7⟩
  · rcases h2 x hx with z | z
    · exact absurd hl z
    · exact z
  · show X.env.scope.names.lookup x.1 = _ ∨ X.env.scope.names.lookup x.1 = _
    rw [hsc]
    rcases h4 x hx with (z | z) | z
    · exact absurd hl z
    · exact .inl z
    · exact .inr z
  · have hj : j < cap.length := (List.getElem?_eq_some_iff.mp e).1
    have hj' : j < ix.length := by omega
    refine ⟨ix[j], List.getElem?_eq_getElem hj', ?_⟩
    rw [hN]
    have hz : (cap.zip ix)[j]? = some (x, ix[j]) := by
      rw [List.getElem?_zip_eq_some]
      exact ⟨e, List.getElem?_eq_getElem hj'⟩
    exact h6 _ (List.mem_of_getElem? hz)
section
variable {K : PySem.W.Frag} {lo : Int} {n : Nat} {tt : TT} {te : TE} {acc a : Addr} {xs : List V} {σ₀ : St} {H₀ : Hp} {Q : VK}
theorem comp_range (Pv : Nat → List V → Hp → Prop) (h0 : Pv 0 [] (upd H₀ acc (.lst [])))
    (hs : ∀ (i : Nat) ys H, i < n → H acc = some (.lst ys) → Pv i ys H → tt (σ₀.set 0 (some (.int (lo + i)))) H fun b H4 =>
      if b = true then te (σ₀.set 0 (some (.int (lo + i)))) H4 fun y H5 => ∃ zs, H5 acc = some (.lst zs) ∧ zs.length < sizeLine ∧ Cn σ₀ acc (Pv (i + 1)) (σ₀.set 0 (some (.int (lo + i)))) (upd H5 acc (.lst (zs ++ [y]))) else Cn σ₀ acc (Pv (i + 1)) (σ₀.set 0 (some (.int (lo + i)))) H4)
    (hd : ∀ ys H, H acc = some (.lst ys) → Pv n ys H → Q (.ref acc) H) : tCompN (gName 0) tt te (Itr lo n) acc σ₀ H₀ Q := by
  refine ⟨fun i m σ H => m = n - i ∧ i ≤ n ∧ Cn σ₀ acc (Pv i) σ H, ⟨n, by simp, Nat.zero_le _, fun _ => rfl, [], upd_same, h0⟩, ?_⟩
  rintro i m σ H ⟨rfl, hi, hσ, ys, hy, p⟩
  by_cases hlt : i < n
  · refine .inr ⟨hlt, Cn σ₀ acc (Pv (i + 1)), fun σ' H' c => ⟨n - (i + 1), by omega, rfl, hlt, c⟩, fun x H' y => ?_⟩
    obtain ⟨e, y⟩ := y
    subst e y
    show tt (σ.set 0 _) _ _
    rw [hσ]
    exact hs i ys _ hlt hy p
  · have e : i = n := by omega
    subst e
    exact .inl ⟨Nat.le_refl _, hd ys H hy p⟩
theorem comp_list (Pv : Nat → List V → Hp → Prop) (h0 : Pv 0 [] (upd H₀ acc (.lst []))) (hl : ∀ (i : Nat) ys H, i ≤ xs.length → H acc = some (.lst ys) → Pv i ys H → SqL K H a xs)
    (hs : ∀ (i : Nat) x ys H, xs[i]? = some x → H acc = some (.lst ys) → Pv i ys H → tt (σ₀.set 0 (some x)) H fun b H4 =>
      if b = true then te (σ₀.set 0 (some x)) H4 fun y H5 => ∃ zs, H5 acc = some (.lst zs) ∧ zs.length < sizeLine ∧ Cn σ₀ acc (Pv (i + 1)) (σ₀.set 0 (some x)) (upd H5 acc (.lst (zs ++ [y]))) else Cn σ₀ acc (Pv (i + 1)) (σ₀.set 0 (some x)) H4)
    (hd : ∀ ys H, H acc = some (.lst ys) → Pv xs.length ys H → Q (.ref acc) H) : tCompN (gName 0) tt te (Itl K a) acc σ₀ H₀ Q := by
  refine ⟨fun i m σ H => m = xs.length - i ∧ i ≤ xs.length ∧ Cn σ₀ acc (Pv i) σ H, ⟨xs.length, by simp, Nat.zero_le _, fun _ => rfl, [], upd_same, h0⟩, ?_⟩
  rintro i m σ H ⟨rfl, hi, hσ, ys, hy, p⟩
  have q := hl i ys H hi hy p
  by_cases hlt : i < xs.length
  · refine .inr ⟨⟨xs, xs[i], q, by simp [hlt]⟩, Cn σ₀ acc (Pv (i + 1)), fun σ' H' c => ⟨xs.length - (i + 1), by omega, rfl, hlt, c⟩, fun x H' y => ?_⟩
    obtain ⟨e, y⟩ := y
    subst e
    show tt (σ.set 0 _) _ _
    rw [hσ]
    exact hs i x ys _ (y xs q) hy p
  · have e : i = xs.length := by omega
    subst e
    exact .inl ⟨⟨xs, q, Nat.le_refl _⟩, hd ys H hy p⟩
theorem comp_tup (Pv : Nat → List V → Hp → Prop) (h0 : Pv 0 [] (upd H₀ acc (.lst []))) (hl : ∀ (i : Nat) ys H, i ≤ xs.length → H acc = some (.lst ys) → Pv i ys H → SqT K H a xs)
    (hs : ∀ (i : Nat) x ys H, xs[i]? = some x → H acc = some (.lst ys) → Pv i ys H → tt (σ₀.set 0 (some x)) H fun b H4 =>
      if b = true then te (σ₀.set 0 (some x)) H4 fun y H5 => ∃ zs, H5 acc = some (.lst zs) ∧ zs.length < sizeLine ∧ Cn σ₀ acc (Pv (i + 1)) (σ₀.set 0 (some x)) (upd H5 acc (.lst (zs ++ [y]))) else Cn σ₀ acc (Pv (i + 1)) (σ₀.set 0 (some x)) H4)
    (hd : ∀ ys H, H acc = some (.lst ys) → Pv xs.length ys H → Q (.ref acc) H) : tCompN (gName 0) tt te (Itt K a) acc σ₀ H₀ Q := by
  refine ⟨fun i m σ H => m = xs.length - i ∧ i ≤ xs.length ∧ Cn σ₀ acc (Pv i) σ H, ⟨xs.length, by simp, Nat.zero_le _, fun _ => rfl, [], upd_same, h0⟩, ?_⟩
  rintro i m σ H ⟨rfl, hi, hσ, ys, hy, p⟩
  have q := hl i ys H hi hy p
  by_cases hlt : i < xs.length
  · refine .inr ⟨⟨xs, xs[i], q, by simp [hlt]⟩, Cn σ₀ acc (Pv (i + 1)), fun σ' H' c => ⟨xs.length - (i + 1), by omega, rfl, hlt, c⟩, fun x H' y => ?_⟩
    obtain ⟨e, y⟩ := y
    subst e
    show tt (σ.set 0 _) _ _
    rw [hσ]
    exact hs i x ys _ (y xs q) hy p
  · have e : i = xs.length := by omega
    subst e
    exact .inl ⟨⟨xs, q, Nat.le_refl _⟩, hd ys H hy p⟩
end
end L2

set_option Elab.async false
set_option linter.all false
set_option maxRecDepth 100000
namespace L2
open PySem PySem.Spec PyProof.Rows
/-! the rules that name the fragment, with the fragment said: for use inside a comprehension's block -/
section
variable {X : Cx} {tg l : Expr} {tl : TE}
theorem cLen (K : PySem.W.Frag) (h : X.K = K := by rfl) : CallR X (.builtin "len") (fun xs H Q => ∃ p ys, xs = [.ref p] ∧ (SqL K H p ys ∨ SqT K H p ys) ∧ Q (.int ys.length) H) := by subst h; exact call_len_seq
end
end L2

set_option Elab.async false
set_option linter.all false
set_option maxRecDepth 100000
set_option maxHeartbeats 4000000
namespace KG
open PySem L2
theorem boot_tuple : bootBuiltins "tuple" = some (.type "tuple") := by first | rfl | kernel_rfl | decide +kernel
theorem boot_int : bootBuiltins "int" = some (.type "int") := by first | rfl | kernel_rfl | decide +kernel
theorem boot_max : bootBuiltins "max" = some (.builtin "max") := by first | rfl | kernel_rfl | decide +kernel
theorem boot_min : bootBuiltins "min" = some (.builtin "min") := by first | rfl | kernel_rfl | decide +kernel
theorem boot_any : bootBuiltins "any" = some (.builtin "any") := by first | rfl | kernel_rfl | decide +kernel
theorem boot_sum : bootBuiltins "sum" = some (.builtin "sum") := by first | rfl | kernel_rfl | decide +kernel
theorem boot_isinstance : bootBuiltins "isinstance" = some (.builtin "isinstance") := by first | rfl | kernel_rfl | decide +kernel
theorem boot_bool : bootBuiltins "bool" = some (.type "bool") := by first | rfl | kernel_rfl | decide +kernel
/-! ### data -/
def Bag (H : Hp) (b : Addr) : Prop := ∃ c d : Int, H b = some (.lst [.int c, .int d])
/-- all but the bag stays -/
def Kp (b : Addr) (H H' : Hp) : Prop := ∀ a o, a ≠ b → H a = some o → H' a = some o
theorem Kp.refl (b : Addr) (H : Hp) : Kp b H H := fun _ _ _ h => h
theorem Kp.trans {b : Addr} {H H1 H2 : Hp} (x : Kp b H H1) (y : Kp b H1 H2) : Kp b H H2 := fun a o n h => y a o n (x a o n h)
theorem Kp.bag {b : Addr} {H H' : Hp} {o : HO} (x : Kp b H H') : Kp b H (upd H' b o) := fun a u n h => by rw [upd_ne n]; exact x a u n h
theorem Kp.new {b p : Addr} {H H' : Hp} {o : HO} (x : Kp b H H') (hp : H' p = none) : Kp b H (upd H' p o) := fun a u n h => by rw [upd_ne (ne_of_none (x a u n h) hp)]; exact x a u n h
theorem Kp.acc {b p : Addr} {H H' : Hp} {o : HO} (x : Kp b H H') (hp : H p = none) : Kp b H (upd H' p o) := fun a u n h => by rw [upd_ne (ne_of_none h hp)]; exact x a u n h
theorem Kp.free {b p : Addr} {H H' : Hp} (x : Kp b H H') (hb : Bag H b) (hp : H' p = none) (hb' : Bag H' b) : H p = none := by
  cases q : H p with
  | none => rfl
  | some o =>
    by_cases e : p = b
    · subst e; obtain ⟨c, d, h⟩ := hb'; rw [h] at hp; cases hp
    · rw [x p o e q] at hp; cases hp
theorem Bag.new {b p : Addr} {H : Hp} {o : HO} (h : Bag H b) (hp : H p = none) : Bag (upd H p o) b := by
  obtain ⟨c, d, e⟩ := h
  exact ⟨c, d, by rw [upd_ne (ne_of_none e hp)]; exact e⟩
theorem Bag.ne {b p : Addr} {H : Hp} (h : Bag H b) (hp : H p = none) : b ≠ p := by
  obtain ⟨c, d, e⟩ := h
  exact ne_of_none e hp
def spTake : Sp := fun vs H Q _ => ∃ (b : Addr) (m : Int), vs = [.ref b, .int m] ∧ Bag H b ∧ 0 < m ∧ m < 1073741824 ∧ ∀ (r : Int) (H' : Hp), 0 ≤ r → r < m → Bag H' b → Kp b H H' → Q (.int r) H'
def spBag (K : PySem.W.Frag) : Sp := fun vs H Q _ => ∃ (a : Addr) (ns : List Int) (k : Int), vs = [.ref a, .int k] ∧ SqL K H a (ns.map V.int) ∧ 0 ≤ k ∧ k < 100 ∧ ∀ (p : Addr) (c d : Int), H p = none → Q (.ref p) (upd H p (.lst [.int c, .int d]))
/-- a def as it is called -/
structure Cal (K : PySem.W.Frag) (mg : Str → Option Value) (P : Program) (w : World) (base : Heap) (x : Str) (k : Nat) (ps : List Str) (sp : Sp) (f : Addr) (fd : FuncData) : Prop where
  ok : FnOk P w K mg base CX0 k f fd ps sp
  mg : mg x = some (.ref f)
  kp : PySem.W.keepIn K (.ref f) = true
  bd : Binds K fd ps []
theorem sz : sizeLine = 16777216 := PySem.sizeLine_eq

theorem yes_i {σ : St} {H : Hp} {A B : Hp → Prop} (h : A H) : tYes σ H (fun b H4 => if b = true then A H4 else B H4) := iteT (B := B H) h
theorem menu2 {r : Int} (h0 : 0 ≤ r) (h1 : r < 2) : ∃ m : Int, atI [V.int 3, V.int 6] r = some (.int m) ∧ 0 < m ∧ m ≤ 6 := by
  have : r = 0 ∨ r = 1 := by omega
  rcases this with rfl | rfl
  · exact ⟨3, rfl, by decide, by decide⟩
  · exact ⟨6, rfl, by decide, by decide⟩
theorem atI_ints {ns : List Int} {r : Int} (h0 : 0 ≤ r) (h1 : r < ns.length) : atI (ns.map V.int) r = some (V.int (ns.getD r.toNat 0)) ∧ ixN (ns.map V.int).length r = some r.toNat ∧ ns.getD r.toNat 0 ∈ ns := by
  have hl : r.toNat < ns.length := by omega
  have e : (ns.map V.int)[r.toNat]? = some (V.int (ns.getD r.toNat 0)) := by
    rw [List.getElem?_map, List.getElem?_eq_getElem hl]
    simp [List.getD, List.getElem?_eq_getElem hl]
  refine ⟨?_, ?_, ?_⟩
  · have := atI_nat e
    rw [Int.toNat_of_nonneg h0] at this
    exact this
  · unfold ixN
    rw [if_pos h0, if_pos (by rw [List.length_map]; exact h1)]
  · simp [List.getD, List.getElem?_eq_getElem hl]

/-- the tuples stay -/
def Tm (H H' : Hp) : Prop := ∀ a xs, H a = some (.tup xs) → H' a = some (.tup xs)
theorem Kp.tm {b : Addr} {H H' : Hp} (x : Kp b H H') (hb : Bag H b) : Tm H H' := fun a xs h => x a _ (fun z => by obtain ⟨c, d, e⟩ := hb; rw [z, e] at h; cases h) h
theorem Tm.lst {p : Addr} {H : Hp} {xs : List V} {o : HO} (h : H p = some (.lst xs)) : Tm H (upd H p o) := fun a ys e => by
  rw [upd_ne (fun z => by rw [z, h] at e; cases e)]; exact e
theorem Tm.new {p : Addr} {H : Hp} {o : HO} (h : H p = none) : Tm H (upd H p o) := fun a ys e => by rw [upd_ne (ne_of_none e h)]; exact e
theorem Tm.trans {H H1 H2 : Hp} (a : Tm H H1) (b : Tm H1 H2) : Tm H H2 := fun x xs h => b x xs (a x xs h)
theorem Bag.acc {b p : Addr} {H : Hp} {o : HO} (h : Bag H b) (hp : b ≠ p) : Bag (upd H p o) b := by
  obtain ⟨c, d, e⟩ := h
  exact ⟨c, d, by rw [upd_ne hp]; exact e⟩
theorem comp_bag {te : TE} {σ₀ : St} {acc b : Addr} {H1 : Hp} {n : Nat} {Q : VK} (hb1 : Bag H1 b) (hacc : H1 acc = none) (hn : n ≤ 100) (R : Hp → V → Prop) (hR : ∀ H H' v, Tm H H' → R H v → R H' v)
    (ht : ∀ (i : Nat) H', i < n → Bag H' b → Kp b H1 H' → ∀ (Z : V → Hp → Prop), (∀ y H5, Bag H5 b → Kp b H' H5 → R H5 y → Z y H5) → te (σ₀.set 0 (some (.int (0 + i)))) H' Z)
    (hd : ∀ ys H', Bag H' b → Kp b H1 H' → ys.length = n → (∀ y ∈ ys, R H' y) → H' acc = some (.lst ys) → Q (.ref acc) H') : tCompN (gName 0) tYes te (Itr 0 n) acc σ₀ H1 Q := by
  have nacc := hb1.ne hacc
  refine comp_range (fun i ys H' => Bag H' b ∧ Kp b H1 H' ∧ ys.length = i ∧ ∀ y ∈ ys, R H' y) ⟨hb1.new hacc, (Kp.refl b H1).new hacc, rfl, fun y hy => nomatch hy⟩ ?_ ?_
  · rintro i ys H' hi hy ⟨hb', kp', hl, hr⟩
    refine yes_i ?_
    refine ht i H' hi hb' kp' _ fun y H5 hb5 kp5 r5 => ?_
    have hy5 := kp5 acc _ nacc.symm hy
    refine ⟨ys, hy5, by rw [hl, sz]; omega, Cn.of upd_same ⟨hb5.acc nacc, (kp'.trans kp5).acc hacc, by rw [List.length_append, hl]; rfl, fun z hz => ?_⟩⟩
    have tm := Tm.lst (o := .lst (ys ++ [y])) hy5
    rcases List.mem_append.mp hz with q | q
    · exact hR _ _ z tm (hR _ _ z (kp5.tm hb') (hr z q))
    · obtain rfl : z = y := by simpa using q
      exact hR _ _ z tm r5
  · rintro ys H' hy ⟨hb', kp', hl, hr⟩
    exact hd ys H' hb' kp' hl hr hy
/-- rows of ints, tracked -/
def Rws (H : Hp) (ws : List V) (M : List (List Int)) : Prop := Paired (fun v ns => ∃ a, v = V.ref a ∧ H a = some (.tup (List.map V.int ns))) ws M
theorem Rws.keep {H H' : Hp} {ws : List V} {M : List (List Int)} (h : Rws H ws M) (t : Tm H H') : Rws H' ws M := Paired.mapP h fun v ns ⟨a, e, q⟩ => ⟨a, e, t a _ q⟩
theorem Rws.len {H : Hp} {ws : List V} {M : List (List Int)} (h : Rws H ws M) : ws.length = M.length := Paired.length h
theorem Rws.at : ∀ {H : Hp} {ws : List V} {M : List (List Int)} {i : Nat} {x : V}, Rws H ws M → ws[i]? = some x → ∃ ns a, M[i]? = some ns ∧ x = V.ref a ∧ H a = some (.tup (List.map V.int ns))
  | _, _, _, _, _, .nil, e => by simp at e
  | _, _, _, 0, _, .cons ⟨a, h1, h2⟩ _, e => by simp at e; subst e; exact ⟨_, a, rfl, h1, h2⟩
  | _, _, _, i + 1, _, .cons _ t, e => by
    obtain ⟨ns, a, h1, h2, h3⟩ := Rws.at (i := i) t (by simpa using e)
    exact ⟨ns, a, by simpa using h1, h2, h3⟩
/-- all that was tracked stays -/
def Stay (H H' : Hp) : Prop := ∀ a o, H a = some o → H' a = some o
theorem Stay.refl (H : Hp) : Stay H H := fun _ _ h => h
theorem Stay.trans {H H1 H2 : Hp} (a : Stay H H1) (b : Stay H1 H2) : Stay H H2 := fun x o h => b x o (a x o h)
theorem Stay.new {H H' : Hp} {p : Addr} {o : HO} (a : Stay H H') (hp : H' p = none) : Stay H (upd H' p o) := fun x u h => by rw [upd_ne (ne_of_none (a x u h) hp)]; exact a x u h
theorem Stay.acc {H H' : Hp} {p : Addr} {o : HO} (a : Stay H H') (hp : H p = none) : Stay H (upd H' p o) := fun x u h => by rw [upd_ne (ne_of_none h hp)]; exact a x u h
theorem Stay.tm {H H' : Hp} (a : Stay H H') : Tm H H' := fun x xs h => a x _ h
theorem filter_succ (f : Nat → Bool) (n : Nat) : (List.range (n + 1)).filter f = (List.range n).filter f ++ if f n = true then [n] else [] := by
  rw [List.range_succ, List.filter_append]
  congr 1
  by_cases h : f n = true
  · simp [h]
  · simp [h]
theorem ifs_cont {c : TT} {t1 u : TS} {D : Ends} {σ : St} {H : Hp} (G : St → Hp → Prop) (hc : ∀ σ' H', G σ' H' → u D σ' H') (h : (∀ σ' H', G σ' H' → u D σ' H') → tIfS c t1 tNext { D with nx := u D } σ H) : tSeq (tIfS c t1 tNext) u D σ H := h hc
theorem Stay.kp {b : Addr} {H0 H H' : Hp} (s : Stay H0 H) (k : Kp b H H') (hb : H0 b = none) : Stay H0 H' := fun a o h => k a o (ne_of_none h hb) (s a o h)
theorem Stay.free {H0 H : Hp} {p : Addr} (s : Stay H0 H) (h : H p = none) : H0 p = none := by
  cases q : H0 p with
  | none => rfl
  | some o => rw [s p o q] at h; cases h
theorem rep0 : ∀ n : Nat, (List.replicate n [V.int 0]).flatten = (List.replicate n (0 : Int)).map V.int
  | 0 => rfl
  | n + 1 => by rw [List.replicate_succ, List.flatten_cons, rep0 n, List.replicate_succ]; rfl
theorem dtInts {K : PySem.W.Frag} {H : Hp} : ∀ ns : List Int, DtVs K H (ns.map V.int) (ns.map PyData.int)
  | [] => .nil
  | n :: ns => .cons (.int n) (dtInts ns)
theorem depInts : ∀ ns : List Int, PyData.depthAll (ns.map PyData.int) = 0
  | [] => rfl
  | n :: ns => by
    rw [List.map_cons, PyData.depthAll, depInts ns]
    rfl
def spLaw (K : PySem.W.Frag) : Sp := fun vs H Q _ => ∃ (a : Addr) (ns : List Int), vs = [.ref a] ∧ SqL K H a (ns.map V.int) ∧ ns.length ≤ 63 ∧ ∀ H', Q (.bl true) H'
theorem SqL.stay {K : PySem.W.Frag} {H H' : Hp} {a : Addr} {xs : List V} (h : SqL K H a xs) (s : Stay H H') : SqL K H' a xs := by
  rcases h with (h | ⟨o, h⟩) | h
  · exact .inl (.inl (s _ _ h))
  · exact .inl (.inr ⟨o, s _ _ h⟩)
  · exact .inr h

theorem boot_list : bootBuiltins "list" = some (.type "list") := by first | rfl | kernel_rfl | decide +kernel
theorem boot_all : bootBuiltins "all" = some (.builtin "all") := by first | rfl | kernel_rfl | decide +kernel
/-! a thing made of plain data, none of it the bag -/
mutual
inductive TrV (b : Addr) (H : Hp) : V → PyData → Prop
  | non : TrV b H .non .none
  | bl (c : Bool) : TrV b H (.bl c) (.bool c)
  | int (i : Int) : TrV b H (.int i) (.int i)
  | str (x : Str) (ok : (PyData.str x).canLay0 = true) : TrV b H (.str x) (.str x)
  | lst {a : Addr} {xs : List V} {ds : List PyData} : a ≠ b → H a = some (.lst xs) → TrVs b H xs ds → TrV b H (.ref a) (.list ds)
  | tup {a : Addr} {xs : List V} {ds : List PyData} : H a = some (.tup xs) → TrVs b H xs ds → TrV b H (.ref a) (.tuple ds)
inductive TrVs (b : Addr) (H : Hp) : List V → List PyData → Prop
  | nil : TrVs b H [] []
  | cons {x : V} {xs : List V} {d : PyData} {ds : List PyData} : TrV b H x d → TrVs b H xs ds → TrVs b H (x :: xs) (d :: ds)
end
mutual
theorem TrV.kp {b : Addr} {H H' : Hp} (k : Kp b H H') (hb : Bag H b) : ∀ {v : V} {d : PyData}, TrV b H v d → TrV b H' v d
  | _, _, .non => .non
  | _, _, .bl c => .bl c
  | _, _, .int i => .int i
  | _, _, .str x ok => .str x ok
  | _, _, .lst n h t => .lst n (k _ _ n h) (TrVs.kp k hb t)
  | _, _, .tup h t => .tup (k.tm hb _ _ h) (TrVs.kp k hb t)
theorem TrVs.kp {b : Addr} {H H' : Hp} (k : Kp b H H') (hb : Bag H b) : ∀ {vs : List V} {ds : List PyData}, TrVs b H vs ds → TrVs b H' vs ds
  | _, _, .nil => .nil
  | _, _, .cons h t => .cons (TrV.kp k hb h) (TrVs.kp k hb t)
end
mutual
theorem TrV.stay {b : Addr} {H H' : Hp} (k : Stay H H') : ∀ {v : V} {d : PyData}, TrV b H v d → TrV b H' v d
  | _, _, .non => .non
  | _, _, .bl c => .bl c
  | _, _, .int i => .int i
  | _, _, .str x ok => .str x ok
  | _, _, .lst n h t => .lst n (k _ _ h) (TrVs.stay k t)
  | _, _, .tup h t => .tup (k _ _ h) (TrVs.stay k t)
theorem TrVs.stay {b : Addr} {H H' : Hp} (k : Stay H H') : ∀ {vs : List V} {ds : List PyData}, TrVs b H vs ds → TrVs b H' vs ds
  | _, _, .nil => .nil
  | _, _, .cons h t => .cons (TrV.stay k h) (TrVs.stay k t)
end
mutual
theorem TrV.dt {K : PySem.W.Frag} {b : Addr} {H : Hp} : ∀ {v : V} {d : PyData}, TrV b H v d → DtV K H v d
  | _, _, .non => .non
  | _, _, .bl c => .bl c
  | _, _, .int i => .int i
  | _, _, .str x ok => .str x ok
  | _, _, .lst n h t => .lst (SqL.of h) (TrVs.dt t)
  | _, _, .tup h t => .tup (SqT.of h) (TrVs.dt t)
theorem TrVs.dt {K : PySem.W.Frag} {b : Addr} {H : Hp} : ∀ {vs : List V} {ds : List PyData}, TrVs b H vs ds → DtVs K H vs ds
  | _, _, .nil => .nil
  | _, _, .cons h t => .cons (TrV.dt h) (TrVs.dt t)
end
theorem TrVs.len {b : Addr} {H : Hp} : ∀ {vs : List V} {ds : List PyData}, TrVs b H vs ds → vs.length = ds.length
  | _, _, .nil => rfl
  | _, _, .cons _ t => congrArg (· + 1) (TrVs.len t)
theorem TrVs.at {b : Addr} {H : Hp} : ∀ {vs : List V} {ds : List PyData} {i : Nat} {x : V}, TrVs b H vs ds → vs[i]? = some x → ∃ d, ds[i]? = some d ∧ TrV b H x d
  | _, _, _, _, .nil, e => by simp at e
  | _, _, 0, _, .cons h _, e => by simp at e; subst e; exact ⟨_, rfl, h⟩
  | _, _, i + 1, _, .cons _ t, e => by
    obtain ⟨d, h1, h2⟩ := TrVs.at (i := i) t (by simpa using e)
    exact ⟨d, by simpa using h1, h2⟩
theorem TrVs.app {b : Addr} {H : Hp} : ∀ {vs ws : List V} {ds es : List PyData}, TrVs b H vs ds → TrVs b H ws es → TrVs b H (vs ++ ws) (ds ++ es)
  | _, _, _, _, .nil, s => s
  | _, _, _, _, .cons h t, s => .cons h (TrVs.app t s)
theorem TrVs.take {b : Addr} {H : Hp} : ∀ {vs : List V} {ds : List PyData} (n : Nat), TrVs b H vs ds → TrVs b H (vs.take n) (ds.take n)
  | _, _, 0, _ => .nil
  | _, _, _ + 1, .nil => .nil
  | _, _, n + 1, .cons h t => .cons h (TrVs.take n t)
theorem TrVs.drop {b : Addr} {H : Hp} : ∀ {vs : List V} {ds : List PyData} (n : Nat), TrVs b H vs ds → TrVs b H (vs.drop n) (ds.drop n)
  | _, _, 0, r => r
  | _, _, _ + 1, .nil => .nil
  | _, _, n + 1, .cons _ t => TrVs.drop n t
/-! ### the mirrors -/
def isWhole : PyData → Bool
  | .int _ => true
  | _ => false
def within (lo hi : Int) : PyData → Bool
  | .int i => decide (lo ≤ i) && decide (i ≤ hi)
  | _ => false
def isPurse : PyData → Bool
  | .tuple [.int t, .int u] => decide (1 ≤ u) && decide (Int.gcd t u = 1) && decide (1 ≤ t) && decide (t ≤ 1000000) && decide (u ≤ 1000000)
  | _ => false
def isRow (n : Nat) (lo hi : Int) : PyData → Bool
  | .tuple ds => decide (ds.length = n) && ds.all (within lo hi)
  | _ => false
def isMk : PyData → Bool
  | .tuple [.tuple a, .tuple p, .tuple w] => decide (1 ≤ a.length) && decide (a.length ≤ 6) && a.all (within 1 60) && (decide (1 ≤ p.length) && decide (p.length ≤ 6) && p.all isPurse) && (decide (w.length = p.length) && w.all (isRow a.length 0 100))
  | _ => false
/-! all numbers within are small -/
mutual
def small : PyData → Bool
  | .int i => decide (-1073741824 < i) && decide (i < 1073741824)
  | .list ds => smalls ds
  | .tuple ds => smalls ds
  | _ => true
def smalls : List PyData → Bool
  | [] => true
  | d :: ds => small d && smalls ds
end
theorem smalls_mem : ∀ {ds : List PyData} {d : PyData}, smalls ds = true → d ∈ ds → small d = true
  | d :: ds, e, h, hm => by
    have h' : small d = true ∧ smalls ds = true := by simpa [smalls] using h
    rcases List.mem_cons.mp hm with rfl | hm
    · exact h'.1
    · exact smalls_mem h'.2 hm
theorem smalls_of : ∀ {ds : List PyData}, (∀ d ∈ ds, small d = true) → smalls ds = true
  | [], _ => rfl
  | d :: ds, h => by
    have := smalls_of (ds := ds) fun e he => h e (List.mem_cons_of_mem _ he)
    simp [smalls, this, h d List.mem_cons_self]
end KG

set_option Elab.async false
set_option linter.all false
set_option maxRecDepth 100000
set_option maxHeartbeats 4000000
namespace HT
open PySem PySem.Spec PyProof.Rows
section
variable {prog : Program} {w : World} {A : Around} {E : Value → Shared → Prop} {s : Shared}
theorem getItem_tuple_all {t sl : Addr} {items : Array Value} {vl vu : Value} {lo hi : Option Int} {Q : Value → Shared → Prop} (ht : IsTup s.heap t items) (hs : s.heap.IsSliceOf sl vl vu .none) (pl : IsPart vl lo) (pu : IsPart vu hi)
    (hw : sIx items.size 0 lo = 0 ∧ sIx items.size items.size hi = items.size) (h : Q (.ref t) s) : wpAny (model prog w) A (getItem (.ref t) (.ref sl)) Q E s := by
  obtain ⟨os, hos, hcs, hds⟩ := id hs
  have hTs : s.TypeIs (.ref sl) "slice" := ⟨os, hos, hcs⟩
  unfold getItem
  try with_reducible refine wpAny_holding ?_
  first | refine wpAny_bind (wpAny_pure ?_) | skip
  refine wpAny_bind (wpAny_sequenceKey ht.typeIs (by decide) ?_)
  refine wpAny_bind (wpAny_callSpecial?_slot (name := Str.ofString "__getitem__") ht.typeIs PyProof.Rows.slot_tuple_getitem
    (wpAny_call_entry PyProof.Rows.slot_tuple_getitem ht.typeIs entry_tuple_getitem ?_ (args_tuple_getitem _ _)))
  show wpAny _ _ (Builtin.Tuple.tupleItemsOf (.ref t) >>= _) _ _ s
  refine wpAny_bind (tupleItemsOf_ ht ?_)
  refine wpAny_bind (wpAny_typeOf hTs ?_)
  rw [if_pos (by decide)]
  refine wpAny_bind (sliceApplied_gen hs pl pu ?_)
  have hyes : ((((sIx items.size 0 lo : Nat) : Int) == 0 && (1 : Int) == 1 && (sIx items.size items.size hi - sIx items.size 0 lo) == items.size) = true) := by
    rw [hw.1, hw.2]; simp
  show wpAny _ _ (if (((sIx items.size 0 lo : Nat) : Int) == 0 && (1 : Int) == 1 && (sIx items.size items.size hi - sIx items.size 0 lo) == items.size) = true then _ else _) _ _ s
  rw [if_pos hyes]
  have htt : s.TypeIs (.ref t) "tuple" := ht.typeIs
  refine wpAny_bind (m := Builtin.Tuple.tupleIsExact (.ref t)) (wpAny_bind (wpAny_typeOf htt (wpAny_pure ?_)))
  rw [if_pos (by decide)]
  first
    | exact wpAny_pure ⟨_, rfl, wpAny_pure h⟩
    | exact wpAny_bind (wpAny_pure (wpAny_pure ⟨_, rfl, wpAny_pure h⟩))
    | (wp_walk; exact ⟨_, rfl, wpAny_pure h⟩)
    | (wp_walk; exact ⟨_, rfl, h⟩)
end
end HT
namespace L2
open PySem PySem.Spec PyProof.Rows
section
variable {X : Cx}
theorem op_isnotB : OpR X (compareOp .IsNot) (fun x y H Q => ∃ c d : Bool, x = .bl c ∧ y = .bl d ∧ Q (.bl (c != d)) H) := by
  intro pins s σ H x y v u Q I rx ry h
  obtain ⟨c, d, rfl, rfl, q⟩ := h
  cases rx
  cases ry
  exact isnot_bool (fin_bl I q rfl)
/-- t[lo:hi], a part or the whole -/
def rSlA : V → Option Int → Option Int → Hp → VK → Prop := fun x lo hi H Q => ∃ a xs, x = .ref a ∧ H a = some (.tup xs) ∧ ∀ p H', KG.Stay H H' → H' p = some (.tup (cutV xs lo hi)) → Q (.ref p) H'
theorem sl_tupA : SlR X rSlA := by
  intro pins s σ H x v vl vu lo hi sl Q I rx hs pl pu h
  obtain ⟨a, xs, rfl, hx, q⟩ := h
  by_cases hw : HT.sIx xs.length 0 lo = 0 ∧ HT.sIx xs.length xs.length hi = xs.length
  · cases rx
    obtain ⟨its, r, ht, hz⟩ := I.tuple (SqT.of hx)
    have hlen : its.toArray.size = xs.length := by rw [List.size_toArray]; exact r.length.symm
    refine ⟨"tuple", _, PyProof.Rows.slot_tuple_getitem.lookup, ht.typeIs, ?_⟩
    refine HT.getItem_tuple_all ht hs pl pu (by rw [hlen]; exact hw) ⟨.ref a, H, I, rfl, q a H (KG.Stay.refl H) ?_⟩
    have e : cutV xs lo hi = xs := by unfold cutV; rw [hw.1, hw.2, List.drop_zero, Nat.sub_zero, List.take_length]
    rw [e]; exact hx
  · exact sl_tup pins s σ H _ v vl vu lo hi sl Q I rx hs pl pu ⟨a, xs, rfl, SqT.of hx, hw, fun p hp => q p _ ((KG.Stay.refl H).new hp) upd_same⟩
/-- t + u, any two tuples -/
def rCatA : R2 := fun x y H Q => ∃ a b xs ys, x = .ref a ∧ y = .ref b ∧ H a = some (.tup xs) ∧ H b = some (.tup ys) ∧ xs.length + ys.length ≤ sizeLine ∧ ∀ p H', KG.Stay H H' → H' p = some (.tup (xs ++ ys)) → Q (.ref p) H'
theorem op_catA : OpR X (binaryOp .Add) rCatA := by
  intro pins s σ H x y v u Q I rx ry h
  obtain ⟨a, b, xs, ys, rfl, rfl, ha, hb, hz, q⟩ := h
  by_cases hx : xs = []
  · cases rx
    cases ry
    obtain ⟨its, r1, p1, _⟩ := I.tuple (SqT.of ha)
    obtain ⟨its2, r2, p2, _⟩ := I.tuple (SqT.of hb)
    obtain ⟨⟨cls, dd, data, sl⟩, ho, hc, n, hd⟩ := id p1
    obtain ⟨⟨cls2, dd2, data2, sl2⟩, ho2, hc2, n2, hd2⟩ := id p2
    simp only at hc hd hc2 hd2
    subst hc hd hc2 hd2
    have e0 : its = [] := r1.nil_iff.mpr hx
    exact concat_meets ⟨_, ho, rfl⟩ ⟨_, ho2, rfl⟩ noFill_tuple_add seq_tuple_add PySem.F.slot_tuple_add PySem.F.entry_tuple_add (PySem.F.args_tuple_add_2 _ _)
      (tuple_addW0 a b its.toArray its2.toArray n n2 dd dd2 sl sl2 (by simp [e0])) ⟨ho, ho2, ⟨.ref b, H, I, rfl, q b H (KG.Stay.refl H) (by rw [hx]; exact hb)⟩⟩
  · refine op_catT pins s σ H _ _ v u Q I rx ry ⟨a, b, xs, ys, rfl, rfl, SqT.of ha, SqT.of hb, hx, hz, fun e => q a H (KG.Stay.refl H) (by rw [e, List.append_nil]; exact ha), fun _ p hp => q p _ ((KG.Stay.refl H).new hp) upd_same⟩
end
end L2

set_option Elab.async false
set_option linter.all false
set_option maxRecDepth 100000
set_option maxHeartbeats 1000000
namespace L2
open PySem PySem.Spec PyProof.Rows KG
def litL (f : Expr → Option PyData) : List Expr → Option (List PyData)
  | [] => some []
  | e :: es => match f e, litL f es with
    | some d, some ds => some (d :: ds)
    | _, _ => none
def litS (nm : Str → Option Int) (f : Expr → Option PyData) : Expr → Option PyData
  | .Name x _ => (nm x).map .int
  | .Constant (.int i) _ _ => some (.int i)
  | .Constant (.bool c) _ _ => some (.bool c)
  | .Constant .none _ _ => some .none
  | .Constant (.str x) _ _ => if (PyData.str x).canLay0 = true then some (.str x) else none
  | .UnaryOp .USub a _ => match f a with
    | some (.int i) => some (.int (-i))
    | _ => none
  | .BinOp a .Add b _ => match f a, f b with
    | some (.int i), some (.int j) => some (.int (i + j))
    | _, _ => none
  | .BinOp a .Sub b _ => match f a, f b with
    | some (.int i), some (.int j) => some (.int (i - j))
    | _, _ => none
  | .BinOp a .Pow b _ => match f a, f b with
    | some (.int i), some (.int j) => if 0 ≤ j ∧ j ≤ 1000000 ∧ i.natAbs < 2 ^ 64 then some (.int (i ^ j.toNat)) else none
    | _, _ => none
  | .Tuple es _ _ => if es.length ≤ 1000 then (litL f es).map .tuple else none
  | .List es _ => if es.length ≤ 1000 then (litL f es).map .list else none
  | _ => none
def lit (nm : Str → Option Int) : Nat → Expr → Option PyData
  | 0 => fun _ => none
  | n + 1 => litS nm (lit nm n)
/-- a written thing: its data, newly laid -/
def tLit (C : St → Prop) (d : PyData) : TE := fun σ H Q => C σ ∧ ∀ v H', Stay H H' → (∀ b, H b ≠ none → TrV b H' v d) → (∀ i, d = .int i → v = .int i) → Q v H'
def tLits (C : St → Prop) (ds : List PyData) : TA := fun σ H Q => C σ ∧ ∀ vs H', Stay H H' → (∀ b, H b ≠ none → TrVs b H' vs ds) → vs.length = ds.length → Q vs H'
theorem PE.weak {X : Cx} {e : Expr} {t t' : TE} (h : PE X e t) (hw : ∀ σ H Q, t' σ H Q → t σ H Q) : PE X e t' := fun pins s σ H Q I q => h pins s σ H Q I (hw σ H Q q)
theorem PA.weak {X : Cx} {es : List Expr} {t t' : TA} (h : PA X es t) (hw : ∀ σ H Q, t' σ H Q → t σ H Q) : PA X es t' := fun pos pins s σ H Q I q => h pos pins s σ H Q I (hw σ H Q q)
theorem lit_star {X : Cx} {nm : Str → Option Int} {n : Nat} {e : Expr} {es : List Expr} {d : PyData} (h : lit nm n e = some d) : starEach (e :: es) X.env = (false, eval e X.env) :: starEach es X.env := by
  cases n with
  | zero => cases h
  | succ n =>
    have h : litS nm (lit nm n) e = some d := h
    cases e <;> first | rfl | (unfold litS at h; cases h)
theorem litL_len {f : Expr → Option PyData} : ∀ {es : List Expr} {ds : List PyData}, litL f es = some ds → ds.length = es.length
  | [], ds, h => by simp [litL] at h; subst h; rfl
  | e :: es, ds, h => by
    unfold litL at h
    split at h
    · next d ds' h1 h2 => cases h; simp [litL_len h2]
    · cases h
theorem ne_stay {H H' : Hp} {b : Addr} (s : Stay H H') (h : H b ≠ none) : H' b ≠ none := by
  cases e : H b with
  | none => exact absurd e h
  | some o => rw [s _ _ e]; simp
theorem tint {b : Addr} {H : Hp} {v : V} {i : Int} (h : TrV b H v (.int i)) : v = .int i := by cases h; rfl
theorem pa_lits {X : Cx} {nm : Str → Option Int} {C : St → Prop} {n : Nat} (ih : ∀ (e : Expr) (d : PyData), lit nm n e = some d → PE X e (tLit C d)) : ∀ (es : List Expr) (ds : List PyData), litL (lit nm n) es = some ds → PA X es (tLits C ds)
  | [], ds, h => by
    simp [litL] at h; subst h
    exact PA.weak pa_nil fun σ H Q q => q.2 [] H (Stay.refl H) (fun b _ => .nil) rfl
  | e :: es, ds, h => by
    unfold litL at h
    split at h
    · next d ds' h1 h2 =>
      cases h
      refine PA.weak (pa_cons (ih e d h1) (pa_lits ih es ds' h2) (lit_star h1)) fun σ H Q q => ⟨q.1, fun v H1 s1 t1 _ => ⟨q.1, ?_⟩⟩
      intro vs H2 s2 t2 l2
      exact q.2 (v :: vs) H2 (s1.trans s2) (fun b hb => .cons ((t1 b hb).stay s2) (t2 b (ne_stay s1 hb))) (by simp [l2])
    · cases h
/-- some address that is laid -/
theorem pe_litC {X : Cx} (nm : Str → Option Int) (C : St → Prop) (hnm : ∀ x i pos, nm x = some i → PE X (.Name x pos) (fun σ H Q => C σ ∧ Q (.int i) H)) : ∀ (n : Nat) (e : Expr) (d : PyData), lit nm n e = some d → PE X e (tLit C d) := by
  intro n
  induction n with
  | zero => intro e d h; cases h
  | succ n ih =>
    intro e d h
    have h : litS nm (lit nm n) e = some d := h
    unfold litS at h
    split at h
    · obtain ⟨i, e1, rfl⟩ := Option.map_eq_some_iff.mp h
      exact PE.weak (hnm _ i _ e1) fun σ H Q q => ⟨q.1, q.2 _ H (Stay.refl H) (fun b _ => .int _) (fun i e => by cases e; rfl)⟩
    · cases h; exact PE.weak pe_int fun σ H Q q => q.2 _ H (Stay.refl H) (fun b _ => .int _) (fun i e => by cases e; rfl)
    · cases h; exact PE.weak pe_bl fun σ H Q q => q.2 _ H (Stay.refl H) (fun b _ => .bl _) (fun i e => by cases e)
    · cases h; exact PE.weak pe_non fun σ H Q q => q.2 _ H (Stay.refl H) (fun b _ => .non) (fun i e => by cases e)
    · split at h
      · next ok => cases h; exact PE.weak pe_str fun σ H Q q => q.2 _ H (Stay.refl H) (fun b _ => .str _ ok) (fun i e => by cases e)
      · cases h
    · split at h
      · next i e1 =>
        cases h
        exact PE.weak (pe_un un_neg (ih _ _ e1)) fun σ H Q q => ⟨q.1, fun v H1 s1 t1 i1 => ⟨_, i1 _ rfl, q.2 _ H1 s1 (fun b _ => .int _) (fun i e => by cases e; rfl)⟩⟩
      · cases h
    · split at h
      · next i j e1 e2 =>
        cases h
        exact PE.weak (pe_op op_add (ih _ _ e1) (ih _ _ e2)) fun σ H Q q => ⟨q.1, fun v H1 s1 t1 i1 => ⟨q.1, fun v2 H2 s2 t2 i2 => ⟨_, _, i1 _ rfl, i2 _ rfl, q.2 _ H2 (s1.trans s2) (fun b _ => .int _) (fun i e => by cases e; rfl)⟩⟩⟩
      · cases h
    · split at h
      · next i j e1 e2 =>
        cases h
        exact PE.weak (pe_op op_sub (ih _ _ e1) (ih _ _ e2)) fun σ H Q q => ⟨q.1, fun v H1 s1 t1 i1 => ⟨q.1, fun v2 H2 s2 t2 i2 => ⟨_, _, i1 _ rfl, i2 _ rfl, q.2 _ H2 (s1.trans s2) (fun b _ => .int _) (fun i e => by cases e; rfl)⟩⟩⟩
      · cases h
    · split at h
      · next i j e1 e2 =>
        split at h
        · next hc =>
          cases h
          exact PE.weak (pe_op op_pow (ih _ _ e1) (ih _ _ e2)) fun σ H Q q => ⟨q.1, fun v H1 s1 t1 i1 => ⟨q.1, fun v2 H2 s2 t2 i2 => ⟨_, _, i1 _ rfl, i2 _ rfl, hc, q.2 _ H2 (s1.trans s2) (fun b _ => .int _) (fun i e => by cases e; rfl)⟩⟩⟩
        · cases h
      · cases h
    · split at h
      · next hl =>
        obtain ⟨ds, e1, rfl⟩ := Option.map_eq_some_iff.mp h
        refine PE.weak (pe_tup (pa_lits ih _ _ e1)) fun σ H Q q => ⟨q.1, fun vs H1 s1 t1 l1 => ⟨?_, fun p hp => ?_⟩⟩
        · rw [l1, litL_len e1, sz]; omega
        · exact q.2 _ _ (s1.new hp) (fun b hb => .tup upd_same ((t1 b hb).stay ((Stay.refl H1).new hp))) (fun i e => by cases e)
      · cases h
    · split at h
      · next hl =>
        obtain ⟨ds, e1, rfl⟩ := Option.map_eq_some_iff.mp h
        refine PE.weak (pe_lst (pa_lits ih _ _ e1)) fun σ H Q q => ⟨q.1, fun vs H1 s1 t1 l1 => ⟨?_, fun p hp => ?_⟩⟩
        · rw [l1, litL_len e1, sz]; omega
        · exact q.2 _ _ (s1.new hp) (fun b hb => .lst (fun z => ne_stay s1 hb (z ▸ hp)) upd_same ((t1 b hb).stay ((Stay.refl H1).new hp))) (fun i e => by cases e)
      · cases h
    · cases h
/-- without names -/
theorem pe_lit {X : Cx} (n : Nat) (e : Expr) (d : PyData) (h : lit (fun _ => none) n e = some d) : PE X e (fun _ H Q => ∀ v H', Stay H H' → (∀ b, H b ≠ none → TrV b H' v d) → (∀ i, d = .int i → v = .int i) → Q v H') :=
  PE.weak (pe_litC (fun _ => none) (fun _ => True) (fun x i pos e => by cases e) n e d h) fun σ H Q q => ⟨trivial, q⟩
end L2

set_option Elab.async false
set_option linter.all false
set_option maxRecDepth 100000
set_option maxHeartbeats 1000000
/-! an exception of an own class in the air: what it touches -/
namespace EX
open PySem PySem.Spec PyProof.Rows
section
variable {M : Model} {A : Around} {E : Value → Shared → Prop} {s : Shared} {B : Heap} {env : Env} {outer : List Env} {L e C t : Addr} {Q : Unit → Shared → Prop}
end
end EX

set_option Elab.async false
set_option linter.all false
set_option maxRecDepth 100000
set_option maxHeartbeats 1000000
namespace L2
open PySem PySem.Spec PyProof.Rows EX
section
variable {P : Program} {w : World} {K : PySem.W.Frag} {mg : Str → Option Value} {base : Heap} {N : List Str} {qual : Str} {scope : Scope} {f : Addr} {cd : Value} {A : Around} {outer : List Env} {s₀ : Shared} {H₀ : Hp} {E : XK}
end
end L2

set_option Elab.async false
set_option linter.all false
set_option maxRecDepth 100000
set_option maxHeartbeats 1000000
namespace EX
open PySem PySem.Spec PyProof.Rows
section
variable {prog : Program} {w : World} {A : Around} {E : Value → Shared → Prop} {s : Shared}
end
end EX

set_option Elab.async false
set_option linter.all false
set_option maxRecDepth 100000
set_option maxHeartbeats 2000000
namespace L2
open PySem PySem.Spec PyProof.Rows EX
section
variable {X : Cx} {tg : Expr}
end
section
variable {X : Cx} {scope : Scope} {own cap : List Str} {ix : List Nat} {tg iter elt : Expr} {ifs : List Expr} {wi : TI} {g : TG} {tt : TT} {te : TE} {pos : Pos}
end
end L2

set_option Elab.async false
set_option linter.all false
set_option maxRecDepth 100000
set_option maxHeartbeats 1000000
namespace EX
open PySem PySem.Spec PyProof.Rows PySem.W
section
variable {prog : Program} {w : World} {A : Around} {E : Value → Shared → Prop} {s : Shared} {K : Frag} {x D t : Addr} {hd : Value}
end
end EX
namespace L2
open PySem PySem.Spec PyProof.Rows EX
section
variable {X : Cx} {e : Expr} {te : TE} {ea D t : Addr} {hd : Value}
end
end L2

set_option Elab.async false
set_option linter.all false
set_option maxRecDepth 100000
set_option maxHeartbeats 1000000
namespace EX
open PySem PySem.Spec PyProof.Rows PySem.W
section
variable {prog : Program} {w : World} {A : Around} {E : Value → Shared → Prop} {s : Shared} {K : Frag} {e D C t : Addr} {hd : Value}
end
end EX

namespace L2
open PySem PySem.Spec PyProof.Rows EX
/-! ### ''.join(words) -/
end L2

set_option Elab.async false
set_option linter.all false
set_option maxRecDepth 100000
set_option maxHeartbeats 1000000
namespace L2
open PySem PySem.Spec PyProof.Rows EX
/-! ### a def called within an except suite -/
section
variable {P : Program} {w : World} {K : PySem.W.Frag} {mg : Str → Option Value} {base : Heap}
end
end L2

set_option Elab.async false
set_option linter.all false
set_option maxRecDepth 100000
set_option maxHeartbeats 2000000
namespace L2
open PySem PySem.Spec PyProof.Rows EX
section
variable {X : Cx} {pins : List (Addr × Obj)} {σ : St} {H : Hp} {s : Shared}
end
end L2

set_option Elab.async false
set_option linter.all false
set_option maxRecDepth 100000
set_option maxHeartbeats 2000000
namespace L2
open PySem PySem.Spec PyProof.Rows EX
end L2

set_option Elab.async false
set_option linter.all false
set_option maxRecDepth 100000
set_option maxHeartbeats 1000000
namespace KG
open PySem
/-! lowest terms -/
end KG
namespace L2
open PySem PySem.Spec PyProof.Rows KG
section
variable {X : Cx}
end
end L2

set_option Elab.async false
set_option linter.all false
set_option maxRecDepth 100000
set_option maxHeartbeats 1000000
namespace KG
open PySem L2
theorem comp_filt {K : PySem.W.Frag} {tt : TT} {σ₀ : St} {a acc b : Addr} {H1 : Hp} {xs : List V} {ds : List PyData} {Q : VK} (m : PyData → Bool) (hT : TrVs b H1 xs ds) (ha : H1 a = some (.tup xs)) (hacc : H1 acc = none) (hl : xs.length ≤ 1000) (hσ : 0 < σ₀.length)
    (ht : ∀ (x : V) (d : PyData) (H' : Hp), Stay H1 H' → TrV b H' x d → d ∈ ds → ∀ Z : Bool → Hp → Prop, (∀ H5, Stay H' H5 → Z (!m d) H5) → tt (σ₀.set 0 (some x)) H' Z)
    (hd : ∀ ys es H', Stay H1 H' → H' acc = some (.lst ys) → TrVs b H' ys es → es.isEmpty = ds.all m → Q (.ref acc) H') : tCompN (gName 0) tt (tVar 0) (Itt K a) acc σ₀ H1 Q := by
  have hlen := hT.len
  refine comp_tup (xs := xs) (fun i ys H' => Stay H1 H' ∧ ys.length ≤ i ∧ ∃ es, TrVs b H1 ys es ∧ es = (ds.take i).filter (fun d => !m d)) ⟨(Stay.refl H1).acc hacc, Nat.le_refl _, [], .nil, rfl⟩ (fun i ys H' _ _ q => SqT.of (q.1 _ _ ha)) ?_ ?_
  · rintro i x ys H' hx hy ⟨st, hyl, es, tr, rfl⟩
    obtain ⟨d, hdi, hT1⟩ := hT.at hx
    have hi : i < xs.length := (List.getElem?_eq_some_iff.mp hx).1
    refine ht x d H' st (hT1.stay st) (List.mem_of_getElem? hdi) _ fun H5 st5 => ?_
    have hes : (ds.take (i + 1)).filter (fun d => !m d) = (ds.take i).filter (fun d => !m d) ++ if m d = true then [] else [d] := by
      rw [List.take_add_one, hdi, List.filter_append]
      congr 1
      cases hm : m d <;> simp [hm]
    cases hm : m d with
    | true =>
      refine iteF (Cn.of (st5 _ _ hy) ⟨st.trans st5, by omega, _, tr, ?_⟩)
      rw [hes, hm]; simp
    | false =>
      refine iteT ⟨x, ?_, ys, st5 _ _ hy, by rw [sz]; omega, Cn.of upd_same ⟨(st.trans st5).acc hacc, ?_, _, ?_, rfl⟩⟩
      · rw [List.getElem?_set_self hσ]
      · rw [List.length_append]; show ys.length + 1 ≤ i + 1; omega
      · rw [hes, hm]
        exact TrVs.app tr (.cons hT1 .nil)
  · rintro ys H' hy ⟨st, hyl, es, tr, rfl⟩
    rw [hlen, List.take_length] at tr
    refine hd ys _ H' st hy (tr.stay st) ?_
    rw [Bool.eq_iff_iff, List.isEmpty_iff, List.filter_eq_nil_iff, List.all_eq_true]
    simp
theorem eqv_nil {es : List PyData} : PyData.eqv (.list es) (.list []) = es.isEmpty := by
  cases es <;> simp [PyData.eqv, PyData.eqvAll]
end KG
namespace L2
open PySem PySem.Spec PyProof.Rows
/-- (a, b, ..) = a list of that length -/
def gLst (K : PySem.W.Frag) (n : Nat) (t : TGs) : TG := fun v σ H Q => ∃ a xs, v = .ref a ∧ SqL K H a xs ∧ xs.length = n ∧ t xs σ H Q
theorem pg_lst {X : Cx} {es : List Expr} {k : Nat} {t : TGs} {n : Nat} {pos : Pos} (hc : X.calm = true) (h : PGs X es t)
    (hn : (assignEach es X.env).length = n := by rfl) (hst : (assignEach es X.env).findIdx? (·.1) = none := by rfl) : PG X (.Tuple es k pos) (gLst X.K n t) := by
  intro pins s σ H v u Q I r hw
  obtain ⟨a, xs, e1, hq, hl, hw⟩ := hw
  subst e1
  cases r
  obtain ⟨its, rv, ht, hz⟩ := I.list hq
  rw [assign_Tuple]
  refine wpAny_bind (wpAny_standAt ?_)
  unfold unpack
  rw [hn, hst]
  have hsz : n = its.toArray.size := by rw [List.size_toArray, ← rv.length, hl]
  rw [hsz]
  refine wpAny_bind (wpAny_holding (PySem.W.kun_itemsOf (I.ok.hd hc) ht.isList fun h' hx => ?_))
  have I1 : Inv X pins σ H { s with heap := h' } := I.kept (t' := s.toks) fun b o e => hx b o (Nat.ne_of_lt (Heap.lt_size e)) e
  exact h pins _ σ H xs _ Q I1 (by simpa using rv) hw
theorem pIsi {X : Cx} {e : Expr} {te : TE} (K : PySem.W.Frag) {T : Str} {n : String} {p p2 pos : Pos} (he : PE X e te) (hg : Gl X "isinstance") (hm : X.mg "isinstance" = none) (hgT : Gl X T) (hmT : X.mg T = none) (hv : bootBuiltins T = some (.type n))
    (hb : bootBuiltins "isinstance" = some (.builtin "isinstance")) (h : X.K = K := by rfl) (hnT : T ≠ "__name__" := by decide) (hdT : (T == ("__debug__" : Str)) = false := by decide)
    (hs : starEach [e, .Name T p2] X.env = [(false, eval e X.env), (false, eval (.Name T p2) X.env)] := by rfl)
    (hpl : (backTo pos (starEach [.Name T p2] X.env)).any (·.1) = false := by rfl) : PE X (.Call (.Name "isinstance" p) [e, .Name T p2] [] pos) (tIsi K (.type n) te) := by
  subst h; exact pe_isiB he hg hm hgT hmT hv hb hnT hdT hs hpl
end L2

set_option Elab.async false
set_option linter.all false
set_option maxRecDepth 100000
set_option maxHeartbeats 2000000
namespace L2
open PySem PySem.Spec PyProof.Rows EX
/-! statements that may raise, the exception's wish by the names' values where it came -/
section
variable {X : Cx} {st : Stmt} {sts : List Stmt} {t u : TX}
end
end L2

set_option Elab.async false
set_option linter.all false
set_option maxRecDepth 100000
set_option maxHeartbeats 4000000
namespace KM
open PySem L2 KG EX
/-! ### kinds -/
def isI : PyData → Bool
  | .int _ => true
  | .bool _ => true
  | _ => false
def isB : PyData → Bool
  | .bool _ => true
  | _ => false
def isT : PyData → Bool
  | .tuple _ => true
  | _ => false
structure IsK (K : PySem.W.Frag) : Prop where
  i1 : PySem.W.kitOne K (.type "NoneType") (.type "int") = some false
  i2 : PySem.W.kitOne K (.type "bool") (.type "int") = some true
  i3 : PySem.W.kitOne K (.type "int") (.type "int") = some true
  i4 : PySem.W.kitOne K (.type "str") (.type "int") = some false
  i5 : PySem.W.kitOne K (.type "list") (.type "int") = some false
  i6 : PySem.W.kitOne K (.type "tuple") (.type "int") = some false
  b1 : PySem.W.kitOne K (.type "NoneType") (.type "bool") = some false
  b2 : PySem.W.kitOne K (.type "bool") (.type "bool") = some true
  b3 : PySem.W.kitOne K (.type "int") (.type "bool") = some false
  b4 : PySem.W.kitOne K (.type "str") (.type "bool") = some false
  b5 : PySem.W.kitOne K (.type "list") (.type "bool") = some false
  b6 : PySem.W.kitOne K (.type "tuple") (.type "bool") = some false
  t1 : PySem.W.kitOne K (.type "NoneType") (.type "tuple") = some false
  t2 : PySem.W.kitOne K (.type "bool") (.type "tuple") = some false
  t3 : PySem.W.kitOne K (.type "int") (.type "tuple") = some false
  t4 : PySem.W.kitOne K (.type "str") (.type "tuple") = some false
  t5 : PySem.W.kitOne K (.type "list") (.type "tuple") = some false
  t6 : PySem.W.kitOne K (.type "tuple") (.type "tuple") = some true
theorem isi {K : PySem.W.Frag} (Z : IsK K) {b : Addr} {H : Hp} {v : V} {d : PyData} (h : TrV b H v d) : ∃ t, TyOf K H v t ∧ PySem.W.kitOne K t (.type "int") = some (isI d) := by
  cases h with
  | non => exact ⟨_, .non, Z.i1⟩
  | bl c => exact ⟨_, .bl _, Z.i2⟩
  | int c => exact ⟨_, .int _, Z.i3⟩
  | str x ok => exact ⟨_, .str _, Z.i4⟩
  | lst n e t => exact ⟨_, .lst e, Z.i5⟩
  | tup e t => exact ⟨_, .tup e, Z.i6⟩
theorem isb {K : PySem.W.Frag} (Z : IsK K) {b : Addr} {H : Hp} {v : V} {d : PyData} (h : TrV b H v d) : ∃ t, TyOf K H v t ∧ PySem.W.kitOne K t (.type "bool") = some (isB d) := by
  cases h with
  | non => exact ⟨_, .non, Z.b1⟩
  | bl c => exact ⟨_, .bl _, Z.b2⟩
  | int c => exact ⟨_, .int _, Z.b3⟩
  | str x ok => exact ⟨_, .str _, Z.b4⟩
  | lst n e t => exact ⟨_, .lst e, Z.b5⟩
  | tup e t => exact ⟨_, .tup e, Z.b6⟩
theorem ist {K : PySem.W.Frag} (Z : IsK K) {b : Addr} {H : Hp} {v : V} {d : PyData} (h : TrV b H v d) : ∃ t, TyOf K H v t ∧ PySem.W.kitOne K t (.type "tuple") = some (isT d) := by
  cases h with
  | non => exact ⟨_, .non, Z.t1⟩
  | bl c => exact ⟨_, .bl _, Z.t2⟩
  | int c => exact ⟨_, .int _, Z.t3⟩
  | str x ok => exact ⟨_, .str _, Z.t4⟩
  | lst n e t => exact ⟨_, .lst e, Z.t5⟩
  | tup e t => exact ⟨_, .tup e, Z.t6⟩
theorem tupCase {b : Addr} {H : Hp} {v : V} {d : PyData} (h : TrV b H v d) : isT d = false ∨ ∃ a xs ds, v = .ref a ∧ d = .tuple ds ∧ H a = some (.tup xs) ∧ TrVs b H xs ds := by
  cases h with
  | non => exact .inl rfl
  | bl c => exact .inl rfl
  | int c => exact .inl rfl
  | str x ok => exact .inl rfl
  | lst n e t => exact .inl rfl
  | tup e t => exact .inr ⟨_, _, _, rfl, rfl, e, t⟩
theorem intCase {b : Addr} {H : Hp} {v : V} {d : PyData} (h : TrV b H v d) : isWhole d = false ∨ ∃ i, v = .int i ∧ d = .int i := by
  cases h with
  | non => exact .inl rfl
  | bl c => exact .inl rfl
  | int c => exact .inr ⟨_, rfl, rfl⟩
  | str x ok => exact .inl rfl
  | lst n e t => exact .inl rfl
  | tup e t => exact .inl rfl
theorem isWhole_eq (d : PyData) : isWhole d = (isI d && !isB d) := by cases d <;> rfl
theorem within_no {lo hi : Int} {d : PyData} (h : isWhole d = false) : within lo hi d = false := by cases d <;> first | rfl | cases h
/-! ### contracts -/
def spT (m : PyData → Bool) : Sp := fun vs H Q _ => ∃ (b : Addr) (v : V) (d : PyData), vs = [v] ∧ TrV b H v d ∧ ∀ H', Stay H H' → Q (.bl (m d)) H'
theorem comp_bools {K : PySem.W.Frag} {te : TE} {σ₀ : St} {a acc b : Addr} {H1 : Hp} {xs : List V} {ds : List PyData} {Q : VK} (m : PyData → Bool) (hT : TrVs b H1 xs ds) (ha : H1 a = some (.tup xs)) (hacc : H1 acc = none) (hl : xs.length ≤ 1000)
    (ht : ∀ (x : V) (d : PyData) (H' : Hp), Stay H1 H' → TrV b H' x d → d ∈ ds → ∀ Z : V → Hp → Prop, (∀ H5, Stay H' H5 → Z (.bl (m d)) H5) → te (σ₀.set 0 (some x)) H' Z)
    (hd : ∀ H', Stay H1 H' → H' acc = some (.lst (ds.map fun d => .bl (m d))) → Q (.ref acc) H') : tCompN (gName 0) tYes te (Itt K a) acc σ₀ H1 Q := by
  have hlen := hT.len
  refine comp_tup (xs := xs) (fun i ys H' => Stay H1 H' ∧ ys = (ds.take i).map fun d => .bl (m d)) ⟨(Stay.refl H1).acc hacc, rfl⟩ (fun i ys H' _ _ q => SqT.of (q.1 _ _ ha)) ?_ ?_
  · rintro i x ys H' hx hy ⟨st, rfl⟩
    obtain ⟨d, hdi, hT1⟩ := hT.at hx
    have hi : i < xs.length := (List.getElem?_eq_some_iff.mp hx).1
    refine yes_i ?_
    refine ht x d H' st (hT1.stay st) (List.mem_of_getElem? hdi) _ fun H5 st5 => ?_
    refine ⟨_, st5 _ _ hy, ?_, Cn.of upd_same ⟨(st.trans st5).acc hacc, ?_⟩⟩
    · rw [List.length_map, List.length_take, sz]; omega
    · rw [List.take_add_one, hdi, List.map_append]; rfl
  · rintro ys H' hy ⟨st, rfl⟩
    rw [hlen, List.take_length] at hy
    exact hd H' st hy
theorem all_bools {ds : List PyData} {m : PyData → Bool} : (ds.map fun d => V.bl (m d)).all tv = ds.all m := by
  rw [List.all_map]; rfl
theorem plain_bools {ds : List PyData} {m : PyData → Bool} : (ds.map fun d => V.bl (m d)).all plainB = true := by
  rw [List.all_map]; simp [Function.comp_def, plainB]
theorem vint_ne {a b : Nat} (h : a ≠ b) : (!decide (V.int (a : Int) = V.int (b : Int))) = true := by
  have : (a : Int) ≠ b := by omega
  simp [this]
theorem vint_eq (a : Int) : (!decide (V.int a = V.int a)) = false := by simp
theorem all_within {lo hi : Int} {ns : List Int} (h : ∀ n ∈ ns, lo ≤ n ∧ n ≤ hi) : (ns.map PyData.int).all (within lo hi) = true := by
  rw [List.all_map, List.all_eq_true]
  intro n hn
  obtain ⟨h1, h2⟩ := h n hn
  show (decide _ && decide _) = true
  rw [decide_eq_true h1, decide_eq_true h2]; rfl
theorem smalls_t {ds : List PyData} (h : small (.tuple ds) = true) : ∀ d ∈ ds, small d = true := fun d hd => smalls_mem (ds := ds) h hd
mutual
def ln (n : Nat) : PyData → Bool
  | .list ds => decide (ds.length ≤ n) && lns n ds
  | .tuple ds => decide (ds.length ≤ n) && lns n ds
  | _ => true
def lns (n : Nat) : List PyData → Bool
  | [] => true
  | d :: ds => ln n d && lns n ds
end
theorem lns_iff {n : Nat} : ∀ {ds : List PyData}, lns n ds = true ↔ ∀ d ∈ ds, ln n d = true
  | [] => by simp [lns]
  | d :: ds => by
    rw [lns, Bool.and_eq_true, lns_iff (ds := ds)]
    simp
theorem ln_t {n : Nat} {ds : List PyData} : ln n (.tuple ds) = true ↔ ds.length ≤ n ∧ ∀ d ∈ ds, ln n d = true := by
  rw [ln, Bool.and_eq_true, decide_eq_true_eq, lns_iff]
theorem ln_l {n : Nat} {ds : List PyData} : ln n (.list ds) = true ↔ ds.length ≤ n ∧ ∀ d ∈ ds, ln n d = true := by
  rw [ln, Bool.and_eq_true, decide_eq_true_eq, lns_iff]
mutual
theorem ln_mono {n m : Nat} (h : n ≤ m) : ∀ {d : PyData}, ln n d = true → ln m d = true
  | .none, _ => rfl
  | .bool _, _ => rfl
  | .int _, _ => rfl
  | .str _, _ => rfl
  | .dict _, _ => rfl
  | .list ds, e => by
    have e' : ds.length ≤ n ∧ lns n ds = true := by simpa [ln] using e
    have := lns_mono h (ds := ds) e'.2
    simp [ln, this]; omega
  | .tuple ds, e => by
    have e' : ds.length ≤ n ∧ lns n ds = true := by simpa [ln] using e
    have := lns_mono h (ds := ds) e'.2
    simp [ln, this]; omega
theorem lns_mono {n m : Nat} (h : n ≤ m) : ∀ {ds : List PyData}, lns n ds = true → lns m ds = true
  | [], _ => rfl
  | d :: ds, e => by
    have e' : ln n d = true ∧ lns n ds = true := by simpa [lns] using e
    simp [lns, ln_mono h e'.1, lns_mono h e'.2]
end
theorem small_t {ds : List PyData} (h : ∀ d ∈ ds, small d = true) : small (.tuple ds) = true := smalls_of h
theorem small_l {ds : List PyData} (h : ∀ d ∈ ds, small d = true) : small (.list ds) = true := smalls_of h
def oddL : List PyData := [.int (-1), .int 0, .int 1, .int 2, .int 61, .int 101, .int 1000001, .bool true, .bool false, .none, .str "", .str "1", .tuple [], .tuple [.int 1], .tuple [.int 0, .int 1], .tuple [.int 1, .int 1], .tuple [.int 2, .int 2], .tuple [.int 1, .int 0],
  .tuple [.int 1, .int (-1)], .tuple [.bool true, .int 1], .list [.int 1, .int 1], .list [], .tuple [.int 1, .int 2, .int 3], .tuple [.tuple [.int 1, .int 1]]]
theorem oddL_ok : ∀ d ∈ oddL, isMk d = false ∧ small d = true ∧ ln 3 d = true := by
  have h : oddL.all (fun d => !isMk d && small d && ln 3 d) = true := by decide +kernel
  intro d hd
  have := List.all_eq_true.mp h d hd
  simp only [Bool.and_eq_true, Bool.not_eq_true'] at this
  exact ⟨this.1.1, this.1.2, this.2⟩
def spOdd : Sp := fun vs H Q _ => ∃ (b : Addr), vs = [.ref b] ∧ Bag H b ∧ ∀ (v : V) (d : PyData) (H' : Hp), Bag H' b → Kp b H H' → TrV b H' v d → d ∈ oddL → Q v H'
theorem Stay.kpb {b : Addr} {H H' : Hp} (s : Stay H H') : Kp b H H' := fun a o _ h => s a o h
theorem Bag.stay {b : Addr} {H H' : Hp} (h : Bag H b) (s : Stay H H') : Bag H' b := by obtain ⟨c, d, e⟩ := h; exact ⟨c, d, s _ _ e⟩
theorem trAt {b : Addr} {H : Hp} {xs : List V} {ds : List PyData} {r : Int} (h : TrVs b H xs ds) (h0 : 0 ≤ r) (h1 : r < xs.length) : ∃ x d, xs[r.toNat]? = some x ∧ atI xs r = some x ∧ ds[r.toNat]? = some d ∧ TrV b H x d := by
  have hl : r.toNat < xs.length := by omega
  have e := List.getElem?_eq_getElem hl
  obtain ⟨d, e2, t⟩ := h.at e
  have := atI_nat e
  rw [Int.toNat_of_nonneg h0] at this
  exact ⟨_, d, e, this, e2, t⟩
theorem cut_to {xs : List V} {r : Int} (h0 : 0 ≤ r) (h1 : r < xs.length) : cutV xs none (some r) = xs.take r.toNat := by
  have e1 : HT.sIx xs.length xs.length (some r) = r.toNat := by
    show (if r < 0 then (r + (xs.length : Int)).toNat else min r.toNat xs.length) = _
    rw [if_neg (by omega)]; omega
  unfold cutV
  rw [HT.sIx_none, e1]; simp
theorem cut_from {xs : List V} {r : Int} (h0 : 0 ≤ r) (h1 : r ≤ xs.length) : cutV xs (some r) none = xs.drop r.toNat := by
  have e1 : HT.sIx xs.length 0 (some r) = r.toNat := by
    show (if r < 0 then (r + (xs.length : Int)).toNat else min r.toNat xs.length) = _
    rw [if_neg (by omega)]; omega
  unfold cutV
  rw [HT.sIx_none, e1, List.take_of_length_le]
  rw [List.length_drop]; omega
theorem eqv_tnil {es : List PyData} : PyData.eqv (.tuple es) (.tuple []) = es.isEmpty := by
  cases es <;> simp [PyData.eqv, PyData.eqvAll]
def spRep (m : Nat) : Sp := fun vs H Q _ => ∃ (b : Addr) (v : V) (d : PyData) (deep n : Nat), vs = [.ref b, v, .int deep] ∧ deep < m ∧ Bag H b ∧ TrV b H v d ∧ small d = true ∧ ln n d = true ∧ 3 ≤ n ∧ n ≤ 50 ∧
  ∀ (v' : V) (d' : PyData) (H' : Hp), Bag H' b → Kp b H H' → TrV b H' v' d' → small d' = true → ln (n + 1) d' = true → Q v' H'
def put {α : Type} (xs : List α) (i : Nat) (x : α) : List α := xs.take i ++ [x] ++ xs.drop (i + 1)
theorem put_read {σ : St} {H : Hp} {tA tR tX : TE} {a : Addr} {xs : List V} {r : Int} {x : V} {Q : VK} (hA : ∀ H' (Z : VK), Stay H H' → Z (.ref a) H' → tA σ H' Z) (hR : ∀ H' (Z : VK), Z (.int r) H' → tR σ H' Z) (hX : ∀ H' (Z : VK), Stay H H' → Z x H' → tX σ H' Z)
    (ha : H a = some (.tup xs)) (r0 : 0 ≤ r) (rl : r < xs.length) (hl : xs.length ≤ 1000) (k : ∀ p H', Stay H H' → H' p = some (.tup (put xs r.toNat x)) → Q (.ref p) H') :
    tOp rCatA (tOp rCatA (tSl rSlA tA tNoPart (tPart tR)) (tTup (tCons tX tNil))) (tSl rSlA tA (tPart (tOp (rI0 fun i j => .int (i + j)) tR (tC (.int 1)))) tNoPart) σ H Q := by
  have hto := cut_to (xs := xs) r0 rl
  have hfr := cut_from (xs := xs) (r := r + 1) (by omega) (by omega)
  have er1 : (r + 1).toNat = r.toNat + 1 := by omega
  rw [er1] at hfr
  refine hA H _ (Stay.refl H) (hR H _ ⟨_, rfl, a, xs, rfl, ha, fun p1 H4 s4 hp1 => ?_⟩)
  rw [hto] at hp1
  refine hX H4 _ s4 ⟨by show 1 ≤ sizeLine; decide, fun p2 hp2 => ?_⟩
  have s5 := (Stay.refl H4).new (o := .tup [x]) hp2
  refine ⟨p1, p2, _, _, rfl, rfl, s5 _ _ hp1, upd_same, ?_, fun p3 H6 s6 hp3 => ?_⟩
  · rw [List.length_take, sz]; show _ + 1 ≤ _; omega
  have s46 := (s4.trans s5).trans s6
  refine hA H6 _ s46 (hR H6 _ ⟨_, _, rfl, rfl, _, rfl, a, xs, rfl, s46 _ _ ha, fun p4 H7 s7 hp4 => ?_⟩)
  rw [hfr] at hp4
  refine ⟨p3, p4, _, _, rfl, rfl, s7 _ _ hp3, hp4, ?_, fun p5 H8 s8 hp5 => ?_⟩
  · rw [List.length_append, List.length_take, List.length_drop, sz]; show _ + 1 + _ ≤ _; omega
  exact k p5 H8 ((s46.trans s7).trans s8) hp5
theorem bl_same (c : Bool) : (!decide (V.bl c = V.bl c)) = false := by simp
end KM

set_option Elab.async false
set_option linter.all false
set_option maxRecDepth 100000
set_option maxHeartbeats 4000000
namespace KM
open PySem L2 KG EX
/-- the built-ins are the interpreter's own -/
structure Nm (mg : Str → Option Value) : Prop where
  len : mg "len" = none
  range : mg "range" = none
  tuple : mg "tuple" = none
  list : mg "list" = none
  all : mg "all" = none
  any : mg "any" = none
  max : mg "max" = none
  min : mg "min" = none
  sum : mg "sum" = none
  abs : mg "abs" = none
  int : mg "int" = none
  isinstance : mg "isinstance" = none
  bool : mg "bool" = none
  enumerate : mg "enumerate" = none
  valueError : mg "ValueError" = none
end KM

set_option Elab.async false
set_option linter.all false
set_option maxRecDepth 100000
set_option maxHeartbeats 4000000
namespace KM
open PySem L2 KG EX
/-! prices -/
end KM

set_option Elab.async false
set_option linter.all false
set_option maxRecDepth 100000
set_option maxHeartbeats 4000000
namespace KM
open PySem L2 KG EX
end KM

set_option Elab.async false
set_option linter.all false
set_option maxRecDepth 100000
set_option maxHeartbeats 4000000
namespace KM
open PySem L2 KG EX
/-! fractions in lowest terms are the rational numbers -/
end KM

set_option Elab.async false
set_option linter.all false
set_option maxRecDepth 100000
set_option maxHeartbeats 4000000
namespace KM
open PySem L2 KG EX
/-! prices as rational numbers -/
end KM

set_option Elab.async false
set_option linter.all false
set_option maxRecDepth 100000
set_option maxHeartbeats 4000000
namespace KM
open PySem L2 KG EX
theorem take_snoc {α : Type} {xs : List α} {i : Nat} {x : α} (h : xs[i]? = some x) : xs.take (i + 1) = xs.take i ++ [x] := by rw [List.take_succ, h]; rfl
/-- lists of whole numbers at hand, one by one -/
def LsR (H : Hp) (xs : List V) (M : List (List Int)) : Prop := xs.length = M.length ∧ ∀ (j : Nat) x, xs[j]? = some x → ∃ a, x = .ref a ∧ H a = some (.lst ((M.getD j []).map V.int))
end KM

set_option Elab.async false
set_option linter.all false
set_option maxRecDepth 100000
set_option maxHeartbeats 4000000
namespace L2
open PySem PySem.Spec PyProof.Rows
end L2
namespace KM
open PySem L2 KG EX
theorem ints_tr {b : Addr} {H : Hp} : ∀ (ns : List Int), TrVs b H (ns.map V.int) (ns.map PyData.int)
  | [] => .nil
  | n :: ns => .cons (.int n) (ints_tr ns)
def rowD (ns : List Int) : PyData := .tuple (ns.map PyData.int)
theorem rws_tr {b : Addr} {H : Hp} : ∀ {xs : List V} {M : List (List Int)}, Rws H xs M → TrVs b H xs (M.map rowD)
  | _, _, .nil => .nil
  | _, _, .cons ⟨a, e, h⟩ t => by
    subst e
    exact .cons (.tup h (ints_tr _)) (rws_tr t)
end KM

set_option Elab.async false
set_option linter.all false
set_option maxRecDepth 100000
set_option maxHeartbeats 4000000
namespace KM
open PySem L2 KG EX
/-! purses as rational numbers -/
end KM

set_option Elab.async false
set_option linter.all false
set_option maxRecDepth 100000
namespace L2
open PySem PySem.Spec PyProof.Rows

/-! ### lists of pairs as tables -/
section
variable {κ : Type} [DecidableEq κ]
end


/-! ### a tracked dict, its keys ints and texts or tuples of these -/
section
variable {P : Program} {w : World} {H : Hp} {h : Heap} {a : Addr}
end

section
variable {X : Cx} {pins : List (Addr × Obj)} {σ : St} {H : Hp} {s : Shared} {a : Addr} {y v : V} {u r : Value} {o : Option V} {A : Around} {E : Value → Shared → Prop}

end

section
variable {X : Cx} {pins : List (Addr × Obj)} {σ : St} {H : Hp} {s : Shared} {a : Addr} {kvs : List (Key × V)} {k : Key} {u : Value} {A : Around} {E : Value → Shared → Prop}
end


/-! ### readings and rules -/
section
variable {X : Cx} {o i e value : Expr} {pos pos' tpos : Pos} {td ty tv : TE}
end


/-! ### displays -/
section
variable {X : Cx} {pos : Pos}
end

/-! ### methods -/
section
variable {X : Cx} {pins : List (Addr × Obj)} {σ : St} {H : Hp} {s : Shared} {a : Addr} {y d : V} {u r : Value} {o : Option V} {A : Around} {E : Value → Shared → Prop}
end

section
variable {X : Cx} {o e f : Expr} {apos cpos : Pos} {td ty tx : TE}
end

/-! ### dict(d): a copy -/
section
variable {X : Cx} {pins : List (Addr × Obj)} {σ : St} {H : Hp} {s : Shared} {a : Addr} {kvs : List (Key × V)} {A : Around} {E : Value → Shared → Prop}
end


section
variable {X : Cx} {pins : List (Addr × Obj)} {σ : St} {H : Hp} {s : Shared} {a : Addr} {y : V} {u : Value} {A : Around} {E : Value → Shared → Prop}
end
end L2
namespace L2
open PySem PySem.Spec PyProof.Rows
section
variable {X : Cx}
end
section
variable {κ : Type} [DecidableEq κ]
end
end L2

set_option Elab.async false
set_option linter.all false
set_option maxRecDepth 100000
namespace L2
open PySem PySem.Spec PyProof.Rows

/-! ### a dict comprehension, keys ints and texts -/
section
variable {X : Cx} {scope : Scope} {own cap : List Str} {ix : List Nat} {tg iter kx vx : Expr} {ifs : List Expr} {wi : TI} {g : TG} {tt : TT} {tk tv : TE} {pos : Pos}

end
end L2

set_option Elab.async false
set_option linter.all false
set_option maxRecDepth 100000
namespace L2
open PySem PySem.Spec PyProof.Rows
section
variable {X : Cx}

/-! ### d.values(), list(d.values()) -/
/-! ### for k in d: the dict stands frozen from there on -/
end
end L2

set_option Elab.async false
set_option linter.all false
set_option maxRecDepth 100000
namespace PySem
/-! ### zip of two tuples -/
section
variable {prog : Program} {w : World} {A : Around} {E : Value → Shared → Prop} {s : Shared} {z TI TO i1 i2 l1 l2 : Addr} {k1 k2 : Nat} {xs ys : Array Value} {x y a b : Value}
end
end PySem
namespace L2
open PySem PySem.Spec PyProof.Rows
section
variable {X : Cx}
end
end L2

set_option Elab.async false
set_option linter.all false
set_option maxRecDepth 100000
namespace L2
open PySem PySem.Spec PyProof.Rows KG
section
variable {K : PySem.W.Frag} {tt : TT} {te tk tv : TE} {acc a b : Addr} {xs ys : List V} {σ₀ : St} {H₀ : Hp} {Q : VK} {o : Obj} {kvs : List (Key × V)}
end
/-! the same rules with the fragment said -/
section
variable {X : Cx}
end
end L2

set_option Elab.async false
set_option linter.all false
set_option maxRecDepth 100000
namespace PySem
/-! ### dicts by their entries as they lie, whatever the keys are -/
section
variable {prog : Program} {w : World} {A : Around} {E : Value → Shared → Prop} {s : Shared} {it d : Addr} {i ep : Nat} {es : Array DictEntry}
end
end PySem
namespace L2
open PySem PySem.Spec PyProof.Rows KG
section
variable {X : Cx}
end
end L2

set_option Elab.async false
set_option linter.all false
set_option maxRecDepth 100000
namespace L2
open PySem PySem.Spec PyProof.Rows KG
section
variable {X : Cx}
/-! ### for k in d, the keys tuples -/
end
section
variable {K : PySem.W.Frag} {tt : TT} {te tk tv : TE} {acc a b : Addr} {xs ys : List V} {σ₀ : St} {H₀ : Hp} {Q : VK} {o : Obj} {kvs : List (List Key × V)}
end
end L2
namespace PySem
section
variable {prog : Program} {w : World} {A : Around} {I : Addr} {fp wr : List Addr} {n : Nat} {P : Nat → Value → Prop} {St : Nat → Heap → Prop}

end
end PySem

set_option Elab.async false
set_option linter.all false
set_option maxRecDepth 100000
namespace L2
open PySem PySem.Spec PyProof.Rows
/-! the rules with the empty fragment: their readings have no letter of the fragment, so they stay alike at all depths -/
def K0 : PySem.W.Frag := []
section
variable {K : PySem.W.Frag} {H : Hp} {a : Addr} {xs : List V}
theorem SqL.k0 (h : SqL K0 H a xs) : SqL K H a xs := by
  rcases h with h | ⟨o, its, n, hk, _⟩
  · exact .inl h
  · exact absurd hk (by show ¬ (none = some o); simp)
theorem SqT.k0 (h : SqT K0 H a xs) : SqT K H a xs := by
  rcases h with h | ⟨o, its, n, hk, _⟩
  · exact .inl h
  · exact absurd hk (by show ¬ (none = some o); simp)
theorem Sq.k0 (h : SqL K0 H a xs ∨ SqT K0 H a xs) : SqL K H a xs ∨ SqT K H a xs := h.elim (fun z => .inl z.k0) fun z => .inr z.k0
mutual
theorem DtV.k0 : ∀ {v : V} {d : PyData}, DtV K0 H v d → DtV K H v d
  | _, _, .non => .non
  | _, _, .bl b => .bl b
  | _, _, .int i => .int i
  | _, _, .str x ok => .str x ok
  | _, _, .lst h t => .lst h.k0 (DtVs.k0 t)
  | _, _, .tup h t => .tup h.k0 (DtVs.k0 t)
theorem DtVs.k0 : ∀ {vs : List V} {ds : List PyData}, DtVs K0 H vs ds → DtVs K H vs ds
  | _, _, .nil => .nil
  | _, _, .cons h t => .cons (DtV.k0 h) (DtVs.k0 t)
end
end
section
variable {X : Cx} {tg l : Expr} {tl : TE}
theorem OpR.imp {f : Value → Value → Sem Value} {r r' : R2} (h : OpR X f r) (hi : ∀ x y H Q, r' x y H Q → r x y H Q) : OpR X f r' := fun pins s σ H x y v u Q I rx ry q => h pins s σ H x y v u Q I rx ry (hi _ _ _ _ q)
theorem CallR.imp {f : Value} {r r' : List V → Hp → VK → Prop} (h : CallR X f r) (hi : ∀ xs H Q, r' xs H Q → r xs H Q) : CallR X f r' := fun pins s σ H xs us Q I rx q => h pins s σ H xs us Q I rx (hi _ _ _ q)
theorem IxR.imp {r r' : R2} (h : IxR X r) (hi : ∀ x y H Q, r' x y H Q → r x y H Q) : IxR X r' := fun a b pins s σ H x y v u Q I rx ry q => h a b pins s σ H x y v u Q I rx ry (hi _ _ _ _ q)
theorem ixL0 : IxR X (rIxL K0) := ix_list.imp fun _ _ _ _ ⟨p, xs, i, v, e1, e2, h, e3, q⟩ => ⟨p, xs, i, v, e1, e2, h.k0, e3, q⟩
theorem ixT0 : IxR X (rIxT K0) := ix_tup.imp fun _ _ _ _ ⟨p, xs, i, v, e1, e2, h, e3, q⟩ => ⟨p, xs, i, v, e1, e2, h.k0, e3, q⟩
def rLen0 : List V → Hp → VK → Prop := fun xs H Q => ∃ p ys, xs = [.ref p] ∧ (SqL K0 H p ys ∨ SqT K0 H p ys) ∧ Q (.int ys.length) H
def rTup0 : List V → Hp → VK → Prop := fun xs H Q => ∃ p ys, xs = [.ref p] ∧ ((SqL K0 H p ys ∧ ∀ l, H l = none → Q (.ref l) (upd H l (.tup ys))) ∨ (SqT K0 H p ys ∧ Q (.ref p) H))
def rLst0 : List V → Hp → VK → Prop := fun xs H Q => ∃ p ys, xs = [.ref p] ∧ (SqL K0 H p ys ∨ SqT K0 H p ys) ∧ ∀ l, H l = none → Q (.ref l) (upd H l (.lst ys))
def rAny0 : List V → Hp → VK → Prop := fun xs H Q => ∃ p ys, xs = [.ref p] ∧ (SqL K0 H p ys ∨ SqT K0 H p ys) ∧ ys.all plainB = true ∧ Q (.bl (ys.any tv)) H
def rAll0 : List V → Hp → VK → Prop := fun xs H Q => ∃ p ys, xs = [.ref p] ∧ (SqL K0 H p ys ∨ SqT K0 H p ys) ∧ ys.all plainB = true ∧ Q (.bl (ys.all tv)) H
def rSum0 : List V → Hp → VK → Prop := fun xs H Q => ∃ (p : Addr) (ns : List Int), xs = [.ref p] ∧ (SqL K0 H p (ns.map V.int) ∨ SqT K0 H p (ns.map V.int)) ∧ Q (.int ns.sum) H
theorem cLen0 : CallR X (.builtin "len") rLen0 := call_len_seq.imp fun _ _ _ ⟨p, ys, e, h, q⟩ => ⟨p, ys, e, Sq.k0 h, q⟩
theorem cTup0 : CallR X (.type "tuple") rTup0 := call_tuple_of.imp fun _ _ _ ⟨p, ys, e, h⟩ => ⟨p, ys, e, h.elim (fun z => .inl ⟨z.1.k0, z.2⟩) fun z => .inr ⟨z.1.k0, z.2⟩⟩
theorem cLst0 : CallR X (.type "list") rLst0 := call_list_of.imp fun _ _ _ ⟨p, ys, e, h, q⟩ => ⟨p, ys, e, Sq.k0 h, q⟩
theorem cAny0 (hc : X.calm = true) : CallR X (.builtin "any") rAny0 := (call_any hc).imp fun _ _ _ ⟨p, ys, e, h, q⟩ => ⟨p, ys, e, Sq.k0 h, q⟩
theorem cAll0 (hc : X.calm = true) : CallR X (.builtin "all") rAll0 := (call_all hc).imp fun _ _ _ ⟨p, ys, e, h, q⟩ => ⟨p, ys, e, Sq.k0 h, q⟩
theorem cSum0 (hc : X.calm = true) : CallR X (.builtin "sum") rSum0 := (call_sum hc).imp fun _ _ _ ⟨p, ys, e, h, q⟩ => ⟨p, ys, e, Sq.k0 h, q⟩
theorem opRepT0 : OpR X (binaryOp .Mult) (rRepT K0) := op_repT.imp fun _ _ _ _ ⟨a, k, xs, e1, e2, h, q⟩ => ⟨a, k, xs, e1, e2, h.k0, q⟩
theorem opEqD0 (hu : X.A.units + 64 < cLine) : OpR X (compareOp .Eq) (rEqD K0) := (op_eqD hu).imp fun _ _ _ _ ⟨dx, dy, h1, h2, q⟩ => ⟨dx, dy, h1.k0, h2.k0, q⟩
theorem opNeD0 (hu : X.A.units + 64 < cLine) : OpR X (compareOp .NotEq) (rNeD K0) := (op_neD hu).imp fun _ _ _ _ ⟨dx, dy, h1, h2, q⟩ => ⟨dx, dy, h1.k0, h2.k0, q⟩
/-- iterators -/
structure It.Le (J J' : It) : Prop where
  go : ∀ i H, J'.go i H → J.go i H
  yld : ∀ i H x H', J.yld i H x H' → J'.yld i H x H'
  stop : ∀ i H, J'.stop i H → J.stop i H
theorem Turn.le {P : Program} {w : World} {K : PySem.W.Frag} {tg : Expr} {J J' : It} {fp : List Addr} {it : Addr} {tn : Nat → Heap → Prop} (T : Turn P w K tg J fp it tn) (l : J.Le J') : Turn P w K tg J' fp it tn where
  mem := T.mem
  obj := T.obj
  keep := T.keep
  item := fun X hP hw hK hc i pins s σ H E I hf st hg => thn (T.item X hP hw hK hc i pins s σ H E I hf st (l.go i H hg)) fun r s1 ⟨u, hr, h⟩ => ⟨u, hr, thn h fun _ s2 ⟨x, H', a1, a2, a3, a4⟩ => ⟨x, H', a1, a2, l.yld _ _ _ _ a3, a4⟩⟩
  done := fun X hP hw hK hc i pins s σ H E I hf st hg => T.done X hP hw hK hc i pins s σ H E I hf st (l.stop i H hg)
  self := T.self
theorem le_list {K : PySem.W.Frag} {a : Addr} : (Itl K a).Le (Itl K0 a) := ⟨fun i H ⟨xs, x, h, e⟩ => ⟨xs, x, h.k0, e⟩, fun i H x H' ⟨e, h⟩ => ⟨e, fun xs hx => h xs hx.k0⟩, fun i H ⟨xs, h, e⟩ => ⟨xs, h.k0, e⟩⟩
theorem le_tup {K : PySem.W.Frag} {a : Addr} : (Itt K a).Le (Itt K0 a) := ⟨fun i H ⟨xs, x, h, e⟩ => ⟨xs, x, h.k0, e⟩, fun i H x H' ⟨e, h⟩ => ⟨e, fun xs hx => h xs hx.k0⟩, fun i H ⟨xs, h, e⟩ => ⟨xs, h.k0, e⟩⟩
theorem piL0 (hl : PE X l tl) : PI X tg l (iList K0 tl) := by
  intro pins s σ H R I h
  refine thn (hl pins s σ H _ I h) fun v s1 ⟨x, H1, I1, r1, a, e, ⟨xs, hq⟩, q⟩ => ?_
  subst e
  cases r1
  obtain ⟨its, rv, p, hz⟩ := I1.list hq.k0
  refine wpAny_pyIter_list p.isList ⟨s1.heap.objs.size, [s1.heap.objs.size], _, Itl K0 a, H1, rfl, I1.kept (t' := s1.toks) fun b o e => Heap.get?_push_of_some _ e, (turn_list (K := X.K) a _).le le_list, ⟨_, Heap.get?_push_size _ rfl, rfl, rfl⟩, fun b hb => ?_, q⟩
  obtain rfl : b = s1.heap.objs.size := by simpa using hb
  exact I1.fpOk (Nat.le_refl _) (I1.hok.fresh (Nat.le_refl _))
theorem piT0 (hl : PE X l tl) : PI X tg l (iTup K0 tl) := by
  intro pins s σ H R I h
  refine thn (hl pins s σ H _ I h) fun v s1 ⟨x, H1, I1, r1, a, e, ⟨xs, hq⟩, q⟩ => ?_
  subst e
  cases r1
  obtain ⟨its, rv, p, hz⟩ := I1.tuple hq.k0
  refine wpAny_pyIter_tuple (show s1.heap.IsTuple a its.toArray from p) ⟨s1.heap.objs.size, [s1.heap.objs.size], _, Itt K0 a, H1, rfl, I1.kept (t' := s1.toks) fun b o e => Heap.get?_push_of_some _ e, (turn_tuple (K := X.K) a _).le le_tup, ⟨_, Heap.get?_push_size _ rfl, rfl, rfl⟩, fun b hb => ?_, q⟩
  obtain rfl : b = s1.heap.objs.size := by simpa using hb
  exact I1.fpOk (Nat.le_refl _) (I1.hok.fresh (Nat.le_refl _))
theorem pgTup0 {es : List Expr} {k : Nat} {t : TGs} {n : Nat} {pos : Pos} (hc : X.calm = true) (h : PGs X es t) (hn : (assignEach es X.env).length = n := by rfl) (hst : (assignEach es X.env).findIdx? (·.1) = none := by rfl) : PG X (.Tuple es k pos) (gTup K0 n t) :=
  fun pins s σ H v u Q I r ⟨a, xs, e, hq, q⟩ => pg_tup hc h hn hst pins s σ H v u Q I r ⟨a, xs, e, hq.k0, q⟩
theorem pgLst0 {es : List Expr} {k : Nat} {t : TGs} {n : Nat} {pos : Pos} (hc : X.calm = true) (h : PGs X es t) (hn : (assignEach es X.env).length = n := by rfl) (hst : (assignEach es X.env).findIdx? (·.1) = none := by rfl) : PG X (.Tuple es k pos) (gLst K0 n t) :=
  fun pins s σ H v u Q I r ⟨a, xs, e, hq, q⟩ => pg_lst hc h hn hst pins s σ H v u Q I r ⟨a, xs, e, hq.k0, q⟩
theorem tyV.k0 {K : PySem.W.Frag} {T : String} {x : V} {H : Hp} (h : tyV K0 T x H) : tyV K T x H := by
  cases x with
  | ref p =>
    rcases h with ⟨e, xs, h⟩ | ⟨e, o, hk, _⟩ | h | h
    · exact .inl ⟨e, xs, h.k0⟩
    · exact absurd hk (by show ¬ (none = some o); simp)
    · exact .inr (.inr (.inl h))
    · exact .inr (.inr (.inr h))
  | _ => exact h
variable {o e : Expr} {es : List Expr} {to : TE} {t : TA} {name : Str} {apos cpos : Pos} {T id : String} {r : V → List V → Hp → VK → Prop}
theorem peBm0 (pa : PlainAttrs T) (slot : Slot T name id) (hty : typeOf (.builtin id) = pure (.type "method_descriptor")) (hm : MtR X id r) (ho : PE X o to) (ha : PA X (e :: es) t)
    (hbase : attributeBase o name X.env (eval o X.env) = eval o X.env := by rfl)
    (hfew : ((backTo cpos (starEach (e :: es) X.env)).all (fun x => !x.1) && (backToKw cpos (keywordEach [] X.env)).all (fun x => x.1.isSome)
      && decide ((e :: es).length + ([] : List Keyword).length + (if ([] : List Keyword).isEmpty then 0 else 1) < 30)) = true := by rfl)
    (hline : (apos.endLine == cpos.line) = true := by rfl) (hs : starEach (e :: es) X.env = (false, eval e X.env) :: starEach es X.env := by rfl) (hplain : (backTo cpos (starEach es X.env)).any (·.1) = false := by rfl) :
    PE X (.Call (.Attribute o name apos) (e :: es) [] cpos) (tBM K0 T r to t) := by
  intro pins s σ H Q I h
  refine wpAny_Call_method_late hbase hfew hline rfl (thn (ho pins s σ H _ I h) fun v s1 ⟨x, H1, I1, r1, ty, q1⟩ => ?_)
  obtain ⟨h1, h2⟩ := tyV_is I1 r1 ty.k0
  refine ⟨T, id, pa, slot, hty, h1, h2, ?_⟩
  have hA := ha cpos pins s1 σ H1 _ I1 q1
  rw [hs] at hA ⊢
  exact Calls.callWith_builtin (by show (false || (backTo cpos (starEach es X.env)).any (·.1)) = false; rw [hplain] <;> rfl) (Calls.evalArgs_plain (thn hA fun us s2 ⟨vs, H2, I2, r2, q2⟩ => hm pins s2 σ H2 x vs v us Q I2 r1 r2 q2))
end
end L2

set_option Elab.async false
set_option linter.all false
set_option maxRecDepth 100000
set_option maxHeartbeats 4000000
namespace KM
open PySem L2 KG EX
/-! the rates: keys in order, values as fractions -/
end KM
namespace KM
open PySem L2 KG EX
end KM
namespace KM
open PySem L2 KG EX
end KM
namespace KM
open PySem L2 KG EX
end KM
namespace KM
open PySem L2 KG EX
theorem LsR.app {H : Hp} {ys : List V} {M : List (List Int)} (h : LsR H ys M) {a : Addr} {r : List Int} (ha : H a = some (.lst (r.map V.int))) : LsR H (ys ++ [.ref a]) (M ++ [r]) := by
  refine ⟨by simp [h.1], fun j y hy => ?_⟩
  rcases Nat.lt_or_ge j ys.length with z | z
  · rw [List.getElem?_append_left z] at hy
    obtain ⟨c, e, hc⟩ := h.2 j y hy
    refine ⟨c, e, ?_⟩
    have : (M ++ [r]).getD j [] = M.getD j [] := by simp [List.getD, List.getElem?_append_left (h.1 ▸ z)]
    rw [this]; exact hc
  · have : j = ys.length := by
      have := (List.getElem?_eq_some_iff.mp hy).1
      simp at this; omega
    subst this
    simp at hy
    subst hy
    refine ⟨a, rfl, ?_⟩
    have : (M ++ [r]).getD ys.length [] = r := by rw [h.1]; simp [List.getD]
    rw [this]; exact ha
end KM
namespace KM
end KM

set_option Elab.async false
set_option linter.all false
set_option maxRecDepth 100000
set_option maxHeartbeats 4000000
namespace KM
open PySem L2 KG EX
end KM

set_option Elab.async false
set_option linter.all false
set_option maxRecDepth 100000
set_option maxHeartbeats 4000000
namespace KM
open PySem L2 KG EX
/-! greatest and least, shares, the first prices -/
end KM

set_option Elab.async false
set_option linter.all false
set_option maxRecDepth 100000
set_option maxHeartbeats 4000000
namespace KM
open PySem L2 KG EX
section
variable {am : List Int} {ps qs : List Rat} {M : List (List Int)} {n : Nat}
end
end KM
namespace KM
open PySem L2 KG EX
end KM
namespace KM
open PySem L2 KG EX
end KM
namespace KM
open PySem L2 KG EX
end KM

set_option Elab.async false
set_option linter.all false
set_option maxRecDepth 100000
namespace L2
open PySem PySem.Spec PyProof.Rows

/-! ### a dict comprehension, keys tuples of ints and texts -/
section
variable {X : Cx} {scope : Scope} {own cap : List Str} {ix : List Nat} {tg iter kx vx : Expr} {ifs : List Expr} {wi : TI} {g : TG} {tt : TT} {tk tv : TE} {pos : Pos}

end


section
variable {X : Cx}
end

section
variable {X : Cx}
end
end L2

set_option Elab.async false
set_option linter.all false
set_option maxRecDepth 100000
namespace L2
open PySem PySem.Spec PyProof.Rows KG
section
variable {K : PySem.W.Frag} {tt : TT} {tk tv : TE} {a acc : Addr} {xs : List V} {σ₀ : St} {H₀ : Hp} {Q : VK}
end
end L2

set_option Elab.async false
set_option linter.all false
set_option maxRecDepth 100000
set_option maxHeartbeats 4000000
namespace KM
open PySem L2 KG EX
/-! ### sets in their order -/
/-! ### sums over what some test picks -/
/-! ### sets of a list -/
end KM

set_option Elab.async false
set_option linter.all false
set_option maxRecDepth 100000
set_option maxHeartbeats 4000000
namespace KM
open PySem L2 KG EX
/-! the money above the purses is what the lemma on sets asks -/
end KM

set_option Elab.async false
set_option linter.all false
set_option maxRecDepth 100000
namespace L2
open PySem PySem.Spec PyProof.Rows KG
section
variable {X : Cx}
end
end L2
namespace KM
open PySem L2
end KM

set_option Elab.async false
set_option linter.all false
set_option maxRecDepth 100000
set_option maxHeartbeats 4000000
namespace KM
open PySem L2 KG EX
section
variable {K : PySem.W.Frag} {n : Nat} {tt : TT} {te : TE} {acc a b : Addr} {xs ys : List V} {σ₀ : St} {H₀ : Hp} {Q : VK}
theorem filt_snoc {α : Type} (f : Nat → Bool) (v : Nat → α) (i : Nat) : ((List.range (i + 1)).filter f).map v = ((List.range i).filter f).map v ++ if f i = true then [v i] else [] := by
  rw [filter_succ, List.map_append]
  congr 1
  split <;> simp_all
theorem filt_len {α : Type} (f : Nat → Bool) (v : Nat → α) (i : Nat) : (((List.range i).filter f).map v).length ≤ i := by
  have h := List.length_filter_le f (List.range i)
  rw [List.length_range] at h
  rw [List.length_map]; exact h
/-- a comprehension over range(n) that only reads -/
theorem pr_range (f : Nat → Bool) (v : Nat → V) (hacc : H₀ acc = none) (hn : n ≤ 1000)
    (ht : ∀ (i : Nat) H Z, i < n → Stay H₀ H → (∀ H', Stay H H' → Z (f i) H') → tt (σ₀.set 0 (some (.int i))) H Z)
    (he : ∀ (i : Nat) H (Z : VK), i < n → f i = true → Stay H₀ H → (∀ H', Stay H H' → Z (v i) H') → te (σ₀.set 0 (some (.int i))) H Z)
    (hd : ∀ H, Stay H₀ H → H acc = some (.lst (((List.range n).filter f).map v)) → Q (.ref acc) H) : tCompN (gName 0) tt te (Itr 0 n) acc σ₀ H₀ Q := by
  refine comp_range (fun i ys H' => Stay H₀ H' ∧ ys = ((List.range i).filter f).map v) ⟨(Stay.refl H₀).acc hacc, rfl⟩ ?_ (fun ys H hy ⟨s, e⟩ => hd H s (e ▸ hy))
  rintro i ys H hi hy ⟨s, rfl⟩
  have e0 : (0 + (i : Int)) = (i : Int) := Int.zero_add _
  rw [e0]
  refine ht i H _ hi s fun H' s' => ?_
  cases hf : f i with
  | true =>
    refine iteT (he i H' _ hi hf (s.trans s') fun H2 s2 => ⟨_, (s'.trans s2) _ _ hy, ?_, Cn.of upd_same ⟨((s.trans s').trans s2).acc hacc, ?_⟩⟩)
    · have := filt_len f v i; rw [sz]; omega
    · rw [filt_snoc, hf, if_pos rfl]
  | false => exact iteF (Cn.of (s' _ _ hy) ⟨s.trans s', by rw [filt_snoc, hf, if_neg (by decide), List.append_nil]⟩)
theorem pr_list (f : Nat → Bool) (v : Nat → V) (hacc : H₀ acc = none) (hn : xs.length ≤ 1000) (hl : H₀ a = some (.lst xs))
    (ht : ∀ (i : Nat) x H Z, xs[i]? = some x → Stay H₀ H → (∀ H', Stay H H' → Z (f i) H') → tt (σ₀.set 0 (some x)) H Z)
    (he : ∀ (i : Nat) x H (Z : VK), xs[i]? = some x → f i = true → Stay H₀ H → (∀ H', Stay H H' → Z (v i) H') → te (σ₀.set 0 (some x)) H Z)
    (hd : ∀ H, Stay H₀ H → H acc = some (.lst (((List.range xs.length).filter f).map v)) → Q (.ref acc) H) : tCompN (gName 0) tt te (Itl K a) acc σ₀ H₀ Q := by
  refine comp_list (xs := xs) (fun i ys H' => Stay H₀ H' ∧ ys = ((List.range i).filter f).map v) ⟨(Stay.refl H₀).acc hacc, rfl⟩ (fun i ys H' _ _ z => SqL.of (z.1 _ _ hl)) ?_ (fun ys H hy ⟨s, e⟩ => hd H s (e ▸ hy))
  rintro i x ys H hx hy ⟨s, rfl⟩
  have hi : i < xs.length := (List.getElem?_eq_some_iff.mp hx).1
  refine ht i x H _ hx s fun H' s' => ?_
  cases hf : f i with
  | true =>
    refine iteT (he i x H' _ hx hf (s.trans s') fun H2 s2 => ⟨_, (s'.trans s2) _ _ hy, ?_, Cn.of upd_same ⟨((s.trans s').trans s2).acc hacc, ?_⟩⟩)
    · have := filt_len f v i; rw [sz]; omega
    · rw [filt_snoc, hf, if_pos rfl]
  | false => exact iteF (Cn.of (s' _ _ hy) ⟨s.trans s', by rw [filt_snoc, hf, if_neg (by decide), List.append_nil]⟩)
theorem pr_tup (f : Nat → Bool) (v : Nat → V) (hacc : H₀ acc = none) (hn : xs.length ≤ 1000) (hl : H₀ a = some (.tup xs))
    (ht : ∀ (i : Nat) x H Z, xs[i]? = some x → Stay H₀ H → (∀ H', Stay H H' → Z (f i) H') → tt (σ₀.set 0 (some x)) H Z)
    (he : ∀ (i : Nat) x H (Z : VK), xs[i]? = some x → f i = true → Stay H₀ H → (∀ H', Stay H H' → Z (v i) H') → te (σ₀.set 0 (some x)) H Z)
    (hd : ∀ H, Stay H₀ H → H acc = some (.lst (((List.range xs.length).filter f).map v)) → Q (.ref acc) H) : tCompN (gName 0) tt te (Itt K a) acc σ₀ H₀ Q := by
  refine comp_tup (xs := xs) (fun i ys H' => Stay H₀ H' ∧ ys = ((List.range i).filter f).map v) ⟨(Stay.refl H₀).acc hacc, rfl⟩ (fun i ys H' _ _ z => SqT.of (z.1 _ _ hl)) ?_ (fun ys H hy ⟨s, e⟩ => hd H s (e ▸ hy))
  rintro i x ys H hx hy ⟨s, rfl⟩
  have hi : i < xs.length := (List.getElem?_eq_some_iff.mp hx).1
  refine ht i x H _ hx s fun H' s' => ?_
  cases hf : f i with
  | true =>
    refine iteT (he i x H' _ hx hf (s.trans s') fun H2 s2 => ⟨_, (s'.trans s2) _ _ hy, ?_, Cn.of upd_same ⟨((s.trans s').trans s2).acc hacc, ?_⟩⟩)
    · have := filt_len f v i; rw [sz]; omega
    · rw [filt_snoc, hf, if_pos rfl]
  | false => exact iteF (Cn.of (s' _ _ hy) ⟨s.trans s', by rw [filt_snoc, hf, if_neg (by decide), List.append_nil]⟩)
/-- a comprehension over a list with draws from the bag -/
theorem comp_bagL {H1 : Hp} (hb1 : Bag H1 b) (hacc : H1 acc = none) (hn : xs.length ≤ 100) (ha : H1 a = some (.lst xs)) (nab : a ≠ b) (R : Nat → V → Prop)
    (ht : ∀ (i : Nat) x H', xs[i]? = some x → Bag H' b → Kp b H1 H' → ∀ (Z : V → Hp → Prop), (∀ y H5, Bag H5 b → Kp b H' H5 → R i y → Z y H5) → te (σ₀.set 0 (some x)) H' Z)
    (hd : ∀ ys H', Bag H' b → Kp b H1 H' → ys.length = xs.length → (∀ i y, ys[i]? = some y → R i y) → H' acc = some (.lst ys) → Q (.ref acc) H') : tCompN (gName 0) tYes te (Itl K a) acc σ₀ H1 Q := by
  have nacc := hb1.ne hacc
  refine comp_list (xs := xs) (fun i ys H' => Bag H' b ∧ Kp b H1 H' ∧ ys.length = i ∧ ∀ j y, ys[j]? = some y → R j y) ⟨hb1.new hacc, (Kp.refl b H1).new hacc, rfl, fun j y hy => by simp at hy⟩ (fun i ys H' _ _ z => SqL.of (z.2.1 _ _ nab ha)) ?_ ?_
  · rintro i x ys H' hx hy ⟨hb', kp', hl, hr⟩
    have hi : i < xs.length := (List.getElem?_eq_some_iff.mp hx).1
    refine yes_i ?_
    refine ht i x H' hx hb' kp' _ fun y H5 hb5 kp5 r5 => ?_
    have hy5 := kp5 acc _ nacc.symm hy
    refine ⟨ys, hy5, by rw [hl, sz]; omega, Cn.of upd_same ⟨hb5.acc nacc, (kp'.trans kp5).acc hacc, by rw [List.length_append, hl]; rfl, fun j z hz => ?_⟩⟩
    rcases Nat.lt_or_ge j ys.length with q | q
    · rw [List.getElem?_append_left q] at hz; exact hr j z hz
    · have ej : j = ys.length := by have := (List.getElem?_eq_some_iff.mp hz).1; simp at this; omega
      subst ej
      simp at hz
      subst hz
      rw [hl]; exact r5
  · rintro ys H' hy ⟨hb', kp', hl, hr⟩
    exact hd ys H' hb' kp' hl hr hy
end
theorem idx_all {α : Type} (ls : List α) (d : α) : (List.range ls.length).map (fun i => ls.getD i d) = ls := by
  apply List.ext_getElem?
  intro i
  rw [List.getElem?_map]
  by_cases h : i < ls.length
  · rw [List.getElem?_range h]; simp [List.getD, List.getElem?_eq_getElem h]
  · rw [List.getElem?_eq_none (by simpa using h), List.getElem?_eq_none (by omega)]; rfl
theorem getD_of {α : Type} {ls : List α} {i : Nat} {y d : α} (h : ls[i]? = some y) : ls.getD i d = y := by simp [List.getD, h]
theorem ints_get {ns : List Int} {i : Nat} {x : V} (h : (ns.map V.int)[i]? = some x) : i < ns.length ∧ x = V.int (ns.getD i 0) := by
  rw [List.getElem?_map] at h
  cases e : ns[i]? with
  | none => rw [e] at h; cases h
  | some n =>
    rw [e] at h
    exact ⟨(List.getElem?_eq_some_iff.mp e).1, by rw [getD_of e]; simpa using h.symm⟩
end KM

set_option Elab.async false
set_option linter.all false
set_option maxRecDepth 100000
set_option maxHeartbeats 4000000
namespace KM
open PySem L2 KG EX
/-! ### barters -/
def ent (M : List (List Int)) (i j : Nat) : Int := (M.getD i []).getD j 0
structure BtAt (H : Hp) (p pB pW : Addr) (xB xW : List V) (B W : List (List Int)) (g : Nat) : Prop where
  hp : H p = some (.tup [.ref pB, .ref pW])
  hB : H pB = some (.tup xB)
  hW : H pW = some (.tup xW)
  rB : Rws H xB B
  rW : Rws H xW W
  len : W.length = B.length
  n1 : 1 ≤ B.length
  n6 : B.length ≤ 6
  g1 : 1 ≤ g
  g6 : g ≤ 6
  lB : ∀ r ∈ B, r.length = g
  lW : ∀ r ∈ W, r.length = g
theorem BtAt.stay {H H' : Hp} {p pB pW : Addr} {xB xW : List V} {B W : List (List Int)} {g : Nat} (m : BtAt H p pB pW xB xW B W g) (s : Stay H H') : BtAt H' p pB pW xB xW B W g :=
  ⟨s _ _ m.hp, s _ _ m.hB, s _ _ m.hW, m.rB.keep s.tm, m.rW.keep s.tm, m.len, m.n1, m.n6, m.g1, m.g6, m.lB, m.lW⟩
theorem BtAt.tm {H H' : Hp} {p pB pW : Addr} {xB xW : List V} {B W : List (List Int)} {g : Nat} (m : BtAt H p pB pW xB xW B W g) (s : Tm H H') : BtAt H' p pB pW xB xW B W g :=
  ⟨s _ _ m.hp, s _ _ m.hB, s _ _ m.hW, m.rB.keep s, m.rW.keep s, m.len, m.n1, m.n6, m.g1, m.g6, m.lB, m.lW⟩
/-- a row of a table -/
theorem rws_row {H : Hp} {xs : List V} {M : List (List Int)} {i : Nat} (r : Rws H xs M) (hi : i < M.length) : ∃ a, xs[i]? = some (.ref a) ∧ atI xs i = some (.ref a) ∧ H a = some (.tup ((M.getD i []).map V.int)) := by
  have hx : i < xs.length := by rw [r.len]; exact hi
  obtain ⟨ns, a, h1, h2, h3⟩ := r.at (List.getElem?_eq_getElem hx)
  have e : xs[i]? = some (.ref a) := by rw [List.getElem?_eq_getElem hx, h2]
  exact ⟨a, e, atI_nat e, by rw [getD_of h1]; exact h3⟩
theorem row_len {M : List (List Int)} {g i : Nat} (h : ∀ r ∈ M, r.length = g) (hi : i < M.length) : (M.getD i []).length = g := by
  rw [show M.getD i [] = M[i] by simp [List.getD, List.getElem?_eq_getElem hi]]
  exact h _ (List.getElem_mem hi)
/-! what the document has -/
end KM

set_option Elab.async false
set_option linter.all false
set_option maxRecDepth 100000
set_option maxHeartbeats 4000000
namespace KM
open PySem L2 KG EX
/-! ### tables made of lists -/
def MatA (Hb H : Hp) (pr : Addr) (as : List Addr) (M : List (List Int)) : Prop :=
  H pr = some (.lst (as.map V.ref)) ∧ as.length = M.length ∧ as.Nodup ∧ pr ∉ as ∧ Hb pr = none ∧ (∀ a ∈ as, Hb a = none) ∧ ∀ (i : Nat) a, as[i]? = some a → H a = some (.lst ((M.getD i []).map V.int))
def Mat (Hb H : Hp) (pr : Addr) (M : List (List Int)) : Prop := ∃ as, MatA Hb H pr as M
theorem Mat.keep {Hb H H' : Hp} {pr : Addr} {M : List (List Int)} (m : Mat Hb H pr M) (k : ∀ a o, Hb a = none → H a = some o → H' a = some o) : Mat Hb H' pr M := by
  obtain ⟨as, h1, h2, h3, h4, h5, h6, h7⟩ := m
  exact ⟨as, k _ _ h5 h1, h2, h3, h4, h5, h6, fun i a e => k _ _ (h6 a (List.mem_of_getElem? e)) (h7 i a e)⟩
theorem Mat.kp {b : Addr} {Hb H H' : Hp} {pr : Addr} {M : List (List Int)} (m : Mat Hb H pr M) (hb : Bag Hb b) (k : Kp b H H') : Mat Hb H' pr M :=
  m.keep fun a o hn e => k a o (hb.ne hn).symm e
theorem Mat.stay {Hb H H' : Hp} {pr : Addr} {M : List (List Int)} (m : Mat Hb H pr M) (s : Stay H H') : Mat Hb H' pr M := m.keep fun a o _ e => s a o e
theorem Mat.free {Hb H : Hp} {pr : Addr} {M : List (List Int)} (m : Mat Hb H pr M) : Hb pr = none := by obtain ⟨as, _, _, _, _, h5, _⟩ := m; exact h5
theorem Mat.nil {Hb H : Hp} {pr : Addr} (h : H pr = some (.lst [])) (hf : Hb pr = none) : Mat Hb H pr [] := ⟨[], h, rfl, List.nodup_nil, fun z => (by cases z), hf, fun a z => (by cases z), fun i a z => by simp at z⟩
/-- a row more -/
theorem Mat.push {Hb H0 H : Hp} {pr c : Addr} {M : List (List Int)} {r : List Int} (m : Mat Hb H0 pr M) (hc : H0 c = none) (hb : Hb c = none) (k : ∀ a o, Hb a = none → H0 a = some o → H a = some o) (hr : H c = some (.lst (r.map V.int))) :
    ∃ xs, H pr = some (.lst xs) ∧ xs.length = M.length ∧ Mat Hb (upd H pr (.lst (xs ++ [.ref c]))) pr (M ++ [r]) := by
  obtain ⟨as, h1, h2, h3, h4, h5, h6, h7⟩ := m
  have ncp : c ≠ pr := fun z => by rw [z, h1] at hc; cases hc
  have nca : c ∉ as := fun z => by
    obtain ⟨i, hi, e⟩ := List.getElem_of_mem z
    have := h7 i c (by rw [List.getElem?_eq_getElem hi, e])
    rw [hc] at this; cases this
  refine ⟨as.map V.ref, k _ _ h5 h1, by rw [List.length_map, h2], as ++ [c], ?_, ?_, ?_, ?_, h5, ?_, ?_⟩
  · rw [upd_same]; simp
  · rw [List.length_append, List.length_append, h2]; rfl
  · rw [List.nodup_append]
    exact ⟨h3, by simp, fun a ha b hb' e => by rw [List.mem_singleton] at hb'; rw [e, hb'] at ha; exact nca ha⟩
  · intro z
    rcases List.mem_append.mp z with y | y
    · exact h4 y
    · exact ncp (List.mem_singleton.mp y).symm
  · intro a ha
    rcases List.mem_append.mp ha with y | y
    · exact h6 a y
    · rw [List.mem_singleton.mp y]; exact hb
  · intro i a e
    have nap : a ≠ pr := fun z => by
      rcases List.mem_append.mp (List.mem_of_getElem? e) with y | y
      · rw [z] at y; exact h4 y
      · exact ncp (by rw [← z]; exact (List.mem_singleton.mp y).symm)
    rw [upd_ne nap]
    rcases Nat.lt_or_ge i as.length with z | z
    · rw [List.getElem?_append_left z] at e
      have : (M ++ [r]).getD i [] = M.getD i [] := by simp [List.getD, List.getElem?_append_left (show i < M.length by omega)]
      rw [this]
      exact k _ _ (h6 a (List.mem_of_getElem? e)) (h7 i a e)
    · have ei : i = as.length := by have := (List.getElem?_eq_some_iff.mp e).1; simp at this; omega
      subst ei
      have ea : a = c := by simpa using e.symm
      subst ea
      have : (M ++ [r]).getD as.length [] = r := by rw [h2]; simp [List.getD]
      rw [this]; exact hr
/-- a row at hand, and what is put in its place -/
theorem Mat.row {Hb H : Hp} {pr : Addr} {M : List (List Int)} {i : Nat} (m : Mat Hb H pr M) (hi : i < M.length) : ∃ xs a, H pr = some (.lst xs) ∧ xs.length = M.length ∧ atI xs i = some (.ref a) ∧ xs[i]? = some (.ref a) ∧ H a = some (.lst ((M.getD i []).map V.int)) ∧ Hb a = none ∧
    ∀ r : List Int, Mat Hb (upd H a (.lst (r.map V.int))) pr (M.set i r) := by
  obtain ⟨as, h1, h2, h3, h4, h5, h6, h7⟩ := m
  have hi' : i < as.length := by omega
  have ea : as[i]? = some as[i] := List.getElem?_eq_getElem hi'
  have er : (as.map V.ref)[i]? = some (.ref as[i]) := by rw [List.getElem?_map, ea]; rfl
  have hm := List.mem_of_getElem? ea
  have nap : pr ≠ as[i] := fun z => h4 (by rw [z]; exact hm)
  refine ⟨as.map V.ref, as[i], h1, by rw [List.length_map, h2], atI_nat er, er, h7 i _ ea, h6 _ hm, fun r => ⟨as, ?_, by rw [List.length_set]; exact h2, h3, h4, h5, h6, fun j a e => ?_⟩⟩
  · rw [upd_ne nap]; exact h1
  · by_cases hj : j = i
    · subst hj
      have : a = as[j] := by rw [ea] at e; simpa using e.symm
      subst this
      rw [upd_same]
      have : (M.set j r).getD j [] = r := by simp [List.getD, hi]
      rw [this]
    · have hja : a ≠ as[i] := fun z => by
        have hjl := (List.getElem?_eq_some_iff.mp e).1
        have ej : as[j] = as[i] := by rw [List.getElem?_eq_getElem hjl] at e; rw [← z]; simpa using e
        exact hj ((List.getElem_inj h3).mp ej)
      rw [upd_ne hja]
      have : (M.set i r).getD j [] = M.getD j [] := by simp [List.getD, List.getElem?_set_ne (Ne.symm hj)]
      rw [this]
      exact h7 j a e
/-- its rows in their order -/
theorem Mat.list {Hb H : Hp} {pr : Addr} {M : List (List Int)} (m : Mat Hb H pr M) : ∃ xs, H pr = some (.lst xs) ∧ xs.length = M.length ∧ ∀ (i : Nat) x, xs[i]? = some x → ∃ a, x = .ref a ∧ Hb a = none ∧ H a = some (.lst ((M.getD i []).map V.int)) := by
  obtain ⟨as, h1, h2, h3, h4, h5, h6, h7⟩ := m
  refine ⟨as.map V.ref, h1, by rw [List.length_map, h2], fun i x e => ?_⟩
  rw [List.getElem?_map] at e
  cases ea : as[i]? with
  | none => rw [ea] at e; cases e
  | some a =>
    rw [ea] at e
    exact ⟨a, by simpa using e.symm, h6 a (List.mem_of_getElem? ea), h7 i a ea⟩
/-! numbers of a table -/
def put2 (M : List (List Int)) (i j : Nat) (x : Int) : List (List Int) := M.set i ((M.getD i []).set j x)
theorem ent_put2 {M : List (List Int)} {i j : Nat} {x : Int} (hi : i < M.length) (hj : j < (M.getD i []).length) (i' j' : Nat) : ent (put2 M i j x) i' j' = if i' = i ∧ j' = j then x else ent M i' j' := by
  unfold ent put2
  by_cases h : i' = i
  · subst h
    have e : (M.set i' ((M.getD i' []).set j x)).getD i' [] = (M.getD i' []).set j x := by simp [List.getD, hi]
    rw [e]
    generalize M.getD i' [] = R at hj ⊢
    by_cases h2 : j' = j
    · subst h2
      rw [if_pos ⟨rfl, rfl⟩]
      simp [List.getD, hj]
    · rw [if_neg (fun z => h2 z.2)]
      simp [List.getD, List.getElem?_set_ne (Ne.symm h2)]
  · rw [if_neg (fun z => h z.1)]
    have e : (M.set i ((M.getD i []).set j x)).getD i' [] = M.getD i' [] := by simp [List.getD, List.getElem?_set_ne (Ne.symm h)]
    rw [e]
structure MOk (n g : Nat) (hi : Int) (M : List (List Int)) : Prop where
  len : M.length = n
  row : ∀ i, i < n → (M.getD i []).length = g
  bd : ∀ i j, i < n → j < g → 0 ≤ ent M i j ∧ ent M i j ≤ hi
theorem put2_rowlen {M : List (List Int)} {i j : Nat} {x : Int} (i' : Nat) : ((put2 M i j x).getD i' []).length = (M.getD i' []).length := by
  unfold put2
  by_cases h : i' = i
  · subst h
    by_cases hl : i' < M.length
    · have e : (M.set i' ((M.getD i' []).set j x)).getD i' [] = (M.getD i' []).set j x := by simp [List.getD, hl]
      rw [e, List.length_set]
    · have e : M.set i' ((M.getD i' []).set j x) = M := List.set_eq_of_length_le (by omega)
      rw [e]
  · have e : (M.set i ((M.getD i []).set j x)).getD i' [] = M.getD i' [] := by simp [List.getD, List.getElem?_set_ne (Ne.symm h)]
    rw [e]
theorem MOk.put {n g : Nat} {hi : Int} {M : List (List Int)} (m : MOk n g hi M) {i j : Nat} {x : Int} (h1 : i < n) (h2 : j < g) (h3 : 0 ≤ x) (h4 : x ≤ hi) : MOk n g hi (put2 M i j x) := by
  have hl := m.row i h1
  refine ⟨by unfold put2; rw [List.length_set]; exact m.len, fun i' hi' => by rw [put2_rowlen]; exact m.row i' hi', fun i' j' hi' hj' => ?_⟩
  rw [ent_put2 (by rw [m.len]; exact h1) (by rw [hl]; exact h2)]
  split
  · exact ⟨h3, h4⟩
  · exact m.bd i' j' hi' hj'
def RowP (M : List (List Int)) (g i : Nat) : Prop := ∃ j, j < g ∧ 1 ≤ ent M i j
def ColP (M : List (List Int)) (n j : Nat) : Prop := ∃ i, i < n ∧ 1 ≤ ent M i j
theorem RowP.put {n g : Nat} {hi : Int} {M : List (List Int)} (m : MOk n g hi M) {i j i' : Nat} {x : Int} (h1 : i < n) (h2 : j < g) (hx : 1 ≤ x) (h : i' = i ∨ RowP M g i') : RowP (put2 M i j x) g i' := by
  have e := ent_put2 (x := x) (M := M) (i := i) (j := j) (by rw [m.len]; exact h1) (by rw [m.row i h1]; exact h2)
  by_cases z : i' = i
  · exact ⟨j, h2, by rw [e, if_pos ⟨z, rfl⟩]; exact hx⟩
  · obtain ⟨j', hj', hp⟩ := h.resolve_left z
    exact ⟨j', hj', by rw [e, if_neg (fun y => z y.1)]; exact hp⟩
theorem ColP.put {n g : Nat} {hi : Int} {M : List (List Int)} (m : MOk n g hi M) {i j j' : Nat} {x : Int} (h1 : i < n) (h2 : j < g) (hx : 1 ≤ x) (h : j' = j ∨ ColP M n j') : ColP (put2 M i j x) n j' := by
  have e := ent_put2 (x := x) (M := M) (i := i) (j := j) (by rw [m.len]; exact h1) (by rw [m.row i h1]; exact h2)
  by_cases z : j' = j
  · exact ⟨i, h1, by rw [e, if_pos ⟨rfl, z⟩]; exact hx⟩
  · obtain ⟨i', hi', hp⟩ := h.resolve_left z
    exact ⟨i', hi', by rw [e, if_neg (fun y => z y.2)]; exact hp⟩
theorem sum_pos : ∀ {ns : List Int}, (∀ x ∈ ns, 0 ≤ x) → 0 ≤ ns.sum ∧ (ns.sum ≠ 0 → ∃ x ∈ ns, 1 ≤ x)
  | [], _ => ⟨by simp, fun h => absurd rfl h⟩
  | n :: ns, h => by
    obtain ⟨h1, h2⟩ := sum_pos (ns := ns) fun x hx => h x (List.mem_cons_of_mem _ hx)
    have h0 := h n List.mem_cons_self
    rw [List.sum_cons]
    refine ⟨by omega, fun hne => ?_⟩
    by_cases hn : 1 ≤ n
    · exact ⟨n, List.mem_cons_self, hn⟩
    · obtain ⟨x, hx, hp⟩ := h2 (by omega)
      exact ⟨x, List.mem_cons_of_mem _ hx, hp⟩
structure BtOk (B W : List (List Int)) (n g : Nat) : Prop where
  okB : MOk n g 10 B
  okW : MOk n g 100 W
  rpB : ∀ i, i < n → RowP B g i
  rpW : ∀ i, i < n → RowP W g i
  cpB : ∀ j, j < g → ColP B n j
  cpW : ∀ j, j < g → ColP W n j
def spBt : Sp := fun vs H Q _ => ∃ (b : Addr), vs = [.ref b] ∧ Bag H b ∧ ∀ (p pB pW : Addr) (xB xW : List V) (B W : List (List Int)) (g : Nat) (H' : Hp), Bag H' b → Kp b H H' → BtAt H' p pB pW xB xW B W g → BtOk B W B.length g → Q (.ref p) H'
/-! contracts of the program -/
/-! contracts of the law -/
end KM

set_option Elab.async false
set_option linter.all false
set_option maxRecDepth 100000
set_option maxHeartbeats 4000000
namespace KM
open PySem L2 KG EX
theorem menuF {r far : Int} (h0 : 0 ≤ r) (h1 : r < 2) (hf : 2 ≤ far) : ∃ m : Int, atI [V.int 2, V.int far] r = some (.int m) ∧ 2 ≤ m ∧ m ≤ far := by
  have : r = 0 ∨ r = 1 := by omega
  rcases this with rfl | rfl
  · exact ⟨2, rfl, by decide, hf⟩
  · exact ⟨far, rfl, hf, Int.le_refl _⟩
theorem ints_of {R : Int → Prop} : ∀ {ys : List V}, (∀ y ∈ ys, ∃ x : Int, y = .int x ∧ R x) → ∃ ns : List Int, ys = ns.map V.int ∧ ∀ n ∈ ns, R n
  | [], _ => ⟨[], rfl, fun n h => nomatch h⟩
  | y :: ys, h => by
    obtain ⟨ns, rfl, h1⟩ := ints_of (ys := ys) fun z hz => h z (List.mem_cons_of_mem _ hz)
    obtain ⟨x, rfl, hx⟩ := h y List.mem_cons_self
    refine ⟨x :: ns, rfl, fun n hn => ?_⟩
    rcases List.mem_cons.mp hn with rfl | hn
    · exact hx
    · exact h1 n hn
theorem Rws.app {H : Hp} : ∀ {xs ys : List V} {M N : List (List Int)}, Rws H xs M → Rws H ys N → Rws H (xs ++ ys) (M ++ N)
  | _, _, _, _, .nil, s => s
  | _, _, _, _, .cons h t, s => .cons h (Rws.app t s)
/-- [tuple(one) for one in row] -/
theorem comp_tups {K : PySem.W.Frag} {te : TE} {acc a : Addr} {σ₀ : St} {H₀ : Hp} {Q : VK} {xs : List V} {M : List (List Int)} (hacc : H₀ acc = none) (ha : H₀ a = some (.lst xs)) (hl : xs.length = M.length) (hm : M.length ≤ 1000) (hx : ∀ (i : Nat) x, xs[i]? = some x → ∃ c, x = .ref c ∧ H₀ c = some (.lst ((M.getD i []).map V.int)))
    (ht : ∀ c (ns : List Int) H Z, H c = some (.lst (ns.map V.int)) → (∀ l, H l = none → Z (.ref l) (upd H l (.tup (ns.map V.int)))) → te (σ₀.set 0 (some (.ref c))) H Z)
    (hd : ∀ ys H, Stay H₀ H → Rws H ys M → H acc = some (.lst ys) → Q (.ref acc) H) : tCompN (gName 0) tYes te (Itl K a) acc σ₀ H₀ Q := by
  refine comp_list (xs := xs) (fun i ys H' => Stay H₀ H' ∧ Rws H' ys (M.take i)) ⟨(Stay.refl H₀).acc hacc, .nil⟩ (fun i ys H' _ _ z => SqL.of (z.1 _ _ ha)) ?_ ?_
  · rintro i x ys H hxi hy ⟨s, r⟩
    obtain ⟨c, rfl, hc⟩ := hx i x hxi
    have hi : i < M.length := by rw [← hl]; exact (List.getElem?_eq_some_iff.mp hxi).1
    refine yes_i (ht c (M.getD i []) H _ (s _ _ hc) fun l hl' => ?_)
    have nla : l ≠ acc := fun z => by rw [z, hy] at hl'; cases hl'
    have s1 := (Stay.refl H).new (o := .tup ((M.getD i []).map V.int)) hl'
    have hlen := r.len
    rw [List.length_take] at hlen
    refine ⟨ys, s1 _ _ hy, by rw [sz]; omega, Cn.of upd_same ⟨(s.trans s1).acc hacc, ?_⟩⟩
    have tm : Tm (upd H l (.tup ((M.getD i []).map V.int))) (upd (upd H l (.tup ((M.getD i []).map V.int))) acc (.lst (ys ++ [.ref l]))) := Tm.lst (s1 _ _ hy)
    rw [List.take_add_one, show M[i]? = some (M.getD i []) by simp [List.getD, List.getElem?_eq_getElem hi]]
    exact Rws.app ((r.keep s1.tm).keep tm) (.cons ⟨l, rfl, tm _ _ upd_same⟩ .nil)
  · rintro ys H hy ⟨s, r⟩
    rw [hl, List.take_length] at r
    exact hd ys H s r hy
end KM

set_option Elab.async false
set_option linter.all false
set_option maxRecDepth 100000
set_option maxHeartbeats 4000000
namespace KM
open PySem L2 KG EX
section
variable {K : PySem.W.Frag} {tt : TT} {te : TE} {acc a : Addr} {s : List Int} {σ₀ : St} {H₀ : Hp} {Q : VK}
theorem mem_getD {i : Nat} (hi : i < s.length) : s.getD i 0 ∈ s := by rw [getD_of (List.getElem?_eq_getElem hi)]; exact List.getElem_mem hi
end
theorem all_bl {α : Type} (s : List α) (F : α → Bool) : (s.map fun x => V.bl (F x)).all tv = s.all F := by rw [List.all_map]; rfl
theorem plain_bl {α : Type} (s : List α) (F : α → Bool) : (s.map fun x => V.bl (F x)).all plainB = true := by rw [List.all_map]; simp [Function.comp_def, plainB]
end KM

set_option Elab.async false
set_option linter.all false
set_option maxRecDepth 100000
set_option maxHeartbeats 4000000
namespace KM
open PySem L2 KG EX
theorem neNil {H : Hp} {a q : Addr} {ns : List Int} {Q : VK} (h1 : H a = some (.lst (ns.map V.int))) (h2 : H q = some (.lst [])) (hQ : Q (.bl (!ns.isEmpty)) H) : rNeD K0 (.ref a) (.ref q) H Q := by
  refine ⟨.list (ns.map PyData.int), .list [], .lst (SqL.of h1) (dtInts ns), .lst (SqL.of h2) .nil, by simp [PyData.depth, PyData.depthAll, depInts], ?_⟩
  rw [eqv_nil, List.isEmpty_map]
  exact hQ
theorem filt_isEmpty {α : Type} (f : α → Bool) (s : List α) : (s.filter f).isEmpty = !s.any f := by
  induction s with
  | nil => rfl
  | cons x s ih =>
    rw [List.filter_cons, List.any_cons]
    cases f x with
    | true => rfl
    | false => simpa using ih
end KM

set_option Elab.async false
set_option linter.all false
set_option maxRecDepth 100000
set_option maxHeartbeats 4000000
namespace KM
open PySem L2 KG EX
noncomputable def dec (p : Prop) : Bool := @decide p (Classical.propDecidable p)
theorem dec_t {p : Prop} (h : p) : dec p = true := @decide_eq_true p (Classical.propDecidable p) h
theorem dec_f {p : Prop} (h : ¬ p) : dec p = false := @decide_eq_false p (Classical.propDecidable p) h
theorem dec_iff {p : Prop} : dec p = true ↔ p := ⟨fun h => @of_decide_eq_true p (Classical.propDecidable p) h, dec_t⟩
theorem dec_cases (p : Prop) : (dec p = true ∧ p) ∨ (dec p = false ∧ ¬ p) := by
  rcases Classical.em p with h | h
  · exact .inl ⟨dec_t h, h⟩
  · exact .inr ⟨dec_f h, h⟩
theorem int_inj : ∀ {r t : List Int}, r.map PyData.int = t.map PyData.int → r = t
  | [], [], _ => rfl
  | [], _ :: _, h => by simp at h
  | _ :: _, [], h => by simp at h
  | x :: r, y :: t, h => by
    rw [List.map_cons, List.map_cons] at h
    injection h with h1 h2
    injection h1 with h1
    rw [h1, int_inj h2]
theorem rowD_inj {r t : List Int} (h : rowD r = rowD t) : r = t := by
  unfold rowD at h
  injection h with h
  exact int_inj h
def tbl (M : List (List Int)) : PyData := .tuple (M.map rowD)
theorem rows_inj : ∀ {M N : List (List Int)}, M.map rowD = N.map rowD → M = N
  | [], [], _ => rfl
  | [], _ :: _, h => by simp at h
  | _ :: _, [], h => by simp at h
  | x :: r, y :: t, h => by
    rw [List.map_cons, List.map_cons] at h
    injection h with h1 h2
    rw [rowD_inj h1, rows_inj h2]
theorem tbl_inj {M N : List (List Int)} (h : tbl M = tbl N) : M = N := by
  unfold tbl at h
  injection h with h
  exact rows_inj h
def Bds (most : Int) (r : List Int) : Prop := ∀ x ∈ r, 0 ≤ x ∧ x ≤ most
def rowP (most : Int) (d : PyData) : Prop := ∃ r : List Int, d = rowD r ∧ 1 ≤ r.length ∧ r.length ≤ 6 ∧ Bds most r
def tabP (most : Int) (d : PyData) : Prop := ∃ (M : List (List Int)) (g : Nat), d = tbl M ∧ 1 ≤ M.length ∧ M.length ≤ 6 ∧ 1 ≤ g ∧ g ≤ 6 ∧ ∀ r ∈ M, r.length = g ∧ Bds most r
def noOut (M : List (List Int)) (g : Nat) : Bool := (M.all fun r => r.any fun x => x != 0) && (List.range g).all fun j => M.any fun r => r.getD j 0 != 0
def btP (d : PyData) : Prop := ∃ (B W : List (List Int)) (g : Nat), d = .tuple [tbl B, tbl W] ∧ W.length = B.length ∧ 1 ≤ B.length ∧ B.length ≤ 6 ∧ 1 ≤ g ∧ g ≤ 6 ∧ (∀ r ∈ B, r.length = g ∧ Bds 10 r) ∧ (∀ r ∈ W, r.length = g ∧ Bds 100 r) ∧ noOut B g = true ∧ noOut W g = true
/-! shapes -/
theorem within_ints : ∀ {ds : List PyData} {lo hi : Int}, ds.all (within lo hi) = true → ∃ r : List Int, ds = r.map PyData.int ∧ ∀ x ∈ r, lo ≤ x ∧ x ≤ hi
  | [], _, _, _ => ⟨[], rfl, fun x h => nomatch h⟩
  | d :: ds, lo, hi, h => by
    rw [List.all_cons, Bool.and_eq_true] at h
    obtain ⟨r, rfl, hr⟩ := within_ints h.2
    cases d with
    | int i =>
      have h1 : (decide (lo ≤ i) && decide (i ≤ hi)) = true := h.1
      simp only [Bool.and_eq_true, decide_eq_true_eq] at h1
      refine ⟨i :: r, rfl, fun x hx => ?_⟩
      rcases List.mem_cons.mp hx with rfl | hx
      · exact h1
      · exact hr x hx
    | _ => cases h.1
theorem ints_within {r : List Int} {lo hi : Int} (h : ∀ x ∈ r, lo ≤ x ∧ x ≤ hi) : (r.map PyData.int).all (within lo hi) = true := all_within h
theorem rowP_iff {ds : List PyData} {most : Int} (h1 : 1 ≤ ds.length) (h2 : ds.length ≤ 6) : dec (rowP most (.tuple ds)) = ds.all (within 0 most) := by
  cases h : ds.all (within 0 most) with
  | true =>
    obtain ⟨r, rfl, hr⟩ := within_ints h
    rw [List.length_map] at h1 h2
    exact dec_t ⟨r, rfl, h1, h2, hr⟩
  | false =>
    refine dec_f fun ⟨r, e, _, _, hr⟩ => ?_
    unfold rowD at e
    injection e with e
    rw [e, ints_within hr] at h; cases h
theorem rows_all : ∀ {ds : List PyData} {most : Int}, (ds.all fun d => dec (rowP most d)) = true → ∃ M : List (List Int), ds = M.map rowD ∧ ∀ r ∈ M, 1 ≤ r.length ∧ r.length ≤ 6 ∧ Bds most r
  | [], _, _ => ⟨[], rfl, fun x h => nomatch h⟩
  | d :: ds, most, h => by
    rw [List.all_cons, Bool.and_eq_true] at h
    obtain ⟨M, rfl, hM⟩ := rows_all h.2
    obtain ⟨r, rfl, h1, h2, h3⟩ := dec_iff.mp h.1
    refine ⟨r :: M, rfl, fun x hx => ?_⟩
    rcases List.mem_cons.mp hx with rfl | hx
    · exact ⟨h1, h2, h3⟩
    · exact hM x hx
theorem tr_ints {b : Addr} {H : Hp} : ∀ {xs : List V} {r : List Int}, TrVs b H xs (r.map PyData.int) → xs = r.map V.int
  | [], [], _ => rfl
  | _, _ :: _, .cons h t => by cases h; rw [tr_ints t]; rfl
theorem tr_rws {b : Addr} {H : Hp} : ∀ {xs : List V} {M : List (List Int)}, TrVs b H xs (M.map rowD) → Rws H xs M
  | [], [], _ => .nil
  | _, _ :: _, .cons (x := x) h t => by
    unfold rowD at h
    cases h with
    | tup ha hs => rw [tr_ints hs] at ha; exact .cons ⟨_, rfl, ha⟩ (tr_rws t)
theorem mem_at {M : List (List Int)} {i : Nat} (h : i < M.length) : M.getD i [] ∈ M := by rw [getD_of (List.getElem?_eq_getElem h)]; exact List.getElem_mem h
/-- the second test of a table -/
theorem tab_iff {M : List (List Int)} {most : Int} (h1 : 1 ≤ M.length) (h6 : M.length ≤ 6) (h : ∀ r ∈ M, 1 ≤ r.length ∧ r.length ≤ 6 ∧ Bds most r) : dec (tabP most (tbl M)) = (List.range M.length).all fun i => decide ((M.getD i []).length = (M.getD 0 []).length) := by
  have h0 := h _ (mem_at (i := 0) h1)
  cases e : (List.range M.length).all fun i => decide ((M.getD i []).length = (M.getD 0 []).length) with
  | true =>
    refine dec_t ⟨M, (M.getD 0 []).length, rfl, h1, h6, h0.1, h0.2.1, fun r hr => ⟨?_, (h r hr).2.2⟩⟩
    obtain ⟨i, hi, er⟩ := List.getElem_of_mem hr
    have := List.all_eq_true.mp e i (List.mem_range.mpr hi)
    rw [getD_of (List.getElem?_eq_getElem hi), er] at this
    exact of_decide_eq_true this
  | false =>
    refine dec_f fun ⟨N, g, eN, _, _, _, _, hN⟩ => ?_
    obtain rfl := tbl_inj eN
    obtain ⟨i, hi, hne⟩ := List.all_eq_false.mp e
    have hi' := List.mem_range.mp hi
    exact hne (decide_eq_true ((hN _ (mem_at hi')).1.trans (hN _ (mem_at h1)).1.symm))
theorem tab_tab {most : Int} {d : PyData} (h : tabP most d) : isT d = true := by obtain ⟨M, _, rfl, _⟩ := h; rfl
theorem btP_pair {d : PyData} (h : btP d) : ∃ x y, d = .tuple [x, y] ∧ tabP 10 x ∧ tabP 100 y := by
  obtain ⟨B, W, g, rfl, hl, h1, h6, g1, g6, hB, hW, _, _⟩ := h
  exact ⟨_, _, rfl, ⟨B, g, rfl, h1, h6, g1, g6, hB⟩, ⟨W, g, rfl, by omega, by omega, g1, g6, hW⟩⟩
/-- of two tables -/
theorem bt_iff {B W : List (List Int)} {g g' : Nat} (hB1 : 1 ≤ B.length) (hB6 : B.length ≤ 6) (hW1 : 1 ≤ W.length) (g1 : 1 ≤ g) (g6 : g ≤ 6) (hB : ∀ r ∈ B, r.length = g ∧ Bds 10 r) (hW : ∀ r ∈ W, r.length = g' ∧ Bds 100 r) :
    dec (btP (.tuple [tbl B, tbl W])) = (decide (W.length = B.length) && decide (g' = g) && noOut B g && noOut W g) := by
  cases e : (decide (W.length = B.length) && decide (g' = g) && noOut B g && noOut W g) with
  | true =>
    simp only [Bool.and_eq_true, decide_eq_true_eq] at e
    obtain ⟨⟨⟨e1, e2⟩, e3⟩, e4⟩ := e
    subst e2
    exact dec_t ⟨B, W, g', rfl, e1, hB1, hB6, g1, g6, hB, hW, e3, e4⟩
  | false =>
    refine dec_f fun ⟨B', W', h, eq, hl, _, _, _, _, hB', hW', hn1, hn2⟩ => ?_
    injection eq with eq
    injection eq with e1 e2
    injection e2 with e2 _
    obtain rfl := tbl_inj e1
    obtain rfl := tbl_inj e2
    have a1 := (hB _ (mem_at hB1)).1
    have a2 := (hB' _ (mem_at hB1)).1
    have a3 := (hW _ (mem_at hW1)).1
    have a4 := (hW' _ (mem_at hW1)).1
    have eg : h = g := by omega
    have eg' : g' = g := by omega
    subst eg
    rw [decide_eq_true hl, decide_eq_true eg', hn1, hn2] at e
    cases e
/-! contracts -/
def spRowM : Sp := fun vs H Q _ => ∃ (b : Addr) (v : V) (d : PyData) (most : Int), vs = [v, .int most] ∧ TrV b H v d ∧ ∀ H', Stay H H' → Q (.bl (dec (rowP most d))) H'
def spTab : Sp := fun vs H Q _ => ∃ (b : Addr) (v : V) (d : PyData) (most : Int), vs = [v, .int most] ∧ TrV b H v d ∧ ∀ H', Stay H H' → Q (.bl (dec (tabP most d))) H'
def spNoOut : Sp := fun vs H Q _ => ∃ (a : Addr) (xs : List V) (M : List (List Int)) (g : Nat), vs = [.ref a] ∧ H a = some (.tup xs) ∧ Rws H xs M ∧ 1 ≤ M.length ∧ M.length ≤ 6 ∧ g ≤ 6 ∧ (∀ r ∈ M, r.length = g) ∧ ∀ H', Stay H H' → Q (.bl (noOut M g)) H'
def colsL (M : List (List Int)) (g : Nat) : List (List Int) := (List.range g).map fun j => M.map fun r => r.getD j 0
def spCols : Sp := fun vs H Q _ => ∃ (a : Addr) (xs : List V) (M : List (List Int)) (g : Nat), vs = [.ref a] ∧ H a = some (.tup xs) ∧ Rws H xs M ∧ 1 ≤ M.length ∧ M.length ≤ 6 ∧ g ≤ 6 ∧ (∀ r ∈ M, r.length = g) ∧ ∀ (r : Addr) (ys : List V) (H' : Hp), Stay H H' → H' r = some (.lst ys) → LsR H' ys (colsL M g) → Q (.ref r) H'
noncomputable def btB (d : PyData) : Bool := dec (btP d)
theorem plain_ints (ns : List Int) : (ns.map V.int).all plainB = true := by rw [List.all_map]; simp [Function.comp_def, plainB]
theorem any_ints (ns : List Int) : (ns.map V.int).any tv = ns.any fun x => x != 0 := by rw [List.any_map]; rfl
theorem rws_at {H : Hp} {xs : List V} {M : List (List Int)} {i : Nat} {x : V} (r : Rws H xs M) (h : xs[i]? = some x) : i < M.length ∧ ∃ a, x = .ref a ∧ H a = some (.tup ((M.getD i []).map V.int)) := by
  have hi : i < M.length := by rw [← r.len]; exact (List.getElem?_eq_some_iff.mp h).1
  obtain ⟨a, e, _, ha⟩ := rws_row r hi
  rw [h] at e
  exact ⟨hi, a, by simpa using e, ha⟩
end KM

set_option Elab.async false
set_option linter.all false
set_option maxRecDepth 100000
set_option maxHeartbeats 4000000
namespace KM
open PySem L2 KG EX
def lrowP (g : Nat) (most : Int) (d : PyData) : Prop := ∃ r : List Int, d = rowD r ∧ r.length = g ∧ Bds most r ∧ 0 < r.sum
def okR (g : Nat) (most : Int) (d : PyData) : Prop := ∃ M : List (List Int), d = tbl M ∧ (∀ r ∈ M, r.length = g ∧ Bds most r ∧ 0 < r.sum) ∧ ∀ j, j < g → (M.map fun r => r.getD j 0).sum ≠ 0
theorem sum_any {r : List Int} (h : ∀ x ∈ r, 0 ≤ x) : 0 < r.sum ↔ (r.any fun x => x != 0) = true := by
  obtain ⟨h1, h2⟩ := sum_pos h
  constructor
  · intro hp
    obtain ⟨x, hx, hx1⟩ := h2 (by omega)
    exact List.any_eq_true.mpr ⟨x, hx, by simp; omega⟩
  · intro ha
    obtain ⟨x, hx, hne⟩ := List.any_eq_true.mp ha
    have hx0 := h x hx
    have hx1 : x ≠ 0 := by simpa using hne
    have hle : ∀ {s : List Int}, (∀ y ∈ s, 0 ≤ y) → x ∈ s → x ≤ s.sum := by
      intro s
      induction s with
      | nil => intro _ z; cases z
      | cons y s ih =>
        intro hs hm
        rw [List.sum_cons]
        have hy := hs y List.mem_cons_self
        have hss := (sum_pos (ns := s) fun z hz => hs z (List.mem_cons_of_mem _ hz)).1
        rcases List.mem_cons.mp hm with rfl | hm
        · omega
        · have := ih (fun z hz => hs z (List.mem_cons_of_mem _ hz)) hm
          omega
    have := hle h hx
    omega
theorem getD_bds {most : Int} {r : List Int} (h : Bds most r) (j : Nat) : 0 ≤ r.getD j 0 := by
  by_cases hj : j < r.length
  · exact (h _ (mem_getD hj)).1
  · simp [List.getD, List.getElem?_eq_none (Nat.le_of_not_lt hj)]
theorem okR_iff {M : List (List Int)} {g : Nat} {most : Int} (h : ∀ r ∈ M, r.length = g ∧ Bds most r) : noOut M g = true ↔ okR g most (tbl M) := by
  have hcol : ∀ j, (M.map fun r => r.getD j 0).sum ≠ 0 ↔ (M.any fun r => r.getD j 0 != 0) = true := fun j => by
    have hnn : ∀ x ∈ M.map (fun r => r.getD j 0), 0 ≤ x := fun x hx => by
      obtain ⟨r, hr, rfl⟩ := List.mem_map.mp hx
      exact getD_bds (h r hr).2 j
    have h1 := sum_any hnn
    have h2 := (sum_pos hnn).1
    rw [List.any_map] at h1
    constructor
    · intro hne; exact h1.mp (by omega)
    · intro ha; have := h1.mpr ha; omega
  unfold noOut
  rw [Bool.and_eq_true, List.all_eq_true, List.all_eq_true]
  constructor
  · rintro ⟨a, c⟩
    refine ⟨M, rfl, fun r hr => ⟨(h r hr).1, (h r hr).2, (sum_any fun x hx => ((h r hr).2 x hx).1).mpr (a r hr)⟩, fun j hj => (hcol j).mpr (c j (List.mem_range.mpr hj))⟩
  · rintro ⟨N, e, a, c⟩
    obtain rfl := tbl_inj e
    exact ⟨fun r hr => (sum_any fun x hx => ((h r hr).2 x hx).1).mp (a r hr).2.2, fun j hj => (hcol j).mp (c j (List.mem_range.mp hj))⟩
theorem bt_law {dx dy : PyData} : btP (.tuple [dx, dy]) ↔ ∃ (g : Nat) (B W : List (List Int)), dx = tbl B ∧ dy = tbl W ∧ W.length = B.length ∧ 1 ≤ B.length ∧ B.length ≤ 6 ∧ 1 ≤ g ∧ g ≤ 6 ∧ okR g 10 dx ∧ okR g 100 dy := by
  constructor
  · rintro ⟨B, W, g, e, hl, h1, h6, g1, g6, hB, hW, n1, n2⟩
    injection e with e
    injection e with e1 e2
    injection e2 with e2 _
    subst e1 e2
    exact ⟨g, B, W, rfl, rfl, hl, h1, h6, g1, g6, (okR_iff hB).mp n1, (okR_iff hW).mp n2⟩
  · rintro ⟨g, B, W, rfl, rfl, hl, h1, h6, g1, g6, o1, o2⟩
    obtain ⟨B', e1, b1, b2⟩ := id o1
    obtain ⟨W', e2, w1, w2⟩ := id o2
    obtain rfl := tbl_inj e1
    obtain rfl := tbl_inj e2
    have hB : ∀ r ∈ B, r.length = g ∧ Bds 10 r := fun r hr => ⟨(b1 r hr).1, (b1 r hr).2.1⟩
    have hW : ∀ r ∈ W, r.length = g ∧ Bds 100 r := fun r hr => ⟨(w1 r hr).1, (w1 r hr).2.1⟩
    exact ⟨B, W, g, rfl, hl, h1, h6, g1, g6, hB, hW, (okR_iff hB).mpr o1, (okR_iff hW).mpr o2⟩
theorem lrow_iff {ds : List PyData} {g : Nat} {most : Int} (hg : ds.length = g) {r : List Int} (e : ds = r.map PyData.int) (hb : Bds most r) : dec (lrowP g most (.tuple ds)) = decide (0 < r.sum) := by
  subst e
  rw [List.length_map] at hg
  by_cases h : 0 < r.sum
  · rw [decide_eq_true h]; exact dec_t ⟨r, rfl, hg, hb, h⟩
  · rw [decide_eq_false h]
    refine dec_f fun ⟨t, e, _, _, ht⟩ => ?_
    have := rowD_inj (show rowD r = rowD t from e)
    subst this
    exact h ht
theorem lrows_all : ∀ {ds : List PyData} {g : Nat} {most : Int}, (ds.all fun d => dec (lrowP g most d)) = true → ∃ M : List (List Int), ds = M.map rowD ∧ ∀ r ∈ M, r.length = g ∧ Bds most r ∧ 0 < r.sum
  | [], _, _, _ => ⟨[], rfl, fun x h => nomatch h⟩
  | d :: ds, g, most, h => by
    rw [List.all_cons, Bool.and_eq_true] at h
    obtain ⟨M, rfl, hM⟩ := lrows_all h.2
    obtain ⟨r, rfl, h1, h2, h3⟩ := dec_iff.mp h.1
    refine ⟨r :: M, rfl, fun x hx => ?_⟩
    rcases List.mem_cons.mp hx with rfl | hx
    · exact ⟨h1, h2, h3⟩
    · exact hM x hx
theorem okR_all {ds : List PyData} {g : Nat} {most : Int} (h : okR g most (.tuple ds)) : (ds.all fun d => dec (lrowP g most d)) = true := by
  obtain ⟨M, e, hM, _⟩ := h
  unfold tbl at e
  injection e with e
  rw [e, List.all_map, List.all_eq_true]
  exact fun r hr => dec_t ⟨r, rfl, hM r hr⟩
def spLRow2 : Sp := fun vs H Q _ => ∃ (b : Addr) (v : V) (d : PyData) (g : Nat) (most : Int), vs = [v, .int g, .int most] ∧ TrV b H v d ∧ g ≤ 6 ∧ ∀ H', Stay H H' → Q (.bl (dec (lrowP g most d))) H'
def okT (d : PyData) : Prop := ∃ ds, d = .tuple ds ∧ 1 ≤ ds.length ∧ ds.length ≤ 6
theorem odd_bt {d : PyData} (h : d ∈ oddL) : ¬ btP d := by
  rintro ⟨B, W, g, rfl, hl, h1, h6, _⟩
  unfold oddL tbl at h
  simp at h
theorem oks_mem {n g : Nat} {hi : Int} {M : List (List Int)} (m : MOk n g hi M) : ∀ r ∈ M, r.length = g ∧ Bds hi r := fun r hr => by
  obtain ⟨i, hi', e⟩ := List.getElem_of_mem hr
  have hin : i < n := by rw [← m.len]; exact hi'
  have hl := m.row i hin
  have eg : M.getD i [] = r := by rw [getD_of (List.getElem?_eq_getElem hi'), e]
  rw [eg] at hl
  refine ⟨hl, fun x hx => ?_⟩
  obtain ⟨j, hj, ej⟩ := List.getElem_of_mem hx
  have := m.bd i j hin (by omega)
  unfold ent at this
  rw [eg, getD_of (List.getElem?_eq_getElem hj), ej] at this
  exact this
theorem noOut_of {n g : Nat} {hi : Int} {M : List (List Int)} (m : MOk n g hi M) (rp : ∀ i, i < n → RowP M g i) (cp : ∀ j, j < g → ColP M n j) : noOut M g = true := by
  unfold noOut
  rw [Bool.and_eq_true, List.all_eq_true, List.all_eq_true]
  refine ⟨fun r hr => ?_, fun j hj => ?_⟩
  · obtain ⟨i, hi', e⟩ := List.getElem_of_mem hr
    have hin : i < n := by rw [← m.len]; exact hi'
    have hl := m.row i hin
    obtain ⟨j, hj, hp⟩ := rp i hin
    unfold ent at hp
    have eg : M.getD i [] = r := by rw [getD_of (List.getElem?_eq_getElem hi'), e]
    rw [eg] at hp hl
    exact List.any_eq_true.mpr ⟨_, mem_getD (by rw [hl]; exact hj), by simp only [bne_iff_ne, ne_eq]; omega⟩
  · obtain ⟨i, hin, hp⟩ := cp j (List.mem_range.mp hj)
    unfold ent at hp
    exact List.any_eq_true.mpr ⟨_, mem_at (by rw [m.len]; exact hin), by simp only [bne_iff_ne, ne_eq]; omega⟩
theorem bt_of {H : Hp} {p pB pW : Addr} {xB xW : List V} {B W : List (List Int)} {g : Nat} (m : BtAt H p pB pW xB xW B W g) (o : BtOk B W B.length g) : btP (.tuple [tbl B, tbl W]) :=
  ⟨B, W, g, rfl, m.len, m.n1, m.n6, m.g1, m.g6, oks_mem o.okB, oks_mem o.okW, noOut_of o.okB o.rpB o.cpB, noOut_of o.okW o.rpW o.cpW⟩
theorem BtAt.tr {b : Addr} {H : Hp} {p pB pW : Addr} {xB xW : List V} {B W : List (List Int)} {g : Nat} (m : BtAt H p pB pW xB xW B W g) : TrV b H (.ref p) (.tuple [tbl B, tbl W]) :=
  .tup m.hp (.cons (.tup m.hB (rws_tr m.rB)) (.cons (.tup m.hW (rws_tr m.rW)) .nil))
theorem row_sm2 {r : List Int} {hi : Int} (hh : hi ≤ 100) (h6 : r.length ≤ 6) (h : Bds hi r) : small (rowD r) = true ∧ ln 6 (rowD r) = true := by
  refine ⟨small_t fun d hd => ?_, ln_t.mpr ⟨by rw [List.length_map]; exact h6, fun d hd => ?_⟩⟩
  · obtain ⟨x, hx, rfl⟩ := List.mem_map.mp hd
    have := h x hx
    show (decide _ && decide _) = true
    rw [decide_eq_true (show -1073741824 < x by omega), decide_eq_true (show x < 1073741824 by omega)]; rfl
  · obtain ⟨x, hx, rfl⟩ := List.mem_map.mp hd
    rfl
theorem tbl_sm2 {M : List (List Int)} {g : Nat} {hi : Int} (hh : hi ≤ 100) (h6 : M.length ≤ 6) (g6 : g ≤ 6) (h : ∀ r ∈ M, r.length = g ∧ Bds hi r) : small (tbl M) = true ∧ ln 6 (tbl M) = true := by
  refine ⟨small_t fun d hd => ?_, ln_t.mpr ⟨by rw [List.length_map]; exact h6, fun d hd => ?_⟩⟩
  · obtain ⟨r, hr, rfl⟩ := List.mem_map.mp hd
    exact (row_sm2 hh (by rw [(h r hr).1]; exact g6) (h r hr).2).1
  · obtain ⟨r, hr, rfl⟩ := List.mem_map.mp hd
    exact (row_sm2 hh (by rw [(h r hr).1]; exact g6) (h r hr).2).2
theorem bt_sm {B W : List (List Int)} (h : btP (.tuple [tbl B, tbl W])) : small (.tuple [tbl B, tbl W]) = true ∧ ln 6 (.tuple [tbl B, tbl W]) = true := by
  obtain ⟨B', W', g, e, hl, h1, h6, g1, g6, hB, hW, _, _⟩ := h
  injection e with e
  injection e with e1 e2
  injection e2 with e2 _
  obtain rfl := tbl_inj e1
  obtain rfl := tbl_inj e2
  have sB := tbl_sm2 (hi := 10) (by decide) h6 g6 hB
  have sW := tbl_sm2 (hi := 100) (by decide) (by omega) g6 hW
  refine ⟨small_t fun d hd => ?_, ln_t.mpr ⟨by simp, fun d hd => ?_⟩⟩
  · simp at hd
    rcases hd with rfl | rfl
    · exact sB.1
    · exact sW.1
  · simp at hd
    rcases hd with rfl | rfl
    · exact sB.2
    · exact sW.2
def spEmp : Sp := fun vs H Q _ => ∃ (b p pB pW : Addr) (xB xW : List V) (B W : List (List Int)) (g : Nat), vs = [.ref b, .ref p] ∧ Bag H b ∧ BtAt H p pB pW xB xW B W g ∧ ∀ (v : V) (d : PyData) (H' : Hp), Bag H' b → Kp b H H' → TrV b H' v d → ¬ btP d → Q v H'
def spEdgB : Sp := fun vs H Q _ => ∃ (b p pB pW : Addr) (xB xW : List V) (B W : List (List Int)) (g : Nat), vs = [.ref b, .ref p] ∧ Bag H b ∧ BtAt H p pB pW xB xW B W g ∧ ∀ (H' : Hp), Bag H' b → Kp b H H' → Q (.bl true) H'
end KM

set_option Elab.async false
set_option linter.all false
set_option maxRecDepth 100000
set_option maxHeartbeats 4000000
namespace KM
open PySem L2 KG EX
/-- [list(row) for row in a tuple of rows] -/
theorem comp_lists {K : PySem.W.Frag} {te : TE} {acc a : Addr} {σ₀ : St} {H₀ : Hp} {Q : VK} {xs : List V} {M : List (List Int)} (hacc : H₀ acc = none) (ha : H₀ a = some (.tup xs)) (r : Rws H₀ xs M) (hm : M.length ≤ 1000)
    (ht : ∀ c (ns : List Int) H Z, H c = some (.tup (ns.map V.int)) → (∀ l, H l = none → Z (.ref l) (upd H l (.lst (ns.map V.int)))) → te (σ₀.set 0 (some (.ref c))) H Z)
    (hd : ∀ H, Stay H₀ H → Mat H₀ H acc M → Q (.ref acc) H) : tCompN (gName 0) tYes te (Itt K a) acc σ₀ H₀ Q := by
  refine comp_tup (xs := xs) (fun i ys H' => Stay H₀ H' ∧ Mat H₀ H' acc (M.take i)) ⟨(Stay.refl H₀).acc hacc, Mat.nil upd_same hacc⟩ (fun i ys H' _ _ z => SqT.of (z.1 _ _ ha)) ?_ ?_
  · rintro i x ys H hx hy ⟨s, m⟩
    obtain ⟨hi, c, rfl, hc⟩ := rws_at r hx
    refine yes_i (ht c (M.getD i []) H _ (s _ _ hc) fun l hl => ?_)
    have s1 := (Stay.refl H).new (o := .lst ((M.getD i []).map V.int)) hl
    obtain ⟨zs, hz, hzl, m'⟩ := m.push (c := l) (r := M.getD i []) hl (s.free hl) (fun a o _ e => s1 _ _ e) upd_same
    have ey : ys = zs := by
      have := s1 _ _ hy
      rw [hz] at this
      injection this with this
      injection this with this
      exact this.symm
    subst ey
    refine ⟨ys, hz, by rw [hzl, List.length_take, sz]; omega, Cn.of upd_same ⟨(s.trans s1).acc hacc, ?_⟩⟩
    rw [List.take_add_one, show M[i]? = some (M.getD i []) by simp [List.getD, List.getElem?_eq_getElem hi]]
    exact m'
  · rintro ys H hy ⟨s, m⟩
    rw [r.len, List.take_length] at m
    exact hd H s m
/-- [f(row) for row in a tuple of rows], new tuples -/
theorem comp_rowsT {K : PySem.W.Frag} {te : TE} {acc a : Addr} {σ₀ : St} {H₀ : Hp} {Q : VK} {xs : List V} {M : List (List Int)} (G : List Int → List Int) (hacc : H₀ acc = none) (ha : H₀ a = some (.tup xs)) (r : Rws H₀ xs M) (hm : M.length ≤ 1000)
    (ht : ∀ c (ns : List Int) H Z, ns ∈ M → H c = some (.tup (ns.map V.int)) → (∀ l, H l = none → Z (.ref l) (upd H l (.tup ((G ns).map V.int)))) → te (σ₀.set 0 (some (.ref c))) H Z)
    (hd : ∀ ys H, Stay H₀ H → Rws H ys (M.map G) → H acc = some (.lst ys) → Q (.ref acc) H) : tCompN (gName 0) tYes te (Itt K a) acc σ₀ H₀ Q := by
  refine comp_tup (xs := xs) (fun i ys H' => Stay H₀ H' ∧ Rws H' ys ((M.take i).map G)) ⟨(Stay.refl H₀).acc hacc, .nil⟩ (fun i ys H' _ _ z => SqT.of (z.1 _ _ ha)) ?_ ?_
  · rintro i x ys H hxi hy ⟨s, ry⟩
    obtain ⟨hi, c, rfl, hc⟩ := rws_at r hxi
    refine yes_i (ht c (M.getD i []) H _ (mem_at hi) (s _ _ hc) fun l hl' => ?_)
    have s1 := (Stay.refl H).new (o := .tup ((G (M.getD i [])).map V.int)) hl'
    have hlen := ry.len
    rw [List.length_map, List.length_take] at hlen
    refine ⟨ys, s1 _ _ hy, by rw [sz]; omega, Cn.of upd_same ⟨(s.trans s1).acc hacc, ?_⟩⟩
    have tm : Tm (upd H l (.tup ((G (M.getD i [])).map V.int))) (upd (upd H l (.tup ((G (M.getD i [])).map V.int))) acc (.lst (ys ++ [.ref l]))) := Tm.lst (s1 _ _ hy)
    rw [List.take_add_one, show M[i]? = some (M.getD i []) by simp [List.getD, List.getElem?_eq_getElem hi], List.map_append]
    exact Rws.app ((ry.keep s1.tm).keep tm) (.cons ⟨l, rfl, tm _ _ upd_same⟩ .nil)
  · rintro ys H hy ⟨s, ry⟩
    rw [r.len, List.take_length] at ry
    exact hd ys H s ry hy
theorem MatA.row {Hb H : Hp} {pr : Addr} {as : List Addr} {M : List (List Int)} {i : Nat} {a : Addr} (m : MatA Hb H pr as M) (ea : as[i]? = some a) : H a = some (.lst ((M.getD i []).map V.int)) ∧ Hb a = none ∧ i < M.length ∧ ∀ r : List Int, MatA Hb (upd H a (.lst (r.map V.int))) pr as (M.set i r) := by
  obtain ⟨h1, h2, h3, h4, h5, h6, h7⟩ := m
  have hi' : i < as.length := (List.getElem?_eq_some_iff.mp ea).1
  have hm := List.mem_of_getElem? ea
  have nap : pr ≠ a := fun z => h4 (by rw [z]; exact hm)
  refine ⟨h7 i _ ea, h6 _ hm, by omega, fun r => ⟨by rw [upd_ne nap]; exact h1, by rw [List.length_set]; exact h2, h3, h4, h5, h6, fun j c e => ?_⟩⟩
  by_cases hj : j = i
  · subst hj
    have : c = a := by rw [ea] at e; simpa using e.symm
    subst this
    rw [upd_same]
    have : (M.set j r).getD j [] = r := by simp [List.getD, show j < M.length by omega]
    rw [this]
  · have hja : c ≠ a := fun z => by
      have hjl := (List.getElem?_eq_some_iff.mp e).1
      have e1 : as[j] = c := (List.getElem?_eq_some_iff.mp e).2
      have e2 : as[i] = a := (List.getElem?_eq_some_iff.mp ea).2
      exact hj ((List.getElem_inj h3).mp (by rw [e1, e2, z]))
    rw [upd_ne hja]
    have : (M.set i r).getD j [] = M.getD j [] := by simp [List.getD, List.getElem?_set_ne (Ne.symm hj)]
    rw [this]
    exact h7 j c e
theorem Mat.setrow {Hb H0 H : Hp} {pr c : Addr} {M : List (List Int)} {r : List Int} {i : Nat} (m : Mat Hb H0 pr M) (hc : H0 c = none) (hb : Hb c = none) (k : ∀ a o, Hb a = none → H0 a = some o → H a = some o) (hr : H c = some (.lst (r.map V.int))) (hi : i < M.length) :
    ∃ xs, H pr = some (.lst xs) ∧ xs.length = M.length ∧ Mat Hb (upd H pr (.lst (xs.set i (.ref c)))) pr (M.set i r) := by
  obtain ⟨as, h1, h2, h3, h4, h5, h6, h7⟩ := m
  have ncp : c ≠ pr := fun z => by rw [z, h1] at hc; cases hc
  have nca : c ∉ as := fun z => by
    obtain ⟨i, hi, e⟩ := List.getElem_of_mem z
    have := h7 i c (by rw [List.getElem?_eq_getElem hi, e])
    rw [hc] at this; cases this
  refine ⟨as.map V.ref, k _ _ h5 h1, by rw [List.length_map, h2], as.set i c, ?_, by rw [List.length_set, List.length_set, h2], ?_, ?_, h5, ?_, ?_⟩
  · rw [upd_same, List.map_set]
  · rw [List.nodup_iff_pairwise_ne, List.pairwise_iff_getElem]
    intro p q hp hq hpq
    rw [List.length_set] at hp hq
    rw [List.getElem_set, List.getElem_set]
    split
    · split
      · omega
      · intro z; exact nca (by rw [z]; exact List.getElem_mem _)
    · split
      · intro z; exact nca (by rw [← z]; exact List.getElem_mem _)
      · intro z; exact absurd ((List.getElem_inj h3).mp z) (by omega)
  · intro z
    rcases List.mem_or_eq_of_mem_set z with y | y
    · exact h4 y
    · exact ncp y.symm
  · intro a ha
    rcases List.mem_or_eq_of_mem_set ha with y | y
    · exact h6 a y
    · rw [y]; exact hb
  · intro j a e
    have nap : a ≠ pr := fun z => by
      rcases List.mem_or_eq_of_mem_set (List.mem_of_getElem? e) with y | y
      · rw [z] at y; exact h4 y
      · exact ncp (by rw [← z]; exact y.symm)
    rw [upd_ne nap]
    by_cases hj : j = i
    · subst hj
      have ea : a = c := by rw [List.getElem?_set_self (by omega)] at e; simpa using e.symm
      subst ea
      have : (M.set j r).getD j [] = r := by simp [List.getD, hi]
      rw [this]; exact hr
    · rw [List.getElem?_set_ne (Ne.symm hj)] at e
      have : (M.set i r).getD j [] = M.getD j [] := by simp [List.getD, List.getElem?_set_ne (Ne.symm hj)]
      rw [this]
      exact k _ _ (h6 a (List.mem_of_getElem? e)) (h7 j a e)
theorem btP_no {B W : List (List Int)} {g : Nat} (hn : 1 ≤ B.length) (hB : ∀ r ∈ B, r.length = g) (h : btP (.tuple [tbl B, tbl W])) : noOut B g = true ∧ noOut W g = true := by
  obtain ⟨B', W', g', e, hl, h1, h6, g1, g6, hB', hW', n1, n2⟩ := h
  injection e with e
  injection e with e1 e2
  injection e2 with e2 _
  obtain rfl := tbl_inj e1
  obtain rfl := tbl_inj e2
  have a1 := hB _ (mem_at hn)
  have a2 := (hB' _ (mem_at hn)).1
  have : g' = g := by omega
  subst this
  exact ⟨n1, n2⟩
theorem btP_no2 {B W : List (List Int)} {g : Nat} (hn : 1 ≤ W.length) (hW : ∀ r ∈ W, r.length = g) (h : btP (.tuple [tbl B, tbl W])) : noOut B g = true ∧ noOut W g = true := by
  obtain ⟨B', W', g', e, hl, h1, h6, g1, g6, hB', hW', n1, n2⟩ := h
  injection e with e
  injection e with e1 e2
  injection e2 with e2 _
  obtain rfl := tbl_inj e1
  obtain rfl := tbl_inj e2
  have a1 := hW _ (mem_at hn)
  have a2 := (hW' _ (mem_at hn)).1
  have : g' = g := by omega
  subst this
  exact ⟨n1, n2⟩
theorem noOut_row {M : List (List Int)} {g i n : Nat} (hi : i < M.length) : noOut (M.set i (List.replicate n 0)) g = false := by
  unfold noOut
  have : ((M.set i (List.replicate n 0)).all fun r => r.any fun x => x != 0) = false := by
    rw [List.all_eq_false]
    refine ⟨List.replicate n 0, List.mem_of_getElem? (i := i) (List.getElem?_set_self hi), ?_⟩
    rw [Bool.not_eq_true, List.any_eq_false]
    intro x hx
    rw [List.mem_replicate] at hx
    simp [hx.2]
  rw [this]; rfl
theorem noOut_col {M : List (List Int)} {g j : Nat} (hj : j < g) (h : ∀ r ∈ M, r.getD j 0 = 0) : noOut M g = false := by
  unfold noOut
  have : ((List.range g).all fun j => M.any fun r => r.getD j 0 != 0) = false := by
    rw [List.all_eq_false]
    refine ⟨j, List.mem_range.mpr hj, ?_⟩
    rw [Bool.not_eq_true, List.any_eq_false]
    intro r hr
    rw [h r hr]; simp
  rw [this, Bool.and_false]
theorem set_rows {M : List (List Int)} {g i : Nat} {r : List Int} (h : ∀ t ∈ M, t.length = g) (hr : r.length = g) : ∀ t ∈ M.set i r, t.length = g := fun t ht => by
  rcases List.mem_or_eq_of_mem_set ht with z | z
  · exact h t z
  · rw [z]; exact hr
theorem repInts2 : ∀ (m : Nat) (ns : List Int), (List.replicate m (ns.map V.int)).flatten = ((List.replicate m ns).flatten).map V.int
  | 0, _ => rfl
  | m + 1, ns => by rw [List.replicate_succ, List.replicate_succ, List.flatten_cons, List.flatten_cons, List.map_append, repInts2 m ns]
theorem trRep2 {b : Addr} {H : Hp} {xs : List V} {ds : List PyData} (h : TrVs b H xs ds) : ∀ m : Nat, TrVs b H (List.replicate m xs).flatten (List.replicate m ds).flatten
  | 0 => .nil
  | m + 1 => by
    rw [List.replicate_succ, List.replicate_succ, List.flatten_cons, List.flatten_cons]
    exact h.app (trRep2 h m)
theorem eqv_bb2 (x y : Bool) : PyData.eqv (.list [.bool x, .bool y]) (.list [.bool x, .bool y]) = true := by simp [PyData.eqv, PyData.eqvAll]
end KM

set_option Elab.async false
set_option linter.all false
set_option maxRecDepth 100000
set_option maxHeartbeats 4000000
namespace KM
open PySem L2 KG EX
theorem ifs2 {c : TT} {t1 t2 u : TS} {D : Ends} {σ : St} {H : Hp} (G : St → Hp → Prop) (hc : ∀ σ' H', G σ' H' → u D σ' H') (h : (∀ σ' H', G σ' H' → u D σ' H') → tIfS c t1 t2 { D with nx := u D } σ H) : tSeq (tIfS c t1 t2) u D σ H := h hc
theorem rws_take {H : Hp} : ∀ {xs : List V} {M : List (List Int)} (n : Nat), Rws H xs M → Rws H (xs.take n) (M.take n)
  | _, _, 0, _ => .nil
  | _, _, _ + 1, .nil => .nil
  | _, _, n + 1, .cons h t => .cons h (rws_take n t)
theorem rws_drop {H : Hp} : ∀ {xs : List V} {M : List (List Int)} (n : Nat), Rws H xs M → Rws H (xs.drop n) (M.drop n)
  | _, _, 0, r => r
  | _, _, _ + 1, .nil => .nil
  | _, _, n + 1, .cons _ t => rws_drop n t
theorem rws_put {H : Hp} {xs : List V} {M : List (List Int)} {q : Addr} {r : List Int} (h : Rws H xs M) (hq : H q = some (.tup (r.map V.int))) (i : Nat) : Rws H (KM.put xs i (.ref q)) (KM.put M i r) := Rws.app (Rws.app (rws_take i h) (.cons ⟨q, rfl, hq⟩ .nil)) (rws_drop (i + 1) h)
theorem put_map (r : List Int) (j : Nat) (c : Int) : KM.put (r.map V.int) j (V.int c) = (KM.put r j c).map V.int := by
  unfold KM.put
  rw [List.map_append, List.map_append, List.map_take, List.map_drop]; rfl
/-- one of the two tables -/
theorem BtAt.pick {b : Addr} {H : Hp} {p pB pW : Addr} {xB xW : List V} {B W : List (List Int)} {g : Nat} (m : BtAt H p pB pW xB xW B W g) {wh : Int} (h0 : 0 ≤ wh) (h1 : wh < 2) : ∃ (pT : Addr) (xT : List V) (M : List (List Int)), atI [V.ref pB, V.ref pW] wh = some (.ref pT) ∧ ixN 2 wh = some wh.toNat ∧ H pT = some (.tup xT) ∧ Rws H xT M ∧ (∀ r ∈ M, r.length = g) ∧ M.length = B.length ∧
    ∀ (q : Addr) (ys : List V) (N : List (List Int)) (H' : Hp), Tm H H' → H' q = some (.tup ys) → Rws H' ys N → ∃ ds, TrVs b H' ([V.ref pB, V.ref pW].set wh.toNat (.ref q)) ds ∧ (N.length = B.length → (∀ r ∈ N, r.length = g) → noOut N g = false → ¬ btP (.tuple ds)) := by
  have hn := m.n1
  have hl := m.len
  have : wh = 0 ∨ wh = 1 := by omega
  rcases this with rfl | rfl
  · refine ⟨pB, xB, B, rfl, rfl, m.hB, m.rB, m.lB, rfl, fun q ys N H' t hq r => ⟨[tbl N, tbl W], .cons (.tup hq (rws_tr r)) (.cons (.tup (t _ _ m.hW) (rws_tr (m.rW.keep t))) .nil), fun hN hr hno h => ?_⟩⟩
    rw [(btP_no (by omega) hr h).1] at hno; cases hno
  · refine ⟨pW, xW, W, rfl, rfl, m.hW, m.rW, m.lW, hl, fun q ys N H' t hq r => ⟨[tbl B, tbl N], .cons (.tup (t _ _ m.hB) (rws_tr (m.rB.keep t))) (.cons (.tup hq (rws_tr r)) .nil), fun hN hr hno h => ?_⟩⟩
    rw [(btP_no2 (by omega) hr h).2] at hno; cases hno

end KM

set_option Elab.async false
set_option linter.all false
set_option maxRecDepth 100000
set_option maxHeartbeats 4000000
namespace K28
open PySem L2 KG EX KM
def top (i : Nat) : Stmt := PySem.Challenge.pw_wishmart_k28_what_is_a_barter.main.body.getD i (.Pass ⟨0, 0, 0, 0⟩)
section
variable {P : Program} {w : World} {K : PySem.W.Frag} {mg : Str → Option Value} {base : Heap}
theorem scWhole : FnScope ["thing"] ["thing"] (defScope (top 1)) := ⟨rfl, rfl, rfl, by decide +kernel, rfl, by decide +kernel, by decide +kernel⟩
theorem ok_whole {f : Addr} {fd : FuncData} (F : Fun K "is_whole" "is_whole" (top 1) f fd) (N : Nm mg) (Z : IsK K) : FnOk P w K mg base CX0 1 f fd ["thing"] (spT isWhole) := by
  refine F.ok scWhole (fun vs H Q E h => ?_) (fun cdv A outer s H vs Q E hr h => ?_)
  · obtain ⟨b, v, d, rfl, _⟩ := h; rfl
  · obtain ⟨b, v, d, rfl, hT, k⟩ := h
    refine ⟨_, pss_one (ps_ret (pe_and (pIsi K (pv 0) rfl N.isinstance rfl N.int boot_int boot_isinstance) (pe_one (pe_not (pIsi K (pv 0) rfl N.isinstance rfl N.bool boot_bool boot_isinstance))))), ?_⟩
    obtain ⟨t1, ty1, e1⟩ := isi Z hT
    obtain ⟨t2, ty2, e2⟩ := isb Z hT
    refine ⟨_, rfl, t1, _, ty1, e1, _, rfl, ?_⟩
    have hk := k H (Stay.refl H)
    rw [isWhole_eq] at hk
    cases hi : isI d with
    | true =>
      rw [hi] at hk
      refine iteT ⟨_, rfl, t2, _, ty2, e2, _, rfl, hk⟩
    | false =>
      rw [hi] at hk
      exact iteF hk
theorem scTake : FnScope ["bag", "many", "found"] ["bag", "many"] (defScope (top 14)) := ⟨rfl, rfl, rfl, by decide +kernel, rfl, by decide +kernel, by decide +kernel⟩
theorem ok_take {f : Addr} {fd : FuncData} (F : Fun K "_law_take" "_law_take" (top 14) f fd) : FnOk P w K mg base CX0 1 f fd ["bag", "many"] spTake := by
  refine F.ok scTake (fun vs H Q E h => ?_) (fun cdv A outer s H vs Q E hr h => ?_)
  · obtain ⟨b, m, rfl, _⟩ := h; rfl
  · obtain ⟨b, m, rfl, ⟨c, d, hb⟩, h0, h1, k⟩ := h
    refine ⟨_, pss_cons (ps_if (pt_cmpR op_gt (pe_ix ixL0 (pv 0) pe_int (fun _ _ => rfl)) pe_int (nomark _))
        (pss_cons (ps_set (i := 2) scTake.nd rfl (Or.inl rfl) (pe_op op_mod (pe_ix ixL0 (pv 0) pe_int (fun _ _ => rfl)) (pv 1)))
          (pss_cons (ps_asg (pe_op op_fdiv (pe_ix ixL0 (pv 0) pe_int (fun _ _ => rfl)) (pv 1)) (pg_sub (pv 0) pe_int set_list)) (pss_one (ps_ret (pv 2))))) pss_nil)
      (pss_cons (ps_asg (pe_op op_mod (pe_op op_mul (pe_ix ixL0 (pv 0) pe_int (fun _ _ => rfl)) pe_int) pe_int) (pg_sub (pv 0) pe_int set_list))
        (pss_one (ps_ret (pe_op op_mod (pe_op op_fdiv (pe_op op_mod (pe_op op_mul (pe_op op_fdiv (pe_ix ixL0 (pv 0) pe_int (fun _ _ => rfl)) pe_int) (pe_op op_add (pe_op op_mod (pe_ix ixL0 (pv 0) pe_int (fun _ _ => rfl)) pe_int) pe_int)) pe_int) pe_int) (pv 1))))), ?_⟩
    refine ⟨_, rfl, b, _, _, _, rfl, rfl, SqL.of hb, rfl, _, _, rfl, rfl, _, rfl, ?_⟩
    refine ite2 (fun hc => ?_) (fun hc => ?_)
    · refine ⟨_, rfl, b, _, _, _, rfl, rfl, SqL.of hb, rfl, _, rfl, _, _, rfl, rfl, h0, ?_⟩
      refine ⟨_, rfl, b, _, _, _, rfl, rfl, SqL.of hb, rfl, _, rfl, _, _, rfl, rfl, ⟨h0, h1⟩, ?_⟩
      refine ⟨_, rfl, b, _, _, 0, rfl, rfl, hb, rfl, ?_⟩
      refine ⟨_, rfl, k _ _ (Int.emod_nonneg _ (by omega)) (Int.emod_lt_of_pos _ h0) ⟨_, _, upd_same⟩ (Kp.refl b H).bag⟩
    · refine ⟨_, rfl, b, _, _, _, rfl, rfl, SqL.of hb, rfl, _, _, rfl, rfl, .inr ⟨by decide, by decide⟩, _, _, rfl, rfl, (by show (0 : Int) < 2147483647; decide), ?_⟩
      refine ⟨_, rfl, b, _, _, 1, rfl, rfl, hb, rfl, ?_⟩
      have hb2 : (upd H b (.lst [V.int c, V.int (d * 48271 % 2147483647)])) b = some (.lst [V.int c, V.int (d * 48271 % 2147483647)]) := upd_same
      refine ⟨_, rfl, b, _, _, _, rfl, rfl, SqL.of hb2, rfl, _, _, rfl, rfl, ⟨by decide, by decide⟩, ?_⟩
      refine ⟨_, rfl, b, _, _, _, rfl, rfl, SqL.of hb2, rfl, _, _, rfl, rfl, (by show (0 : Int) < 32749; decide), _, _, rfl, rfl, ?_⟩
      refine ⟨_, _, rfl, rfl, .inr ⟨?_, ?_⟩, ?_⟩
      · have := Int.emod_nonneg (d * 48271 % 2147483647) (show (32749 : Int) ≠ 0 by decide); omega
      · have := Int.emod_lt_of_pos (d * 48271 % 2147483647) (show (0 : Int) < 32749 by decide); omega
      refine ⟨_, _, rfl, rfl, (by show (0 : Int) < 2147483629; decide), _, _, rfl, rfl, ⟨by decide, by decide⟩, _, rfl, _, _, rfl, rfl, h0, ?_⟩
      exact k _ _ (Int.emod_nonneg _ (by omega)) (Int.emod_lt_of_pos _ h0) ⟨_, _, upd_same⟩ (Kp.refl b H).bag
theorem scBag : FnScope ["script", "k", "cell", "seed"] ["script", "k"] (defScope (top 13)) := ⟨rfl, rfl, rfl, by decide +kernel, rfl, by decide +kernel, by decide +kernel⟩
theorem ok_bag {f : Addr} {fd : FuncData} (F : Fun K "_law_bag" "_law_bag" (top 13) f fd) (B : Nm mg) : FnOk P w K mg base CX0 1 f fd ["script", "k"] (spBag K) := by
  refine F.ok scBag (fun vs H Q E h => ?_) (fun cdv A outer s H vs Q E hr h => ?_)
  · obtain ⟨a, ns, k, rfl, _⟩ := h; rfl
  · obtain ⟨a, ns, k, rfl, hS, h0, h1, q⟩ := h
    refine ⟨_, pss_cons (ps_set (i := 2) scBag.nd rfl (Or.inl rfl) pe_int)
      (pss_cons (ps_if (pt_cmpR op_lt (pv 1) (pe_callB call_len_seq (by rfl) B.len PySem.boot_len (pa_cons (pv 0) pa_nil)) (nomark _))
        (pss_one (ps_set (i := 2) scBag.nd rfl (Or.inl rfl) (pe_op op_mod (pe_ix ix_list (pv 0) (pv 1) (fun _ _ => rfl)) (pe_op op_pow pe_int pe_int)))) pss_nil)
      (pss_cons (ps_set (i := 3) scBag.nd rfl (Or.inl rfl) (pe_op op_add pe_int (pe_op op_mod (pe_op op_add (pe_op op_add (pe_op op_add (pe_op op_mul (pe_op op_mod (pv 2) pe_int) pe_int) (pe_op op_mul (pe_op op_mul pe_int (pv 1)) (pv 1))) (pe_op op_mul pe_int (pv 1))) pe_int) pe_int)))
      (pss_cons (ps_if (pt_cmpR op_lt (pv 2) (pe_op op_pow pe_int pe_int) (nomark _)) (pss_one (ps_ret (pe_lst (pa_cons pe_int (pa_cons (pv 3) pa_nil))))) pss_nil)
      (pss_one (ps_ret (pe_lst (pa_cons (pv 2) (pa_cons (pv 3) pa_nil)))))))), ?_⟩
    refine ⟨_, rfl, _, rfl, a, _, rfl, .inl hS, _, _, rfl, rfl, _, rfl, ?_⟩
    refine ite2 (fun hc => ?wayA) (fun hc => ?wayB)
    case' wayA =>
      have hk : k < (ns.length : Int) := by simpa using of_decide_eq_true hc
      have hat : atI (ns.map V.int) k = some (V.int (ns.getD k.toNat 0)) := by
        have e : (ns.map V.int)[k.toNat]? = some (V.int (ns.getD k.toNat 0)) := by
          have hl : k.toNat < ns.length := by omega
          rw [List.getElem?_map, List.getElem?_eq_getElem hl]
          simp [List.getD, List.getElem?_eq_getElem hl]
        have := atI_nat e
        rw [Int.toNat_of_nonneg h0] at this
        exact this
      refine ⟨_, rfl, _, rfl, a, _, _, _, rfl, rfl, hS, hat, _, _, rfl, rfl, ⟨by decide, by decide, by decide⟩, _, _, rfl, rfl, (by show (0 : Int) < 10 ^ 60; decide), ?_⟩
    all_goals
      refine ⟨_, rfl, _, _, rfl, rfl, (by show (0 : Int) < 2147483629; decide), _, _, rfl, rfl, .inr ⟨by decide, by decide⟩, ?_⟩
      refine ⟨_, rfl, _, _, rfl, rfl, .inl ⟨by decide, by decide⟩, _, rfl, _, _, rfl, rfl, .inr ⟨by omega, by omega⟩, _, _, rfl, rfl, ?_⟩
      refine ⟨_, rfl, _, _, rfl, rfl, .inl ⟨by decide, by decide⟩, _, _, rfl, rfl, _, _, rfl, rfl, _, _, rfl, rfl, (by show (0 : Int) < 2147483645; decide), _, _, rfl, rfl, ?_⟩
      refine ⟨_, rfl, _, _, rfl, rfl, ⟨by decide, by decide, by decide⟩, _, _, rfl, rfl, _, rfl, ?_⟩
      refine ite2 (fun hc => ?_) (fun hc => ?_)
      · exact ⟨_, rfl, by show 2 ≤ sizeLine; decide, fun p hp => q p _ _ hp⟩
      · exact ⟨_, rfl, _, rfl, by show 2 ≤ sizeLine; decide, fun p hp => q p _ _ hp⟩
theorem scOdd : FnScope ["bag", "some"] ["bag"] (defScope (top 16)) := ⟨rfl, rfl, rfl, by decide +kernel, rfl, by decide +kernel, by decide +kernel⟩
theorem ok_odd {f fT : Addr} {fd dT : FuncData} (F : Fun K "_law_odd" "_law_odd" (top 16) f fd) (T : Cal K mg P w base "_law_take" 1 ["bag", "many"] spTake fT dT) : FnOk P w K mg base CX0 2 f fd ["bag"] spOdd := by
  refine F.ok scOdd (fun vs H Q E h => ?_) (fun cdv A outer s H vs Q E hr h => ?_)
  · obtain ⟨b, rfl, _⟩ := h; rfl
  · obtain ⟨b, rfl, hb, k⟩ := h
    refine ⟨_, pss_cons (ps_set (i := 1) scOdd.nd rfl (Or.inl rfl) (pe_lit 5 _ (.list (oddL.take 18)) (by kernel_rfl)))
      (pss_one (ps_ret (pe_ix ixL0 (pe_op op_cat (pv 1) (pe_lit 5 _ (.list (oddL.drop 18)) (by kernel_rfl)))
        (pe_call T.ok hr rfl T.mg T.kp T.bd .nil pass0 (pa_cons (pv 0) (pa_cons pe_int pa_nil))) (fun _ _ => rfl)))), ?_⟩
    have nb : H b ≠ none := by obtain ⟨c, d, e⟩ := hb; rw [e]; simp
    intro v1 H1 s1 t1 _
    refine ⟨_, rfl, ?_⟩
    intro v2 H2 s2 t2 _
    have t2' := t2 b (ne_stay s1 nb)
    have t1' := (t1 b nb).stay s2
    cases t1' with
    | @lst q1 xs1 _ n1 e1 l1 =>
    cases t2' with
    | @lst q2 xs2 _ n2 e2 l2 =>
    have len1 := l1.len
    have len2 := l2.len
    have la : (oddL.take 18).length = 18 := by decide
    have lb : (oddL.drop 18).length = 6 := by decide
    refine ⟨_, _, _, _, rfl, rfl, e1, e2, by rw [sz]; omega, fun pc hpc => ?_⟩
    have s3 := (s1.trans s2).new (o := .lst (xs1 ++ xs2)) hpc
    have hb3 := Bag.stay hb s3
    refine ⟨_, rfl, b, _, rfl, hb3, by decide, by decide, fun r H3 r0 r1 hb4 kp4 => ?_⟩
    have l12 := ((l1.app l2).stay ((Stay.refl H2).new (o := .lst (xs1 ++ xs2)) hpc)).kp kp4 hb3
    have hpb : pc ≠ b := fun z => by
      have : H2 b ≠ none := ne_stay (s1.trans s2) nb
      rw [← z] at this; exact this hpc
    have epc := kp4 pc _ hpb upd_same
    obtain ⟨x, d, ex, ea, ed, tx⟩ := trAt l12 r0 (by rw [List.length_append]; omega)
    refine ⟨pc, _, _, _, rfl, rfl, SqL.of epc, ea, ?_⟩
    refine k x d H3 hb4 ((Stay.kpb s3).trans kp4) tx ?_
    have := List.mem_of_getElem? ed
    rwa [List.take_append_drop] at this
theorem scRep : FnScope ["bag", "thing", "deep", "at", "way"] ["bag", "thing", "deep"] (defScope (top 17)) := ⟨rfl, rfl, rfl, by decide +kernel, rfl, by decide +kernel, by decide +kernel⟩
theorem ok_rep {f fT fO : Addr} {fd dT dO : FuncData} (F : Fun K "_law_replaced" "_law_replaced" (top 17) f fd) (N : Nm mg) (Z : IsK K) (T : Cal K mg P w base "_law_take" 1 ["bag", "many"] spTake fT dT) (O : Cal K mg P w base "_law_odd" 2 ["bag"] spOdd fO dO)
    (hmg : mg "_law_replaced" = some (.ref f)) (hkp : PySem.W.keepIn K (.ref f) = true) (hbd : Binds K fd ["bag", "thing", "deep"] []) : ∀ m : Nat, FnOk P w K mg base CX0 (m + 2) f fd ["bag", "thing", "deep"] (spRep m)
  | 0 => ⟨fun vs H Q E h => (by obtain ⟨b, v, d, deep, n, _, h, _⟩ := h; omega), fun A outer s H args us vs Q E hr he hb hv hs => (by obtain ⟨b, v, d, deep, n, _, h, _⟩ := hs; omega)⟩
  | m + 1 => by
    have Rc := ok_rep F N Z T O hmg hkp hbd m
    refine F.ok scRep (fun vs H Q E h => ?_) (fun cdv A outer s H vs Q E hr h => ?_)
    · obtain ⟨b, v, d, deep, n, rfl, _⟩ := h; rfl
    · obtain ⟨b, v, d, deep, n, rfl, hdm, hb, hT, hsm, hln, hn3, hn50, k⟩ := h
      have hu := hr.units
      have hr1 : Room 1 _ := hr.mono (by omega)
      have hr2 : Room 2 _ := hr.mono (by omega)
      refine ⟨_, pss_cons (ps_if (PW.pt (pw_or (pt_cmpR op_eq (pv 2) pe_int (nomark _)) (pw_or (pt_not (pt_val (pIsi K (pv 1) rfl N.isinstance rfl N.tuple boot_tuple boot_isinstance))) (pw_or (pt_cmpR (opEqD0 hu) (pv 1) (pe_tup pa_nil) (nomark _)) (pw_or1 (pt_cmpR op_eq (pe_call T.ok hr1 rfl T.mg T.kp T.bd .nil pass0 (pa_cons (pv 0) (pa_cons pe_int pa_nil))) pe_int (nomark _)))))))
          (pss_one (ps_ret (pe_call O.ok hr2 rfl O.mg O.kp O.bd .nil pass0 (pa_cons (pv 0) pa_nil)))) pss_nil)
        (pss_cons (ps_set (i := 3) scRep.nd rfl (Or.inl rfl) (pe_call T.ok hr1 rfl T.mg T.kp T.bd .nil pass0 (pa_cons (pv 0) (pa_cons (pe_callB cLen0 (by rfl) N.len PySem.boot_len (pa_cons (pv 1) pa_nil)) pa_nil))))
        (pss_cons (ps_set (i := 4) scRep.nd rfl (Or.inl rfl) (pe_call T.ok hr1 rfl T.mg T.kp T.bd .nil pass0 (pa_cons (pv 0) (pa_cons pe_int pa_nil))))
        (pss_cons (ps_if (pt_cmpR op_eq (pv 4) pe_int (nomark _)) (pss_one (ps_ret (pe_op op_catA (pe_slice sl_tupA (pv 1) po_none (po_some (pv 3))) (pe_slice sl_tupA (pv 1) (po_some (pe_op op_add (pv 3) pe_int)) po_none)))) pss_nil)
        (pss_cons (ps_if (pt_cmpR op_eq (pv 4) pe_int (nomark _)) (pss_one (ps_ret (pe_op op_catA (pe_op op_catA (pe_slice sl_tupA (pv 1) po_none (po_some (pv 3))) (pe_tup (pa_cons (pe_ix ixT0 (pv 1) (pv 3) (fun _ _ => rfl)) pa_nil))) (pe_slice sl_tupA (pv 1) (po_some (pv 3)) po_none)))) pss_nil)
        (pss_cons (ps_if (pt_cmpR op_eq (pv 4) pe_int (nomark _)) (pss_one (ps_ret (pe_callTy cLst0 (by rfl) N.list boot_list (pa_cons (pv 1) pa_nil)))) pss_nil)
        (pss_one (ps_ret (pe_op op_catA (pe_op op_catA (pe_slice sl_tupA (pv 1) po_none (po_some (pv 3))) (pe_tup (pa_cons (pe_call Rc hr rfl hmg hkp hbd .nil pass0 (pa_cons (pv 0) (pa_cons (pe_ix ixT0 (pv 1) (pv 3) (fun _ _ => rfl)) (pa_cons (pe_op op_sub (pv 2) pe_int) pa_nil)))) pa_nil))) (pe_slice sl_tupA (pv 1) (po_some (pe_op op_add (pv 3) pe_int)) po_none))))))))), ?_⟩
      have hodd : ∀ H1, Bag H1 b → Kp b H H1 → ∀ σ : St, σ[0]? = some (some (.ref b)) → (tCall spOdd [] E0 (tCons (tVar 0) tNil)) σ H1 Q := fun H1 hb1 kp1 σ hσ =>
        ⟨_, hσ, b, rfl, hb1, fun v' d' H' hb' kp' tr hm => by
          obtain ⟨_, o2, o3⟩ := oddL_ok d' hm
          exact k v' d' H' hb' (kp1.trans kp') tr o2 (ln_mono (by omega) o3)⟩
      refine ⟨_, rfl, rfl, _, rfl, ?_⟩
      by_cases hd0 : deep = 0
      · subst hd0
        exact iteT (iteT (hodd H hb (Kp.refl b H) _ rfl))
      have e0 : decide (V.int (deep : Int) = V.int 0) = false := by
        rw [decide_eq_false_iff_not]
        intro h; injection h with h; omega
      rw [e0]
      refine iteF ?_
      obtain ⟨t1, ty1, e1⟩ := ist Z hT
      refine ⟨_, rfl, t1, _, ty1, e1, _, rfl, ?_⟩
      rcases tupCase hT with hn | ⟨a, xs, ds, rfl, rfl, ha, hs⟩
      · rw [hn]
        exact iteT (iteT (hodd H hb (Kp.refl b H) _ rfl))
      refine iteF ?_
      refine ⟨_, rfl, by show 0 ≤ sizeLine; decide, fun q hq => ?_⟩
      have sq := (Stay.refl H).new (o := .tup []) hq
      refine ⟨.tuple ds, .tuple [], .tup (SqT.of (sq _ _ ha)) (hs.stay sq).dt, .tup (SqT.of upd_same) .nil, by show min _ 1 ≤ 60; omega, _, rfl, ?_⟩
      rw [eqv_tnil]
      have hbq := Bag.stay hb sq
      cases hem : ds.isEmpty with
      | true => exact iteT (iteT (hodd _ hbq (Stay.kpb sq) _ rfl))
      | false =>
      refine iteF ?_
      refine ⟨_, rfl, b, _, rfl, hbq, by decide, by decide, fun r1 H1 r1a r1b hb1 kp1 => ⟨rfl, _, rfl, ?_⟩⟩
      have k1 : Kp b H H1 := (Stay.kpb sq).trans kp1
      refine ite2 (fun _ => hodd H1 hb1 k1 _ rfl) (fun _ => ?_)
      have lnd := ln_t.mp hln
      have smd := smalls_t hsm
      have hlen := hs.len
      have hpos : 0 < ds.length := by
        cases ds with
        | nil => cases hem
        | cons _ _ => simp
      -- at
      have tm1 := k1.tm hb
      refine ⟨_, rfl, _, rfl, a, xs, rfl, .inr (SqT.of (tm1 _ _ ha)), b, _, rfl, hb1, by omega, by omega, fun r H2 r0 rl hb2 kp2 => ?_⟩
      -- way
      refine ⟨_, rfl, b, _, rfl, hb2, by decide, by decide, fun wy H3 _ _ hb3 kp3 => ?_⟩
      have k3 : Kp b H H3 := (k1.trans kp2).trans kp3
      have ha3 := k3.tm hb _ _ ha
      have hs3 := hs.kp k3 hb
      obtain ⟨x, dx, ex, eax, edx, tx⟩ := trAt hs3 r0 rl
      have hto := cut_to (xs := xs) r0 rl
      have hfr := cut_from (xs := xs) (r := r + 1) (by omega) (by omega)
      have hfr0 := cut_from (xs := xs) r0 (by omega)
      have er1 : (r + 1).toNat = r.toNat + 1 := by omega
      rw [er1] at hfr
      have mem_to : ∀ d ∈ ds.take r.toNat, d ∈ ds := fun d hd => List.mem_of_mem_take hd
      have mem_fr : ∀ j, ∀ d ∈ ds.drop j, d ∈ ds := fun j d hd => List.mem_of_mem_drop hd
      have hdx := List.mem_of_getElem? edx
      refine ⟨_, rfl, rfl, _, rfl, ite2 (fun _ => ?_) (fun _ => ?_)⟩
      · -- left out
        refine ⟨_, rfl, _, rfl, _, rfl, a, xs, rfl, ha3, fun p1 H4 s4 hp1 => ?_⟩
        refine ⟨_, rfl, _, rfl, _, _, rfl, rfl, _, rfl, a, xs, rfl, s4 _ _ ha3, fun p2 H5 s5 hp2 => ?_⟩
        rw [hto] at hp1
        rw [hfr] at hp2
        refine ⟨p1, p2, _, _, rfl, rfl, s5 _ _ hp1, hp2, ?_, fun p3 H6 s6 hp3 => ?_⟩
        · rw [List.length_take, List.length_drop, sz]; omega
        have s46 := (s4.trans s5).trans s6
        refine k _ (.tuple (ds.take r.toNat ++ ds.drop (r.toNat + 1))) H6 (Bag.stay hb3 s46) (k3.trans (Stay.kpb s46)) (.tup hp3 (((hs3.take _).app (hs3.drop _)).stay s46)) (small_t fun d hd => ?_) (ln_t.mpr ⟨?_, fun d hd => ?_⟩)
        · rcases List.mem_append.mp hd with z | z
          · exact smd d (mem_to d z)
          · exact smd d (mem_fr _ d z)
        · rw [List.length_append, List.length_take, List.length_drop]; omega
        · refine ln_mono (Nat.le_succ n) ?_
          rcases List.mem_append.mp hd with z | z
          · exact lnd.2 d (mem_to d z)
          · exact lnd.2 d (mem_fr _ d z)
      refine ⟨_, rfl, rfl, _, rfl, ite2 (fun _ => ?_) (fun _ => ?_)⟩
      · -- told twice
        refine ⟨_, rfl, _, rfl, _, rfl, a, xs, rfl, ha3, fun p1 H4 s4 hp1 => ?_⟩
        rw [hto] at hp1
        refine ⟨_, rfl, _, rfl, a, _, _, _, rfl, rfl, SqT.of (s4 _ _ ha3), eax, by show 1 ≤ sizeLine; decide, fun p2 hp2 => ?_⟩
        have s5 := (Stay.refl H4).new (o := .tup [x]) hp2
        refine ⟨p1, p2, _, _, rfl, rfl, s5 _ _ hp1, upd_same, ?_, fun p3 H6 s6 hp3 => ?_⟩
        · rw [List.length_take, sz]; show _ + 1 ≤ _; omega
        have s46 := (s4.trans s5).trans s6
        refine ⟨_, rfl, _, rfl, _, rfl, a, xs, rfl, s46 _ _ ha3, fun p4 H7 s7 hp4 => ?_⟩
        rw [hfr0] at hp4
        refine ⟨p3, p4, _, _, rfl, rfl, s7 _ _ hp3, hp4, ?_, fun p5 H8 s8 hp5 => ?_⟩
        · rw [List.length_append, List.length_take, List.length_drop, sz]; show _ + 1 + _ ≤ _; omega
        have s48 := (s46.trans s7).trans s8
        refine k _ (.tuple (ds.take r.toNat ++ [dx] ++ ds.drop r.toNat)) H8 (Bag.stay hb3 s48) (k3.trans (Stay.kpb s48)) (.tup hp5 ((((hs3.take _).app (.cons tx .nil)).app (hs3.drop _)).stay s48)) (small_t fun d hd => ?_) (ln_t.mpr ⟨?_, fun d hd => ?_⟩)
        · rcases List.mem_append.mp hd with z | z
          · rcases List.mem_append.mp z with z | z
            · exact smd d (mem_to d z)
            · obtain rfl : d = dx := by simpa using z
              exact smd d hdx
          · exact smd d (mem_fr _ d z)
        · rw [List.length_append, List.length_append, List.length_take, List.length_drop]; show _ + 1 + _ ≤ _; omega
        · refine ln_mono (Nat.le_succ n) ?_
          rcases List.mem_append.mp hd with z | z
          · rcases List.mem_append.mp z with z | z
            · exact lnd.2 d (mem_to d z)
            · obtain rfl : d = dx := by simpa using z
              exact lnd.2 d hdx
          · exact lnd.2 d (mem_fr _ d z)
      refine ⟨_, rfl, rfl, _, rfl, ite2 (fun _ => ?_) (fun _ => ?_)⟩
      · -- a list
        refine ⟨_, rfl, a, xs, rfl, .inr (SqT.of ha3), fun l hl => ?_⟩
        have s4 := (Stay.refl H3).new (o := .lst xs) hl
        have nlb : l ≠ b := fun z => by
          obtain ⟨c', d', e'⟩ := hb3
          rw [z, e'] at hl; cases hl
        exact k _ (.list ds) _ (Bag.stay hb3 s4) (k3.trans (Stay.kpb s4)) (.lst nlb upd_same (hs3.stay s4)) (small_l smd) (ln_l.mpr ⟨by omega, fun d hd => ln_mono (by omega) (lnd.2 d hd)⟩)
      · -- put otherwise
        refine ⟨_, rfl, _, rfl, _, rfl, a, xs, rfl, ha3, fun p1 H4 s4 hp1 => ?_⟩
        rw [hto] at hp1
        have hb4 := Bag.stay hb3 s4
        refine ⟨_, rfl, _, rfl, _, rfl, a, _, _, _, rfl, rfl, SqT.of (s4 _ _ ha3), eax, _, rfl, _, _, rfl, rfl, b, x, dx, deep - 1, n, ?_, by omega, hb4, tx.stay s4, smd dx hdx, lnd.2 dx hdx, hn3, hn50, fun x' dx' H5 hb5 kp5 tx' smx lnx => ?_⟩
        · show [V.ref b, x, V.int ((deep : Int) - 1)] = _
          have : ((deep : Int) - 1) = ((deep - 1 : Nat) : Int) := by omega
          rw [this]
        refine ⟨by show 1 ≤ sizeLine; decide, fun p2 hp2 => ?_⟩
        have s5 := (Stay.refl H5).new (o := .tup [x']) hp2
        have tm5 := kp5.tm hb4
        refine ⟨p1, p2, _, _, rfl, rfl, s5 _ _ (tm5 _ _ hp1), upd_same, ?_, fun p3 H6 s6 hp3 => ?_⟩
        · rw [List.length_take, sz]; show _ + 1 ≤ _; omega
        have s56 := s5.trans s6
        refine ⟨_, rfl, _, rfl, _, _, rfl, rfl, _, rfl, a, xs, rfl, s56 _ _ (tm5 _ _ (s4 _ _ ha3)), fun p4 H7 s7 hp4 => ?_⟩
        rw [hfr] at hp4
        refine ⟨p3, p4, _, _, rfl, rfl, s7 _ _ hp3, hp4, ?_, fun p5 H8 s8 hp5 => ?_⟩
        · rw [List.length_append, List.length_take, List.length_drop, sz]; show _ + 1 + _ ≤ _; omega
        have s58 := (s56.trans s7).trans s8
        have hs5 := (hs3.stay s4).kp kp5 hb4
        refine k _ (.tuple (ds.take r.toNat ++ [dx'] ++ ds.drop (r.toNat + 1))) H8 (Bag.stay hb5 s58) (((k3.trans (Stay.kpb s4)).trans kp5).trans (Stay.kpb s58)) (.tup hp5 ((((hs5.take _).app (.cons tx' .nil)).app (hs5.drop _)).stay s58)) (small_t fun d hd => ?_) (ln_t.mpr ⟨?_, fun d hd => ?_⟩)
        · rcases List.mem_append.mp hd with z | z
          · rcases List.mem_append.mp z with z | z
            · exact smd d (mem_to d z)
            · obtain rfl : d = dx' := by simpa using z
              exact smx
          · exact smd d (mem_fr _ d z)
        · rw [List.length_append, List.length_append, List.length_take, List.length_drop]; show _ + 1 + _ ≤ _; omega
        · rcases List.mem_append.mp hd with z | z
          · rcases List.mem_append.mp z with z | z
            · exact ln_mono (by omega) (lnd.2 d (mem_to d z))
            · obtain rfl : d = dx' := by simpa using z
              exact lnx
          · exact ln_mono (by omega) (lnd.2 d (mem_fr _ d z))
end
end K28

set_option Elab.async false
set_option linter.all false
set_option maxRecDepth 100000
set_option maxHeartbeats 4000000
namespace K28
open PySem L2 KG EX KM
section
variable {P : Program} {w : World} {K : PySem.W.Frag} {mg : Str → Option Value} {base : Heap}
abbrev NBt : List Str := ["bag", "hands", "goods", "rows", "far", "rare", "most", "row", "hand", "good", "some"]
theorem scBt : FnScope NBt ["bag"] (defScope (top 15)) := ⟨rfl, rfl, rfl, by decide +kernel, rfl, by decide +kernel, by decide +kernel⟩
theorem ok_bt {f fT : Addr} {fd dT : FuncData} (F : Fun K "_law_barter" "_law_barter" (top 15) f fd) (N : Nm mg) (T : Cal K mg P w base "_law_take" 1 ["bag", "many"] spTake fT dT) : FnOk P w K mg base CX0 2 f fd ["bag"] spBt := by
  refine F.ok scBt (fun vs H Q E h => ?_) (fun cdv A' outer s H vs Q E hr h => ?_)
  · obtain ⟨b, rfl, _⟩ := h; rfl
  · obtain ⟨b, rfl, hb, k⟩ := h
    refine ⟨_, pss_cons (ps_set (i := 1) scBt.nd rfl (Or.inl rfl) (pe_op op_add pe_int (pe_call T.ok hr rfl T.mg T.kp T.bd .nil pass0 (pa_cons (pv 0) (pa_cons (pe_ix ixL0 (pe_lst (pa_cons pe_int (pa_cons pe_int pa_nil))) (pe_call T.ok hr rfl T.mg T.kp T.bd .nil pass0 (pa_cons (pv 0) (pa_cons pe_int pa_nil))) (fun _ _ => rfl)) pa_nil)))))
      (pss_cons (ps_set (i := 2) scBt.nd rfl (Or.inl rfl) (pe_op op_add pe_int (pe_call T.ok hr rfl T.mg T.kp T.bd .nil pass0 (pa_cons (pv 0) (pa_cons (pe_ix ixL0 (pe_lst (pa_cons pe_int (pa_cons pe_int pa_nil))) (pe_call T.ok hr rfl T.mg T.kp T.bd .nil pass0 (pa_cons (pv 0) (pa_cons pe_int pa_nil))) (fun _ _ => rfl)) pa_nil)))))
      (pss_cons (ps_set (i := 3) scBt.nd rfl (Or.inl rfl) (pe_lst pa_nil))
      (pss_cons (ps_for PassesOwn.never rfl (piL0 (pe_lst (pa_cons (pe_lst (pa_cons pe_int (pa_cons pe_int pa_nil))) (pa_cons (pe_lst (pa_cons pe_int (pa_cons (pe_op op_add pe_int (pe_call T.ok hr rfl T.mg T.kp T.bd .nil pass0 (pa_cons (pv 0) (pa_cons pe_int pa_nil)))) pa_nil))) pa_nil)))) (pgLst0 (n := 2) rfl (pgs_cons (pg_name (i := 4) scBt.nd rfl (Or.inl rfl)) (pgs_cons (pg_name (i := 5) scBt.nd rfl (Or.inr rfl)) pgs_nil)))
        (pss_cons (ps_set (i := 6) scBt.nd rfl (Or.inr rfl) (pe_ix ixL0 (pe_lst (pa_cons pe_int (pa_cons (pv 4) pa_nil))) (pe_call T.ok hr rfl T.mg T.kp T.bd .nil pass0 (pa_cons (pv 0) (pa_cons pe_int pa_nil))) (fun _ _ => rfl)))
        (pss_cons (ps_set (i := 7) scBt.nd rfl (Or.inl rfl) (pe_lst pa_nil))
        (pss_cons (ps_for PassesOwn.never rfl (pi_range1 rfl N.range (pa_cons (pv 1) pa_nil)) (pg_name (i := 8) scBt.nd rfl (Or.inl rfl))
          (pss_cons (ps_setC (i := 10) (own := ["good"]) (cap := ["bag", "most"]) (ix := [0, 6]) scBt.nd rfl rfl (BlkOk.of (defScope (top 15)).names NBt) rfl (pi_range1 rfl N.range (pa_cons (pv 2) pa_nil))
            (fun C fp s H => ⟨pg_name (i := 0) (show List.Nodup (["good", "bag", "most"] : List Str) by decide +kernel) rfl (Or.inl rfl), pifs_nil, (pe_call T.ok hr rfl T.mg T.kp T.bd .nil pass0 (pa_cons (pv 1) (pa_cons (pv 2) pa_nil)))⟩))
          (pss_one (ps_expr (peBm0 PySem.F.plainAttrs_list PySem.F.slot_list_append PySem.F.type_list_append mt_append (pv 7) (pa_cons (pe_comp (own := ["one"]) (cap := ["bag", "rare"]) (ix := [0, 5]) (BlkOk.of (defScope (top 15)).names NBt) rfl (piL0 (pv 10))
            (fun C fp s H => ⟨pg_name (i := 0) (show List.Nodup (["one", "bag", "rare"] : List Str) by decide +kernel) rfl (Or.inl rfl), pifs_nil, pe_op op_mul (pv 0) (pe_callTy call_int1 (by rfl) N.int boot_int (pa_cons (pe_cmpR op_eq (pe_call T.ok hr rfl T.mg T.kp T.bd .nil pass0 (pa_cons (pv 1) (pa_cons (pv 2) pa_nil))) pe_int (nomark _)) pa_nil))⟩)) pa_nil))))))
        (pss_cons (ps_for PassesOwn.never rfl (pi_range1 rfl N.range (pa_cons (pv 1) pa_nil)) (pg_name (i := 8) scBt.nd rfl (Or.inl rfl))
          (pss_cons (ps_set (i := 9) scBt.nd rfl (Or.inr rfl) (pe_call T.ok hr rfl T.mg T.kp T.bd .nil pass0 (pa_cons (pv 0) (pa_cons (pv 2) pa_nil))))
          (pss_one (ps_asg (pe_callB (call_max2 rfl) (by rfl) N.max boot_max (pa_cons pe_int (pa_cons (pe_ix ixL0 (pe_ix ixL0 (pv 7) (pv 8) (fun _ _ => rfl)) (pv 9) (fun _ _ => rfl)) pa_nil))) (pg_sub (pe_ix ixL0 (pv 7) (pv 8) (fun _ _ => rfl)) (pv 9) set_list)))))
        (pss_cons (ps_for PassesOwn.never rfl (pi_range1 rfl N.range (pa_cons (pv 2) pa_nil)) (pg_name (i := 9) scBt.nd rfl (Or.inr rfl))
          (pss_cons (ps_set (i := 8) scBt.nd rfl (Or.inl rfl) (pe_call T.ok hr rfl T.mg T.kp T.bd .nil pass0 (pa_cons (pv 0) (pa_cons (pv 1) pa_nil))))
          (pss_one (ps_if (pt_cmpR op_eq (pe_callB (cSum0 rfl) (by rfl) N.sum boot_sum (pa_cons (pe_comp (own := ["one"]) (cap := ["good"]) (ix := [9]) (BlkOk.of (defScope (top 15)).names NBt) rfl (piL0 (pv 7))
              (fun C fp s H => ⟨pg_name (i := 0) (show List.Nodup (["one", "good"] : List Str) by decide +kernel) rfl (Or.inl rfl), pifs_nil, pe_ix ixL0 (pv 0) (pv 1) (fun _ _ => rfl)⟩)) pa_nil)) pe_int (nomark _))
            (pss_one (ps_asg (pe_op op_add pe_int (pe_call T.ok hr rfl T.mg T.kp T.bd .nil pass0 (pa_cons (pv 0) (pa_cons (pe_op op_sub (pv 6) pe_int) pa_nil)))) (pg_sub (pe_ix ixL0 (pv 7) (pv 8) (fun _ _ => rfl)) (pv 9) set_list))) pss_nil))))
        (pss_one (ps_expr (peBm0 PySem.F.plainAttrs_list PySem.F.slot_list_append PySem.F.type_list_append mt_append (pv 3) (pa_cons (pe_callTy cTup0 (by rfl) N.tuple boot_tuple (pa_cons (pe_comp (own := ["one"]) (cap := []) (ix := []) (BlkOk.of (defScope (top 15)).names NBt) rfl (piL0 (pv 7))
            (fun C fp s H => ⟨pg_name (i := 0) (show List.Nodup (["one"] : List Str) by decide +kernel) rfl (Or.inl rfl), pifs_nil, pe_callTy cTup0 (by rfl) N.tuple boot_tuple (pa_cons (pv 0) pa_nil)⟩)) pa_nil)) pa_nil))))))))))
      (pss_one (ps_ret (pe_tup (pa_cons (pe_ix ixL0 (pv 3) pe_int (fun _ _ => rfl)) (pa_cons (pe_ix ixL0 (pv 3) pe_int (fun _ _ => rfl)) pa_nil)))))))), ?_⟩
    -- hands
    refine ⟨_, rfl, by show 2 ≤ sizeLine; decide, fun p1 hp1 => ⟨_, rfl, b, _, rfl, hb.new hp1, by decide, by decide, fun r1 H1 r1a r1b hb1 kp1 => ?_⟩⟩
    obtain ⟨m1, em1, m1a, m1b⟩ := menu2 r1a r1b
    refine ⟨p1, _, _, _, rfl, rfl, SqL.of (kp1 p1 _ (hb.ne hp1).symm upd_same), em1, b, m1, rfl, hb1, m1a, by omega, fun u H2 u0 u1 hb2 kp2 => ⟨_, _, rfl, rfl, ?_⟩⟩
    have k2 : Kp b H H2 := (((Kp.refl b H).new hp1).trans kp1).trans kp2
    -- goods
    refine ⟨_, rfl, by show 2 ≤ sizeLine; decide, fun p3 hp3 => ⟨_, rfl, b, _, rfl, hb2.new hp3, by decide, by decide, fun r3 H3 r3a r3b hb3 kp3 => ?_⟩⟩
    obtain ⟨m3, em3, m3a, m3b⟩ := menu2 r3a r3b
    refine ⟨p3, _, _, _, rfl, rfl, SqL.of (kp3 p3 _ (hb2.ne hp3).symm upd_same), em3, b, m3, rfl, hb3, m3a, by omega, fun g H4 g0 g1 hb4 kp4 => ⟨_, _, rfl, rfl, ?_⟩⟩
    have k4 : Kp b H H4 := ((k2.new hp3).trans kp3).trans kp4
    obtain ⟨n, hn⟩ : ∃ n : Nat, 1 + u = (n : Int) := ⟨(1 + u).toNat, by omega⟩
    obtain ⟨c, hc⟩ : ∃ c : Nat, 1 + g = (c : Int) := ⟨(1 + g).toNat, by omega⟩
    dsimp only
    rw [hn, hc]
    have n1 : 1 ≤ n := by omega
    have n6 : n ≤ 6 := by omega
    have c1 : 1 ≤ c := by omega
    have c6 : c ≤ 6 := by omega
    -- rows
    refine ⟨by show 0 ≤ sizeLine; decide, fun pr hpr => ?_⟩
    have hHpr : H pr = none := k4.free hb hpr hb4
    have hb5 := hb4.new (o := .lst []) hpr
    have k5 := k4.new (o := .lst []) hpr
    have e5 : (upd H4 pr (.lst [])) pr = some (.lst []) := upd_same
    generalize upd H4 pr (.lst []) = H5 at hb5 k5 e5 ⊢
    -- the list of the loop
    refine ⟨by show 2 ≤ sizeLine; decide, fun l1 hl1 => ⟨_, rfl, b, _, rfl, hb5.new hl1, by decide, by decide, fun r6 H6 r6a r6b hb6 kp6 => ⟨_, _, rfl, rfl, by show 2 ≤ sizeLine; decide, fun l2 hl2 => ⟨by show 2 ≤ sizeLine; decide, fun lo hlo => ⟨lo, rfl, ⟨_, SqL.of upd_same⟩, ?_⟩⟩⟩⟩⟩
    have nb1 := hb5.ne hl1
    have npb : pr ≠ b := (hb.ne hHpr).symm
    have n1p : l1 ≠ pr := fun z => by rw [z, e5] at hl1; cases hl1
    have e61 : H6 l1 = some (.lst [.int 11, .int 2]) := kp6 l1 _ nb1.symm upd_same
    have e6p : H6 pr = some (.lst []) := kp6 pr _ npb (by rw [upd_ne n1p.symm]; exact e5)
    have n2p : l2 ≠ pr := fun z => by rw [z, e6p] at hl2; cases hl2
    have s7 := ((Stay.refl H6).new (o := .lst [.int 101, .int (1 + r6)]) hl2).new (o := .lst [.ref l1, .ref l2]) hlo
    have e72 : (upd (upd H6 l2 (.lst [.int 101, .int (1 + r6)])) lo (.lst [.ref l1, .ref l2])) l2 = some (.lst [.int 101, .int (1 + r6)]) := ((Stay.refl (upd H6 l2 (.lst [.int 101, .int (1 + r6)]))).new (o := .lst [.ref l1, .ref l2]) hlo) _ _ upd_same
    have e7o : (upd (upd H6 l2 (.lst [.int 101, .int (1 + r6)])) lo (.lst [.ref l1, .ref l2])) lo = some (.lst [.ref l1, .ref l2]) := upd_same
    have k7 : Kp b H (upd (upd H6 l2 (.lst [.int 101, .int (1 + r6)])) lo (.lst [.ref l1, .ref l2])) := ((k5.new hl1).trans kp6).trans (Stay.kpb s7)
    have hb7 := Bag.stay hb6 s7
    have e71 := s7 _ _ e61
    have e7p := s7 _ _ e6p
    have nop : lo ≠ pr := fun z => by rw [← z, e7o] at e7p; cases e7p
    generalize upd (upd H6 l2 (.lst [.int 101, .int (1 + r6)])) lo (.lst [.ref l1, .ref l2]) = H7 at e72 e7o k7 hb7 e71 e7p ⊢
    have n2b : l2 ≠ b := (hb6.ne hl2).symm
    clear s7 hlo hl2
    have n1b : l1 ≠ b := nb1.symm
    have nob : lo ≠ b := fun z => by rw [z] at e7o; obtain ⟨c1, c2, e⟩ := hb7; rw [e] at e7o; cases e7o
    refine for_list (xs := [.ref l1, .ref l2]) (fun i σ H' => (∃ y4 y5 y6 y7 y8 y9 y10, σ = [some (.ref b), some (.int n), some (.int c), some (.ref pr), y4, y5, y6, y7, y8, y9, y10]) ∧ Bag H' b ∧ Kp b H H' ∧ H' l1 = some (.lst [.int 11, .int 2]) ∧ H' l2 = some (.lst [.int 101, .int (1 + r6)]) ∧ H' lo = some (.lst [.ref l1, .ref l2]) ∧
        ∃ ts, H' pr = some (.lst ts) ∧ ts.length = i ∧ ∀ (j : Nat) t, ts[j]? = some t → ∃ a xs M, t = .ref a ∧ H' a = some (.tup xs) ∧ Rws H' xs M ∧ MOk n c (if j = 0 then 10 else 100) M ∧ (∀ i, i < n → RowP M c i) ∧ (∀ j, j < c → ColP M n j))
      ⟨⟨_, _, _, _, _, _, _, rfl⟩, hb7, k7, e71, e72, e7o, [], e7p, rfl, fun j t ht => by simp at ht⟩ (fun i σ H' _ z => SqL.of z.2.2.2.2.2.1) ?step ?fin
    case fin =>
      rintro σ H8 ⟨⟨y4, y5, y6, y7, y8, y9, y10, rfl⟩, hb8, k8, _, _, _, ts, hts, htl, hall⟩
      match ts, htl with
      | [t0, t1], _ =>
      obtain ⟨a0, x0, M0, rfl, ha0, R0, O0, rp0, cp0⟩ := hall 0 t0 rfl
      obtain ⟨a1, x1, M1, rfl, ha1, R1, O1, rp1, cp1⟩ := hall 1 t1 rfl
      refine ⟨_, rfl, pr, _, _, _, rfl, rfl, SqL.of hts, rfl, _, rfl, pr, _, _, _, rfl, rfl, SqL.of hts, rfl, by show 2 ≤ sizeLine; decide, fun p hp => ?_⟩
      have s9 := (Stay.refl H8).new (o := .tup [.ref a0, .ref a1]) hp
      have hm0 : ∀ r ∈ M0, r.length = c := fun r hr => by
        obtain ⟨i, hi, e⟩ := List.getElem_of_mem hr
        have := O0.row i (by rw [← O0.len]; exact hi)
        rw [getD_of (List.getElem?_eq_getElem hi), e] at this; exact this
      have hm1 : ∀ r ∈ M1, r.length = c := fun r hr => by
        obtain ⟨i, hi, e⟩ := List.getElem_of_mem hr
        have := O1.row i (by rw [← O1.len]; exact hi)
        rw [getD_of (List.getElem?_eq_getElem hi), e] at this; exact this
      refine k p a0 a1 x0 x1 M0 M1 c _ (hb8.new hp) (k8.new hp) ⟨upd_same, s9 _ _ ha0, s9 _ _ ha1, R0.keep s9.tm, R1.keep s9.tm, by rw [O0.len, O1.len], by rw [O0.len]; exact n1, by rw [O0.len]; exact n6, c1, c6, hm0, hm1⟩ ?_
      rw [O0.len]
      exact ⟨O0, O1, rp0, rp1, cp0, cp1⟩
    case step =>
      rintro i x σ H8 hx ⟨⟨y4, y5, y6, y7, y8, y9, y10, rfl⟩, hb8, k8, e81, e82, e8o, ts, hts, htl, hall⟩
      obtain ⟨lx, far, rare, rfl, hlx, hfar, hfar2, hra, hrb⟩ : ∃ (lx : Addr) (far rare : Int), x = .ref lx ∧ H8 lx = some (.lst [.int far, .int rare]) ∧ far - 1 = (if i = 0 then 10 else 100) ∧ 11 ≤ far ∧ 1 ≤ rare ∧ rare ≤ 4 := by
        match i, hx with
        | 0, hx => exact ⟨l1, 11, 2, by simpa using hx.symm, e81, rfl, by decide, by decide, by decide⟩
        | 1, hx => exact ⟨l2, 101, 1 + r6, by simpa using hx.symm, e82, rfl, by decide, by omega, by omega⟩
      have hfar3 : far ≤ 101 := by split at hfar <;> omega
      refine ⟨lx, _, rfl, SqL.of hlx, rfl, _, _, rfl, _, _, rfl, rfl, ?_⟩
      -- most
      refine ⟨_, rfl, by show 2 ≤ sizeLine; decide, fun pm hpm => ⟨_, rfl, b, _, rfl, hb8.new hpm, by decide, by decide, fun r9 H9 r9a r9b hb9 kp9 => ?_⟩⟩
      obtain ⟨m, em, m2, mf⟩ := menuF (far := far) r9a r9b (by omega)
      refine ⟨pm, _, _, _, rfl, rfl, SqL.of (kp9 pm _ (hb8.ne hpm).symm upd_same), em, ?_⟩
      have k89 : Kp b H8 H9 := ((Kp.refl b H8).new hpm).trans kp9
      clear kp9
      -- row
      refine ⟨by show 0 ≤ sizeLine; decide, fun pw hpw => ?_⟩
      have hbA := hb9.new (o := .lst []) hpw
      have kA := (Kp.refl b H9).new (o := .lst []) hpw
      have mA : Mat H9 (upd H9 pw (.lst [])) pw [] := Mat.nil upd_same hpw
      generalize upd H9 pw (.lst []) = HA at hbA kA mA ⊢
      refine ⟨_, rfl, (n : Int), rfl, by omega, by omega, ?_⟩
      rw [Int.toNat_natCast]
      refine for_range (fun j σ H' => (∃ z8 z9 z10, σ = [some (.ref b), some (.int n), some (.int c), some (.ref pr), some (.int far), some (.int rare), some (.int m), some (.ref pw), z8, z9, z10]) ∧ Bag H' b ∧ Kp b H9 H' ∧ ∃ M, Mat H9 H' pw M ∧ MOk j c (far - 1) M)
        ⟨⟨_, _, _, rfl⟩, hbA, kA, [], mA, ⟨rfl, fun i hi => absurd hi (by omega), fun i j hi => absurd hi (by omega)⟩⟩ ?s1 ?f1
      case s1 =>
        rintro j σ HB hj ⟨⟨z8, z9, z10, rfl⟩, hbB, kB, M, mB, oB⟩
        refine ⟨_, rfl, (c : Int), rfl, by omega, by omega, fun a1 ha1 => ?_⟩
        rw [Int.toNat_natCast]
        refine comp_bag hbB ha1 (by omega) (fun _ v => ∃ x : Int, v = .int x ∧ 0 ≤ x ∧ x ≤ far - 1) (fun _ _ _ _ h => h) (fun i H' hi hb' kp' Z hZ => ?_) (fun ys HC hbC kpC hlC hrC hyC => ?_)
        · exact ⟨_, rfl, _, rfl, b, m, rfl, hb', by omega, by omega, fun r H5 p0 p1 hb5 kp5 => hZ _ _ hb5 kp5 ⟨r, rfl, p0, by omega⟩⟩
        obtain ⟨ns, rfl, hns⟩ := ints_of hrC
        rw [List.length_map] at hlC
        have mC := mB.kp hb9 kpC
        obtain ⟨xs, hxs, hxl, _⟩ := mC.list
        refine ⟨_, rfl, .inl ⟨rfl, _, SqL.of hxs⟩, _, rfl, a1, rfl, ⟨_, SqL.of hyC⟩, fun a2 ha2 => ?_⟩
        have nab : a1 ≠ b := fun z => by obtain ⟨c1, c2, e⟩ := hbB; rw [z, e] at ha1; cases ha1
        refine comp_bagL hbC ha2 (by rw [List.length_map]; omega) hyC nab (fun _ v => ∃ x : Int, v = .int x ∧ 0 ≤ x ∧ x ≤ far - 1) (fun i x H' hxi hb' kp' Z hZ => ?_) (fun ys HD hbD kpD hlD hrD hyD => ?_)
        · obtain ⟨hi, rfl⟩ := ints_get hxi
          have hx0 := hns _ (List.getElem_mem hi)
          have hxd : ns.getD i 0 = ns[i] := getD_of (List.getElem?_eq_getElem hi)
          rw [hxd]
          refine ⟨_, rfl, _, rfl, _, rfl, b, rare, rfl, hb', by omega, by omega, fun r H5 p0 p1 hb5 kp5 => ⟨rfl, .inr ⟨_, rfl, _, _, rfl, rfl, .inr ⟨by split <;> omega, by split <;> omega⟩, hZ _ _ hb5 kp5 ⟨_, rfl, ?_, ?_⟩⟩⟩⟩
          · split <;> omega
          · split <;> omega
        obtain ⟨ms, rfl, hms⟩ := ints_of (R := fun x => 0 ≤ x ∧ x ≤ far - 1) fun y hy => by
          obtain ⟨i, hi, e⟩ := List.getElem_of_mem hy
          obtain ⟨x, hx⟩ := hrD i y (by rw [List.getElem?_eq_getElem hi, e])
          exact ⟨x, hx⟩
        have hmsl : ms.length = c := by rw [List.length_map, List.length_map] at hlD; omega
        obtain ⟨zs, hzs, hzl, mE⟩ := mC.push (c := a2) (r := ms) ha2 (kB.trans kpC |>.free hb9 ha2 hbC) (fun a o hn e => kpD a o (hb9.ne hn).symm e) hyD
        refine ⟨pw, zs, .ref a2, rfl, rfl, hzs, by rw [hzl, oB.len, sz]; omega, ⟨_, _, _, rfl⟩, hbD.acc (hb9.ne mB.free), ((kB.trans kpC).trans kpD).acc mB.free, _, mE, ?_⟩
        have eold : ∀ i, i < j → (M ++ [ms]).getD i [] = M.getD i [] := fun i hi => by simp [List.getD, List.getElem?_append_left (show i < M.length by rw [oB.len]; exact hi)]
        have enew : (M ++ [ms]).getD j [] = ms := by rw [← oB.len]; simp [List.getD]
        refine ⟨by rw [List.length_append, oB.len]; rfl, fun i hi => ?_, fun i j' hi hj' => ?_⟩
        · by_cases z : i < j
          · rw [eold i z]; exact oB.row i z
          · obtain rfl : i = j := by omega
            rw [enew]; exact hmsl
        · unfold ent
          by_cases z : i < j
          · rw [eold i z]; exact oB.bd i j' z hj'
          · obtain rfl : i = j := by omega
            rw [enew, show ms.getD j' 0 = ms[j']'(by omega) from getD_of (List.getElem?_eq_getElem (by omega))]
            exact hms _ (List.getElem_mem _)
      case f1 =>
      rintro σ HB ⟨⟨z8, z9, z10, rfl⟩, hbB, kB, M, mB, oB⟩
      -- each hand has something
      refine ⟨_, rfl, (n : Int), rfl, by omega, by omega, ?_⟩
      rw [Int.toNat_natCast]
      refine for_range (fun j σ H' => (∃ z8 z9 z10, σ = [some (.ref b), some (.int n), some (.int c), some (.ref pr), some (.int far), some (.int rare), some (.int m), some (.ref pw), z8, z9, z10]) ∧ Bag H' b ∧ Kp b H9 H' ∧ ∃ M, Mat H9 H' pw M ∧ MOk n c (far - 1) M ∧ ∀ i, i < j → RowP M c i)
        ⟨⟨_, _, _, rfl⟩, hbB, kB, M, mB, oB, fun i hi => absurd hi (by omega)⟩ ?s2 ?f2
      case s2 =>
        clear mB oB M kB hbB
        rintro j σ HC hj ⟨⟨z8, z9, z10, rfl⟩, hbC, kC, M, mC, oC, rp⟩
        rw [Int.zero_add]
        refine ⟨_, rfl, _, rfl, b, (c : Int), rfl, hbC, by omega, by omega, fun r HD r0 r1 hbD kpD => ?_⟩
        have mD := mC.kp hb9 kpD
        obtain ⟨xs, a, hxs, hxl, ea, _, ha, hfa, hset⟩ := mD.row (i := j) (by rw [oC.len]; exact hj)
        have hrl := oC.row j hj
        obtain ⟨eb, ex, _⟩ := atI_ints (ns := M.getD j []) (r := r) r0 (by rw [hrl]; exact r1)
        obtain ⟨q0, rfl⟩ : ∃ q : Nat, r = (q : Int) := ⟨r.toNat, by omega⟩
        rw [Int.toNat_natCast] at eb ex
        refine ⟨_, rfl, _, rfl, pw, _, _, _, rfl, rfl, SqL.of hxs, ea, _, rfl, a, _, _, _, rfl, rfl, SqL.of ha, eb, _, _, rfl, ?_⟩
        refine ⟨_, rfl, _, rfl, pw, _, _, _, rfl, rfl, SqL.of hxs, ea, _, rfl, a, _, _, q0, rfl, rfl, ha, ex, ?_⟩
        have hbd := oC.bd j q0 hj (by omega)
        have hv : ent M j q0 = (M.getD j []).getD q0 0 := rfl
        have es : ((M.getD j []).map V.int).set q0 (V.int (if (M.getD j []).getD q0 0 > 1 then (M.getD j []).getD q0 0 else 1)) = ((M.getD j []).set q0 (if (M.getD j []).getD q0 0 > 1 then (M.getD j []).getD q0 0 else 1)).map V.int := by rw [List.map_set]
        rw [es]
        refine ⟨⟨_, _, _, rfl⟩, hbD.acc (hb9.ne hfa), (kC.trans kpD).acc hfa, put2 M j q0 (if (M.getD j []).getD q0 0 > 1 then (M.getD j []).getD q0 0 else 1), hset _, oC.put hj (by omega) (by split <;> omega) (by rw [← hv]; split <;> omega), fun i hi => RowP.put oC hj (by omega) (by split <;> omega) ?_⟩
        by_cases z : i = j
        · exact .inl z
        · exact .inr (rp i (by omega))
      case f2 =>
      clear mB oB M kB hbB
      rintro σ HB ⟨⟨z8, z9, z10, rfl⟩, hbB, kB, M, mB, oB, rp⟩
      -- each good has something
      refine ⟨_, rfl, (c : Int), rfl, by omega, by omega, ?_⟩
      rw [Int.toNat_natCast]
      refine for_range (fun j σ H' => (∃ z8 z9 z10, σ = [some (.ref b), some (.int n), some (.int c), some (.ref pr), some (.int far), some (.int rare), some (.int m), some (.ref pw), z8, z9, z10]) ∧ Bag H' b ∧ Kp b H9 H' ∧ ∃ M, Mat H9 H' pw M ∧ MOk n c (far - 1) M ∧ (∀ i, i < n → RowP M c i) ∧ ∀ i, i < j → ColP M n i)
        ⟨⟨_, _, _, rfl⟩, hbB, kB, M, mB, oB, rp, fun i hi => absurd hi (by omega)⟩ ?s3 ?f3
      case s3 =>
        clear mB oB M kB hbB rp
        rintro j σ HC hj ⟨⟨z8, z9, z10, rfl⟩, hbC, kC, M, mC, oC, rp, cp⟩
        rw [Int.zero_add]
        refine ⟨_, rfl, _, rfl, b, (n : Int), rfl, hbC, by omega, by omega, fun r HD r0 r1 hbD kpD => ?_⟩
        have mD := mC.kp hb9 kpD
        obtain ⟨q0, rfl⟩ : ∃ q : Nat, r = (q : Int) := ⟨r.toNat, by omega⟩
        obtain ⟨xs, hxs, hxl, hxr⟩ := mD.list
        refine ⟨_, rfl, pw, rfl, ⟨_, SqL.of hxs⟩, fun a1 ha1 => ?_⟩
        refine pr_list (xs := xs) (fun _ => true) (fun i => V.int (ent M i j)) ha1 (by rw [hxl, oC.len]; omega) hxs (fun i x H' Z _ _ h => h H' (Stay.refl H')) (fun i x H' Z hx _ st h => ?_) (fun HE sE hyE => ?_)
        · obtain ⟨a, rfl, _, ha⟩ := hxr i x hx
          have hi : i < n := by rw [← oC.len, ← hxl]; exact (List.getElem?_eq_some_iff.mp hx).1
          have hrl := oC.row i hi
          obtain ⟨eb, _, _⟩ := atI_ints (ns := M.getD i []) (r := (j : Int)) (by omega) (by rw [hrl]; omega)
          rw [Int.toNat_natCast] at eb
          exact ⟨_, rfl, _, rfl, a, _, _, _, rfl, rfl, SqL.of (st _ _ ha), eb, h H' (Stay.refl H')⟩
        have ey : ((List.range xs.length).filter fun _ => true).map (fun i => V.int (ent M i j)) = ((List.range n).map fun i => ent M i j).map V.int := by
          rw [hxl, oC.len, List.map_map, List.filter_eq_self.mpr (fun _ _ => rfl)]; rfl
        rw [ey] at hyE
        refine ⟨a1, _, rfl, .inl (SqL.of hyE), rfl, _, rfl, ?_⟩
        have mE := mD.stay sE
        have kE := (kC.trans kpD).trans (Stay.kpb sE)
        have hbE := Bag.stay hbD sE
        obtain ⟨_, hsum⟩ := sum_pos (ns := (List.range n).map fun i => ent M i j) fun x hx => by
          obtain ⟨i, hi, rfl⟩ := List.mem_map.mp hx
          exact (oC.bd i j (List.mem_range.mp hi) hj).1
        refine ite2 (fun hz => ?_) (fun hz => ?_)
        · refine ⟨_, rfl, _, rfl, _, _, rfl, rfl, b, m - 1, rfl, hbE, by omega, by omega, fun v HF v0 v1 hbF kpF => ⟨_, _, rfl, rfl, ?_⟩⟩
          have mF := mE.kp hb9 kpF
          obtain ⟨xs, a, hxs, hxl, ea, _, ha, hfa, hset⟩ := mF.row (i := q0) (by rw [oC.len]; omega)
          have hrl := oC.row q0 (by omega)
          obtain ⟨_, ex, _⟩ := atI_ints (ns := M.getD q0 []) (r := (j : Int)) (by omega) (by rw [hrl]; omega)
          rw [Int.toNat_natCast] at ex
          refine ⟨_, rfl, _, rfl, pw, _, _, _, rfl, rfl, SqL.of hxs, ea, _, rfl, a, _, _, j, rfl, rfl, ha, ex, ?_⟩
          have es : ((M.getD q0 []).map V.int).set j (V.int (1 + v)) = ((M.getD q0 []).set j (1 + v)).map V.int := by rw [List.map_set]
          rw [es]
          refine ⟨⟨_, _, _, rfl⟩, hbF.acc (hb9.ne hfa), (kE.trans kpF).acc hfa, put2 M q0 j (1 + v), hset _, oC.put (by omega) hj (by omega) (by omega), fun i hi => RowP.put oC (by omega) hj (by omega) (.inr (rp i hi)), fun i hi => ColP.put oC (by omega) hj (by omega) ?_⟩
          by_cases z : i = j
          · exact .inl z
          · exact .inr (cp i (by omega))
        · refine ⟨⟨_, _, _, rfl⟩, hbE, kE, M, mE, oC, rp, fun i hi => ?_⟩
          by_cases z : i = j
          · subst z
            obtain ⟨x, hx, hp⟩ := hsum (fun e => hz (by rw [e]; rfl))
            obtain ⟨i', hi', rfl⟩ := List.mem_map.mp hx
            exact ⟨i', List.mem_range.mp hi', hp⟩
          · exact cp i (by omega)
      case f3 =>
      clear mB oB M kB hbB rp
      rintro σ HB ⟨⟨z8, z9, z10, rfl⟩, hbB, kB, M, mB, oB, rp, cp⟩
      -- as tuples
      have k8B : Kp b H8 HB := k89.trans kB
      have htsB := k8B _ _ npb hts
      obtain ⟨xs, hxs, hxl, hxr⟩ := mB.list
      refine ⟨_, rfl, .inl ⟨rfl, _, SqL.of htsB⟩, _, rfl, pw, rfl, ⟨_, SqL.of hxs⟩, fun a1 ha1 => ?_⟩
      refine comp_tups ha1 hxs hxl (by rw [oB.len]; omega) (fun i x hx => by obtain ⟨a, e, _, ha⟩ := hxr i x hx; exact ⟨a, e, ha⟩) (fun a ns H' Z ha hZ => ⟨_, rfl, a, _, rfl, .inl ⟨SqL.of ha, hZ⟩⟩) (fun ys HC sC rC hyC => ?_)
      refine ⟨a1, _, rfl, .inl ⟨SqL.of hyC, fun l hl => ?_⟩⟩
      have sD := sC.new (o := .tup ys) hl
      have eD : (upd HC l (.tup ys)) l = some (.tup ys) := upd_same
      have rD := rC.keep ((Stay.refl HC).new (o := .tup ys) hl).tm
      generalize upd HC l (.tup ys) = HD at sD eD rD ⊢
      have k8D := k8B.trans (Stay.kpb sD)
      have hbD := Bag.stay hbB sD
      have htsD := sD _ _ htsB
      refine ⟨pr, ts, .ref l, rfl, rfl, htsD, by rw [htl, sz]; have := (List.getElem?_eq_some_iff.mp hx).1; simp at this; omega, ⟨_, _, _, _, _, _, _, rfl⟩, hbD.acc npb.symm, (k8.trans k8D).acc hHpr, ?_, ?_, ?_, ts ++ [.ref l], upd_same, by rw [List.length_append, htl]; rfl, fun j t ht => ?_⟩
      · rw [upd_ne n1p]; exact k8D _ _ n1b e81
      · rw [upd_ne n2p]; exact k8D _ _ n2b e82
      · rw [upd_ne nop]; exact k8D _ _ nob e8o
      have tm : Tm HD (upd HD pr (.lst (ts ++ [.ref l]))) := Tm.lst htsD
      rcases Nat.lt_or_ge j ts.length with z | z
      · rw [List.getElem?_append_left z] at ht
        obtain ⟨a, xs', M', e, h1, h2, h3⟩ := hall j t ht
        have tm8 := (k8D.tm hb8).trans tm
        exact ⟨a, xs', M', e, tm8 _ _ h1, h2.keep tm8, h3⟩
      · have ej : j = ts.length := by have := (List.getElem?_eq_some_iff.mp ht).1; simp at this; omega
        subst ej
        have et : t = .ref l := by simpa using ht.symm
        subst et
        refine ⟨l, ys, M, rfl, tm _ _ eD, rD.keep tm, ?_, rp, cp⟩
        rw [htl, ← hfar]; exact oB
end
end K28

set_option Elab.async false
set_option linter.all false
set_option maxRecDepth 100000
set_option maxHeartbeats 4000000
namespace K28
open PySem L2 KG EX KM
section
variable {P : Program} {w : World} {K : PySem.W.Frag} {mg : Str → Option Value} {base : Heap}
theorem scRow : FnScope ["thing", "most"] ["thing", "most"] (defScope (top 9)) := ⟨rfl, rfl, rfl, by decide +kernel, rfl, by decide +kernel, by decide +kernel⟩
theorem ok_row {f fW : Addr} {fd dW : FuncData} {tk : Tok} (F : Fun K "is_row" "is_row" (top 9) f fd) (N : Nm mg) (Z : IsK K) (hc : mg "MOST_GOODS" = some (.int 6 tk)) (W : Cal K mg P w base "is_whole" 1 ["thing"] (spT isWhole) fW dW) : FnOk P w K mg base CX0 2 f fd ["thing", "most"] spRowM := by
  refine F.ok scRow (fun vs H Q E h => ?_) (fun cdv A outer s H vs Q E hr h => ?_)
  · obtain ⟨b, v, d, most, rfl, _⟩ := h; rfl
  · obtain ⟨b, v, d, most, rfl, hT, k⟩ := h
    refine ⟨_, pss_cons (ps_if (PW.pt (pw_or (pt_not (pt_val (pIsi K (pv 0) rfl N.isinstance rfl N.tuple boot_tuple boot_isinstance))) (pw_or1 (pt_not (pt_chain op_le op_le pe_int (pe_callB cLen0 (by rfl) N.len PySem.boot_len (pa_cons (pv 0) pa_nil)) (pe_glob (v := .int 6) rfl hc ⟨_, rfl⟩)))))) (pss_one (ps_ret pe_bl)) pss_nil)
      (pss_one (ps_ret (pe_callB (cAll0 rfl) (by rfl) N.all boot_all (pa_cons (pe_comp (own := ["number"]) (cap := ["most"]) (ix := [1]) (BlkOk.of (defScope (top 9)).names ["thing", "most"]) rfl (piT0 (pv 0))
        (fun C fp s H => ⟨pg_name (i := 0) (show List.Nodup (["number", "most"] : List Str) by decide +kernel) rfl (Or.inl rfl), pifs_nil, pe_and (pe_call W.ok hr rfl W.mg W.kp W.bd .nil pass0 (pa_cons (pv 0) pa_nil)) (pe_one (pe_chain op_le op_le pe_int (pv 0) (pv 1)))⟩)) pa_nil)))), ?_⟩
    obtain ⟨t1, ty1, e1⟩ := ist Z hT
    refine ⟨_, rfl, t1, _, ty1, e1, _, rfl, ?_⟩
    have hk := k H (Stay.refl H)
    rcases tupCase hT with hn | ⟨a, xs, ds, rfl, rfl, ha, hs⟩
    · rw [hn]
      rw [dec_f fun ⟨r, e, _⟩ => by rw [e] at hn; cases hn] at hk
      exact iteT (iteT hk)
    refine iteF ?_
    have hlen := hs.len
    refine ⟨_, rfl, a, xs, rfl, .inr (SqT.of ha), _, _, rfl, rfl, _, rfl, ?_⟩
    have no : ¬ (1 ≤ ds.length ∧ ds.length ≤ 6) → Q (.bl false) H := fun hz => by
      rw [dec_f fun ⟨r, e, h1, h2, _⟩ => by unfold rowD at e; injection e with e; rw [e, List.length_map] at hz; exact hz ⟨h1, h2⟩] at hk
      exact hk
    by_cases h1 : (1 : Int) ≤ (xs.length : Int)
    case neg =>
      rw [decide_eq_false h1]
      exact iteF ⟨_, rfl, iteT (no (by omega))⟩
    rw [decide_eq_true h1]
    refine iteT ⟨_, _, rfl, rfl, _, rfl, ?_⟩
    by_cases h2 : (xs.length : Int) ≤ 6
    case neg =>
      rw [decide_eq_false h2]
      exact iteT (no (by omega))
    rw [decide_eq_true h2]
    refine iteF ?_
    refine ⟨_, rfl, a, rfl, ⟨xs, SqT.of ha⟩, fun acc hacc => ?_⟩
    refine comp_bools (within 0 most) hs ha hacc (by omega) (fun x d H' st hx _ Z hZ => ⟨_, rfl, b, x, d, rfl, hx, fun H5 s5 => ⟨_, rfl, ?_⟩⟩) (fun H' st hy => ?_)
    · have hz := hZ H5 s5
      rcases intCase hx with hn | ⟨i, rfl, rfl⟩
      · rw [hn]; rw [within_no hn] at hz
        exact iteF hz
      · refine iteT ⟨_, rfl, _, _, rfl, rfl, _, rfl, ?_⟩
        have hk' : Z (.bl (decide ((0 : Int) ≤ i) && decide (i ≤ most))) H5 := hz
        cases h1 : decide ((0 : Int) ≤ i) with
        | true => rw [h1] at hk'; exact iteT ⟨_, rfl, _, _, rfl, rfl, hk'⟩
        | false => rw [h1] at hk'; exact iteF hk'
    refine ⟨acc, _, rfl, .inl (SqL.of hy), plain_bools, ?_⟩
    rw [all_bools, ← rowP_iff (by omega) (by omega)]
    exact k H' st
theorem scTab : FnScope ["thing", "most"] ["thing", "most"] (defScope (top 8)) := ⟨rfl, rfl, rfl, by decide +kernel, rfl, by decide +kernel, by decide +kernel⟩
theorem ok_tab {f fW : Addr} {fd dW : FuncData} {tk : Tok} (F : Fun K "is_table" "is_table" (top 8) f fd) (N : Nm mg) (Z : IsK K) (hc : mg "MOST_BUYERS" = some (.int 6 tk)) (W : Cal K mg P w base "is_row" 2 ["thing", "most"] spRowM fW dW) : FnOk P w K mg base CX0 3 f fd ["thing", "most"] spTab := by
  refine F.ok scTab (fun vs H Q E h => ?_) (fun cdv A outer s H vs Q E hr h => ?_)
  · obtain ⟨b, v, d, most, rfl, _⟩ := h; rfl
  · obtain ⟨b, v, d, most, rfl, hT, k⟩ := h
    refine ⟨_, pss_cons (ps_if (PW.pt (pw_or (pt_not (pt_val (pIsi K (pv 0) rfl N.isinstance rfl N.tuple boot_tuple boot_isinstance))) (pw_or1 (pt_not (pt_chain op_le op_le pe_int (pe_callB cLen0 (by rfl) N.len PySem.boot_len (pa_cons (pv 0) pa_nil)) (pe_glob (v := .int 6) rfl hc ⟨_, rfl⟩)))))) (pss_one (ps_ret pe_bl)) pss_nil)
      (pss_one (ps_ret (pe_and (pe_callB (cAll0 rfl) (by rfl) N.all boot_all (pa_cons (pe_comp (own := ["row"]) (cap := ["most"]) (ix := [1]) (BlkOk.of (defScope (top 8)).names ["thing", "most"]) rfl (piT0 (pv 0))
        (fun C fp s H => ⟨pg_name (i := 0) (show List.Nodup (["row", "most"] : List Str) by decide +kernel) rfl (Or.inl rfl), pifs_nil, pe_call W.ok hr rfl W.mg W.kp W.bd .nil pass0 (pa_cons (pv 0) (pa_cons (pv 1) pa_nil))⟩)) pa_nil))
        (pe_one (pe_callB (cAll0 rfl) (by rfl) N.all boot_all (pa_cons (pe_comp (own := ["row"]) (cap := ["thing"]) (ix := [0]) (BlkOk.of (defScope (top 8)).names ["thing", "most"]) rfl (piT0 (pv 0))
        (fun C fp s H => ⟨pg_name (i := 0) (show List.Nodup (["row", "thing"] : List Str) by decide +kernel) rfl (Or.inl rfl), pifs_nil, pe_cmpR op_eq (pe_callB cLen0 (by rfl) N.len PySem.boot_len (pa_cons (pv 0) pa_nil)) (pe_callB cLen0 (by rfl) N.len PySem.boot_len (pa_cons (pe_ix ixT0 (pv 1) pe_int (fun _ _ => rfl)) pa_nil)) (nomark _)⟩)) pa_nil)))))), ?_⟩
    obtain ⟨t1, ty1, e1⟩ := ist Z hT
    refine ⟨_, rfl, t1, _, ty1, e1, _, rfl, ?_⟩
    have hk := k H (Stay.refl H)
    rcases tupCase hT with hn | ⟨a, xs, ds, rfl, rfl, ha, hs⟩
    · rw [hn]
      rw [dec_f fun h => by rw [tab_tab h] at hn; cases hn] at hk
      exact iteT (iteT hk)
    refine iteF ?_
    have hlen := hs.len
    refine ⟨_, rfl, a, xs, rfl, .inr (SqT.of ha), _, _, rfl, rfl, _, rfl, ?_⟩
    have no : ¬ (1 ≤ ds.length ∧ ds.length ≤ 6) → Q (.bl false) H := fun hz => by
      rw [dec_f fun ⟨M, g, e, h1, h2, _⟩ => by unfold tbl at e; injection e with e; rw [e, List.length_map] at hz; exact hz ⟨h1, h2⟩] at hk
      exact hk
    by_cases h1 : (1 : Int) ≤ (xs.length : Int)
    case neg =>
      rw [decide_eq_false h1]
      exact iteF ⟨_, rfl, iteT (no (by omega))⟩
    rw [decide_eq_true h1]
    refine iteT ⟨_, _, rfl, rfl, _, rfl, ?_⟩
    by_cases h2 : (xs.length : Int) ≤ 6
    case neg =>
      rw [decide_eq_false h2]
      exact iteT (no (by omega))
    rw [decide_eq_true h2]
    refine iteF ?_
    refine ⟨_, rfl, a, rfl, ⟨xs, SqT.of ha⟩, fun acc hacc => ?_⟩
    refine comp_bools (fun d => dec (rowP most d)) hs ha hacc (by omega) (fun x d H' st hx _ Z hZ => ⟨_, rfl, _, rfl, b, x, d, most, rfl, hx, hZ⟩) (fun H' st hy => ?_)
    refine ⟨acc, _, rfl, .inl (SqL.of hy), plain_bools, _, rfl, ?_⟩
    rw [all_bools]
    cases hall : ds.all fun d => dec (rowP most d) with
    | false =>
      have hk' := k H' st
      rw [dec_f fun ⟨M, g, e, _, _, g1, g6, hM⟩ => by
        unfold tbl at e; injection e with e
        rw [e, List.all_map] at hall
        obtain ⟨r, hr', hn⟩ := List.all_eq_false.mp hall
        exact hn (dec_t ⟨r, rfl, by rw [(hM r hr').1]; exact g1, by rw [(hM r hr').1]; exact g6, (hM r hr').2⟩)] at hk'
      exact iteF hk'
    | true =>
      obtain ⟨M, rfl, hM⟩ := rows_all hall
      rw [List.length_map] at hlen
      have rw0 := tr_rws hs
      refine iteT ⟨_, rfl, a, rfl, ⟨xs, SqT.of (st _ _ ha)⟩, fun acc2 hacc2 => ?_⟩
      obtain ⟨a0, _, ea0, ha0⟩ := rws_row rw0 (i := 0) (by omega)
      refine pr_tup (xs := xs) (fun _ => true) (fun i => V.bl (decide ((M.getD i []).length = (M.getD 0 []).length))) hacc2 (by omega) (st _ _ ha) (fun i x H2 Z _ _ h => h H2 (Stay.refl H2)) (fun i x H2 Z hx _ s2 h => ?_) (fun H2 s2 h2 => ?_)
      · obtain ⟨hi, c, rfl, hc'⟩ := rws_at rw0 hx
        have st2 := st.trans s2
        refine ⟨_, rfl, c, _, rfl, .inr (SqT.of (st2 _ _ hc')), _, rfl, a, _, _, _, rfl, rfl, SqT.of (st2 _ _ ha), ea0, a0, _, rfl, .inr (SqT.of (st2 _ _ ha0)), rfl, ?_⟩
        rw [List.length_map, List.length_map]
        have e : decide (V.int ((M.getD i []).length : Int) = V.int ((M.getD 0 []).length : Int)) = decide ((M.getD i []).length = (M.getD 0 []).length) := by
          rw [decide_eq_decide]
          constructor
          · intro h; injection h with h; omega
          · intro h; rw [h]
        rw [e]
        exact h H2 (Stay.refl H2)
      · rw [List.filter_eq_self.mpr (fun _ _ => rfl)] at h2
        refine ⟨acc2, _, rfl, .inl (SqL.of h2), plain_bl _ _, ?_⟩
        rw [all_bl, hlen, ← tab_iff (most := most) (by omega) (by omega) hM]
        exact k H2 (st.trans s2)
theorem scCols : FnScope ["table"] ["table"] (defScope (top 11)) := ⟨rfl, rfl, rfl, by decide +kernel, rfl, by decide +kernel, by decide +kernel⟩
theorem ok_cols {f : Addr} {fd : FuncData} (F : Fun K "columns" "columns" (top 11) f fd) (N : Nm mg) : FnOk P w K mg base CX0 1 f fd ["table"] spCols := by
  refine F.ok scCols (fun vs H Q E h => ?_) (fun cdv A outer s H vs Q E hr h => ?_)
  · obtain ⟨a, xs, M, g, rfl, _⟩ := h; rfl
  · obtain ⟨a, xs, M, g, rfl, ha, r, n1, n6, g6, hl, k⟩ := h
    refine ⟨_, pss_one (ps_ret (pe_comp (own := ["good"]) (cap := ["table"]) (ix := [0]) (BlkOk.of (defScope (top 11)).names ["table"]) rfl (pi_range1 rfl N.range (pa_cons (pe_callB cLen0 (by rfl) N.len PySem.boot_len (pa_cons (pe_ix ixT0 (pv 0) pe_int (fun _ _ => rfl)) pa_nil)) pa_nil))
      (fun C fp s H => ⟨pg_name (i := 0) (show List.Nodup (["good", "table"] : List Str) by decide +kernel) rfl (Or.inr rfl), pifs_nil, pe_comp (own := ["row"]) (cap := ["good"]) (ix := [0]) (BlkOk.of [(".0", .local), ("good", .cell), ("table", .cell)] ["good", "table"]) rfl (piT0 (pv 1))
        (fun C fp s H => ⟨pg_name (i := 0) (show List.Nodup (["row", "good"] : List Str) by decide +kernel) rfl (Or.inl rfl), pifs_nil, pe_ix ixT0 (pv 0) (pv 1) (fun _ _ => rfl)⟩)⟩))), ?_⟩
    obtain ⟨a0, _, ea0, ha0⟩ := rws_row r (i := 0) n1
    have hl0 := row_len hl (i := 0) n1
    refine ⟨_, rfl, a, _, _, _, rfl, rfl, SqT.of ha, ea0, a0, _, rfl, .inr (SqT.of ha0), (g : Int), by rw [List.length_map, hl0], by omega, by omega, fun acc hacc => ?_⟩
    rw [Int.toNat_natCast]
    refine comp_range (fun i ys H' => Stay H H' ∧ LsR H' ys (colsL M i)) ⟨(Stay.refl H).acc hacc, ⟨rfl, fun j x hx => by simp at hx⟩⟩ ?_ (fun ys H' hy ⟨s, l⟩ => k acc ys H' s hy l)
    rintro i ys H1 hi hy ⟨s1, l1⟩
    rw [Int.zero_add]
    refine yes_i ⟨_, rfl, a, rfl, ⟨_, SqT.of (s1 _ _ ha)⟩, fun acc2 hacc2 => ?_⟩
    have nacc : acc2 ≠ acc := fun z => by rw [z, hy] at hacc2; cases hacc2
    refine pr_tup (xs := xs) (fun _ => true) (fun j => V.int ((M.getD j []).getD i 0)) hacc2 (by rw [r.len]; omega) (s1 _ _ ha) (fun j x H2 Z _ _ h => h H2 (Stay.refl H2)) (fun j x H2 Z hx _ s2 h => ?_) (fun H2 s2 h2 => ?_)
    · obtain ⟨hj, c, rfl, hc'⟩ := rws_at r hx
      have hlj := row_len hl hj
      obtain ⟨eb, _, _⟩ := atI_ints (ns := M.getD j []) (r := (i : Int)) (by omega) (by omega)
      rw [Int.toNat_natCast] at eb
      exact ⟨_, rfl, _, rfl, c, _, _, _, rfl, rfl, SqT.of ((s1.trans s2) _ _ hc'), eb, h H2 (Stay.refl H2)⟩
    · have e2 : ((List.range xs.length).filter fun _ => true).map (fun j => V.int ((M.getD j []).getD i 0)) = (M.map fun r => r.getD i 0).map V.int := by
        rw [List.filter_eq_self.mpr (fun _ _ => rfl), r.len, List.map_map]
        conv => rhs; rw [← idx_all M [], List.map_map]
        rfl
      rw [e2] at h2
      have hl1 := l1.1
      have hcl : (colsL M i).length = i := by unfold colsL; rw [List.length_map, List.length_range]
      refine ⟨ys, s2 _ _ hy, by rw [sz]; omega, Cn.of upd_same ⟨(s1.trans s2).acc hacc, ?_⟩⟩
      have e3 : colsL M (i + 1) = colsL M i ++ [M.map fun r => r.getD i 0] := by
        unfold colsL; rw [List.range_succ, List.map_append]; rfl
      rw [e3]
      have hkeep : ∀ (u : Addr) (zs : List V), H2 u = some (.lst zs) → u ≠ acc → (upd H2 acc (.lst (ys ++ [.ref acc2]))) u = some (.lst zs) := fun u zs hu hn => by rw [upd_ne hn]; exact hu
      refine LsR.app ⟨hl1, fun j x hx => ?_⟩ (hkeep acc2 _ h2 nacc)
      obtain ⟨u, e, hu⟩ := l1.2 j x hx
      refine ⟨u, e, hkeep u _ (s2 _ _ hu) fun z => ?_⟩
      rw [z, hy] at hu
      injection hu with hu
      injection hu with hu
      have hjl := (List.getElem?_eq_some_iff.mp hx).1
      have : ys[j]? = some (V.int (((colsL M i).getD j []).getD j 0)) ∨ False := by
        left
        rw [hu, List.getElem?_map]
        have hcj : j < ((colsL M i).getD j []).length := by
          have := congrArg List.length hu
          rw [List.length_map] at this
          omega
        rw [List.getElem?_eq_getElem hcj, getD_of (List.getElem?_eq_getElem hcj)]
        rfl
      rcases this with y | y
      · rw [hx, e] at y; cases y
      · exact y
theorem scNo : FnScope ["table"] ["table"] (defScope (top 10)) := ⟨rfl, rfl, rfl, by decide +kernel, rfl, by decide +kernel, by decide +kernel⟩
theorem ok_no {f fC : Addr} {fd dC : FuncData} (F : Fun K "leaves_none_out" "leaves_none_out" (top 10) f fd) (N : Nm mg) (Co : Cal K mg P w base "columns" 1 ["table"] spCols fC dC) : FnOk P w K mg base CX0 2 f fd ["table"] spNoOut := by
  refine F.ok scNo (fun vs H Q E h => ?_) (fun cdv A outer s H vs Q E hr h => ?_)
  · obtain ⟨a, xs, M, g, rfl, _⟩ := h; rfl
  · obtain ⟨a, xs, M, g, rfl, ha, r, n1, n6, g6, hl, k⟩ := h
    refine ⟨_, pss_one (ps_ret (pe_and (pe_callB (cAll0 rfl) (by rfl) N.all boot_all (pa_cons (pe_comp (own := ["row"]) (cap := []) (ix := []) (BlkOk.of (defScope (top 10)).names ["table"]) rfl (piT0 (pv 0))
        (fun C fp s H => ⟨pg_name (i := 0) (show List.Nodup (["row"] : List Str) by decide +kernel) rfl (Or.inl rfl), pifs_nil, pe_callB (cAny0 rfl) (by rfl) N.any boot_any (pa_cons (pv 0) pa_nil)⟩)) pa_nil))
      (pe_one (pe_callB (cAll0 rfl) (by rfl) N.all boot_all (pa_cons (pe_comp (own := ["column"]) (cap := []) (ix := []) (BlkOk.of (defScope (top 10)).names ["table"]) rfl (piL0 (pe_call Co.ok hr rfl Co.mg Co.kp Co.bd .nil pass0 (pa_cons (pv 0) pa_nil)))
        (fun C fp s H => ⟨pg_name (i := 0) (show List.Nodup (["column"] : List Str) by decide +kernel) rfl (Or.inl rfl), pifs_nil, pe_callB (cAny0 rfl) (by rfl) N.any boot_any (pa_cons (pv 0) pa_nil)⟩)) pa_nil))))), ?_⟩
    refine ⟨_, rfl, a, rfl, ⟨_, SqT.of ha⟩, fun acc hacc => ?_⟩
    refine pr_tup (xs := xs) (fun _ => true) (fun i => V.bl ((M.getD i []).any fun x => x != 0)) hacc (by rw [r.len]; omega) ha (fun j x H2 Z _ _ h => h H2 (Stay.refl H2)) (fun j x H2 Z hx _ s2 h => ?_) (fun H1 s1 h1 => ?_)
    · obtain ⟨hj, c, rfl, hc'⟩ := rws_at r hx
      refine ⟨_, rfl, c, _, rfl, .inr (SqT.of (s2 _ _ hc')), plain_ints _, ?_⟩
      rw [KM.any_ints]
      exact h H2 (Stay.refl H2)
    rw [List.filter_eq_self.mpr (fun _ _ => rfl), r.len] at h1
    refine ⟨acc, _, rfl, .inl (SqL.of h1), plain_bl _ _, _, rfl, ?_⟩
    rw [all_bl]
    have e1 : (List.range M.length).all (fun i => (M.getD i []).any fun x => x != 0) = M.all fun r => r.any fun x => x != 0 := by
      conv => rhs; rw [← idx_all M [], List.all_map]
      rfl
    rw [e1]
    have eno : noOut M g = ((M.all fun r => r.any fun x => x != 0) && (List.range g).all fun j => M.any fun r => r.getD j 0 != 0) := rfl
    cases hA : M.all fun r => r.any fun x => x != 0 with
    | false =>
      have hk := k H1 s1
      rw [eno, hA] at hk
      exact iteF hk
    | true =>
      refine iteT ⟨_, rfl, a, xs, M, g, rfl, s1 _ _ ha, r.keep s1.tm, n1, n6, g6, hl, fun q ys H2 s2 hq lq => ?_⟩
      have hql := lq.1
      have hcl : (colsL M g).length = g := by unfold colsL; rw [List.length_map, List.length_range]
      refine ⟨q, rfl, ⟨_, SqL.of hq⟩, fun acc2 hacc2 => ?_⟩
      refine pr_list (xs := ys) (fun _ => true) (fun i => V.bl (((colsL M g).getD i []).any fun x => x != 0)) hacc2 (by omega) hq (fun j x H3 Z _ _ h => h H3 (Stay.refl H3)) (fun j x H3 Z hx _ s3 h => ?_) (fun H3 s3 h3 => ?_)
      · obtain ⟨c, rfl, hc'⟩ := lq.2 j x hx
        refine ⟨_, rfl, c, _, rfl, .inl (SqL.of (s3 _ _ hc')), plain_ints _, ?_⟩
        rw [KM.any_ints]
        exact h H3 (Stay.refl H3)
      · rw [List.filter_eq_self.mpr (fun _ _ => rfl), hql, hcl] at h3
        refine ⟨acc2, _, rfl, .inl (SqL.of h3), plain_bl _ _, ?_⟩
        rw [all_bl]
        have e2 : (List.range g).all (fun i => ((colsL M g).getD i []).any fun x => x != 0) = (List.range g).all fun j => M.any fun r => r.getD j 0 != 0 := by
          rw [Bool.eq_iff_iff, List.all_eq_true, List.all_eq_true]
          have hi' : ∀ j ∈ List.range g, ((colsL M g).getD j []).any (fun x => x != 0) = M.any fun r => r.getD j 0 != 0 := fun j hj => by
            have hjg := List.mem_range.mp hj
            have : (colsL M g).getD j [] = M.map fun r => r.getD j 0 := by
              unfold colsL; simp [List.getD, hjg]
            rw [this, List.any_map]; rfl
          exact ⟨fun h j hj => by rw [← hi' j hj]; exact h j hj, fun h j hj => by rw [hi' j hj]; exact h j hj⟩
        rw [e2]
        have hk := k H3 ((s1.trans s2).trans s3)
        rw [eno, hA, Bool.true_and] at hk
        exact hk
abbrev NIb : List Str := ["thing", "brought", "wishes"]
theorem scIb : FnScope NIb ["thing"] (defScope (top 7)) := ⟨rfl, rfl, rfl, by decide +kernel, rfl, by decide +kernel, by decide +kernel⟩
theorem ok_ib {f fW fN : Addr} {fd dW dN : FuncData} {tk tk2 : Tok} (F : Fun K "is_barter" "is_barter" (top 7) f fd) (N : Nm mg) (Z : IsK K) (hc : mg "MOST_BROUGHT" = some (.int 10 tk)) (hc2 : mg "MOST_WISH" = some (.int 100 tk2)) (W : Cal K mg P w base "is_table" 3 ["thing", "most"] spTab fW dW) (No : Cal K mg P w base "leaves_none_out" 2 ["table"] spNoOut fN dN) : FnOk P w K mg base CX0 4 f fd ["thing"] (spT btB) := by
  refine F.ok scIb (fun vs H Q E h => ?_) (fun cdv A outer s H vs Q E hr h => ?_)
  · obtain ⟨b, v, d, rfl, _⟩ := h; rfl
  · obtain ⟨b, v, d, rfl, hT, k⟩ := h
    have hr2 : Room 2 _ := hr.mono (by decide)
    refine ⟨_, pss_cons (ps_if (PW.pt (pw_or (pt_not (pt_val (pIsi K (pv 0) rfl N.isinstance rfl N.tuple boot_tuple boot_isinstance))) (pw_or1 (pt_cmpR op_ne (pe_callB cLen0 (by rfl) N.len PySem.boot_len (pa_cons (pv 0) pa_nil)) pe_int (nomark _))))) (pss_one (ps_ret pe_bl)) pss_nil)
      (pss_cons (ps_asg (pv 0) (pgTup0 (n := 2) rfl (pgs_cons (pg_name (i := 1) scIb.nd rfl (Or.inl rfl)) (pgs_cons (pg_name (i := 2) scIb.nd rfl (Or.inl rfl)) pgs_nil))))
      (pss_cons (ps_if (PW.pt (pw_or (pt_not (pt_val (pe_call W.ok hr rfl W.mg W.kp W.bd .nil pass0 (pa_cons (pv 1) (pa_cons (pe_glob (v := .int 10) rfl hc ⟨_, rfl⟩) pa_nil))))) (pw_or1 (pt_not (pt_val (pe_call W.ok hr rfl W.mg W.kp W.bd .nil pass0 (pa_cons (pv 2) (pa_cons (pe_glob (v := .int 100) rfl hc2 ⟨_, rfl⟩) pa_nil)))))))) (pss_one (ps_ret pe_bl)) pss_nil)
      (pss_cons (ps_if (PW.pt (pw_or (pt_cmpR op_ne (pe_callB cLen0 (by rfl) N.len PySem.boot_len (pa_cons (pv 1) pa_nil)) (pe_callB cLen0 (by rfl) N.len PySem.boot_len (pa_cons (pv 2) pa_nil)) (nomark _)) (pw_or1 (pt_cmpR op_ne (pe_callB cLen0 (by rfl) N.len PySem.boot_len (pa_cons (pe_ix ixT0 (pv 1) pe_int (fun _ _ => rfl)) pa_nil)) (pe_callB cLen0 (by rfl) N.len PySem.boot_len (pa_cons (pe_ix ixT0 (pv 2) pe_int (fun _ _ => rfl)) pa_nil)) (nomark _))))) (pss_one (ps_ret pe_bl)) pss_nil)
      (pss_one (ps_ret (pe_and (pe_call No.ok hr2 rfl No.mg No.kp No.bd .nil pass0 (pa_cons (pv 1) pa_nil)) (pe_one (pe_call No.ok hr2 rfl No.mg No.kp No.bd .nil pass0 (pa_cons (pv 2) pa_nil))))))))), ?_⟩
    obtain ⟨t1, ty1, e1⟩ := ist Z hT
    refine ⟨_, rfl, t1, _, ty1, e1, _, rfl, ?_⟩
    have no : ∀ H', Stay H H' → ¬ btP d → Q (.bl false) H' := fun H' st hz => by
      have hk := k H' st
      unfold btB at hk
      rw [dec_f hz] at hk; exact hk
    rcases tupCase hT with hn | ⟨a, xs, ds, rfl, rfl, ha, hs⟩
    · rw [hn]
      exact iteT (iteT (no H (Stay.refl H) fun h => by obtain ⟨x, y, e, _⟩ := btP_pair h; rw [e] at hn; cases hn))
    refine iteF ?_
    have hlen := hs.len
    refine ⟨_, rfl, a, xs, rfl, .inr (SqT.of ha), rfl, _, rfl, ?_⟩
    by_cases hl : xs.length = 2
    case neg =>
      have e2 : (!decide (V.int (xs.length : Int) = V.int 2)) = true := vint_ne (b := 2) hl
      rw [e2]
      exact iteT (no H (Stay.refl H) fun h => by obtain ⟨x, y, e, _⟩ := btP_pair h; injection e with e; rw [e] at hlen; simp at hlen; omega)
    have e2 : (!decide (V.int (xs.length : Int) = V.int 2)) = false := by rw [hl]; rfl
    rw [e2]
    refine iteF ?_
    match xs, ds, hl, hs with
    | [x, y], _, _, .cons (d := dx) hx (.cons (d := dy) hy .nil) =>
    refine ⟨_, rfl, a, _, rfl, SqT.of ha, rfl, _, _, rfl, _, _, rfl, rfl, ?_⟩
    refine ⟨_, rfl, b, x, dx, 10, rfl, hx, fun H1 s1 => ⟨_, rfl, ?_⟩⟩
    rcases dec_cases (tabP 10 dx) with ⟨e, hB⟩ | ⟨e, hB⟩
    case inr =>
      rw [e]
      exact iteT (iteT (no H1 s1 fun h => by obtain ⟨x', y', e', h1, _⟩ := btP_pair h; injection e' with e'; injection e' with e' _; rw [e'] at hB; exact hB h1))
    rw [e]
    refine iteF ⟨_, rfl, b, y, dy, 100, rfl, hy.stay s1, fun H2 s2 => ⟨_, rfl, ?_⟩⟩
    rcases dec_cases (tabP 100 dy) with ⟨e, hW⟩ | ⟨e, hW⟩
    case inr =>
      rw [e]
      exact iteT (no H2 (s1.trans s2) fun h => by obtain ⟨x', y', e', _, h1⟩ := btP_pair h; injection e' with e'; injection e' with _ e'; injection e' with e' _; rw [e'] at hW; exact hW h1)
    rw [e]
    refine iteF ?_
    have s12 := s1.trans s2
    obtain ⟨B, g, rfl, B1, B6, g1, g6, hB⟩ := hB
    obtain ⟨W', g', rfl, W1, W6, g1', g6', hW⟩ := hW
    have hx2 := hx.stay s12
    have hy2 := hy.stay s12
    cases hx2 with
    | @tup pB xB _ hpB hsB =>
    cases hy2 with
    | @tup pW xW _ hpW hsW =>
    have rB := tr_rws hsB
    have rW := tr_rws hsW
    have kk : ∀ H', Stay H H' → Q (.bl (decide (W'.length = B.length) && decide (g' = g) && noOut B g && noOut W' g)) H' := fun H' st => by
      have hk := k H' st
      have : btB (.tuple [tbl B, tbl W']) = _ := bt_iff B1 B6 W1 g1 g6 hB hW
      rw [this] at hk; exact hk
    obtain ⟨b0, _, eb0, hb0⟩ := rws_row rB (i := 0) B1
    obtain ⟨w0, _, ew0, hw0⟩ := rws_row rW (i := 0) W1
    have lb0 := row_len (fun r hr' => (hB r hr').1) (i := 0) B1
    have lw0 := row_len (fun r hr' => (hW r hr').1) (i := 0) W1
    refine ⟨_, rfl, pB, _, rfl, .inr (SqT.of hpB), _, rfl, pW, _, rfl, .inr (SqT.of hpW), rfl, _, rfl, ?_⟩
    rw [rB.len, rW.len]
    by_cases hbw : B.length = W'.length
    case neg =>
      rw [vint_ne hbw]
      refine iteT (iteT ?_)
      have := kk H2 s12
      rw [decide_eq_false (fun z => hbw z.symm)] at this
      exact this
    rw [hbw, vint_eq]
    refine iteF ⟨_, rfl, pB, _, _, _, rfl, rfl, SqT.of hpB, eb0, b0, _, rfl, .inr (SqT.of hb0), _, rfl, pW, _, _, _, rfl, rfl, SqT.of hpW, ew0, w0, _, rfl, .inr (SqT.of hw0), rfl, _, rfl, ?_⟩
    rw [List.length_map, List.length_map, lb0, lw0]
    by_cases hgg : g = g'
    case neg =>
      rw [vint_ne hgg]
      refine iteT ?_
      have := kk H2 s12
      rw [decide_eq_false (p := g' = g) (fun z => hgg z.symm), Bool.and_false] at this
      exact this
    subst hgg
    rw [vint_eq]
    refine iteF ⟨_, rfl, pB, xB, B, g, rfl, hpB, rB, B1, B6, g6, fun r hr' => (hB r hr').1, fun H3 s3 => ⟨_, rfl, ?_⟩⟩
    have kk3 := kk H3 (s12.trans s3)
    rw [decide_eq_true hbw.symm, decide_eq_true (rfl : g = g), Bool.true_and, Bool.true_and] at kk3
    cases hno : noOut B g with
    | false => rw [hno] at kk3; exact iteF kk3
    | true =>
      refine iteT ⟨_, rfl, pW, xW, W', g, rfl, s3 _ _ hpW, rW.keep s3.tm, W1, W6, g6, fun r hr' => (hW r hr').1, fun H4 s4 => ?_⟩
      have kk4 := kk H4 ((s12.trans s3).trans s4)
      rw [decide_eq_true hbw.symm, decide_eq_true (rfl : g = g), hno, Bool.true_and, Bool.true_and, Bool.true_and] at kk4
      exact kk4
end
end K28

set_option Elab.async false
set_option linter.all false
set_option maxRecDepth 100000
set_option maxHeartbeats 4000000
namespace K28
open PySem L2 KG EX KM
section
variable {P : Program} {w : World} {K : PySem.W.Frag} {mg : Str → Option Value} {base : Heap}
abbrev NLr : List Str := ["thing", "many", "most", "one"]
theorem scLr : FnScope NLr ["thing", "many", "most"] (defScope (top 18)) := ⟨rfl, rfl, rfl, by decide +kernel, rfl, by decide +kernel, by decide +kernel⟩
theorem ok_lr2 {f : Addr} {fd : FuncData} (F : Fun K "_law_is_row" "_law_is_row" (top 18) f fd) (N : Nm mg) (Z : IsK K) : FnOk P w K mg base CX0 1 f fd ["thing", "many", "most"] spLRow2 := by
  refine F.ok scLr (fun vs H Q E h => ?_) (fun cdv A outer s H vs Q E hr h => ?_)
  · obtain ⟨b, v, d, g, most, rfl, _⟩ := h; rfl
  · obtain ⟨b, v, d, g, most, rfl, hT, g6, k⟩ := h
    refine ⟨_, pss_cons (ps_if (PW.pt (pw_or (pt_not (pt_val (pIsi K (pv 0) rfl N.isinstance rfl N.tuple boot_tuple boot_isinstance))) (pw_or1 (pt_cmpR op_ne (pe_callB cLen0 (by rfl) N.len PySem.boot_len (pa_cons (pv 0) pa_nil)) (pv 1) (nomark _))))) (pss_one (ps_ret pe_bl)) pss_nil)
      (pss_cons (ps_for PassesOwn.never rfl (piT0 (pv 0)) (pg_name (i := 3) scLr.nd rfl (Or.inl rfl))
        (pss_one (ps_if (PW.pt (pw_or (pt_not (pt_val (pIsi K (pv 3) rfl N.isinstance rfl N.int boot_int boot_isinstance))) (pw_or (pt_val (pIsi K (pv 3) rfl N.isinstance rfl N.bool boot_bool boot_isinstance)) (pw_or (pt_cmpR op_lt (pv 3) pe_int (nomark _)) (pw_or1 (pt_cmpR op_gt (pv 3) (pv 2) (nomark _))))))) (pss_one (ps_ret pe_bl)) pss_nil)))
      (pss_one (ps_ret (pe_cmpR op_gt (pe_callB (cSum0 rfl) (by rfl) N.sum boot_sum (pa_cons (pv 0) pa_nil)) pe_int (nomark _))))), ?_⟩
    obtain ⟨t1, ty1, e1⟩ := ist Z hT
    refine ⟨_, rfl, t1, _, ty1, e1, _, rfl, ?_⟩
    have no : ¬ lrowP g most d → Q (.bl false) H := fun hz => by
      have hk := k H (Stay.refl H)
      rw [dec_f hz] at hk; exact hk
    rcases tupCase hT with hn | ⟨a, xs, ds, rfl, rfl, ha, hs⟩
    · rw [hn]
      exact iteT (iteT (no fun ⟨r, e, _⟩ => by rw [e] at hn; cases hn))
    refine iteF ?_
    have hlen := hs.len
    refine ⟨_, rfl, a, xs, rfl, .inr (SqT.of ha), _, rfl, rfl, _, rfl, ?_⟩
    by_cases hl : xs.length = g
    case neg =>
      rw [vint_ne hl]
      exact iteT (no fun ⟨r, e, h1, _⟩ => by unfold rowD at e; injection e with e; rw [e, List.length_map] at hlen; omega)
    rw [hl, vint_eq]
    refine iteF ⟨_, rfl, a, rfl, ⟨xs, SqT.of ha⟩, ?_⟩
    refine for_tup (xs := xs) (fun i σ H' => H' = H ∧ (∃ y, σ = [some (.ref a), some (.int g), some (.int most), y]) ∧ (ds.take i).all (within 0 most) = true) ⟨rfl, ⟨_, rfl⟩, rfl⟩ (fun i σ H' _ z => by obtain ⟨rfl, _⟩ := z; exact SqT.of ha) ?_ ?_
    · rintro i x σ H1 hx ⟨rfl, ⟨y, rfl⟩, hall⟩
      obtain ⟨d1, hd1, tx⟩ := hs.at hx
      obtain ⟨u1, uy1, ue1⟩ := isi Z tx
      obtain ⟨u2, uy2, ue2⟩ := isb Z tx
      have hm := List.mem_of_getElem? hd1
      have bad : within 0 most d1 = false → Q (.bl false) H1 := fun hw => no fun ⟨r, e, _, hb, _⟩ => by
        unfold rowD at e; injection e with e
        rw [e] at hm
        have := List.all_eq_true.mp (ints_within hb) d1 hm
        rw [hw] at this; cases this
      refine ⟨_, rfl, u1, _, uy1, ue1, _, rfl, ?_⟩
      rcases intCase tx with hn | ⟨z, rfl, rfl⟩
      · have hw := within_no (lo := 0) (hi := most) hn
        rw [isWhole_eq] at hn
        cases hi : isI d1 with
        | false => exact iteT (iteT (bad hw))
        | true =>
          rw [hi, Bool.true_and] at hn
          have hb : isB d1 = true := by simpa using hn
          rw [hb] at ue2
          exact iteF ⟨_, rfl, u2, _, uy2, ue2, _, rfl, iteT (iteT (bad hw))⟩
      · refine iteF ⟨_, rfl, u2, _, uy2, ue2, _, rfl, iteF ⟨_, rfl, _, _, rfl, rfl, _, rfl, ?_⟩⟩
        have ew : within 0 most (.int z) = (decide (0 ≤ z) && decide (z ≤ most)) := rfl
        by_cases h0 : z < 0
        · rw [decide_eq_true h0]
          exact iteT (iteT (bad (by rw [ew, decide_eq_false (show ¬ 0 ≤ z by omega)]; rfl)))
        rw [decide_eq_false h0]
        refine iteF ⟨_, rfl, _, rfl, _, _, rfl, rfl, _, rfl, ?_⟩
        by_cases h1 : most < z
        · rw [decide_eq_true h1]
          exact iteT (bad (by rw [ew, decide_eq_false (show ¬ z ≤ most by omega), Bool.and_false]))
        rw [decide_eq_false h1]
        refine iteF ⟨rfl, ⟨_, rfl⟩, ?_⟩
        rw [take_snoc hd1, List.all_append, hall, List.all_cons, List.all_nil, ew, decide_eq_true (show 0 ≤ z by omega), decide_eq_true (show z ≤ most by omega)]; rfl
    · rintro σ H1 ⟨rfl, ⟨y, rfl⟩, hall⟩
      rw [hlen, List.take_length] at hall
      obtain ⟨r, er, hb⟩ := within_ints hall
      have hs' := hs
      rw [er] at hs'
      have ex := tr_ints hs'
      rw [ex] at ha
      refine ⟨_, rfl, a, r, rfl, .inr (SqT.of ha), _, _, rfl, rfl, ?_⟩
      have hk := k H1 (Stay.refl H1)
      rw [lrow_iff (g := g) (most := most) (by omega) er hb] at hk
      exact hk
abbrev NLd : List Str := ["thing", "brought", "wishes", "rows", "goods", "most"]
theorem scLd : FnScope NLd ["thing"] (defScope (top 19)) := ⟨rfl, rfl, rfl, by decide +kernel, rfl, by decide +kernel, by decide +kernel⟩
theorem ok_ldue {f fR : Addr} {fd dR : FuncData} (F : Fun K "_law_due" "_law_due" (top 19) f fd) (N : Nm mg) (Z : IsK K) (R : Cal K mg P w base "_law_is_row" 1 ["thing", "many", "most"] spLRow2 fR dR) : FnOk P w K mg base CX0 2 f fd ["thing"] (spT btB) := by
  refine F.ok scLd (fun vs H Q E h => ?_) (fun cdv A outer s H vs Q E hr h => ?_)
  · obtain ⟨b, v, d, rfl, _⟩ := h; rfl
  · obtain ⟨b, v, d, rfl, hT, k⟩ := h
    have hu := hr.units
    refine ⟨_, pss_cons (ps_if (PW.pt (pw_or (pt_not (pt_val (pIsi K (pv 0) rfl N.isinstance rfl N.tuple boot_tuple boot_isinstance))) (pw_or1 (pt_cmpR op_ne (pe_callB cLen0 (by rfl) N.len PySem.boot_len (pa_cons (pv 0) pa_nil)) pe_int (nomark _))))) (pss_one (ps_ret pe_bl)) pss_nil)
      (pss_cons (ps_asg (pv 0) (pgTup0 (n := 2) rfl (pgs_cons (pg_name (i := 1) scLd.nd rfl (Or.inl rfl)) (pgs_cons (pg_name (i := 2) scLd.nd rfl (Or.inl rfl)) pgs_nil))))
      (pss_cons (ps_for PassesOwn.never rfl (piL0 (pe_lst (pa_cons (pv 1) (pa_cons (pv 2) pa_nil)))) (pg_name (i := 3) scLd.nd rfl (Or.inr rfl))
        (pss_one (ps_if (PW.pt (pw_or (pt_not (pt_val (pIsi K (pv 3) rfl N.isinstance rfl N.tuple boot_tuple boot_isinstance))) (pw_or (pt_cmpR op_lt (pe_callB cLen0 (by rfl) N.len PySem.boot_len (pa_cons (pv 3) pa_nil)) pe_int (nomark _)) (pw_or1 (pt_cmpR op_gt (pe_callB cLen0 (by rfl) N.len PySem.boot_len (pa_cons (pv 3) pa_nil)) pe_int (nomark _)))))) (pss_one (ps_ret pe_bl)) pss_nil)))
      (pss_cons (ps_if (PW.pt (pw_or (pt_not (pt_val (pIsi K (pe_ix ixT0 (pv 1) pe_int (fun _ _ => rfl)) rfl N.isinstance rfl N.tuple boot_tuple boot_isinstance))) (pw_or1 (pt_cmpR op_ne (pe_callB cLen0 (by rfl) N.len PySem.boot_len (pa_cons (pv 1) pa_nil)) (pe_callB cLen0 (by rfl) N.len PySem.boot_len (pa_cons (pv 2) pa_nil)) (nomark _))))) (pss_one (ps_ret pe_bl)) pss_nil)
      (pss_cons (ps_set (i := 4) scLd.nd rfl (Or.inr rfl) (pe_callB cLen0 (by rfl) N.len PySem.boot_len (pa_cons (pe_ix ixT0 (pv 1) pe_int (fun _ _ => rfl)) pa_nil)))
      (pss_cons (ps_if (PW.pt (pw_or (pt_cmpR op_lt (pv 4) pe_int (nomark _)) (pw_or1 (pt_cmpR op_gt (pv 4) pe_int (nomark _))))) (pss_one (ps_ret pe_bl)) pss_nil)
      (pss_cons (ps_for PassesOwn.never rfl (piL0 (pe_lst (pa_cons (pe_lst (pa_cons (pv 1) (pa_cons pe_int pa_nil))) (pa_cons (pe_lst (pa_cons (pv 2) (pa_cons pe_int pa_nil))) pa_nil)))) (pgLst0 (n := 2) rfl (pgs_cons (pg_name (i := 3) scLd.nd rfl (Or.inr rfl)) (pgs_cons (pg_name (i := 5) scLd.nd rfl (Or.inr rfl)) pgs_nil)))
        (pss_cons (ps_if (pt_cmpR (opNeD0 hu) (pe_comp (own := ["row"]) (cap := ["goods", "most"]) (ix := [4, 5]) (BlkOk.of (defScope (top 19)).names NLd) rfl (piT0 (pv 3))
            (fun C fp s H => ⟨pg_name (i := 0) (show List.Nodup (["row", "goods", "most"] : List Str) by decide +kernel) rfl (Or.inl rfl), pifs_one (pt_not (pt_val (pe_call R.ok hr rfl R.mg R.kp R.bd .nil pass0 (pa_cons (pv 0) (pa_cons (pv 1) (pa_cons (pv 2) pa_nil)))))), pv 0⟩)) (pe_lst pa_nil) (nomark _)) (pss_one (ps_ret pe_bl)) pss_nil)
        (pss_one (ps_if (pt_cmpR (opNeD0 hu) (pe_comp (own := ["good"]) (cap := ["rows"]) (ix := [3]) (BlkOk.of (defScope (top 19)).names NLd) rfl (pi_range1 rfl N.range (pa_cons (pv 4) pa_nil))
            (fun C fp s H => ⟨pg_name (i := 0) (show List.Nodup (["good", "rows"] : List Str) by decide +kernel) rfl (Or.inr rfl), pifs_one (pt_cmpR op_eq (pe_callB (cSum0 rfl) (by rfl) N.sum boot_sum (pa_cons (pe_comp (own := ["row"]) (cap := ["good"]) (ix := [0]) (BlkOk.of [(".0", .local), ("good", .cell), ("sum", .globalImplicit), ("rows", .cell)] ["good", "rows"]) rfl (piT0 (pv 1))
              (fun C fp s H => ⟨pg_name (i := 0) (show List.Nodup (["row", "good"] : List Str) by decide +kernel) rfl (Or.inl rfl), pifs_nil, pe_ix ixT0 (pv 0) (pv 1) (fun _ _ => rfl)⟩)) pa_nil)) pe_int (nomark _)), pv 0⟩)) (pe_lst pa_nil) (nomark _)) (pss_one (ps_ret pe_bl)) pss_nil))))
      (pss_one (ps_ret pe_bl)))))))), ?_⟩
    have no : ∀ H', Stay H H' → ¬ btP d → Q (.bl false) H' := fun H' st hz => by
      have hk := k H' st
      unfold btB at hk
      rw [dec_f hz] at hk; exact hk
    obtain ⟨t1, ty1, e1⟩ := ist Z hT
    refine ⟨_, rfl, t1, _, ty1, e1, _, rfl, ?_⟩
    rcases tupCase hT with hn | ⟨a, xs, ds, rfl, rfl, ha, hs⟩
    · rw [hn]
      exact iteT (iteT (no H (Stay.refl H) fun h => by obtain ⟨x, y, e, _⟩ := btP_pair h; rw [e] at hn; cases hn))
    refine iteF ?_
    have hlen := hs.len
    refine ⟨_, rfl, a, xs, rfl, .inr (SqT.of ha), rfl, _, rfl, ?_⟩
    by_cases hl : xs.length = 2
    case neg =>
      have e2 : (!decide (V.int (xs.length : Int) = V.int 2)) = true := vint_ne (b := 2) hl
      rw [e2]
      exact iteT (no H (Stay.refl H) fun h => by obtain ⟨x, y, e, _⟩ := btP_pair h; injection e with e; rw [e] at hlen; simp at hlen; omega)
    have e2 : (!decide (V.int (xs.length : Int) = V.int 2)) = false := by rw [hl]; rfl
    rw [e2]
    refine iteF ?_
    match xs, ds, hl, hs with
    | [x, y], _, _, .cons (d := dx) hx (.cons (d := dy) hy .nil) =>
    refine ⟨_, rfl, a, _, rfl, SqT.of ha, rfl, _, _, rfl, _, _, rfl, rfl, ?_⟩
    have hbt : btP (.tuple [dx, dy]) → okT dx ∧ okT dy := fun h => by
      obtain ⟨g, B, W, rfl, rfl, hl, h1, h6, _⟩ := bt_law.mp h
      exact ⟨⟨_, rfl, by rw [List.length_map]; exact h1, by rw [List.length_map]; exact h6⟩, ⟨_, rfl, by rw [List.length_map]; omega, by rw [List.length_map]; omega⟩⟩
    -- two tuples
    refine ⟨_, rfl, _, rfl, by show 2 ≤ sizeLine; decide, fun lo hlo => ⟨lo, rfl, ⟨_, SqL.of upd_same⟩, ?_⟩⟩
    have s0 := (Stay.refl H).new (o := .lst [x, y]) hlo
    have e0 : (upd H lo (.lst [x, y])) lo = some (.lst [x, y]) := upd_same
    generalize upd H lo (.lst [x, y]) = H0 at s0 e0 ⊢
    have hx0 := hx.stay s0
    have hy0 := hy.stay s0
    refine for_list (xs := [x, y]) (fun i σ H' => H' = H0 ∧ (∃ y3, σ = [some (.ref a), some x, some y, y3, none, none]) ∧ (1 ≤ i → okT dx) ∧ (2 ≤ i → okT dy)) ⟨rfl, ⟨_, rfl⟩, fun z => absurd z (by omega), fun z => absurd z (by omega)⟩ (fun i σ H' _ z => by obtain ⟨rfl, _⟩ := z; exact SqL.of e0) ?s1 ?f1
    case s1 =>
      rintro i v σ H1 hv ⟨rfl, ⟨y3, rfl⟩, o1, o2⟩
      obtain ⟨dv, tv, hno, hyes⟩ : ∃ dv, TrV b H1 v dv ∧ (¬ okT dv → ¬ btP (.tuple [dx, dy])) ∧ (okT dv → (1 ≤ i + 1 → okT dx) ∧ (2 ≤ i + 1 → okT dy)) := by
        match i, hv with
        | 0, hv =>
          obtain rfl : x = v := by simpa using hv
          exact ⟨dx, hx0, fun h h' => h (hbt h').1, fun h => ⟨fun _ => h, fun z => absurd z (by omega)⟩⟩
        | 1, hv =>
          obtain rfl : y = v := by simpa using hv
          exact ⟨dy, hy0, fun h h' => h (hbt h').2, fun h => ⟨fun _ => o1 (by omega), fun _ => h⟩⟩
      obtain ⟨t1, ty1, e1⟩ := ist Z tv
      refine ⟨_, rfl, t1, _, ty1, e1, _, rfl, ?_⟩
      rcases tupCase tv with hn | ⟨c, ys, es, rfl, rfl, hc, hcs⟩
      · rw [hn]
        exact iteT (iteT (no H1 s0 (hno fun ⟨ds, e, _⟩ => by rw [e] at hn; cases hn)))
      have hcl := hcs.len
      refine iteF ⟨_, rfl, c, ys, rfl, .inr (SqT.of hc), _, _, rfl, rfl, _, rfl, ?_⟩
      by_cases h1 : (ys.length : Int) < 1
      · rw [decide_eq_true h1]
        exact iteT (iteT (no H1 s0 (hno fun ⟨ds, e, h, _⟩ => by injection e with e; rw [e] at hcl; omega)))
      rw [decide_eq_false h1]
      refine iteF ⟨_, rfl, c, ys, rfl, .inr (SqT.of hc), _, _, rfl, rfl, _, rfl, ?_⟩
      by_cases h2 : (6 : Int) < (ys.length : Int)
      · rw [decide_eq_true h2]
        exact iteT (no H1 s0 (hno fun ⟨ds, e, _, h⟩ => by injection e with e; rw [e] at hcl; omega))
      rw [decide_eq_false h2]
      exact iteF ⟨rfl, ⟨_, rfl⟩, hyes ⟨_, rfl, by omega, by omega⟩⟩
    case f1 =>
    rintro σ H1 ⟨rfl, ⟨y3, rfl⟩, o1, o2⟩
    obtain ⟨bs, rfl, b1, b6⟩ := o1 (by simp)
    obtain ⟨ws, rfl, w1, w6⟩ := o2 (by simp)
    cases hx0 with
    | @tup pB xB _ hpB hsB =>
    cases hy0 with
    | @tup pW xW _ hpW hsW =>
    have lB := hsB.len
    have lW := hsW.len
    -- the first row
    obtain ⟨x0, d0, _, ex0, hd0, tx0⟩ := trAt hsB (r := 0) (by decide) (by omega)
    obtain ⟨t1, ty1, e1⟩ := ist Z tx0
    refine ⟨_, rfl, pB, _, _, _, rfl, rfl, SqT.of hpB, ex0, t1, _, ty1, e1, _, rfl, ?_⟩
    rcases tupCase tx0 with hn | ⟨c0, ys0, rs, rfl, rfl, hc0, hcs0⟩
    · rw [hn]
      refine iteT (iteT (no H1 s0 fun h => ?_))
      obtain ⟨g, B, W, e, _⟩ := bt_law.mp h
      unfold tbl at e; injection e with e
      rw [e, List.getElem?_map] at hd0
      cases z : B[(0 : Int).toNat]? with
      | none => rw [z] at hd0; cases hd0
      | some r => rw [z] at hd0; have : rowD r = d0 := by simpa using hd0
                  rw [← this] at hn; cases hn
    refine iteF ⟨_, rfl, pB, _, rfl, .inr (SqT.of hpB), _, rfl, pW, _, rfl, .inr (SqT.of hpW), rfl, _, rfl, ?_⟩
    by_cases hbw : xB.length = xW.length
    case neg =>
      rw [vint_ne hbw]
      refine iteT (no H1 s0 fun h => ?_)
      obtain ⟨g, B, W, e, e', hl, _⟩ := bt_law.mp h
      unfold tbl at e e'; injection e with e; injection e' with e'
      rw [e, List.length_map] at lB
      rw [e', List.length_map] at lW
      omega
    rw [hbw, vint_eq]
    have l0 := hcs0.len
    refine iteF ⟨_, rfl, pB, _, _, _, rfl, rfl, SqT.of hpB, ex0, c0, _, rfl, .inr (SqT.of hc0), ?_⟩
    rw [l0]
    have hg : btP (.tuple [.tuple bs, .tuple ws]) → 1 ≤ rs.length ∧ rs.length ≤ 6 ∧ okR rs.length 10 (.tuple bs) ∧ okR rs.length 100 (.tuple ws) := fun h => by
      obtain ⟨g, B, W, e, _, _, h1, _, g1, g6, oB, oW⟩ := bt_law.mp h
      have hrs : rs.length = g := by
        obtain ⟨M, eM, hM, _⟩ := id oB
        unfold tbl at eM; injection eM with eM
        have hm := List.mem_of_getElem? hd0
        rw [eM] at hm
        obtain ⟨r, hr', er⟩ := List.mem_map.mp hm
        unfold rowD at er; injection er with er
        rw [← er, List.length_map]; exact (hM r hr').1
      rw [hrs]; exact ⟨g1, g6, oB, oW⟩
    refine ⟨_, rfl, _, _, rfl, rfl, _, rfl, ?_⟩
    by_cases h1 : (rs.length : Int) < 1
    · rw [decide_eq_true h1]
      exact iteT (iteT (no H1 s0 fun h => by have := (hg h).1; omega))
    rw [decide_eq_false h1]
    refine iteF ⟨_, rfl, _, _, rfl, rfl, _, rfl, ?_⟩
    by_cases h2 : (6 : Int) < (rs.length : Int)
    · rw [decide_eq_true h2]
      exact iteT (no H1 s0 fun h => by have := (hg h).2.1; omega)
    rw [decide_eq_false h2]
    refine iteF ?_
    generalize hge : rs.length = g at h1 h2 hg ⊢
    -- the two tables
    refine ⟨_, rfl, by show 2 ≤ sizeLine; decide, fun l1 hl1 => ⟨_, rfl, by show 2 ≤ sizeLine; decide, fun l2 hl2 => ⟨by show 2 ≤ sizeLine; decide, fun lo2 hlo2 => ⟨lo2, rfl, ⟨_, SqL.of upd_same⟩, ?_⟩⟩⟩⟩
    have sa := (Stay.refl H1).new (o := .lst [.ref pB, .int 10]) hl1
    have sb := (Stay.refl (upd H1 l1 (.lst [.ref pB, .int 10]))).new (o := .lst [.ref pW, .int 100]) hl2
    have sc := (Stay.refl (upd (upd H1 l1 (.lst [.ref pB, .int 10])) l2 (.lst [.ref pW, .int 100]))).new (o := .lst [.ref l1, .ref l2]) hlo2
    have f1 := (sb.trans sc) _ _ (upd_same (H := H1) (a := l1) (o := .lst [.ref pB, .int 10]))
    have f2 := sc _ _ (upd_same (H := upd H1 l1 (.lst [.ref pB, .int 10])) (a := l2) (o := .lst [.ref pW, .int 100]))
    have f3 := upd_same (H := upd (upd H1 l1 (.lst [.ref pB, .int 10])) l2 (.lst [.ref pW, .int 100])) (a := lo2) (o := .lst [.ref l1, .ref l2])
    have s2 := (sa.trans sb).trans sc
    generalize upd (upd (upd H1 l1 (.lst [.ref pB, .int 10])) l2 (.lst [.ref pW, .int 100])) lo2 (.lst [.ref l1, .ref l2]) = H2 at f1 f2 f3 s2 ⊢
    clear sa sb sc
    refine for_list (xs := [.ref l1, .ref l2]) (fun i σ H' => Stay H2 H' ∧ (∃ y3 y5, σ = [some (.ref a), some (.ref pB), some (.ref pW), y3, some (.int g), y5]) ∧ (1 ≤ i → okR g 10 (.tuple bs)) ∧ (2 ≤ i → okR g 100 (.tuple ws))) ⟨Stay.refl H2, ⟨_, _, rfl⟩, fun z => absurd z (by omega), fun z => absurd z (by omega)⟩ (fun i σ H' _ z => SqL.of (z.1 _ _ f3)) ?s2 ?f2
    case f2 =>
      rintro σ H3 ⟨s3, _, q1, q2⟩
      have hb : btP (.tuple [.tuple bs, .tuple ws]) := by
        obtain ⟨B, eB, hB⟩ := id (q1 (by simp))
        obtain ⟨W, eW, hW⟩ := id (q2 (by simp))
        have lb : bs.length = B.length := by unfold tbl at eB; injection eB with eB; rw [eB, List.length_map]
        have lw : ws.length = W.length := by unfold tbl at eW; injection eW with eW; rw [eW, List.length_map]
        exact bt_law.mpr ⟨g, B, W, eB, eW, by omega, by omega, by omega, by omega, by omega, q1 (by simp), q2 (by simp)⟩
      have hk := k H3 ((s0.trans s2).trans s3)
      unfold btB at hk
      rw [dec_t hb] at hk; exact hk
    case s2 =>
      rintro i v σ H3 hv ⟨s3, ⟨y3, y5, rfl⟩, q1, q2⟩
      obtain ⟨lx, pT, xT, es, most, rfl, hlx, hpT, hsT, hl6, hno, hyes⟩ : ∃ (lx pT : Addr) (xT : List V) (es : List PyData) (most : Int), v = .ref lx ∧ H3 lx = some (.lst [.ref pT, .int most]) ∧ H3 pT = some (.tup xT) ∧ TrVs b H3 xT es ∧ es.length ≤ 6 ∧ (¬ okR g most (.tuple es) → ¬ btP (.tuple [.tuple bs, .tuple ws])) ∧ (okR g most (.tuple es) → (1 ≤ i + 1 → okR g 10 (.tuple bs)) ∧ (2 ≤ i + 1 → okR g 100 (.tuple ws))) := by
        match i, hv with
        | 0, hv => exact ⟨l1, pB, xB, bs, 10, by simpa using hv.symm, s3 _ _ f1, (s2.trans s3) _ _ hpB, hsB.stay (s2.trans s3), b6, fun h h' => h (hg h').2.2.1, fun h => ⟨fun _ => h, fun z => absurd z (by omega)⟩⟩
        | 1, hv => exact ⟨l2, pW, xW, ws, 100, by simpa using hv.symm, s3 _ _ f2, (s2.trans s3) _ _ hpW, hsW.stay (s2.trans s3), w6, fun h h' => h (hg h').2.2.2, fun h => ⟨fun _ => q1 (by omega), fun _ => h⟩⟩
      have s03 := (s0.trans s2).trans s3
      have hTl := hsT.len
      refine ⟨lx, _, rfl, SqL.of hlx, rfl, _, _, rfl, _, _, rfl, rfl, ?_⟩
      refine ⟨_, rfl, pT, rfl, ⟨_, SqT.of hpT⟩, fun acc hacc => ?_⟩
      refine comp_filt (fun d => dec (lrowP g most d)) hsT hpT hacc (by omega) (Nat.succ_pos _) (fun x d H' st hx _ Z0 hZ => ⟨_, rfl, _, rfl, _, rfl, b, x, d, g, most, rfl, hx, by omega, fun H5 s5 => ⟨_, rfl, hZ H5 s5⟩⟩) (fun ys es' H4 s4 hy tr he => ?_)
      refine ⟨by show 0 ≤ sizeLine; decide, fun q hq => ?_⟩
      have sq : Stay H4 (upd H4 q (.lst [])) := (Stay.refl H4).new hq
      refine ⟨.list es', .list [], .lst (SqL.of (sq _ _ hy)) (tr.stay sq).dt, .lst (SqL.of upd_same) .nil, by show min _ 1 ≤ 60; omega, _, rfl, ?_⟩
      rw [eqv_nil, he]
      have s35 := s4.trans sq
      generalize upd H4 q (.lst []) = H5 at s35 ⊢
      cases hall : es.all fun d => dec (lrowP g most d) with
      | false => exact iteT (no H5 (s03.trans s35) (hno fun h => by rw [okR_all h] at hall; cases hall))
      | true =>
      refine iteF ?_
      obtain ⟨M, rfl, hM⟩ := lrows_all hall
      have rT := tr_rws hsT
      rw [List.length_map] at hl6
      have rl := rT.len
      refine ⟨_, rfl, (g : Int), rfl, by omega, by omega, fun acc2 hacc2 => ?_⟩
      rw [Int.toNat_natCast]
      refine pr_range (fun j => decide ((M.map fun r => r.getD j 0).sum = 0)) (fun j => V.int ((j : Nat) : Int)) hacc2 (by omega) (fun j H6 Z hj s6 hZ => ?_) (fun j H6 Z hj _ s6 hZ => ⟨_, rfl, hZ H6 (Stay.refl H6)⟩) (fun H6 s6 h6 => ?_)
      · refine ⟨_, rfl, pT, rfl, ⟨_, SqT.of ((s35.trans s6) _ _ hpT)⟩, fun acc3 hacc3 => ?_⟩
        refine pr_tup (xs := xT) (fun _ => true) (fun i => V.int ((M.getD i []).getD j 0)) hacc3 (by omega) ((s35.trans s6) _ _ hpT) (fun i x H7 Z _ _ h => h H7 (Stay.refl H7)) (fun i x H7 Z hx _ s7 h => ?_) (fun H7 s7 h7 => ?_)
        · obtain ⟨hi, c, rfl, hc⟩ := rws_at rT hx
          have hli := row_len (fun r hr' => (hM r hr').1) hi
          obtain ⟨eb, _, _⟩ := atI_ints (ns := M.getD i []) (r := (j : Int)) (by omega) (by omega)
          rw [Int.toNat_natCast] at eb
          exact ⟨_, rfl, _, rfl, c, _, _, _, rfl, rfl, SqT.of (((s35.trans s6).trans s7) _ _ hc), eb, h H7 (Stay.refl H7)⟩
        · have e7 : ((List.range xT.length).filter fun _ => true).map (fun i => V.int ((M.getD i []).getD j 0)) = (M.map fun r => r.getD j 0).map V.int := by
            rw [List.filter_eq_self.mpr (fun _ _ => rfl), rl, List.map_map]
            conv => rhs; rw [← idx_all M [], List.map_map]
            rfl
          rw [e7] at h7
          refine ⟨acc3, _, rfl, .inl (SqL.of h7), rfl, _, rfl, ?_⟩
          have ed : decide (V.int (M.map fun r => r.getD j 0).sum = V.int 0) = decide ((M.map fun r => r.getD j 0).sum = 0) := by
            rw [decide_eq_decide]
            exact ⟨fun h => by injection h, fun h => by rw [h]⟩
          rw [ed]
          exact hZ H7 s7
      have e6 : ((List.range g).filter fun j => decide ((M.map fun r => r.getD j 0).sum = 0)).map (fun j => V.int ((j : Nat) : Int)) = (((List.range g).filter fun j => decide ((M.map fun r => r.getD j 0).sum = 0)).map fun j : Nat => (j : Int)).map V.int := by rw [List.map_map]; rfl
      rw [e6] at h6
      refine ⟨by show 0 ≤ sizeLine; decide, fun q2 hq2 => neNil (((Stay.refl H6).new (o := .lst []) hq2) _ _ h6) upd_same ⟨_, rfl, ?_⟩⟩
      rw [List.isEmpty_map, filt_isEmpty, Bool.not_not]
      have s37 := (s35.trans s6).new (o := .lst []) hq2
      generalize upd H6 q2 (.lst []) = H7 at s37 ⊢
      cases hany : (List.range g).any fun j => decide ((M.map fun r => r.getD j 0).sum = 0) with
      | true =>
        refine iteT (no H7 (s03.trans s37) (hno fun ⟨M', e, _, hc⟩ => ?_))
        obtain rfl := tbl_inj (show tbl M = tbl M' from e)
        obtain ⟨j, hj, hz⟩ := List.any_eq_true.mp hany
        exact hc j (List.mem_range.mp hj) (of_decide_eq_true hz)
      | false =>
        exact iteF ⟨s3.trans s37, ⟨_, _, rfl⟩, hyes ⟨M, rfl, hM, fun j hj hz => (List.any_eq_false.mp hany j (List.mem_range.mpr hj)) (decide_eq_true hz)⟩⟩
end
end K28

set_option Elab.async false
set_option linter.all false
set_option maxRecDepth 100000
set_option maxHeartbeats 4000000
namespace K28
open PySem L2 KG EX KM
section
variable {P : Program} {w : World} {K : PySem.W.Frag} {mg : Str → Option Value} {base : Heap}
abbrev NEm : List Str := ["bag", "barter", "which", "row", "rows", "good", "some"]
theorem scEm : FnScope NEm ["bag", "barter"] (defScope (top 20)) := ⟨rfl, rfl, rfl, by decide +kernel, rfl, by decide +kernel, by decide +kernel⟩
theorem ok_em {f fT : Addr} {fd dT : FuncData} (F : Fun K "_law_emptied" "_law_emptied" (top 20) f fd) (N : Nm mg) (T : Cal K mg P w base "_law_take" 1 ["bag", "many"] spTake fT dT) : FnOk P w K mg base CX0 2 f fd ["bag", "barter"] spEmp := by
  refine F.ok scEm (fun vs H Q E h => ?_) (fun cdv A outer s H vs Q E hr1 h => ?_)
  · obtain ⟨b, p, pB, pW, xB, xW, B, W, g, rfl, _⟩ := h; rfl
  · obtain ⟨b, p, pB, pW, xB, xW, B, W, g, rfl, hb, m, k⟩ := h
    refine ⟨_, pss_cons (ps_set (i := 2) scEm.nd rfl (Or.inl rfl) (pe_call T.ok hr1 rfl T.mg T.kp T.bd .nil pass0 (pa_cons (pv 0) (pa_cons pe_int pa_nil))))
      (pss_cons (ps_setC (i := 4) (own := ["row"]) (cap := []) (ix := []) scEm.nd rfl rfl (BlkOk.of (defScope (top 20)).names NEm) rfl (piT0 (pe_ix ixT0 (pv 1) (pv 2) (fun _ _ => rfl)))
        (fun C fp s H => ⟨pg_name (i := 0) (show List.Nodup (["row"] : List Str) by decide +kernel) rfl (Or.inl rfl), pifs_nil, (pe_callTy cLst0 (by rfl) N.list boot_list (pa_cons (pv 0) pa_nil))⟩))
      (pss_cons (ps_if (pt_cmpR op_eq (pe_call T.ok hr1 rfl T.mg T.kp T.bd .nil pass0 (pa_cons (pv 0) (pa_cons pe_int pa_nil))) pe_int (nomark _))
          (pss_one (ps_asg (pe_op op_rep (pe_lst (pa_cons pe_int pa_nil)) (pe_callB cLen0 (by rfl) N.len PySem.boot_len (pa_cons (pe_ix ixL0 (pv 4) pe_int (fun _ _ => rfl)) pa_nil))) (pg_sub (pv 4) (pe_call T.ok hr1 rfl T.mg T.kp T.bd .nil pass0 (pa_cons (pv 0) (pa_cons (pe_callB cLen0 (by rfl) N.len PySem.boot_len (pa_cons (pv 4) pa_nil)) pa_nil))) set_list)))
          (pss_cons (ps_set (i := 5) scEm.nd rfl (Or.inl rfl) (pe_call T.ok hr1 rfl T.mg T.kp T.bd .nil pass0 (pa_cons (pv 0) (pa_cons (pe_callB cLen0 (by rfl) N.len PySem.boot_len (pa_cons (pe_ix ixL0 (pv 4) pe_int (fun _ _ => rfl)) pa_nil)) pa_nil)))) (pss_one (ps_for PassesOwn.never rfl (piL0 (pv 4)) (pg_name (i := 3) scEm.nd rfl (Or.inl rfl)) (pss_one (ps_asg pe_int (pg_sub (pv 3) (pv 5) set_list)))))))
      (pss_cons (ps_set (i := 6) scEm.nd rfl (Or.inl rfl) (pe_callTy cLst0 (by rfl) N.list boot_list (pa_cons (pv 1) pa_nil)))
      (pss_cons (ps_asg (pe_callTy cTup0 (by rfl) N.tuple boot_tuple (pa_cons (pe_comp (own := ["row"]) (cap := []) (ix := []) (BlkOk.of (defScope (top 20)).names NEm) rfl (piL0 (pv 4)) (fun C fp s H => ⟨pg_name (i := 0) (show List.Nodup (["row"] : List Str) by decide +kernel) rfl (Or.inl rfl), pifs_nil, (pe_callTy cTup0 (by rfl) N.tuple boot_tuple (pa_cons (pv 0) pa_nil))⟩)) pa_nil)) (pg_sub (pv 6) (pv 2) set_list))
      (pss_one (ps_ret (pe_callTy cTup0 (by rfl) N.tuple boot_tuple (pa_cons (pv 6) pa_nil)))))))), ?_⟩
    refine ⟨_, rfl, b, _, rfl, hb, by decide, by decide, fun wh H1 w0 w1 hb1 kp1 => ?_⟩
    have m1 := m.tm (kp1.tm hb)
    have hn1 := m.n1
    have hn6 := m.n6
    have hg1 := m.g1
    have hg6 := m.g6
    obtain ⟨pT, xT, M, eT, eI, hpT, rT, lT, hM, hfin⟩ := m1.pick (b := b) w0 w1
    refine ⟨_, rfl, _, rfl, p, _, _, _, rfl, rfl, SqT.of m1.hp, eT, pT, rfl, ⟨_, SqT.of hpT⟩, fun pr hpr => ?_⟩
    refine comp_lists hpr hpT rT (by omega) (fun c ns H' Z hc hZ => ⟨_, rfl, c, _, rfl, .inr (SqT.of hc), hZ⟩) (fun H2 s2 mt => ?_)
    have hb2 := Bag.stay hb1 s2
    have k2 : Kp b H1 H2 := Stay.kpb s2
    have nprb : b ≠ pr := hb1.ne hpr
    dsimp only [gName]
    refine ifs2 (fun σ H' => (∃ y3 y5, σ = [some (.ref b), some (.ref p), some (.int wh), y3, some (.ref pr), y5, none]) ∧ Bag H' b ∧ Kp b H1 H' ∧ ∃ N, Mat H1 H' pr N ∧ N.length = B.length ∧ (∀ r ∈ N, r.length = g) ∧ noOut N g = false) ?rest ?test
    case test =>
      intro cont
      refine ⟨_, rfl, b, _, rfl, hb2, by decide, by decide, fun r3 H3 _ _ hb3 kp3 => ⟨rfl, _, rfl, ite2 (fun _ => ?_) (fun _ => ?_)⟩⟩
      · have mt3 := mt.kp hb1 kp3
        obtain ⟨xs, a0, hxs, hxl, ea0, _, ha0, _, _⟩ := mt3.row (i := 0) (by omega)
        refine ⟨by show 1 ≤ sizeLine; decide, fun l1 hl1 => ?_⟩
        have s4 := (Stay.refl H3).new (o := .lst [.int 0]) hl1
        have hl0 := row_len lT (i := 0) (by omega)
        refine ⟨_, rfl, pr, _, _, _, rfl, rfl, SqL.of (s4 _ _ hxs), ea0, a0, _, rfl, .inl (SqL.of (s4 _ _ ha0)), l1, _, _, rfl, rfl, upd_same, by omega, by rw [List.length_map, hl0]; omega, by rw [List.length_map, hl0, sz]; show 1 * _ ≤ _; omega, fun l2 hl2 => ?_⟩
        rw [List.length_map, hl0, Int.toNat_natCast, rep0]
        have s5 := s4.new (o := .lst ((List.replicate g (0 : Int)).map V.int)) hl2
        have e5 : (upd (upd H3 l1 (.lst [.int 0])) l2 (.lst ((List.replicate g (0 : Int)).map V.int))) l2 = some (.lst ((List.replicate g (0 : Int)).map V.int)) := upd_same
        have hl23 : H3 l2 = none := s4.free hl2
        generalize upd (upd H3 l1 (.lst [.int 0])) l2 (.lst ((List.replicate g (0 : Int)).map V.int)) = H5 at s5 e5 ⊢
        have hb5 := Bag.stay hb3 s5
        have k15 : Kp b H1 H5 := (k2.trans kp3).trans (Stay.kpb s5)
        refine ⟨_, rfl, _, rfl, _, rfl, pr, _, rfl, .inl (SqL.of (s5 _ _ hxs)), b, _, rfl, hb5, by omega, by omega, fun r6 H6 r60 r61 hb6 kp6 => ?_⟩
        have nl2b : l2 ≠ b := fun z => by obtain ⟨c1, c2, e⟩ := hb3; rw [z, e] at hl23; cases hl23
        obtain ⟨zs, hzs, hzl, mt7⟩ := mt3.setrow (c := l2) (r := List.replicate g 0) (i := r6.toNat) hl23 ((k2.trans kp3).free hb1 hl23 hb3) (fun a o hn e => kp6 a o (hb1.ne hn).symm (s5 _ _ e)) (kp6 _ _ nl2b e5) (by omega)
        have exn : ixN zs.length r6 = some r6.toNat := by
          unfold ixN
          rw [if_pos r60, if_pos (by omega)]
        refine ⟨pr, zs, _, r6.toNat, rfl, rfl, hzs, exn, cont _ _ ⟨⟨_, _, rfl⟩, hb6.acc nprb, (k15.trans kp6).acc hpr, _, mt7, by rw [List.length_set]; exact hM, set_rows lT (by rw [List.length_replicate]), noOut_row (by omega)⟩⟩
      · have mt3 := mt.kp hb1 kp3
        obtain ⟨xs, a0, hxs, hxl, ea0, _, ha0, _, _⟩ := mt3.row (i := 0) (by omega)
        have hl0 := row_len lT (i := 0) (by omega)
        refine ⟨_, rfl, _, rfl, pr, _, _, _, rfl, rfl, SqL.of hxs, ea0, a0, _, rfl, .inl (SqL.of ha0), b, (g : Int), by rw [List.length_map, hl0]; rfl, hb3, by omega, by omega, fun r6 H6 r60 r61 hb6 kp6 => ?_⟩
        obtain ⟨as, mA⟩ := mt3.kp hb1 kp6
        obtain ⟨j, rfl⟩ : ∃ j : Nat, r6 = (j : Int) := ⟨r6.toNat, by omega⟩
        have k16 : Kp b H1 H6 := (k2.trans kp3).trans kp6
        refine ⟨_, rfl, pr, rfl, ⟨_, SqL.of mA.1⟩, ?_⟩
        have hal : as.length = B.length := by rw [mA.2.1]; exact hM
        refine for_list (xs := as.map V.ref) (fun i σ H' => (∃ y3, σ = [some (.ref b), some (.ref p), some (.int wh), y3, some (.ref pr), some (.int (j : Int)), none]) ∧ Bag H' b ∧ Kp b H1 H' ∧ ∃ N, MatA H1 H' pr as N ∧ N.length = B.length ∧ ∀ i', i' < B.length → (N.getD i' []).length = g ∧ (i' < i → (N.getD i' []).getD j 0 = 0))
          ⟨⟨_, rfl⟩, hb6, k16, M, mA, hM, fun i' hi' => ⟨row_len lT (by omega), fun z => absurd z (by omega)⟩⟩ (fun i σ H' _ z => by obtain ⟨_, _, _, N, hN, _⟩ := z; exact SqL.of hN.1) ?_ ?_
        · rintro i x σ H7 hx ⟨⟨y3, rfl⟩, hb7, k7, N, hN, hNl, hrow⟩
          rw [List.getElem?_map] at hx
          cases ea : as[i]? with
          | none => rw [ea] at hx; cases hx
          | some a =>
          obtain rfl : x = .ref a := by rw [ea] at hx; simpa using hx.symm
          obtain ⟨ha, hfa, hi, hset⟩ := hN.row ea
          have hli := (hrow i (by omega)).1
          obtain ⟨_, ex, _⟩ := atI_ints (ns := N.getD i []) (r := (j : Int)) (by omega) (by omega)
          rw [Int.toNat_natCast] at ex
          refine ⟨_, rfl, _, rfl, a, _, _, j, rfl, rfl, ha, ex, ?_⟩
          have es : ((N.getD i []).map V.int).set j (V.int 0) = ((N.getD i []).set j 0).map V.int := by rw [List.map_set]
          rw [es]
          refine ⟨⟨_, rfl⟩, hb7.acc (hb1.ne hfa), k7.acc hfa, _, hset _, by rw [List.length_set]; exact hNl, fun i' hi' => ?_⟩
          by_cases z : i' = i
          · subst z
            have : (N.set i' ((N.getD i' []).set j 0)).getD i' [] = (N.getD i' []).set j 0 := by simp [List.getD, hi]
            rw [this, List.length_set]
            refine ⟨hli, fun _ => ?_⟩
            generalize N.getD i' [] = R at hli ⊢
            simp [List.getD, show j < R.length by omega]
          · have : (N.set i ((N.getD i []).set j 0)).getD i' [] = N.getD i' [] := by simp [List.getD, List.getElem?_set_ne (Ne.symm z)]
            rw [this]
            exact ⟨(hrow i' hi').1, fun hz => (hrow i' hi').2 (by omega)⟩
        · rintro σ H7 ⟨⟨y3, rfl⟩, hb7, k7, N, hN, hNl, hrow⟩
          rw [List.length_map, hal] at hrow
          have hmem : ∀ r ∈ N, r.length = g ∧ r.getD j 0 = 0 := fun r hr' => by
            obtain ⟨i, hi, e⟩ := List.getElem_of_mem hr'
            have := hrow i (by omega)
            rw [getD_of (List.getElem?_eq_getElem hi), e] at this
            exact ⟨this.1, this.2 (by omega)⟩
          exact cont _ _ ⟨⟨_, _, rfl⟩, hb7, k7, N, ⟨as, hN⟩, hNl, fun r hr' => (hmem r hr').1, noOut_col (by omega) fun r hr' => (hmem r hr').2⟩
    case rest =>
      rintro σ H3 ⟨⟨y3, y5, rfl⟩, hb3, k3, N', mt3, hNl, hNg, hno⟩
      have hp3 := k3.tm hb1 _ _ m1.hp
      refine ⟨_, rfl, p, _, rfl, .inr (SqT.of hp3), fun l hl => ?_⟩
      have s4 := (Stay.refl H3).new (o := .lst [.ref pB, .ref pW]) hl
      have e4 : (upd H3 l (.lst [.ref pB, .ref pW])) l = some (.lst [.ref pB, .ref pW]) := upd_same
      have mt4 := mt3.stay s4
      have nlb : b ≠ l := hb3.ne hl
      generalize upd H3 l (.lst [.ref pB, .ref pW]) = H4 at s4 e4 mt4 ⊢
      obtain ⟨xs, hxs, hxl, hxr⟩ := mt4.list
      refine ⟨_, rfl, pr, rfl, ⟨_, SqL.of hxs⟩, fun a1 ha1 => ?_⟩
      refine comp_tups ha1 hxs hxl (by omega) (fun i x hx => by obtain ⟨a, e, _, ha⟩ := hxr i x hx; exact ⟨a, e, ha⟩) (fun a ns H' Z ha hZ => ⟨_, rfl, a, _, rfl, .inl ⟨SqL.of ha, hZ⟩⟩) (fun ys H5 s5 r5 hy5 => ?_)
      refine ⟨a1, _, rfl, .inl ⟨SqL.of hy5, fun t ht => ?_⟩⟩
      have s6 := (Stay.refl H5).new (o := .tup ys) ht
      have e6 : (upd H5 t (.tup ys)) t = some (.tup ys) := upd_same
      have r6 := r5.keep s6.tm
      generalize upd H5 t (.tup ys) = H6 at s6 e6 r6 ⊢
      have s46 := s5.trans s6
      have e46 := s46 _ _ e4
      refine ⟨_, rfl, _, rfl, l, _, _, wh.toNat, rfl, rfl, e46, eI, ?_⟩
      have tl : Tm H6 (upd H6 l (.lst ([V.ref pB, V.ref pW].set wh.toNat (.ref t)))) := Tm.lst e46
      refine ⟨_, rfl, l, _, rfl, .inl ⟨SqL.of upd_same, fun u hu => ?_⟩⟩
      have k16 : Kp b H1 H6 := k3.trans (Stay.kpb (s4.trans s46))
      have hb6 := Bag.stay hb3 (s4.trans s46)
      have t7 : Tm H6 (upd (upd H6 l (.lst ([V.ref pB, V.ref pW].set wh.toNat (.ref t)))) u (.tup ([V.ref pB, V.ref pW].set wh.toNat (.ref t)))) := tl.trans (Tm.new hu)
      obtain ⟨ds, trd, hnb⟩ := hfin t ys N' _ ((k16.tm hb1).trans t7) (t7 _ _ e6) (r6.keep t7)
      have hl1 : H1 l = none := k3.free hb1 hl hb3
      refine k _ (.tuple ds) _ ((hb6.acc nlb).new hu) (kp1.trans ((k16.acc hl1).new hu)) (.tup upd_same trd) (hnb hNl hNg hno)
abbrev NEg : List Str := ["bag", "barter", "hand", "good", "which", "numbers", "number", "rows", "row", "some"]
theorem scEg : FnScope NEg ["bag", "barter"] (defScope (top 21)) := ⟨rfl, rfl, rfl, by decide +kernel, rfl, by decide +kernel, by decide +kernel⟩
def edgD : List PyData := [.list [.int 0, .list [.int 10, .int 11, .int (-1)]], .list [.int 1, .list [.int 100, .int 101, .int (-1)]]]
theorem ok_eg {f fT fI fD : Addr} {fd dT dI dD : FuncData} (F : Fun K "_law_edges_right" "_law_edges_right" (top 21) f fd) (N : Nm mg) (T : Cal K mg P w base "_law_take" 1 ["bag", "many"] spTake fT dT) (I : Cal K mg P w base "is_barter" 4 ["thing"] (spT btB) fI dI) (D : Cal K mg P w base "_law_due" 2 ["thing"] (spT btB) fD dD) : FnOk P w K mg base CX0 5 f fd ["bag", "barter"] spEdgB := by
  refine F.ok scEg (fun vs H Q E h => ?_) (fun cdv A outer s H vs Q E hr h => ?_)
  · obtain ⟨b, p, pB, pW, xB, xW, B, W, g, rfl, _⟩ := h; rfl
  · obtain ⟨b, p, pB, pW, xB, xW, B, W, g, rfl, hb, m, k⟩ := h
    have hr1 : Room 1 _ := hr.mono (by decide)
    have hr2 : Room 2 _ := hr.mono (by decide)
    refine ⟨_, pss_cons (ps_set (i := 2) scEg.nd rfl (Or.inl rfl) (pe_call T.ok hr1 rfl T.mg T.kp T.bd .nil pass0 (pa_cons (pv 0) (pa_cons (pe_callB cLen0 (by rfl) N.len PySem.boot_len (pa_cons (pe_ix ixT0 (pv 1) pe_int (fun _ _ => rfl)) pa_nil)) pa_nil))))
      (pss_cons (ps_set (i := 3) scEg.nd rfl (Or.inl rfl) (pe_call T.ok hr1 rfl T.mg T.kp T.bd .nil pass0 (pa_cons (pv 0) (pa_cons (pe_callB cLen0 (by rfl) N.len PySem.boot_len (pa_cons (pe_ix ixT0 (pe_ix ixT0 (pv 1) pe_int (fun _ _ => rfl)) pe_int (fun _ _ => rfl)) pa_nil)) pa_nil))))
      (pss_cons (ps_for PassesOwn.never rfl (piL0 (pe_lit 5 _ (.list edgD) (by kernel_rfl))) (pgLst0 (n := 2) rfl (pgs_cons (pg_name (i := 4) scEg.nd rfl (Or.inl rfl)) (pgs_cons (pg_name (i := 5) scEg.nd rfl (Or.inl rfl)) pgs_nil)))
        (pss_one (ps_for PassesOwn.never rfl (piL0 (pv 5)) (pg_name (i := 6) scEg.nd rfl (Or.inl rfl))
          (pss_cons (ps_set (i := 7) scEg.nd rfl (Or.inl rfl) (pe_ix ixT0 (pv 1) (pv 4) (fun _ _ => rfl)))
          (pss_cons (ps_set (i := 8) scEg.nd rfl (Or.inl rfl) (pe_op op_catA (pe_op op_catA (pe_slice sl_tupA (pe_ix ixT0 (pv 7) (pv 2) (fun _ _ => rfl)) po_none (po_some (pv 3))) (pe_tup (pa_cons (pv 6) pa_nil))) (pe_slice sl_tupA (pe_ix ixT0 (pv 7) (pv 2) (fun _ _ => rfl)) (po_some (pe_op op_add (pv 3) pe_int)) po_none)))
          (pss_cons (ps_set (i := 9) scEg.nd rfl (Or.inl rfl) (pe_callTy cLst0 (by rfl) N.list boot_list (pa_cons (pv 1) pa_nil)))
          (pss_cons (ps_asg (pe_op op_catA (pe_op op_catA (pe_slice sl_tupA (pv 7) po_none (po_some (pv 2))) (pe_tup (pa_cons (pv 8) pa_nil))) (pe_slice sl_tupA (pv 7) (po_some (pe_op op_add (pv 2) pe_int)) po_none)) (pg_sub (pv 9) (pv 4) set_list))
          (pss_one (ps_if (pt_cmpR op_ne (pe_call I.ok hr rfl I.mg I.kp I.bd .nil pass0 (pa_cons (pe_callTy cTup0 (by rfl) N.tuple boot_tuple (pa_cons (pv 9) pa_nil)) pa_nil)) (pe_call D.ok hr2 rfl D.mg D.kp D.bd .nil pass0 (pa_cons (pe_callTy cTup0 (by rfl) N.tuple boot_tuple (pa_cons (pv 9) pa_nil)) pa_nil)) (nomark _)) (pss_one (ps_ret pe_bl)) pss_nil)))))))))
      (pss_one (ps_ret pe_bl)))), ?_⟩
    have hn1 := m.n1
    have hn6 := m.n6
    have hg1 := m.g1
    have hg6 := m.g6
    refine ⟨_, rfl, _, rfl, p, _, _, _, rfl, rfl, SqT.of m.hp, rfl, pB, _, rfl, .inr (SqT.of m.hB), b, _, rfl, hb, by rw [m.rB.len]; omega, by rw [m.rB.len]; omega, fun hd H1 h0 h1 hb1 kp1 => ?_⟩
    rw [m.rB.len] at h1
    have m1 := m.tm (kp1.tm hb)
    obtain ⟨a0, _, ea0, ha0⟩ := rws_row m1.rB (i := 0) (by omega)
    have hl0 := row_len m.lB (i := 0) (by omega)
    refine ⟨_, rfl, _, rfl, p, _, _, _, rfl, rfl, SqT.of m1.hp, rfl, pB, _, _, _, rfl, rfl, SqT.of m1.hB, ea0, a0, _, rfl, .inr (SqT.of ha0), b, (g : Int), by rw [List.length_map, hl0]; rfl, hb1, by omega, by omega, fun gd H2 g0 g1 hb2 kp2 => ?_⟩
    have m2 := m1.tm (kp2.tm hb1)
    have nb2 : H2 b ≠ none := by obtain ⟨c, d, e⟩ := hb2; rw [e]; simp
    have k02 := kp1.trans kp2
    intro v3 H3 s3 t3 _
    cases t3 b nb2 with
    | @lst l3 ys3 _ n3 e3 tr3 =>
    refine ⟨l3, rfl, ⟨ys3, SqL.of e3⟩, ?_⟩
    have m3 := m2.stay s3
    refine for_list (xs := ys3) (fun i σ H' => (∃ y4 y5 y6 y7 y8 y9, σ = [some (.ref b), some (.ref p), some (.int hd), some (.int gd), y4, y5, y6, y7, y8, y9]) ∧ Stay H3 H') ⟨⟨_, _, _, _, _, _, rfl⟩, Stay.refl H3⟩ (fun i σ H' _ q => SqL.of (q.2 _ _ e3)) ?_ (fun σ H4 ⟨_, s4⟩ => k H4 (Bag.stay hb2 (s3.trans s4)) (k02.trans (Stay.kpb (s3.trans s4))))
    rintro i x σ H4 hx ⟨⟨y4, y5, y6, y7, y8, y9, rfl⟩, s4⟩
    obtain ⟨d, hd', tx⟩ := tr3.at hx
    obtain ⟨wh, nums, rfl, w0, w1, hnums⟩ : ∃ (wh : Int) (nums : List PyData), d = .list [.int wh, .list nums] ∧ 0 ≤ wh ∧ wh < 2 ∧ ∀ e ∈ nums, ∃ c, e = .int c := by
      have := List.mem_of_getElem? hd'
      unfold edgD at this
      rw [List.mem_cons, List.mem_singleton] at this
      rcases this with rfl | rfl
      · refine ⟨0, _, rfl, by decide, by decide, fun e he => ?_⟩
        simp at he
        rcases he with rfl | rfl | rfl <;> exact ⟨_, rfl⟩
      · refine ⟨1, _, rfl, by decide, by decide, fun e he => ?_⟩
        simp at he
        rcases he with rfl | rfl | rfl <;> exact ⟨_, rfl⟩
    cases tx with
    | @lst lx xsx _ nx hlx hsx =>
    match xsx, hsx with
    | _, .cons hw (.cons (.lst (a := ln) (xs := xn) _ hln hsn) .nil) =>
    obtain rfl := tint hw
    refine ⟨lx, _, rfl, SqL.of (s4 _ _ hlx), rfl, _, _, rfl, _, _, rfl, rfl, ?_⟩
    refine ⟨_, rfl, ln, rfl, ⟨_, SqL.of (s4 _ _ hln)⟩, ?_⟩
    have m4 := m3.stay s4
    obtain ⟨pT, xT, M, eT, eI, hpT, rT, lT, hM, hfin⟩ := m4.pick (b := b) w0 w1
    refine for_list (xs := xn) (fun i σ H' => (∃ y6 y7 y8 y9, σ = [some (.ref b), some (.ref p), some (.int hd), some (.int gd), some (.int wh), some (.ref ln), y6, y7, y8, y9]) ∧ Stay H4 H') ⟨⟨_, _, _, _, rfl⟩, Stay.refl H4⟩ (fun i σ H' _ q => SqL.of ((s4.trans q.2) _ _ hln)) ?_ (fun σ H5 ⟨⟨y6, y7, y8, y9, e⟩, s5⟩ => ⟨⟨_, _, _, _, _, _, e⟩, s4.trans s5⟩)
    rintro j z σ H5 hz ⟨⟨y6, y7, y8, y9, rfl⟩, s5⟩
    obtain ⟨dz, hdz, tz⟩ := hsn.at hz
    obtain ⟨c, rfl⟩ := hnums dz (List.mem_of_getElem? hdz)
    obtain rfl := tint tz
    have m5 := m4.stay s5
    have hpT5 := s5 _ _ hpT
    have rT5 := rT.keep s5.tm
    refine ⟨_, rfl, _, rfl, p, _, _, _, rfl, rfl, SqT.of m5.hp, eT, ?_⟩
    -- row
    obtain ⟨hn, rfl⟩ : ∃ hn : Nat, hd = (hn : Int) := ⟨hd.toNat, by omega⟩
    obtain ⟨a, _, ea, ha⟩ := rws_row rT5 (i := hn) (by omega)
    have hla := row_len lT (i := hn) (by omega)
    dsimp only [gName, tSeq, tAsg]
    refine put_read (a := a) (xs := (M.getD hn []).map V.int) (r := gd) (x := .int c) (fun H' Z st q => ⟨_, rfl, _, rfl, pT, _, _, _, rfl, rfl, SqT.of (st _ _ hpT5), ea, q⟩) (fun H' Z q => ⟨_, rfl, q⟩) (fun H' Z _ q => ⟨_, rfl, q⟩) ha g0 (by rw [List.length_map, hla]; exact g1) (by rw [List.length_map]; omega) (fun q H6 s6 hq => ?_)
    rw [put_map] at hq
    -- some
    have m6 := m5.stay s6
    refine ⟨_, rfl, p, _, rfl, .inr (SqT.of m6.hp), fun l hl => ?_⟩
    have s7 := (Stay.refl H6).new (o := .lst [.ref pB, .ref pW]) hl
    have e7 : (upd H6 l (.lst [.ref pB, .ref pW])) l = some (.lst [.ref pB, .ref pW]) := upd_same
    have hl4 : H4 l = none := (s5.trans s6).free hl
    generalize upd H6 l (.lst [.ref pB, .ref pW]) = H7 at s7 e7 ⊢
    have s67 := s6.trans s7
    have hpT7 := s67 _ _ hpT5
    dsimp only [gName, tSeq, tAsg]
    refine put_read (a := pT) (xs := xT) (r := (hn : Int)) (x := .ref q) (fun H' Z _ q => ⟨_, rfl, q⟩) (fun H' Z q => ⟨_, rfl, q⟩) (fun H' Z _ q => ⟨_, rfl, q⟩) hpT7 (by omega) (by rw [rT5.len]; omega) (by rw [rT5.len]; omega) (fun q2 H8 s8 hq2 => ?_)
    rw [Int.toNat_natCast] at hq2
    have e8 := s8 _ _ e7
    refine ⟨_, rfl, _, rfl, l, _, _, wh.toNat, rfl, rfl, e8, eI, ?_⟩
    have s48 := (s5.trans s67).trans s8
    have tl : Tm H8 (upd H8 l (.lst ([V.ref pB, V.ref pW].set wh.toNat (.ref q2)))) := Tm.lst e8
    have s49 : Stay H4 (upd H8 l (.lst ([V.ref pB, V.ref pW].set wh.toNat (.ref q2)))) := s48.acc hl4
    have e9 : (upd H8 l (.lst ([V.ref pB, V.ref pW].set wh.toNat (.ref q2)))) l = some (.lst ([V.ref pB, V.ref pW].set wh.toNat (.ref q2))) := upd_same
    have r8 : Rws H8 (KM.put xT hn (.ref q)) (KM.put M hn (KM.put (M.getD hn []) gd.toNat c)) := rws_put (rT5.keep (s67.trans s8).tm) ((s7.trans s8) _ _ hq) hn
    obtain ⟨ds, trd, _⟩ := hfin q2 _ _ _ s49.tm (tl _ _ hq2) (r8.keep tl)
    generalize upd H8 l (.lst ([V.ref pB, V.ref pW].set wh.toNat (.ref q2))) = H9 at s49 e9 trd ⊢
    refine ⟨_, rfl, l, _, rfl, .inl ⟨SqL.of e9, fun u hu => ?_⟩⟩
    have s10 := (Stay.refl H9).new (o := .tup ([V.ref pB, V.ref pW].set wh.toNat (.ref q2))) hu
    refine ⟨b, _, .tuple ds, rfl, .tup upd_same (trd.stay s10), fun H11 s11 => ?_⟩
    have s911 := s10.trans s11
    refine ⟨_, rfl, l, _, rfl, .inl ⟨SqL.of (s911 _ _ e9), fun u2 hu2 => ?_⟩⟩
    have s12 := (Stay.refl H11).new (o := .tup ([V.ref pB, V.ref pW].set wh.toNat (.ref q2))) hu2
    refine ⟨b, _, .tuple ds, rfl, .tup upd_same ((trd.stay s911).stay s12), fun H13 s13 => ⟨rfl, _, rfl, ?_⟩⟩
    rw [bl_same]
    exact iteF ⟨⟨_, _, _, _, rfl⟩, ((s49.trans s911).trans s12).trans s13⟩
abbrev NL : List Str := ["script", "k", "bag", "barter", "many", "long", "wide", "thing", "found"]
theorem scLaw : FnScope NL ["script"] (defScope (top 22)) := ⟨rfl, rfl, rfl, by decide +kernel, rfl, by decide +kernel, by decide +kernel⟩
theorem ok_law {f fB fT fM fI fR fD fO fE fX : Addr} {fd dB dT dM dI dR dD dO dE dX : FuncData} (F : Fun K "law" "law" (top 22) f fd) (N : Nm mg) (Z : IsK K)
    (Bg : Cal K mg P w base "_law_bag" 1 ["script", "k"] (spBag K) fB dB) (T : Cal K mg P w base "_law_take" 1 ["bag", "many"] spTake fT dT) (Bt : Cal K mg P w base "_law_barter" 2 ["bag"] spBt fM dM)
    (I : Cal K mg P w base "is_barter" 4 ["thing"] (spT btB) fI dI) (R : Cal K mg P w base "_law_replaced" 6 ["bag", "thing", "deep"] (spRep 4) fR dR) (D : Cal K mg P w base "_law_due" 2 ["thing"] (spT btB) fD dD)
    (O : Cal K mg P w base "_law_odd" 2 ["bag"] spOdd fO dO) (Ed : Cal K mg P w base "_law_edges_right" 5 ["bag", "barter"] spEdgB fE dE) (Em : Cal K mg P w base "_law_emptied" 2 ["bag", "barter"] spEmp fX dX) : FnOk P w K mg base CX0 7 f fd ["script"] (spLaw K) := by
  refine F.ok scLaw (fun vs H Q E h => ?_) (fun cdv A outer s H vs Q E hr h => ?_)
  · obtain ⟨a, ns, rfl, _⟩ := h; rfl
  · obtain ⟨a, ns, rfl, hS, hlen, k⟩ := h
    have hr1 : Room 1 _ := hr.mono (by decide)
    have hr2 : Room 2 _ := hr.mono (by decide)
    have hr4 : Room 4 _ := hr.mono (by decide)
    have hr5 : Room 5 _ := hr.mono (by decide)
    have hu := hr.units
    refine ⟨_, pss_cons (ps_for PassesOwn.never rfl (pi_range1 rfl N.range (pa_cons (pe_op op_add (pe_callB (call_min2 rfl) (by rfl) N.min boot_min (pa_cons (pe_callB (cLen K) (by rfl) N.len PySem.boot_len (pa_cons (pv 0) pa_nil)) (pa_cons pe_int pa_nil))) pe_int) pa_nil)) (pg_name (i := 1) scLaw.nd rfl (Or.inl rfl))
      (pss_cons (ps_set (i := 2) scLaw.nd rfl (Or.inl rfl) (pe_call Bg.ok hr1 rfl Bg.mg Bg.kp Bg.bd .nil pass0 (pa_cons (pv 0) (pa_cons (pv 1) pa_nil))))
      (pss_cons (ps_set (i := 3) scLaw.nd rfl (Or.inl rfl) (pe_call Bt.ok hr2 rfl Bt.mg Bt.kp Bt.bd .nil pass0 (pa_cons (pv 2) pa_nil)))
      (pss_cons (ps_if (PW.pt (pw_or (pt_cmpR op_isnotB (pe_call I.ok hr4 rfl I.mg I.kp I.bd .nil pass0 (pa_cons (pv 3) pa_nil)) pe_bl (nomark _)) (pw_or1 (pt_cmpR op_isnotB (pe_call I.ok hr4 rfl I.mg I.kp I.bd .nil pass0 (pa_cons (pe_call Em.ok hr2 rfl Em.mg Em.kp Em.bd .nil pass0 (pa_cons (pv 2) (pa_cons (pv 3) pa_nil))) pa_nil)) pe_bl (nomark _))))) (pss_one (ps_ret pe_bl)) pss_nil)
      (pss_cons (ps_if (pt_not (pt_val (pe_call Ed.ok hr5 rfl Ed.mg Ed.kp Ed.bd .nil pass0 (pa_cons (pv 2) (pa_cons (pv 3) pa_nil))))) (pss_one (ps_ret pe_bl)) pss_nil)
      (pss_cons (ps_for PassesOwn.never rfl (piL0 (pe_lit 3 _ (.list [.int 2, .int 7]) (by kernel_rfl))) (pg_name (i := 4) scLaw.nd rfl (Or.inr rfl))
        (pss_cons (ps_set (i := 5) scLaw.nd rfl (Or.inl rfl) (pe_tup (pa_cons (pe_op opRepT0 (pe_ix ixT0 (pv 3) pe_int (fun _ _ => rfl)) (pv 4)) (pa_cons (pe_op opRepT0 (pe_ix ixT0 (pv 3) pe_int (fun _ _ => rfl)) (pv 4)) pa_nil))))
        (pss_cons (ps_set (i := 6) scLaw.nd rfl (Or.inl rfl) (pe_callTy cTup0 (by rfl) N.tuple boot_tuple (pa_cons (pe_comp (own := ["rows"]) (cap := ["many"]) (ix := [4]) (BlkOk.of (defScope (top 22)).names NL) rfl (piT0 (pv 3))
            (fun C fp s H => ⟨pg_name (i := 0) (show List.Nodup (["rows", "many"] : List Str) by decide +kernel) rfl (Or.inl rfl), pifs_nil, pe_callTy cTup0 (by rfl) N.tuple boot_tuple (pa_cons (pe_comp (own := ["row"]) (cap := ["many"]) (ix := [1]) (BlkOk.of [(".0", .local), ("rows", .local), ("tuple", .globalImplicit), ("many", .cell)] ["rows", "many"]) rfl (piT0 (pv 0))
              (fun C fp s H => ⟨pg_name (i := 0) (show List.Nodup (["row", "many"] : List Str) by decide +kernel) rfl (Or.inl rfl), pifs_nil, pe_op opRepT0 (pv 0) (pv 1)⟩)) pa_nil)⟩)) pa_nil)))
        (pss_one (ps_if (pt_cmpR (opNeD0 hu) (pe_lst (pa_cons (pe_call I.ok hr4 rfl I.mg I.kp I.bd .nil pass0 (pa_cons (pv 5) pa_nil)) (pa_cons (pe_call I.ok hr4 rfl I.mg I.kp I.bd .nil pass0 (pa_cons (pv 6) pa_nil)) pa_nil))) (pe_lst (pa_cons (pe_call D.ok hr2 rfl D.mg D.kp D.bd .nil pass0 (pa_cons (pv 5) pa_nil)) (pa_cons (pe_call D.ok hr2 rfl D.mg D.kp D.bd .nil pass0 (pa_cons (pv 6) pa_nil)) pa_nil))) (nomark _)) (pss_one (ps_ret pe_bl)) pss_nil)))))
      (pss_cons (ps_set (i := 7) scLaw.nd rfl (Or.inl rfl) (pe_call R.ok hr rfl R.mg R.kp R.bd .nil pass0 (pa_cons (pv 2) (pa_cons (pv 3) (pa_cons pe_int pa_nil)))))
      (pss_cons (ps_if (pt_cmpR op_eq (pe_call T.ok hr1 rfl T.mg T.kp T.bd .nil pass0 (pa_cons (pv 2) (pa_cons pe_int pa_nil))) pe_int (nomark _))
        (pss_one (ps_set (i := 7) scLaw.nd rfl (Or.inl rfl) (pe_call R.ok hr rfl R.mg R.kp R.bd .nil pass0 (pa_cons (pv 2) (pa_cons (pv 7) (pa_cons pe_int pa_nil)))))) pss_nil)
      (pss_cons (ps_set (i := 8) scLaw.nd rfl (Or.inl rfl) (pe_call I.ok hr4 rfl I.mg I.kp I.bd .nil pass0 (pa_cons (pv 7) pa_nil)))
      (pss_one (ps_if (PW.pt (pw_or (pt_not (pt_val (pIsi K (pv 8) rfl N.isinstance rfl N.bool boot_bool boot_isinstance))) (pw_or (pt_cmpR op_ne (pv 8) (pe_call D.ok hr2 rfl D.mg D.kp D.bd .nil pass0 (pa_cons (pv 7) pa_nil)) (nomark _)) (pw_or1 (pt_cmpR op_isnotB (pe_call I.ok hr4 rfl I.mg I.kp I.bd .nil pass0 (pa_cons (pe_call O.ok hr2 rfl O.mg O.kp O.bd .nil pass0 (pa_cons (pv 2) pa_nil)) pa_nil)) pe_bl (nomark _)))))) (pss_one (ps_ret pe_bl)) pss_nil)))))))))))
      (pss_one (ps_ret pe_bl)), ?_⟩
    refine ⟨_, rfl, a, _, rfl, .inl hS, _, _, rfl, _, _, rfl, rfl, _, rfl, ?_, ?_, ?_⟩
    · rw [List.length_map]; split <;> omega
    · rw [List.length_map]; split <;> omega
    have hN : ((if (63 : Int) < ((ns.map V.int).length : Int) then (63 : Int) else ((ns.map V.int).length : Int)) + 2).toNat ≤ 65 := by
      rw [List.length_map]; split <;> omega
    refine for_range (fun i σ H' => Stay H H' ∧ ∃ x1 x2 x3 x4 x5 x6 x7 x8, σ = [some (.ref a), x1, x2, x3, x4, x5, x6, x7, x8]) ⟨Stay.refl H, _, _, _, _, _, _, _, _, rfl⟩ ?_ (fun σ H' _ => k H')
    rintro i σ H0 hi ⟨st0, x1, x2, x3, x4, x5, x6, x7, x8, rfl⟩
    have hS0 := SqL.stay hS st0
    -- the bag
    refine ⟨_, rfl, _, rfl, a, ns, _, rfl, hS0, by omega, by omega, fun b c d hb0 => ?_⟩
    have hb1 : Bag (upd H0 b (.lst [.int c, .int d])) b := ⟨c, d, upd_same⟩
    have s1 : Stay H0 (upd H0 b (.lst [.int c, .int d])) := (Stay.refl H0).new hb0
    -- the barter
    refine ⟨_, rfl, b, rfl, hb1, fun p pB pW xB xW B W g H1 hbag kp1 m1 ok1 => ?_⟩
    have s2 : Stay H0 H1 := s1.kp kp1 hb0
    have hbt := bt_of m1 ok1
    obtain ⟨smM, lnM⟩ := bt_sm hbt
    refine ⟨_, rfl, b, _, _, rfl, m1.tr, fun H2 s12 => ⟨_, _, rfl, rfl, _, rfl, ?_⟩⟩
    have ebt : btB (.tuple [tbl B, tbl W]) = true := dec_t hbt
    rw [ebt]
    refine iteF ?_
    have hb2 := Bag.stay hbag s12
    have m2 := m1.stay s12
    -- emptied
    refine ⟨_, rfl, _, rfl, b, p, pB, pW, xB, xW, B, W, g, rfl, hb2, m2, fun v3 d3 H3 hb3 kp3 tr3 hno3 => ?_⟩
    refine ⟨b, v3, d3, rfl, tr3, fun H4 s4 => ⟨_, _, rfl, rfl, _, rfl, ?_⟩⟩
    have e3 : btB d3 = false := dec_f hno3
    rw [e3]
    refine iteF ?_
    have hb4 := Bag.stay hb3 s4
    have k24 : Kp b H2 H4 := kp3.trans (Stay.kpb s4)
    have m4 := m2.tm (k24.tm hb2)
    have s04 : Stay H0 H4 := (s2.trans s12).kp k24 hb0
    -- the edges
    refine ⟨_, rfl, _, rfl, b, p, pB, pW, xB, xW, B, W, g, rfl, hb4, m4, fun H5 hb5 kp5 => ⟨_, rfl, iteF ?_⟩⟩
    have m5 := m4.tm (kp5.tm hb4)
    have s05 : Stay H0 H5 := s04.kp kp5 hb0
    have nb5 : H5 b ≠ none := by obtain ⟨c, d, e⟩ := hb5; rw [e]; simp
    have hn1 := m5.n1
    have hn6 := m5.n6
    have hg1 := m5.g1
    have hg6 := m5.g6
    have lB := m5.rB.len
    have lW := m5.rW.len
    have hlen2 := m5.len
    -- long and wide
    intro v6 H6 s6 t6 _
    cases t6 b nb5 with
    | @lst l6 ys6 _ n6 e6 tr6 =>
    refine ⟨l6, rfl, ⟨ys6, SqL.of e6⟩, ?_⟩
    have m6 := m5.stay s6
    refine for_list (xs := ys6) (fun j σ H' => (∃ y4 y5 y6, σ = [some (.ref a), some (.int (0 + (i : Int))), some (.ref b), some (.ref p), y4, y5, y6, x7, x8]) ∧ Stay H6 H') ⟨⟨_, _, _, rfl⟩, Stay.refl H6⟩ (fun j σ H' _ q => SqL.of (q.2 _ _ e6)) ?lw ?fin
    case lw =>
      rintro j x σ H7 hx ⟨⟨y4, y5, y6, rfl⟩, s7⟩
      obtain ⟨d, hd, tx⟩ := tr6.at hx
      obtain ⟨mm, rfl, q2, q7⟩ : ∃ m : Nat, d = .int m ∧ 2 ≤ m ∧ m ≤ 7 := by
        have := List.mem_of_getElem? hd
        simp at this
        rcases this with rfl | rfl
        · exact ⟨2, rfl, by decide, by decide⟩
        · exact ⟨7, rfl, by decide, by decide⟩
      obtain rfl := tint tx
      have em : (mm : Int).toNat = mm := by simp
      have hmul : ∀ n : Nat, n ≤ 6 → n * mm ≤ 42 := fun n hn => Nat.mul_le_mul hn q7
      have m7 := m6.stay s7
      have neB : xB ≠ [] := by intro z; rw [z] at lB; simp at lB; omega
      have neW : xW ≠ [] := by intro z; rw [z] at lW; simp at lW; omega
      -- long
      refine ⟨_, rfl, p, _, _, _, rfl, rfl, SqT.of m7.hp, rfl, _, rfl, pB, _, xB, rfl, rfl, SqT.of m7.hB, neB, by omega, by rw [em, sz]; have := hmul xB.length (by omega); omega, fun e => absurd e (by omega), fun _ o1 ho1 => ?_⟩
      rw [em]
      have s8 := (Stay.refl H7).new (o := .tup (List.replicate mm xB).flatten) ho1
      have e8 : (upd H7 o1 (.tup (List.replicate mm xB).flatten)) o1 = some (.tup (List.replicate mm xB).flatten) := upd_same
      generalize upd H7 o1 (.tup (List.replicate mm xB).flatten) = H8 at s8 e8 ⊢
      have m8 := m7.stay s8
      refine ⟨_, rfl, p, _, _, _, rfl, rfl, SqT.of m8.hp, rfl, _, rfl, pW, _, xW, rfl, rfl, SqT.of m8.hW, neW, by omega, by rw [em, sz]; have := hmul xW.length (by omega); omega, fun e => absurd e (by omega), fun _ o2 ho2 => ?_⟩
      rw [em]
      have s9 := (Stay.refl H8).new (o := .tup (List.replicate mm xW).flatten) ho2
      have e9 : (upd H8 o2 (.tup (List.replicate mm xW).flatten)) o2 = some (.tup (List.replicate mm xW).flatten) := upd_same
      generalize upd H8 o2 (.tup (List.replicate mm xW).flatten) = H9 at s9 e9 ⊢
      refine ⟨by show 2 ≤ sizeLine; decide, fun o3 ho3 => ?_⟩
      have sA := (Stay.refl H9).new (o := .tup [.ref o1, .ref o2]) ho3
      have eA : (upd H9 o3 (.tup [.ref o1, .ref o2])) o3 = some (.tup [.ref o1, .ref o2]) := upd_same
      generalize upd H9 o3 (.tup [.ref o1, .ref o2]) = HA at sA eA ⊢
      have s7A := (s8.trans s9).trans sA
      have mA := m7.stay s7A
      have trL : TrV b HA (.ref o3) (.tuple [.tuple (List.replicate mm (B.map rowD)).flatten, .tuple (List.replicate mm (W.map rowD)).flatten]) :=
        .tup eA (.cons (.tup ((s9.trans sA) _ _ e8) (trRep2 (rws_tr mA.rB) mm)) (.cons (.tup (sA _ _ e9) (trRep2 (rws_tr mA.rW) mm)) .nil))
      -- wide
      refine ⟨_, rfl, p, rfl, ⟨_, SqT.of mA.hp⟩, fun acc hacc => ?_⟩
      refine comp_tup (xs := [.ref pB, .ref pW]) (fun l zs H' => Stay HA H' ∧ zs.length = l ∧ ∀ (n : Nat) z, zs[n]? = some z → ∃ t ys N, z = .ref t ∧ H' t = some (.tup ys) ∧ Rws H' ys N) ⟨(Stay.refl HA).acc hacc, rfl, fun n z hz => by simp at hz⟩ (fun l zs H' _ _ q => SqT.of (q.1 _ _ mA.hp)) ?ws ?wf
      case ws =>
        rintro l y zs HB hy hz ⟨sB, hzl, hzr⟩
        have hl2 := (List.getElem?_eq_some_iff.mp hy).1
        obtain ⟨pT, xT, M, rfl, hpT, rT, hM6, hrow⟩ : ∃ (pT : Addr) (xT : List V) (M : List (List Int)), y = .ref pT ∧ HA pT = some (.tup xT) ∧ Rws HA xT M ∧ M.length ≤ 6 ∧ ∀ r ∈ M, r.length = g := by
          match l, hy with
          | 0, hy => exact ⟨pB, xB, B, by simpa using hy.symm, mA.hB, mA.rB, hn6, mA.lB⟩
          | 1, hy => exact ⟨pW, xW, W, by simpa using hy.symm, mA.hW, mA.rW, by omega, mA.lW⟩
        refine yes_i ⟨_, rfl, pT, rfl, ⟨_, SqT.of (sB _ _ hpT)⟩, fun a2 ha2 => ?_⟩
        have na2 : a2 ≠ acc := fun z => by rw [z, hz] at ha2; cases ha2
        refine comp_rowsT (fun r => (List.replicate mm r).flatten) ha2 (sB _ _ hpT) (rT.keep sB.tm) (by omega) (fun c ns H' Z hmem hc hZ => ?_) (fun ys HC sC rC hyC => ?_)
        · have hnl := hrow ns hmem
          refine ⟨_, rfl, _, rfl, c, _, _, rfl, rfl, SqT.of hc, ?_, by omega, by rw [em, sz, List.length_map]; have := hmul ns.length (by omega); omega, fun e => absurd e (by omega), fun _ o4 ho4 => ?_⟩
          · intro z
            have := congrArg List.length z
            rw [List.length_map] at this
            simp at this
            rw [this] at hnl; simp at hnl; omega
          · rw [em, repInts2]
            exact hZ o4 ho4
        refine ⟨a2, _, rfl, .inl ⟨SqL.of hyC, fun t ht => ?_⟩⟩
        have sD := sC.new (o := .tup ys) ht
        have hzD := sD _ _ hz
        have eD : (upd HC t (.tup ys)) t = some (.tup ys) := upd_same
        have rD := rC.keep ((Stay.refl HC).new (o := .tup ys) ht).tm
        generalize upd HC t (.tup ys) = HD at sD hzD eD rD ⊢
        have tl : Tm HD (upd HD acc (.lst (zs ++ [.ref t]))) := Tm.lst hzD
        refine ⟨zs, hzD, by rw [hzl, sz]; simp at hl2; omega, Cn.of upd_same ⟨(sB.trans sD).acc hacc, by rw [List.length_append, hzl]; rfl, fun n z hzn => ?_⟩⟩
        rcases Nat.lt_or_ge n zs.length with y | y
        · rw [List.getElem?_append_left y] at hzn
          obtain ⟨t', ys', N', e, h1, h2⟩ := hzr n z hzn
          have tt := sD.tm.trans tl
          exact ⟨t', ys', N', e, tt _ _ h1, h2.keep tt⟩
        · have en : n = zs.length := by have := (List.getElem?_eq_some_iff.mp hzn).1; simp at this; omega
          subst en
          obtain rfl : z = .ref t := by simpa using hzn.symm
          exact ⟨t, ys, _, rfl, tl _ _ eD, rD.keep tl⟩
      case wf =>
      rintro zs HB hz ⟨sB, hzl, hzr⟩
      refine ⟨acc, zs, rfl, .inl ⟨SqL.of hz, fun o5 ho5 => ?_⟩⟩
      have sC := (Stay.refl HB).new (o := .tup zs) ho5
      match zs, hzl with
      | [z0, z1], _ =>
      obtain ⟨t0, u0, N0, rfl, h0, r0⟩ := hzr 0 z0 rfl
      obtain ⟨t1, u1, N1, rfl, h1, r1⟩ := hzr 1 z1 rfl
      have trW : TrV b (upd HB o5 (.tup [.ref t0, .ref t1])) (.ref o5) (.tuple [tbl N0, tbl N1]) := .tup upd_same (.cons (.tup (sC _ _ h0) (rws_tr (r0.keep sC.tm))) (.cons (.tup (sC _ _ h1) (rws_tr (r1.keep sC.tm))) .nil))
      have trL2 := trL.stay (sB.trans sC)
      have s6C := s7.trans (s7A.trans (sB.trans sC))
      generalize upd HB o5 (.tup [.ref t0, .ref t1]) = HC at trW trL2 s6C ⊢
      generalize hdL : PyData.tuple [.tuple (List.replicate mm (B.map rowD)).flatten, .tuple (List.replicate mm (W.map rowD)).flatten] = dL at trL2
      generalize hdW : PyData.tuple [tbl N0, tbl N1] = dW at trW
      -- held against one another
      refine ⟨_, rfl, b, _, _, rfl, trL2, fun H19 s19 => ⟨_, rfl, b, _, _, rfl, trW.stay s19, fun H20 s20 => ⟨by show 2 ≤ sizeLine; decide, fun q8 hq8 => ?_⟩⟩⟩
      have s21 := (s19.trans s20).new (o := .lst [.bl (btB dL), .bl (btB dW)]) hq8
      have hq8' : upd H20 q8 (.lst [.bl (btB dL), .bl (btB dW)]) q8 = _ := upd_same
      refine ⟨_, rfl, b, _, _, rfl, trL2.stay s21, fun H22 s22 => ⟨_, rfl, b, _, _, rfl, trW.stay (s21.trans s22), fun H23 s23 => ⟨by show 2 ≤ sizeLine; decide, fun q9 hq9 => ?_⟩⟩⟩
      have s24 := (s22.trans s23).new (o := .lst [.bl (btB dL), .bl (btB dW)]) hq9
      refine ⟨.list [.bool (btB dL), .bool (btB dW)], .list [.bool (btB dL), .bool (btB dW)], .lst (SqL.of (s24 _ _ hq8')) (.cons (.bl _) (.cons (.bl _) .nil)), .lst (SqL.of upd_same) (.cons (.bl _) (.cons (.bl _) .nil)), ?_, _, rfl, ?_⟩
      · simp [PyData.depth, PyData.depthAll]
      · rw [eqv_bb2]
        exact iteF ⟨⟨_, _, _, rfl⟩, s6C.trans (s21.trans s24)⟩
    case fin =>
    rintro σ H7 ⟨⟨y4, y5, y6, rfl⟩, s7⟩
    have s57 := s6.trans s7
    have hb7 := Bag.stay hb5 s57
    have s07 := s05.trans s57
    have hT7 : TrV b H7 (.ref p) (.tuple [tbl B, tbl W]) := (m5.stay s57).tr
    -- replaced once
    refine ⟨_, rfl, _, rfl, b, .ref p, _, 3, 6, rfl, by decide, hb7, hT7, smM, lnM, by decide, by decide, fun v8 d8 H8 hb8 kp8 tr8 sm8 ln8 => ?_⟩
    have s08 : Stay H0 H8 := s07.kp kp8 hb0
    dsimp only [gName]
    refine ifs_cont (fun σ H5 => ∃ v d, σ = [some (.ref a), some (.int (0 + (i : Int))), some (.ref b), some (.ref p), y4, y5, y6, some v, x8] ∧ Bag H5 b ∧ Stay H0 H5 ∧ TrV b H5 v d) ?_ ?_
    case refine_2 =>
      intro cont
      refine ⟨_, rfl, b, _, rfl, hb8, by decide, by decide, fun r H9 _ _ hb9 kp9 => ⟨rfl, _, rfl, ite2 (fun _ => ?_) (fun _ => ?_)⟩⟩
      · refine ⟨_, rfl, _, rfl, b, v8, d8, 3, 7, rfl, by decide, hb9, tr8.kp kp9 hb8, sm8, ln8, by decide, by decide, fun v5 d5 H5 hb5 kp5 tr5 sm5 ln5 => ?_⟩
        exact cont _ _ ⟨v5, d5, rfl, hb5, (s08.kp kp9 hb0).kp kp5 hb0, tr5⟩
      · exact cont _ _ ⟨v8, d8, rfl, hb9, s08.kp kp9 hb0, tr8.kp kp9 hb8⟩
    rintro σ H9 ⟨v, dd, rfl, hb9, s09, tr9⟩
    -- found
    refine ⟨_, rfl, b, v, dd, rfl, tr9, fun HA sA => ?_⟩
    refine ⟨_, rfl, _, _, .bl _, Z.b2, _, rfl, ?_⟩
    refine iteF ?_
    refine ⟨_, rfl, _, rfl, b, v, dd, rfl, tr9.stay sA, fun HB sB => ⟨rfl, _, rfl, ?_⟩⟩
    rw [bl_same]
    refine iteF ?_
    have hbB := Bag.stay hb9 (sA.trans sB)
    -- an odd thing
    refine ⟨_, rfl, b, rfl, hbB, fun v8 d8 H8 hb8 kp8 tr8 hm8 => ?_⟩
    refine ⟨b, v8, d8, rfl, tr8, fun HD sD => ⟨_, _, rfl, rfl, _, rfl, ?_⟩⟩
    have e8 : btB d8 = false := dec_f (odd_bt hm8)
    rw [e8]
    exact iteF ⟨st0.trans (((s09.trans (sA.trans sB)).kp kp8 hb0).trans sD), _, _, _, _, _, _, _, _, rfl⟩
end
end K28

set_option Elab.async false
set_option linter.all false
set_option maxRecDepth 100000
set_option maxHeartbeats 8000000
namespace K28
open PySem L2 KG EX KM
theorem all_mk {l : PySem.W.OpenLaw} {w : World} {K : PySem.W.Frag} {h : Heap} {mg : Str → Option Value} {fa : Addr} (X : K.In h) (G : h.Ns mainGlobals mg) (hfa : mg "law" = some (.ref fa))
    {f0 f1 f2 f3 f4 f5 f6 f7 f8 f9 f10 f11 f12 f13 f14 f15  : Addr} {tk0 : Tok} {tk1 : Tok} {tk2 : Tok} {tk3 : Tok}
    {od0 an0 od1 an1 od2 an2 od3 an3 od4 an4 od5 an5 od6 an6 od7 an7 od8 an8 od9 an9 od10 an10 od11 an11 od12 an12 od13 an13 od14 an14 od15 an15 : Option Addr} {sl0 sl1 sl2 sl3 sl4 sl5 sl6 sl7 sl8 sl9 sl10 sl11 sl12 sl13 sl14 sl15 : Array (Option Value)} {oc0 kV0 dc0 pm0 cd0 ct0 oc1 kV1 dc1 pm1 cd1 ct1 oc2 kV2 dc2 pm2 cd2 ct2 oc3 kV3 dc3 pm3 cd3 ct3 oc4 kV4 dc4 pm4 cd4 ct4 oc5 kV5 dc5 pm5 cd5 ct5 oc6 kV6 dc6 pm6 cd6 ct6 oc7 kV7 dc7 pm7 cd7 ct7 oc8 kV8 dc8 pm8 cd8 ct8 oc9 kV9 dc9 pm9 cd9 ct9 oc10 kV10 dc10 pm10 cd10 ct10 oc11 kV11 dc11 pm11 cd11 ct11 oc12 kV12 dc12 pm12 cd12 ct12 oc13 kV13 dc13 pm13 cd13 ct13 oc14 kV14 dc14 pm14 cd14 ct14 oc15 kV15 dc15 pm15 cd15 ct15 : Value}
    (a0 : PySem.W.nsIn K mainGlobals "is_whole" = some (some (.ref f0))) (l0 : K.lookup f0 = some ⟨oc0, od0, .func (PySem.W.fnOf "is_whole" "is_whole" (defArgs (top 1)) (defBody (top 1)) (defScope (top 1)) .none kV0 dc0 pm0 an0 cd0 ct0), sl0⟩) (c0 : PySem.W.codeIn K cd0 "is_whole" = true) (k0 : PySem.W.keepIn K (.ref f0) = true)
    (a1 : PySem.W.nsIn K mainGlobals "is_barter" = some (some (.ref f1))) (l1 : K.lookup f1 = some ⟨oc1, od1, .func (PySem.W.fnOf "is_barter" "is_barter" (defArgs (top 7)) (defBody (top 7)) (defScope (top 7)) .none kV1 dc1 pm1 an1 cd1 ct1), sl1⟩) (c1 : PySem.W.codeIn K cd1 "is_barter" = true) (k1 : PySem.W.keepIn K (.ref f1) = true)
    (a2 : PySem.W.nsIn K mainGlobals "is_table" = some (some (.ref f2))) (l2 : K.lookup f2 = some ⟨oc2, od2, .func (PySem.W.fnOf "is_table" "is_table" (defArgs (top 8)) (defBody (top 8)) (defScope (top 8)) .none kV2 dc2 pm2 an2 cd2 ct2), sl2⟩) (c2 : PySem.W.codeIn K cd2 "is_table" = true) (k2 : PySem.W.keepIn K (.ref f2) = true)
    (a3 : PySem.W.nsIn K mainGlobals "is_row" = some (some (.ref f3))) (l3 : K.lookup f3 = some ⟨oc3, od3, .func (PySem.W.fnOf "is_row" "is_row" (defArgs (top 9)) (defBody (top 9)) (defScope (top 9)) .none kV3 dc3 pm3 an3 cd3 ct3), sl3⟩) (c3 : PySem.W.codeIn K cd3 "is_row" = true) (k3 : PySem.W.keepIn K (.ref f3) = true)
    (a4 : PySem.W.nsIn K mainGlobals "leaves_none_out" = some (some (.ref f4))) (l4 : K.lookup f4 = some ⟨oc4, od4, .func (PySem.W.fnOf "leaves_none_out" "leaves_none_out" (defArgs (top 10)) (defBody (top 10)) (defScope (top 10)) .none kV4 dc4 pm4 an4 cd4 ct4), sl4⟩) (c4 : PySem.W.codeIn K cd4 "leaves_none_out" = true) (k4 : PySem.W.keepIn K (.ref f4) = true)
    (a5 : PySem.W.nsIn K mainGlobals "columns" = some (some (.ref f5))) (l5 : K.lookup f5 = some ⟨oc5, od5, .func (PySem.W.fnOf "columns" "columns" (defArgs (top 11)) (defBody (top 11)) (defScope (top 11)) .none kV5 dc5 pm5 an5 cd5 ct5), sl5⟩) (c5 : PySem.W.codeIn K cd5 "columns" = true) (k5 : PySem.W.keepIn K (.ref f5) = true)
    (a6 : PySem.W.nsIn K mainGlobals "_law_bag" = some (some (.ref f6))) (l6 : K.lookup f6 = some ⟨oc6, od6, .func (PySem.W.fnOf "_law_bag" "_law_bag" (defArgs (top 13)) (defBody (top 13)) (defScope (top 13)) .none kV6 dc6 pm6 an6 cd6 ct6), sl6⟩) (c6 : PySem.W.codeIn K cd6 "_law_bag" = true) (k6 : PySem.W.keepIn K (.ref f6) = true)
    (a7 : PySem.W.nsIn K mainGlobals "_law_take" = some (some (.ref f7))) (l7 : K.lookup f7 = some ⟨oc7, od7, .func (PySem.W.fnOf "_law_take" "_law_take" (defArgs (top 14)) (defBody (top 14)) (defScope (top 14)) .none kV7 dc7 pm7 an7 cd7 ct7), sl7⟩) (c7 : PySem.W.codeIn K cd7 "_law_take" = true) (k7 : PySem.W.keepIn K (.ref f7) = true)
    (a8 : PySem.W.nsIn K mainGlobals "_law_barter" = some (some (.ref f8))) (l8 : K.lookup f8 = some ⟨oc8, od8, .func (PySem.W.fnOf "_law_barter" "_law_barter" (defArgs (top 15)) (defBody (top 15)) (defScope (top 15)) .none kV8 dc8 pm8 an8 cd8 ct8), sl8⟩) (c8 : PySem.W.codeIn K cd8 "_law_barter" = true) (k8 : PySem.W.keepIn K (.ref f8) = true)
    (a9 : PySem.W.nsIn K mainGlobals "_law_odd" = some (some (.ref f9))) (l9 : K.lookup f9 = some ⟨oc9, od9, .func (PySem.W.fnOf "_law_odd" "_law_odd" (defArgs (top 16)) (defBody (top 16)) (defScope (top 16)) .none kV9 dc9 pm9 an9 cd9 ct9), sl9⟩) (c9 : PySem.W.codeIn K cd9 "_law_odd" = true) (k9 : PySem.W.keepIn K (.ref f9) = true)
    (a10 : PySem.W.nsIn K mainGlobals "_law_replaced" = some (some (.ref f10))) (l10 : K.lookup f10 = some ⟨oc10, od10, .func (PySem.W.fnOf "_law_replaced" "_law_replaced" (defArgs (top 17)) (defBody (top 17)) (defScope (top 17)) .none kV10 dc10 pm10 an10 cd10 ct10), sl10⟩) (c10 : PySem.W.codeIn K cd10 "_law_replaced" = true) (k10 : PySem.W.keepIn K (.ref f10) = true)
    (a11 : PySem.W.nsIn K mainGlobals "_law_is_row" = some (some (.ref f11))) (l11 : K.lookup f11 = some ⟨oc11, od11, .func (PySem.W.fnOf "_law_is_row" "_law_is_row" (defArgs (top 18)) (defBody (top 18)) (defScope (top 18)) .none kV11 dc11 pm11 an11 cd11 ct11), sl11⟩) (c11 : PySem.W.codeIn K cd11 "_law_is_row" = true) (k11 : PySem.W.keepIn K (.ref f11) = true)
    (a12 : PySem.W.nsIn K mainGlobals "_law_due" = some (some (.ref f12))) (l12 : K.lookup f12 = some ⟨oc12, od12, .func (PySem.W.fnOf "_law_due" "_law_due" (defArgs (top 19)) (defBody (top 19)) (defScope (top 19)) .none kV12 dc12 pm12 an12 cd12 ct12), sl12⟩) (c12 : PySem.W.codeIn K cd12 "_law_due" = true) (k12 : PySem.W.keepIn K (.ref f12) = true)
    (a13 : PySem.W.nsIn K mainGlobals "_law_emptied" = some (some (.ref f13))) (l13 : K.lookup f13 = some ⟨oc13, od13, .func (PySem.W.fnOf "_law_emptied" "_law_emptied" (defArgs (top 20)) (defBody (top 20)) (defScope (top 20)) .none kV13 dc13 pm13 an13 cd13 ct13), sl13⟩) (c13 : PySem.W.codeIn K cd13 "_law_emptied" = true) (k13 : PySem.W.keepIn K (.ref f13) = true)
    (a14 : PySem.W.nsIn K mainGlobals "_law_edges_right" = some (some (.ref f14))) (l14 : K.lookup f14 = some ⟨oc14, od14, .func (PySem.W.fnOf "_law_edges_right" "_law_edges_right" (defArgs (top 21)) (defBody (top 21)) (defScope (top 21)) .none kV14 dc14 pm14 an14 cd14 ct14), sl14⟩) (c14 : PySem.W.codeIn K cd14 "_law_edges_right" = true) (k14 : PySem.W.keepIn K (.ref f14) = true)
    (a15 : PySem.W.nsIn K mainGlobals "law" = some (some (.ref f15))) (l15 : K.lookup f15 = some ⟨oc15, od15, .func (PySem.W.fnOf "law" "law" (defArgs (top 22)) (defBody (top 22)) (defScope (top 22)) .none kV15 dc15 pm15 an15 cd15 ct15), sl15⟩) (c15 : PySem.W.codeIn K cd15 "law" = true) (k15 : PySem.W.keepIn K (.ref f15) = true)
    (z0 : PySem.W.nsIn K mainGlobals "len" = some none)
    (z1 : PySem.W.nsIn K mainGlobals "range" = some none)
    (z2 : PySem.W.nsIn K mainGlobals "tuple" = some none)
    (z3 : PySem.W.nsIn K mainGlobals "list" = some none)
    (z4 : PySem.W.nsIn K mainGlobals "all" = some none)
    (z5 : PySem.W.nsIn K mainGlobals "any" = some none)
    (z6 : PySem.W.nsIn K mainGlobals "max" = some none)
    (z7 : PySem.W.nsIn K mainGlobals "min" = some none)
    (z8 : PySem.W.nsIn K mainGlobals "sum" = some none)
    (z9 : PySem.W.nsIn K mainGlobals "abs" = some none)
    (z10 : PySem.W.nsIn K mainGlobals "int" = some none)
    (z11 : PySem.W.nsIn K mainGlobals "isinstance" = some none)
    (z12 : PySem.W.nsIn K mainGlobals "bool" = some none)
    (z13 : PySem.W.nsIn K mainGlobals "enumerate" = some none)
    (z14 : PySem.W.nsIn K mainGlobals "ValueError" = some none)
    (nMOST_GOODS : PySem.W.nsIn K mainGlobals "MOST_GOODS" = some (some (.int 6 tk0)))
    (nMOST_BUYERS : PySem.W.nsIn K mainGlobals "MOST_BUYERS" = some (some (.int 6 tk1)))
    (nMOST_BROUGHT : PySem.W.nsIn K mainGlobals "MOST_BROUGHT" = some (some (.int 10 tk2)))
    (nMOST_WISH : PySem.W.nsIn K mainGlobals "MOST_WISH" = some (some (.int 100 tk3)))
    (ti1 : PySem.W.kitOne K (.type "NoneType") (.type "int") = some false)
    (ti2 : PySem.W.kitOne K (.type "bool") (.type "int") = some true)
    (ti3 : PySem.W.kitOne K (.type "int") (.type "int") = some true)
    (ti4 : PySem.W.kitOne K (.type "str") (.type "int") = some false)
    (ti5 : PySem.W.kitOne K (.type "list") (.type "int") = some false)
    (ti6 : PySem.W.kitOne K (.type "tuple") (.type "int") = some false)
    (tb1 : PySem.W.kitOne K (.type "NoneType") (.type "bool") = some false)
    (tb2 : PySem.W.kitOne K (.type "bool") (.type "bool") = some true)
    (tb3 : PySem.W.kitOne K (.type "int") (.type "bool") = some false)
    (tb4 : PySem.W.kitOne K (.type "str") (.type "bool") = some false)
    (tb5 : PySem.W.kitOne K (.type "list") (.type "bool") = some false)
    (tb6 : PySem.W.kitOne K (.type "tuple") (.type "bool") = some false)
    (tt1 : PySem.W.kitOne K (.type "NoneType") (.type "tuple") = some false)
    (tt2 : PySem.W.kitOne K (.type "bool") (.type "tuple") = some false)
    (tt3 : PySem.W.kitOne K (.type "int") (.type "tuple") = some false)
    (tt4 : PySem.W.kitOne K (.type "str") (.type "tuple") = some false)
    (tt5 : PySem.W.kitOne K (.type "list") (.type "tuple") = some false)
    (tt6 : PySem.W.kitOne K (.type "tuple") (.type "tuple") = some true) :
    ∃ fd : FuncData, (∀ (s : Shared) (v : Value), BindsTo s fd ⟨[v], []⟩ [("script", v)]) ∧ ∀ base : Heap, K.In base → base.Ns mainGlobals mg → FnOk l.prog w K mg base CX0 7 fa fd ["script"] (spLaw K) := by
  have e := hfa.symm.trans (PySem.W.mg_of X G a15)
  cases e
  have N : Nm mg := ⟨PySem.W.mg_none_of X G z0, PySem.W.mg_none_of X G z1, PySem.W.mg_none_of X G z2, PySem.W.mg_none_of X G z3, PySem.W.mg_none_of X G z4, PySem.W.mg_none_of X G z5, PySem.W.mg_none_of X G z6, PySem.W.mg_none_of X G z7, PySem.W.mg_none_of X G z8, PySem.W.mg_none_of X G z9, PySem.W.mg_none_of X G z10, PySem.W.mg_none_of X G z11, PySem.W.mg_none_of X G z12, PySem.W.mg_none_of X G z13, PySem.W.mg_none_of X G z14⟩
  have Z : IsK K := ⟨ti1, ti2, ti3, ti4, ti5, ti6, tb1, tb2, tb3, tb4, tb5, tb6, tt1, tt2, tt3, tt4, tt5, tt6⟩
  have mMOST_GOODS := PySem.W.mg_of X G nMOST_GOODS
  have mMOST_BUYERS := PySem.W.mg_of X G nMOST_BUYERS
  have mMOST_BROUGHT := PySem.W.mg_of X G nMOST_BROUGHT
  have mMOST_WISH := PySem.W.mg_of X G nMOST_WISH
  have F0 := fun_mk (st := top 1) l0 c0 k0
  have b0 := F0.binds (ps := ["thing"]) fun _ _ _ _ _ _ us hl => match us, hl with | [_], _ => rfl
  have F1 := fun_mk (st := top 7) l1 c1 k1
  have b1 := F1.binds (ps := ["thing"]) fun _ _ _ _ _ _ us hl => match us, hl with | [_], _ => rfl
  have F2 := fun_mk (st := top 8) l2 c2 k2
  have b2 := F2.binds (ps := ["thing", "most"]) fun _ _ _ _ _ _ us hl => match us, hl with | [_, _], _ => rfl
  have F3 := fun_mk (st := top 9) l3 c3 k3
  have b3 := F3.binds (ps := ["thing", "most"]) fun _ _ _ _ _ _ us hl => match us, hl with | [_, _], _ => rfl
  have F4 := fun_mk (st := top 10) l4 c4 k4
  have b4 := F4.binds (ps := ["table"]) fun _ _ _ _ _ _ us hl => match us, hl with | [_], _ => rfl
  have F5 := fun_mk (st := top 11) l5 c5 k5
  have b5 := F5.binds (ps := ["table"]) fun _ _ _ _ _ _ us hl => match us, hl with | [_], _ => rfl
  have F6 := fun_mk (st := top 13) l6 c6 k6
  have b6 := F6.binds (ps := ["script", "k"]) fun _ _ _ _ _ _ us hl => match us, hl with | [_, _], _ => rfl
  have F7 := fun_mk (st := top 14) l7 c7 k7
  have b7 := F7.binds (ps := ["bag", "many"]) fun _ _ _ _ _ _ us hl => match us, hl with | [_, _], _ => rfl
  have F8 := fun_mk (st := top 15) l8 c8 k8
  have b8 := F8.binds (ps := ["bag"]) fun _ _ _ _ _ _ us hl => match us, hl with | [_], _ => rfl
  have F9 := fun_mk (st := top 16) l9 c9 k9
  have b9 := F9.binds (ps := ["bag"]) fun _ _ _ _ _ _ us hl => match us, hl with | [_], _ => rfl
  have F10 := fun_mk (st := top 17) l10 c10 k10
  have b10 := F10.binds (ps := ["bag", "thing", "deep"]) fun _ _ _ _ _ _ us hl => match us, hl with | [_, _, _], _ => rfl
  have F11 := fun_mk (st := top 18) l11 c11 k11
  have b11 := F11.binds (ps := ["thing", "many", "most"]) fun _ _ _ _ _ _ us hl => match us, hl with | [_, _, _], _ => rfl
  have F12 := fun_mk (st := top 19) l12 c12 k12
  have b12 := F12.binds (ps := ["thing"]) fun _ _ _ _ _ _ us hl => match us, hl with | [_], _ => rfl
  have F13 := fun_mk (st := top 20) l13 c13 k13
  have b13 := F13.binds (ps := ["bag", "barter"]) fun _ _ _ _ _ _ us hl => match us, hl with | [_, _], _ => rfl
  have F14 := fun_mk (st := top 21) l14 c14 k14
  have b14 := F14.binds (ps := ["bag", "barter"]) fun _ _ _ _ _ _ us hl => match us, hl with | [_, _], _ => rfl
  have F15 := fun_mk (st := top 22) l15 c15 k15
  refine ⟨PySem.W.fnOf "law" "law" (defArgs (top 22)) (defBody (top 22)) (defScope (top 22)) .none kV15 dc15 pm15 an15 cd15 ct15, fun s v => .of_eq rfl, fun base _ _ => ?_⟩
  have W : Cal K mg l.prog w base "is_whole" 1 ["thing"] (spT isWhole) f0 _ := ⟨ok_whole F0 N Z, PySem.W.mg_of X G a0, k0, b0⟩
  have Rw : Cal K mg l.prog w base "is_row" 2 ["thing", "most"] spRowM f3 _ := ⟨ok_row F3 N Z mMOST_GOODS W, PySem.W.mg_of X G a3, k3, b3⟩
  have Tb : Cal K mg l.prog w base "is_table" 3 ["thing", "most"] spTab f2 _ := ⟨ok_tab F2 N Z mMOST_BUYERS Rw, PySem.W.mg_of X G a2, k2, b2⟩
  have Co : Cal K mg l.prog w base "columns" 1 ["table"] spCols f5 _ := ⟨ok_cols F5 N, PySem.W.mg_of X G a5, k5, b5⟩
  have No : Cal K mg l.prog w base "leaves_none_out" 2 ["table"] spNoOut f4 _ := ⟨ok_no F4 N Co, PySem.W.mg_of X G a4, k4, b4⟩
  have Ib : Cal K mg l.prog w base "is_barter" 4 ["thing"] (spT btB) f1 _ := ⟨ok_ib F1 N Z mMOST_BROUGHT mMOST_WISH Tb No, PySem.W.mg_of X G a1, k1, b1⟩
  have Bg : Cal K mg l.prog w base "_law_bag" 1 ["script", "k"] (spBag K) f6 _ := ⟨ok_bag F6 N, PySem.W.mg_of X G a6, k6, b6⟩
  have T : Cal K mg l.prog w base "_law_take" 1 ["bag", "many"] spTake f7 _ := ⟨ok_take F7, PySem.W.mg_of X G a7, k7, b7⟩
  have Bt : Cal K mg l.prog w base "_law_barter" 2 ["bag"] spBt f8 _ := ⟨ok_bt F8 N T, PySem.W.mg_of X G a8, k8, b8⟩
  have Od : Cal K mg l.prog w base "_law_odd" 2 ["bag"] spOdd f9 _ := ⟨ok_odd F9 T, PySem.W.mg_of X G a9, k9, b9⟩
  have Re : Cal K mg l.prog w base "_law_replaced" 6 ["bag", "thing", "deep"] (spRep 4) f10 _ := ⟨ok_rep F10 N Z T Od (PySem.W.mg_of X G a10) k10 b10 4, PySem.W.mg_of X G a10, k10, b10⟩
  have Lr : Cal K mg l.prog w base "_law_is_row" 1 ["thing", "many", "most"] spLRow2 f11 _ := ⟨ok_lr2 F11 N Z, PySem.W.mg_of X G a11, k11, b11⟩
  have Du : Cal K mg l.prog w base "_law_due" 2 ["thing"] (spT btB) f12 _ := ⟨ok_ldue F12 N Z Lr, PySem.W.mg_of X G a12, k12, b12⟩
  have Em : Cal K mg l.prog w base "_law_emptied" 2 ["bag", "barter"] spEmp f13 _ := ⟨ok_em F13 N T, PySem.W.mg_of X G a13, k13, b13⟩
  have Ed : Cal K mg l.prog w base "_law_edges_right" 5 ["bag", "barter"] spEdgB f14 _ := ⟨ok_eg F14 N T Ib Du, PySem.W.mg_of X G a14, k14, b14⟩
  exact ok_law F15 N Z Bg T Bt Ib Re Du Od Ed Em
theorem walk {l : PySem.W.OpenLaw} {q : Program} {loose : List Str} {XP : (Str → Option Value) → Heap → Prop} {YP : World → Heap → Prop} {d : DefRec} {K : Params → PySem.W.Frag} (hn : l.most = some 63) (hdf : d.params.defaults = [])
    (hY : ∀ (w : World) (h : Heap), YP w h → (K w.params).In h)
    (F : ∀ (w : World) (mg : Str → Option Value) (fa : Addr) (h : Heap), (K w.params).In h → h.Ns mainGlobals mg → mg d.name = some (.ref fa) →
      ∃ fd : FuncData, (∀ (s : Shared) (u : Value), BindsTo s fd ⟨[u], []⟩ [("script", u)]) ∧ ∀ base : Heap, (K w.params).In base → base.Ns mainGlobals mg → FnOk l.prog w (K w.params) mg base CX0 7 fa fd ["script"] (spLaw (K w.params))) :
    PySem.W.WalkO q loose XP YP l.row.toRowW d [] (fun f vs => PySem.call f vs) :=
  L2.walk_of (n := 63) (k := 7) (x := "script") (CX := fun _ => CX0) (sp := fun w => spLaw (K w.params)) hn (by decide) hdf ⟨rfl, by decide, by decide⟩ hY F (fun _ _ a ns hl _ hS => ⟨a, ns, rfl, hS, hl, fun _ => rfl⟩) fun _ _ _ _ _ z => z
end K28
open PySem PySem.W PyProof.Rows
set_option maxRecDepth 100000 in
set_option maxHeartbeats 0 in
theorem PySem.Challenge.cw_wishmart_k28_what_is_a_barter_holds : PySem.Challenge.rw_wishmart_k28_what_is_a_barter.Holds := by
  w_on; o_law; k_head; (case hw => w_witness2)
  k_fill
  refine K28.walk (l := PySem.Challenge.rw_wishmart_k28_what_is_a_barter) rfl rfl (fun w h Y => PySem.W.kIn_of Y) ?F
  case F =>
    intro w mg fa h KX G hmg
    refine' K28.all_mk KX G hmg ?a0 ?l0 ?c0 ?k0 ?a1 ?l1 ?c1 ?k1 ?a2 ?l2 ?c2 ?k2 ?a3 ?l3 ?c3 ?k3 ?a4 ?l4 ?c4 ?k4 ?a5 ?l5 ?c5 ?k5 ?a6 ?l6 ?c6 ?k6 ?a7 ?l7 ?c7 ?k7 ?a8 ?l8 ?c8 ?k8 ?a9 ?l9 ?c9 ?k9 ?a10 ?l10 ?c10 ?k10 ?a11 ?l11 ?c11 ?k11 ?a12 ?l12 ?c12 ?k12 ?a13 ?l13 ?c13 ?k13 ?a14 ?l14 ?c14 ?k14 ?a15 ?l15 ?c15 ?k15 ?z0 ?z1 ?z2 ?z3 ?z4 ?z5 ?z6 ?z7 ?z8 ?z9 ?z10 ?z11 ?z12 ?z13 ?z14 ?nMOST_GOODS ?nMOST_BUYERS ?nMOST_BROUGHT ?nMOST_WISH ?ti1 ?ti2 ?ti3 ?ti4 ?ti5 ?ti6 ?tb1 ?tb2 ?tb3 ?tb4 ?tb5 ?tb6 ?tt1 ?tt2 ?tt3 ?tt4 ?tt5 ?tt6
    (case a0 => k_is)
    (case l0 => k_is)
    (case c0 => k_is)
    (case k0 => k_is)
    (case a1 => k_is)
    (case l1 => k_is)
    (case c1 => k_is)
    (case k1 => k_is)
    (case a2 => k_is)
    (case l2 => k_is)
    (case c2 => k_is)
    (case k2 => k_is)
    (case a3 => k_is)
    (case l3 => k_is)
    (case c3 => k_is)
    (case k3 => k_is)
    (case a4 => k_is)
    (case l4 => k_is)
    (case c4 => k_is)
    (case k4 => k_is)
    (case a5 => k_is)
    (case l5 => k_is)
    (case c5 => k_is)
    (case k5 => k_is)
    (case a6 => k_is)
    (case l6 => k_is)
    (case c6 => k_is)
    (case k6 => k_is)
    (case a7 => k_is)
    (case l7 => k_is)
    (case c7 => k_is)
    (case k7 => k_is)
    (case a8 => k_is)
    (case l8 => k_is)
    (case c8 => k_is)
    (case k8 => k_is)
    (case a9 => k_is)
    (case l9 => k_is)
    (case c9 => k_is)
    (case k9 => k_is)
    (case a10 => k_is)
    (case l10 => k_is)
    (case c10 => k_is)
    (case k10 => k_is)
    (case a11 => k_is)
    (case l11 => k_is)
    (case c11 => k_is)
    (case k11 => k_is)
    (case a12 => k_is)
    (case l12 => k_is)
    (case c12 => k_is)
    (case k12 => k_is)
    (case a13 => k_is)
    (case l13 => k_is)
    (case c13 => k_is)
    (case k13 => k_is)
    (case a14 => k_is)
    (case l14 => k_is)
    (case c14 => k_is)
    (case k14 => k_is)
    (case a15 => k_is)
    (case l15 => k_is)
    (case c15 => k_is)
    (case k15 => k_is)
    (case z0 => k_is)
    (case z1 => k_is)
    (case z2 => k_is)
    (case z3 => k_is)
    (case z4 => k_is)
    (case z5 => k_is)
    (case z6 => k_is)
    (case z7 => k_is)
    (case z8 => k_is)
    (case z9 => k_is)
    (case z10 => k_is)
    (case z11 => k_is)
    (case z12 => k_is)
    (case z13 => k_is)
    (case z14 => k_is)
    (case nMOST_GOODS => k_is)
    (case nMOST_BUYERS => k_is)
    (case nMOST_BROUGHT => k_is)
    (case nMOST_WISH => k_is)
    (case ti1 => first | rfl | kit_is | k_is)
    (case ti2 => first | rfl | kit_is | k_is)
    (case ti3 => first | rfl | kit_is | k_is)
    (case ti4 => first | rfl | kit_is | k_is)
    (case ti5 => first | rfl | kit_is | k_is)
    (case ti6 => first | rfl | kit_is | k_is)
    (case tb1 => first | rfl | kit_is | k_is)
    (case tb2 => first | rfl | kit_is | k_is)
    (case tb3 => first | rfl | kit_is | k_is)
    (case tb4 => first | rfl | kit_is | k_is)
    (case tb5 => first | rfl | kit_is | k_is)
    (case tb6 => first | rfl | kit_is | k_is)
    (case tt1 => first | rfl | kit_is | k_is)
    (case tt2 => first | rfl | kit_is | k_is)
    (case tt3 => first | rfl | kit_is | k_is)
    (case tt4 => first | rfl | kit_is | k_is)
    (case tt5 => first | rfl | kit_is | k_is)
    (case tt6 => first | rfl | kit_is | k_is)
