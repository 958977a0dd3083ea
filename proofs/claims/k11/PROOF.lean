import PyProof.Rows.All
import Wide.All
import OpenK.AllK
import Wide.FinOn
import Lean
import PyProof.EqAt
import PyProof.EqKinds
import PyProof.TupleCall
import PySem.Challenge.RW_wishmart_k11_first_prices

set_option Elab.async false
set_option linter.all false
set_option maxRecDepth 100000
/-! THE HAND LAYER, for ints, bools, texts, own classes, LISTS and tuples (index, slices, in, append, pop ..), calls, loops. Paste it whole ahead of your own text; what your proof does not reach may be deleted. -/
namespace L2
open PySem PySem.Spec PyProof.Rows

/-- a key: an int or a str -/
abbrev Key := Sum Int Str
def keyIs : Key → Value → Bool
  | .inl k, v => Value.isInt k v
  | .inr x, v => Value.isStrOf x v
def keyH (w : World) : Key → Int
  | .inl k => hashInt k
  | .inr x => hashStr w x
theorem keyIs_shape : ∀ {k : Key} {v : Value}, keyIs k v = true → (∃ i t, k = Sum.inl i ∧ v = Value.int i t) ∨ (∃ x t, k = Sum.inr x ∧ v = Value.str x t)
  | .inl i, v, h => by
    obtain ⟨t, e⟩ := Value.isInt_shape (k := i) (v := v) h
    exact .inl ⟨i, t, rfl, e⟩
  | .inr x, v, h => by
    obtain ⟨t, e⟩ := Value.isStrOf_shape (x := x) (v := v) h
    exact .inr ⟨x, t, rfl, e⟩
theorem key_ll (a b : Int) : decide ((Sum.inl a : Key) = Sum.inl b) = (a == b) := by
  by_cases e : a = b
  · subst e; simp
  · have h : ¬ (Sum.inl a : Key) = Sum.inl b := fun q => e (Sum.inl.inj q)
    rw [decide_eq_false h]
    exact (beq_eq_false_iff_ne.mpr e).symm
theorem key_rr (a b : Str) : decide ((Sum.inr a : Key) = Sum.inr b) = decide (a = b) := by
  by_cases e : a = b
  · subst e; simp
  · have h : ¬ (Sum.inr a : Key) = Sum.inr b := fun q => e (Sum.inr.inj q)
    rw [decide_eq_false h, decide_eq_false e]
theorem key_lr (a : Int) (b : Str) : decide ((Sum.inl a : Key) = Sum.inr b) = false := decide_eq_false (fun q => nomatch q)
theorem key_rl (a : Str) (b : Int) : decide ((Sum.inr a : Key) = Sum.inl b) = false := decide_eq_false (fun q => nomatch q)

def mixKind (prog : Program) (w : World) : PySem.KeyKind prog w Key where
  is := keyIs
  hash := keyH w
  inj := fun v a b ha hb => by
    rcases keyIs_shape ha with ⟨i, t, rfl, rfl⟩ | ⟨x, t, rfl, rfl⟩
    · rcases keyIs_shape hb with ⟨j, u, rfl, e⟩ | ⟨y, u, rfl, e⟩
      · injection e with e1 _; rw [e1]
      · exact nomatch e
    · rcases keyIs_shape hb with ⟨j, u, rfl, e⟩ | ⟨y, u, rfl, e⟩
      · exact nomatch e
      · injection e with e1 _; rw [e1]
  byValue := fun k v h => by
    rcases keyIs_shape h with ⟨i, t, rfl, rfl⟩ | ⟨x, t, rfl, rfl⟩ <;> rfl
  pyHash := fun hv h => by
    rcases keyIs_shape hv with ⟨i, t, rfl, rfl⟩ | ⟨x, t, rfl, rfl⟩
    · exact wpAny_pyHash_int h
    · exact wpAny_pyHash_str h
  eqBool := fun hu hv h => by
    rcases keyIs_shape hu with ⟨i, t, rfl, rfl⟩ | ⟨x, t, rfl, rfl⟩
    · rcases keyIs_shape hv with ⟨j, u, rfl, rfl⟩ | ⟨y, u, rfl, rfl⟩
      · rw [key_ll] at h; exact wpAny_eqBool_int h
      · rw [key_lr] at h; exact SeqAt.EqAt.int_str i t y u _ _ _ _ h
    · rcases keyIs_shape hv with ⟨j, u, rfl, rfl⟩ | ⟨y, u, rfl, rfl⟩
      · rw [key_rl] at h; exact SeqAt.EqAt.str_int x t j u _ _ _ _ h
      · rw [key_rr] at h; exact wpAny_eqBool_str h
  «strs» := fun k x t v h => by
    rcases keyIs_shape h with ⟨i, u, rfl, e⟩ | ⟨y, u, rfl, e⟩
    · exact nomatch e
    · injection e with e1 _
      subst e1
      cases v <;> rfl

end L2

namespace L2
open PySem PySem.Spec PyProof.Rows

/-- a value, without the heap -/
inductive V where
  | non | bl (b : Bool) | int (i : Int) | str (x : Str) | byt (b : Array UInt8) | flt (b : UInt64) | ref (a : Addr) | ty (n : String)
  deriving DecidableEq

def RelV : V → Value → Prop
  | .non, u => u = Value.none
  | .bl b, u => u = Value.bool b
  | .int i, u => ∃ t, u = Value.int i t
  | .str x, u => ∃ t, u = Value.str x t
  | .byt b, u => ∃ t, u = Value.bytes b t
  | .flt b, u => ∃ t, u = Value.float b t
  | .ref a, u => u = Value.ref a
  | .ty n, u => u = Value.type n

abbrev Vals : List V → List Value → Prop := Paired RelV
theorem Vals.length {xs : List V} {us : List Value} (r : Vals xs us) : xs.length = us.length := Paired.length r
theorem Vals.get : ∀ {xs : List V} {us : List Value} {i : Nat} {x : V}, Vals xs us → xs[i]? = some x → ∃ u, us[i]? = some u ∧ RelV x u
  | _, _, _, _, .nil, e => by simp at e
  | _, _, 0, _, .cons r _, e => by simp at e; subst e; exact ⟨_, rfl, r⟩
  | _, _, i + 1, x, .cons _ t, e => by
    obtain ⟨u, h1, h2⟩ := Vals.get (i := i) (x := x) t (by simpa using e)
    exact ⟨u, by simpa using h1, h2⟩
theorem Vals.set {x : V} {u : Value} (r : RelV x u) : ∀ {xs : List V} {us : List Value} (i : Nat), Vals xs us → Vals (xs.set i x) (us.set i u)
  | _, _, _, .nil => .nil
  | _, _, 0, .cons _ t => .cons r t
  | _, _, i + 1, .cons q t => .cons q (Vals.set r i t)
theorem Vals.append : ∀ {xs ys : List V} {us ws : List Value}, Vals xs us → Vals ys ws → Vals (xs ++ ys) (us ++ ws)
  | _, _, _, _, .nil, s => s
  | _, _, _, _, .cons r t, s => .cons r (Vals.append t s)
theorem Vals.take : ∀ {xs : List V} {us : List Value} (n : Nat), Vals xs us → Vals (xs.take n) (us.take n)
  | _, _, 0, _ => .nil
  | _, _, _ + 1, .nil => .nil
  | _, _, n + 1, .cons r t => .cons r (Vals.take n t)
theorem Vals.drop : ∀ {xs : List V} {us : List Value} (n : Nat), Vals xs us → Vals (xs.drop n) (us.drop n)
  | _, _, 0, r => r
  | _, _, _ + 1, .nil => .nil
  | _, _, n + 1, .cons _ t => Vals.drop n t
def RelO : Option V → Option Value → Prop
  | some v, some u => RelV v u
  | none, none => True
  | _, _ => False
def KV {κ : Type} : List (κ × V) → List (κ × Value) → Prop := Paired fun (p : κ × V) (q : κ × Value) => p.1 = q.1 ∧ RelV p.2 q.2

/-- a key of a dict (00_mix): an int or a text -/
def kV : Key → V
  | .inl i => .int i
  | .inr x => .str x

/-- what stands at a tracked address -/
inductive HO where
  /-- a list -/
  | lst (xs : List V)
  /-- a tuple (never changes) -/
  | tup (xs : List V)
  /-- a dict whose keys are ints and texts; one whose keys are tuples of ints and texts (the empty one is both) -/
  | dK (kvs : List (Key × V)) | dT (kvs : List (List Key × V))
  /-- a set of ints: its members, its size -/
  | set (S : Int → Bool) (n : Nat)
  /-- an instance of the class at C, its dict at dx, its attributes -/
  | ins (C dx : Addr) (fs : List (Str × V))
  /-- the dict of the instance at x -/
  | own (x : Addr)
  /-- the dict of an exception -/
  | xd (fs : List (Str × V))
  /-- a bound method, f of x -/
  | met (f x : Addr)
  /-- a range object lo, lo + 1, .. below hi -/
  | rng (lo hi : Int)
  /-- a thing that is known to the object (the script; a dict while a loop walks it): read, never written while it is so -/
  | frz (o : Obj) (u : HO)
  /-- a code object's table -/
  | tbl (ps : Array Value)
  /-- any other thing, by what is true of its one object (a def of one's own: SetO a S n := HO.ext fun h => ..) -/
  | ext (φ : Heap → Prop)

abbrev Hp := Addr → Option HO
def upd (H : Hp) (a : Addr) (o : HO) : Hp := fun b => if b = a then some o else H b
theorem upd_same {H : Hp} {a : Addr} {o : HO} : upd H a o a = some o := by unfold upd; rw [if_pos rfl]
theorem upd_ne {H : Hp} {a b : Addr} {o : HO} (h : b ≠ a) : upd H a o b = H b := by unfold upd; rw [if_neg h]
theorem ne_of_none {H : Hp} {a b : Addr} {o : HO} (h : H a = some o) (h' : H b = none) : a ≠ b := by
  intro e; subst e; rw [h] at h'; cases h'

section
variable (P : Program) (w : World)
def ObjOk (H : Hp) (h : Heap) (a : Addr) : HO → Prop
  | .lst xs => xs.length ≤ sizeLine ∧ ∃ (its : List Value) (n : Nat), Vals xs its ∧ h.get? a = some { cls := .type "list", data := .seq its.toArray n }
  | .tup xs => xs.length ≤ sizeLine ∧ ∃ its : List Value, Vals xs its ∧ IsTup h a its.toArray
  | .dK kvs => kvs.length ≤ sizeLine ∧ (a == sysModules) = false ∧ ∃ vs, KV kvs vs ∧ h.DictOf (mixKind P w) a vs
  | .dT kvs => kvs.length ≤ sizeLine ∧ (a == sysModules) = false ∧ ∃ xs : List (List Key × Addr × Value),
      Paired (fun (p : List Key × V) (q : List Key × Addr × Value) => p.1 = q.1 ∧ H q.2.1 = some (.tup (p.1.map kV)) ∧ RelV p.2 q.2.2) kvs xs ∧
      ∃ o es ep, h.get? a = some o ∧ o.ExactDict ∧ o.data = .dict es ep ∧ es.toList = xs.map (entryOfKey (tupleKind (mixKind P w))) ∧ (xs.map (·.1)).Nodup
  | .set S n => h.SetOf (intKind P w) a S n
  | .ins C dx fs => H dx = some (.own a) ∧ fs.length ≤ 1000 ∧ dx ≠ a ∧ h.get? a = some (PySem.W.instObj C dx) ∧
      ∃ mA, h.Ns1 dx mA ∧ (∀ f, RelO (fs.lookup f) (mA f)) ∧ PySem.Within mA (fs.map (·.1))
  | .own _ => ∃ o, h.get? a = some o
  | .xd fs => ∃ mA, h.Ns1 a mA ∧ ∀ f, RelO (fs.lookup f) (mA f)
  | .rng lo hi => ∃ t u v, h.get? a = some { cls := .type "range", data := .fields #[.int lo t, .int hi u, .int 1 v] }
  | .frz o u => h.get? a = some o ∧ ObjOk H h a u
  | .tbl ps => h.get? a = some { cls := .none, data := .fields ps }
  | .met f x => h.get? a = some (PySem.W.methodObj (.ref f) (.ref x))
  | .ext φ => φ h ∧ (∃ o, h.get? a = some o) ∧ ∀ h1 h2 : Heap, φ h1 → (∀ o, h1.get? a = some o → h2.get? a = some o) → φ h2
/-- the abstract heap is held -/
def HOk (H : Hp) (h : Heap) : Prop := ∀ a o, H a = some o → ObjOk P w H h a o
end

section
variable {P : Program} {w : World} {H H' : Hp} {h h' : Heap} {a : Addr} {o : HO}
theorem ObjOk.lt (x : ObjOk P w H h a o) : a < h.objs.size := by
  cases o with
  | lst xs => obtain ⟨_, _, _, _, e⟩ := x; exact Heap.lt_size e
  | tup xs => obtain ⟨_, _, _, p⟩ := x; exact p.lt
  | dK kvs => obtain ⟨_, _, _, _, o, _, _, e, _⟩ := x; exact Heap.lt_size e
  | dT kvs => obtain ⟨_, _, _, _, o, _, _, e, _⟩ := x; exact Heap.lt_size e
  | set S n => obtain ⟨o, _, _, _, e, _⟩ := x; exact Heap.lt_size e
  | ins C dx fs => obtain ⟨_, _, _, e, _⟩ := x; exact Heap.lt_size e
  | own y => obtain ⟨_, e⟩ := x; exact Heap.lt_size e
  | xd fs => obtain ⟨_, ⟨_, _, _, e, _⟩, _⟩ := x; exact Heap.lt_size e
  | rng lo hi => obtain ⟨_, _, _, e⟩ := x; exact Heap.lt_size e
  | frz ob u => obtain ⟨e, _⟩ := x; exact Heap.lt_size e
  | tbl ps => exact Heap.lt_size (show h.get? a = some _ from x)
  | met f y => exact Heap.lt_size (show h.get? a = some _ from x)
  | ext φ => obtain ⟨_, ⟨_, e⟩, _⟩ := x; exact Heap.lt_size e
theorem Paired.mapP {α β : Type} {F G : α → β → Prop} : ∀ {l₁ : List α} {l₂ : List β}, Paired F l₁ l₂ → (∀ a b, F a b → G a b) → Paired G l₁ l₂
  | _, _, .nil, _ => .nil
  | _, _, .cons r t, f => .cons (f _ _ r) (Paired.mapP t f)
/-- what an object's description leans on: its own object, its own dict, the tuples -/
theorem ObjOk.stay (x : ObjOk P w H h a o) (k : ∀ b u, (b = a ∨ H b = some (.own a)) → h.get? b = some u → h'.get? b = some u)
    (ho : ∀ b, H b = some (.own a) → H' b = some (.own a)) (ht : ∀ b xs, H b = some (.tup xs) → H' b = some (.tup xs)) : ObjOk P w H' h' a o := by
  induction o with
  | lst xs => obtain ⟨z, its, n, r, e⟩ := x; exact ⟨z, its, n, r, k _ _ (.inl rfl) e⟩
  | tup xs => obtain ⟨z, its, r, ob, e, c⟩ := x; exact ⟨z, its, r, ob, k _ _ (.inl rfl) e, c⟩
  | dK kvs => obtain ⟨z, y, vs, r, ob, es, ep, e, c⟩ := x; exact ⟨z, y, vs, r, ob, es, ep, k _ _ (.inl rfl) e, c⟩
  | dT kvs =>
    obtain ⟨z, y, xs, r, ob, es, ep, e, c⟩ := x
    exact ⟨z, y, xs, Paired.mapP r fun p q z => ⟨z.1, ht _ _ z.2.1, z.2.2⟩, ob, es, ep, k _ _ (.inl rfl) e, c⟩
  | set S n => obtain ⟨ob, es, ep, t, e, c⟩ := x; exact ⟨ob, es, ep, t, k _ _ (.inl rfl) e, c⟩
  | ins C dx fs =>
    obtain ⟨d, z, ne, e, mA, ⟨od, es, ep, e2, c⟩, r⟩ := x
    exact ⟨ho _ d, z, ne, k _ _ (.inl rfl) e, mA, ⟨od, es, ep, k _ _ (.inr d) e2, c⟩, r⟩
  | own y => obtain ⟨ob, e⟩ := x; exact ⟨ob, k _ _ (.inl rfl) e⟩
  | xd fs => obtain ⟨mA, ⟨od, es, ep, e, c⟩, r⟩ := x; exact ⟨mA, ⟨od, es, ep, k _ _ (.inl rfl) e, c⟩, r⟩
  | rng lo hi => obtain ⟨t, u, v, e⟩ := x; exact ⟨t, u, v, k _ _ (.inl rfl) e⟩
  | frz ob u ih => obtain ⟨e, q⟩ := x; exact ⟨k _ _ (.inl rfl) e, ih q⟩
  | tbl ps =>
    have e : h.get? a = some { cls := .none, data := .fields ps } := x
    show h'.get? a = some { cls := .none, data := .fields ps }
    exact k a _ (.inl rfl) e
  | met f y =>
    have e : h.get? a = some (PySem.W.methodObj (.ref f) (.ref y)) := x
    show h'.get? a = some (PySem.W.methodObj (.ref f) (.ref y))
    exact k a _ (.inl rfl) e
  | ext φ => obtain ⟨p, ⟨o, e⟩, st⟩ := x; exact ⟨st _ _ p fun o q => k _ _ (.inl rfl) q, ⟨o, k _ _ (.inl rfl) e⟩, st⟩
theorem HOk.lt (x : HOk P w H h) (e : H a = some o) : a < h.objs.size := (x a o e).lt
theorem HOk.fresh (x : HOk P w H h) (e : h.objs.size ≤ a) : H a = none := by
  cases q : H a with
  | none => rfl
  | some u => exact absurd (Nat.lt_of_lt_of_le (x.lt q) e) (Nat.lt_irrefl _)
/-- every object of the heap is kept -/
theorem HOk.kept (x : HOk P w H h) (k : ∀ b u, h.get? b = some u → h'.get? b = some u) : HOk P w H h' := fun a o e =>
  (x a o e).stay (fun b u _ q => k b u q) (fun _ q => q) fun _ _ q => q
/-- a new object is laid and tracked -/
theorem HOk.laid (x : HOk P w H h) (k : ∀ b u, h.get? b = some u → h'.get? b = some u) (hp : h.objs.size ≤ a) (new : ObjOk P w (upd H a o) h' a o) : HOk P w (upd H a o) h' := fun b u e => by
  have hn := x.fresh hp
  by_cases hb : b = a
  · subst hb; rw [upd_same] at e; cases e; exact new
  · rw [upd_ne hb] at e
    exact (x b u e).stay (fun c v _ q => k c v q) (fun c q => by rw [upd_ne (ne_of_none q hn)]; exact q) fun c xs q => by rw [upd_ne (ne_of_none q hn)]; exact q
end

/-- what may be read as u: it is u, or a known u -/
def Rd (H : Hp) (a : Addr) (u : HO) : Prop := H a = some u ∨ ∃ o, H a = some (.frz o u)
theorem Rd.ok {P : Program} {w : World} {H : Hp} {h : Heap} {a : Addr} {u : HO} (r : Rd H a u) (x : HOk P w H h) : ObjOk P w H h a u := by
  rcases r with r | ⟨o, r⟩
  · exact x a u r
  · obtain ⟨_, q⟩ := x a _ r
    exact q
/-- what may be written -/
def Mut : Option HO → Prop
  | some (.lst _) => True
  | some (.dK _) => True
  | some (.dT _) => True
  | some (.set _ _) => True
  | some (.ins _ _ _) => True
  | some (.ext _) => True
  | _ => False
section
variable {P : Program} {w : World} {H : Hp} {h h' : Heap} {x e : Addr} {o' : HO}
/-- the object at e is changed: x itself, or the dict of the instance x -/
theorem HOk.write (ok : HOk P w H h) (mu : Mut (H x)) (he : e = x ∨ H e = some (.own x)) (k : ∀ b u, b ≠ e → h.get? b = some u → h'.get? b = some u) (heo : ∃ u, h'.get? e = some u)
    (new : ObjOk P w (upd H x o') h' x o') : HOk P w (upd H x o') h' := fun b u q => by
  have nown : ∀ c y, H c = some (.own y) → c ≠ x := fun c y r z => by subst z; rw [r] at mu; exact mu
  have ntup : ∀ c xs, H c = some (.tup xs) → c ≠ x := fun c xs r z => by subst z; rw [r] at mu; exact mu
  by_cases hb : b = x
  · subst hb; rw [upd_same] at q; cases q; exact new
  · rw [upd_ne hb] at q
    by_cases hbe : b = e
    · have q' : H b = some (.own x) := by
        rcases he with z | z
        · exact absurd (hbe.trans z) hb
        · rw [hbe]; exact z
      rw [q] at q'; cases q'
      obtain ⟨v, hv⟩ := heo
      exact ⟨v, by rw [hbe]; exact hv⟩
    · refine (ok b u q).stay (fun c v hc r => k c v ?_ r) (fun c r => by rw [upd_ne (nown c b r)]; exact r) fun c xs r => by rw [upd_ne (ntup c xs r)]; exact r
      rcases hc with rfl | hc
      · exact hbe
      · rintro rfl
        rcases he with z | z
        · exact nown c b hc z
        · rw [hc] at z; cases z; exact hb rfl
end

/-! ### kept unless tracked; of the frames at fs (the callers') the slots may change (an exception that passes writes there); of the records at ex (iterators) nothing is said -/
structure Un (fs ex : List Addr) (H H' : Hp) (h h' : Heap) : Prop where
  keep : ∀ b o, h.get? b = some o → H b = none → b ∉ fs → b ∉ ex → h'.get? b = some o
  slot : ∀ b o, h.get? b = some o → H b = none → b ∈ fs → b ∉ ex → ∃ sl, h'.get? b = some { o with slots := sl }
  free : ∀ b o, h.get? b = some o → H b = none → b ∉ ex → H' b = none
  there : ∀ b o, h.get? b = some o → b ∉ ex → ∃ o', h'.get? b = some o'
  tups : ∀ b xs, H b = some (.tup xs) → H' b = some (.tup xs)
  frzs : ∀ b o u, H b = some (.frz o u) → H' b = some (.frz o u)
  tbls : ∀ b ps, H b = some (.tbl ps) → ∃ more, H' b = some (.tbl (ps ++ more))
section
variable {fs fs' ex ex' : List Addr} {H H1 H2 : Hp} {h h1 h2 h' : Heap} {a x e : Addr} {o : HO}
theorem Un.any (u : Un fs ex H H1 h h1) {b : Addr} {ob : Obj} (q : h.get? b = some ob) (n : H b = none) (hx : b ∉ ex) : ∃ sl, h1.get? b = some { ob with slots := sl } := by
  by_cases hb : b ∈ fs
  · exact u.slot b ob q n hb hx
  · exact ⟨ob.slots, u.keep b ob q n hb hx⟩
theorem Un.kept (k : ∀ b u, h.get? b = some u → h'.get? b = some u) : Un fs ex H H h h' :=
  ⟨fun b ob q _ _ _ => k b ob q, fun b ob q _ _ _ => ⟨ob.slots, k b ob q⟩, fun _ _ _ n _ => n, fun b ob q _ => ⟨ob, k b ob q⟩, fun _ _ q => q, fun _ _ _ q => q, fun _ ps q => ⟨#[], by rw [q]; simp⟩⟩
theorem Un.refl : Un fs ex H H h h := Un.kept fun _ _ q => q
theorem Un.laid (k : ∀ b u, h.get? b = some u → h'.get? b = some u) (hp : h.objs.size ≤ a) (hn : H a = none) : Un fs ex H (upd H a o) h h' where
  keep := fun b u q _ _ _ => k b u q
  slot := fun b u q _ _ _ => ⟨u.slots, k b u q⟩
  free := fun b u q n _ => by rw [upd_ne (Nat.ne_of_lt (Nat.lt_of_lt_of_le (Heap.lt_size q) hp))]; exact n
  there := fun b u q _ => ⟨u, k b u q⟩
  tups := fun b xs q => by rw [upd_ne (ne_of_none q hn)]; exact q
  frzs := fun b u xs q => by rw [upd_ne (ne_of_none q hn)]; exact q
  tbls := fun b ps q => ⟨#[], by rw [upd_ne (ne_of_none q hn), q]; simp⟩
theorem Un.write (mu : Mut (H x)) (he : e = x ∨ H e = some (.own x)) (k : ∀ b u, b ≠ e → h.get? b = some u → h'.get? b = some u) (heo : ∃ u, h'.get? e = some u) : Un fs ex H (upd H x o) h h' := by
  have hx : ∀ b, H b = none → b ≠ x := fun b n z => by subst z; rw [n] at mu; exact mu
  have hb : ∀ b, H b = none → b ≠ e := fun b n z => by
    subst z
    rcases he with r | r
    · exact hx b n r
    · rw [n] at r; cases r
  have hm : ∀ b u, H b = some u → ¬ Mut (some u) → b ≠ x := fun b u q nm z => by subst z; rw [q] at mu; exact nm mu
  refine ⟨fun b u q n _ _ => k b u (hb b n) q, fun b u q n _ _ => ⟨u.slots, k b u (hb b n) q⟩, fun b u q n _ => by rw [upd_ne (hx b n)]; exact n, fun b u q _ => ?_,
    fun b xs q => by rw [upd_ne (hm b _ q fun z => z)]; exact q, fun b u xs q => by rw [upd_ne (hm b _ q fun z => z)]; exact q, fun b ps q => ⟨#[], by rw [upd_ne (hm b _ q fun z => z), q]; simp⟩⟩
  by_cases hbe : b = e
  · subst hbe; exact heo
  · exact ⟨u, k b u hbe q⟩
end

/-! ### the heap without what is tracked -/
def trk (h : Heap) (H : Hp) : List Addr := (List.range h.objs.size).filter fun a => (H a).isSome
def hidT (h : Heap) (H : Hp) : Heap := PySem.W.hideAll h (trk h H)
theorem hidT_size (h : Heap) (H : Hp) : (hidT h H).objs.size = h.objs.size := PySem.W.hideAll_size _ _
theorem hidT_get {h : Heap} {H : Hp} {b : Addr} {o : Obj} (e : h.get? b = some o) (n : H b = none) : (hidT h H).get? b = some o :=
  PySem.W.hideAll_get _ e fun hm => by
    have q : (H b).isSome = true := (List.mem_filter.mp hm).2
    rw [n] at q; simp at q
theorem of_hidT {h : Heap} {H : Hp} {b : Addr} {o : Obj} (e : (hidT h H).get? b = some o) : h.get? b = some o ∧ H b = none := by
  have e' : h.get? b = some o := PySem.W.of_hideAll (trk h H) e
  refine ⟨e', ?_⟩
  cases q : H b with
  | none => rfl
  | some x =>
    have hm : b ∈ trk h H := List.mem_filter.mpr ⟨List.mem_range.mpr (Heap.lt_size e'), by simp [q]⟩
    have z : (hidT h H).get? b = none := PySem.W.hideAll_none (trk h H) hm
    rw [z] at e; cases e

/-! ### OpenK's ledger, filled with every new object but one -/
end L2

namespace L2
open PySem PySem.Spec PyProof.Rows

/-- the module's facts, over the base: the heap at the law's entry without what is tracked there -/
structure Mod (K : PySem.W.Frag) (mg : Str → Option Value) (base : Heap) : Prop where
  kin : K.In base
  glob : base.Ns mainGlobals mg
  blt : ∃ mb, base.Ns builtinsNs mb ∧ ∀ x : Str, x ≠ "__name__" → mb x = bootBuiltins x
  nolimit : base.NoLimit

/-- the context: a def's body (or a comprehension's block) running. base: fixed through the whole law; s₀, H₀: the entry; outer: the frames whose slots others may change (a def's callers); stack: all frames that run;
   ex: iterators that were made ahead of the entry and are walked here (a comprehension's); fn: the names whose cells were made at the entry (a def: all; a comprehension's block: its own); calm: not within an except suite; pn: pins that every state bears; xe: what is wanted of an exception that leaves the code -/
structure Cx where
  prog : Program
  w : World
  K : PySem.W.Frag
  mg : Str → Option Value
  base : Heap
  A : Around
  N : List Str
  s₀ : Shared
  H₀ : Hp
  env : Env
  outer : List Env
  stack : List Env
  ex : List Addr
  fn : Str → Bool
  calm : Bool
  pn : List (Addr × Obj)
  xe : Value → Shared → Prop
/-- the callers' frames -/
def frs (l : List Env) : List Addr := l.filterMap (·.frame)
abbrev Cx.fs (X : Cx) : List Addr := frs X.outer

def Vis (sc : Scope) (x : Str) : Prop := sc.names.lookup x = some .local ∨ sc.names.lookup x = some .cell ∨ sc.names.lookup x = some .free
def Loc (sc : Scope) (x : Str) : Prop := sc.names.lookup x = some .local ∨ sc.names.lookup x = some .cell
def Look (env : Env) (h : Heap) (m : Str → Option Value) (x : Str) (u : Value) : Prop :=
  (env.kindOf x = some .local ∧ m x = some u) ∨ ((env.kindOf x = some .cell ∨ env.kindOf x = some .free) ∧ ∃ c, env.cells.lookup x = some c ∧ h.IsCell c (some u))

structure Cx.Ok (X : Cx) : Prop where
  mod : Mod X.K X.mg X.base
  kind : X.env.scope.kind = .function
  glob : X.env.globals = mainGlobals
  blt : X.env.builtins = builtinsNs
  above : X.s₀.heap.objs.size ≤ X.env.locals
  inj : ∀ x y c, X.env.cells.lookup x = some c → X.env.cells.lookup y = some c → x = y
  has : ∀ x, (X.env.kindOf x = some .cell ∨ X.env.kindOf x = some .free) → ∃ c, X.env.cells.lookup x = some c
  cab : ∀ x c, X.fn x = true → X.env.cells.lookup x = some c → X.s₀.heap.objs.size ≤ c
  hd : X.calm = true → X.A.handled = none
  frames : X.A.frames = some X.stack
  stk : X.stack = X.outer ∨ (X.stack = X.env :: X.outer ∧ X.env.frame = some X.env.locals)
  exf : ∀ b ∈ X.ex, b ≠ X.env.locals ∧ ∀ x c, X.env.cells.lookup x = some c → c ≠ b
  bs : ∀ b o, X.base.get? b = some o → X.s₀.heap.get? b = some o ∧ X.H₀ b = none
  bsz : X.base.objs.size ≤ X.s₀.heap.objs.size
  noex : ∀ b o, X.base.get? b = some o → b ∉ X.ex
  exfs : ∀ b ∈ X.ex, b ∉ X.fs
  funs : X.s₀.heap.FunFrames X.base X.outer
  frf : ∀ b ∈ X.fs, X.H₀ b = none

structure Inv (X : Cx) (pins : List (Addr × Obj)) (σ : List (Option V)) (H : Hp) (s : Shared) : Prop where
  ok : X.Ok
  os : s.os = X.s₀.os
  bare : AllBare s.gens
  base : Un X.fs X.ex X.H₀ H X.s₀.heap s.heap
  loc : ∃ m, s.heap.Ns X.env.locals m ∧ ∀ (i : Nat) (x : Str) (v : V), X.N[i]? = some x → σ[i]? = some (some v) → Vis X.env.scope x → ∃ u, RelV v u ∧ Look X.env s.heap m x u
  cell : ∀ x c, X.env.cells.lookup x = some c → ∃ v, s.heap.IsCell c v
  free : H X.env.locals = none
  freeC : ∀ x c, X.env.cells.lookup x = some c → H c = none
  pin : ∀ p ∈ X.pn ++ pins, s.heap.get? p.1 = some p.2 ∧ H p.1 = none ∧ p.1 ≠ X.env.locals ∧ p.1 ∉ X.fs ∧ ∀ v, p.2.data ≠ .cell v
  hok : HOk X.prog X.w H s.heap
  len : σ.length = X.N.length

section
variable {X : Cx} {pins : List (Addr × Obj)} {σ : List (Option V)} {H H' : Hp} {s : Shared} {h' : Heap}

theorem Cx.Ok.nofr (ok : X.Ok) {b : Addr} {o : Obj} (e : X.base.get? b = some o) : b ∉ X.fs := fun hb => by
  have := (ok.funs.mem hb).1
  rw [e] at this; cases this
theorem Inv.bs (I : Inv X pins σ H s) : ∀ b o, X.base.get? b = some o → s.heap.get? b = some o ∧ H b = none := fun b o e =>
  ⟨I.base.keep b o (I.ok.bs b o e).1 (I.ok.bs b o e).2 (I.ok.nofr e) (I.ok.noex b o e), I.base.free b o (I.ok.bs b o e).1 (I.ok.bs b o e).2 (I.ok.noex b o e)⟩
theorem Inv.bk (I : Inv X pins σ H s) : ∀ b o, X.base.get? b = some o → s.heap.get? b = some o := fun b o e => (I.bs b o e).1
theorem Inv.mod (I : Inv X pins σ H s) : Mod X.K X.mg X.base := I.ok.mod
theorem Inv.kIn (I : Inv X pins σ H s) : X.K.In s.heap := I.ok.mod.kin.keeps I.bk
theorem Inv.lt (I : Inv X pins σ H s) : X.env.locals < s.heap.objs.size := let ⟨_, hn, _⟩ := I.loc; hn.lt
theorem Inv.sz (I : Inv X pins σ H s) : X.s₀.heap.objs.size ≤ s.heap.objs.size := Nat.le_trans I.ok.above (Nat.le_of_lt I.lt)
theorem Inv.nofs (I : Inv X pins σ H s) {a : Addr} (h : s.heap.objs.size ≤ a) : a ∉ X.fs := fun hb => by
  obtain ⟨_, o, ho, _⟩ := I.ok.funs.mem hb
  exact absurd (Nat.lt_of_lt_of_le (Heap.lt_size ho) (Nat.le_trans I.sz h)) (Nat.lt_irrefl _)
theorem Inv.cne (I : Inv X pins σ H s) : ∀ x c, X.env.cells.lookup x = some c → c ≠ X.env.locals := fun x c e z => by
  obtain ⟨v, o, ho, hd⟩ := I.cell x c e
  obtain ⟨m, ⟨o', es, ep, ho', hd', _⟩, _⟩ := I.loc
  rw [z, ho'] at ho; cases ho; rw [hd'] at hd; cases hd
theorem Inv.funs (I : Inv X pins σ H s) : s.heap.FunFrames X.base X.outer := by
  have all : ∀ (l : List Env), (∀ b ∈ frs l, b ∈ X.fs) → X.s₀.heap.FunFrames X.base l → s.heap.FunFrames X.base l := by
    intro l
    induction l with
    | nil => intro _ _; trivial
    | cons env r ih =>
      intro hs hl
      obtain ⟨hk, ⟨L, o, hf, hn, ho, hd⟩, hr⟩ := hl
      have hL : L ∈ X.fs := hs L (by unfold frs; rw [List.filterMap_cons, hf]; exact List.mem_cons_self)
      obtain ⟨sl, e⟩ := I.base.slot L o ho (I.ok.frf L hL) hL fun z => I.ok.exfs L z hL
      exact ⟨hk, ⟨L, _, hf, hn, e, hd⟩, ih (fun b hb => hs b (by unfold frs; rw [List.filterMap_cons, hf]; exact List.mem_cons_of_mem _ hb)) hr⟩
  exact all X.outer (fun _ hb => hb) I.ok.funs

/-- the frames that run, for a call -/
theorem Inv.stack (I : Inv X pins σ H s) : s.heap.FunFrames X.base X.stack := by
  rcases I.ok.stk with e | ⟨e, hf⟩
  · rw [e]; exact I.funs
  · rw [e]
    obtain ⟨m, hn, _⟩ := I.loc
    refine .cons (by rw [I.ok.kind]; decide) hf hn ?_ I.funs
    exact Heap.get?_none_of_le (Nat.le_trans I.ok.bsz I.ok.above)
theorem Inv.stkSub (I : Inv X pins σ H s) : ∀ b ∈ frs X.stack, b ∈ X.env.locals :: X.fs := fun b hb => by
  rcases I.ok.stk with e | ⟨e, hf⟩
  · rw [e] at hb; exact List.mem_cons_of_mem _ hb
  · rw [e] at hb
    unfold frs at hb
    rw [List.filterMap_cons, hf] at hb
    exact hb
theorem Inv.stkFree (I : Inv X pins σ H s) : ∀ b ∈ frs X.stack, H b = none := fun b hb => by
  rcases List.mem_cons.mp (I.stkSub b hb) with e | hb
  · rw [e]; exact I.free
  · obtain ⟨_, o, ho, _⟩ := I.ok.funs.mem hb
    exact I.base.free b o ho (I.ok.frf b hb) fun z => I.ok.exfs b z hb

/-- THE STEP: the untracked objects but the frame and the records at ch are kept (the callers' frames up to slots), the frame's map is kept, the new abstract heap is held -/
theorem Inv.step {g' : Array GenState} {t' : Nat} {d' : Drawn} {ch : List Addr} (I : Inv X pins σ H s)
    (hch : ∀ b ∈ ch, (b ∈ X.ex ∨ X.s₀.heap.objs.size ≤ b) ∧ b ≠ X.env.locals ∧ (∀ x c, X.env.cells.lookup x = some c → c ≠ b) ∧ ∀ p ∈ X.pn ++ pins, p.1 ≠ b)
    (keep : ∀ b o, b ≠ X.env.locals → b ∉ X.fs → b ∉ ch → s.heap.get? b = some o → H b = none → h'.get? b = some o)
    (slot : ∀ b o, b ≠ X.env.locals → b ∈ X.fs → b ∉ ch → s.heap.get? b = some o → H b = none → ∃ sl, h'.get? b = some { o with slots := sl }) (free : ∀ b o, b ∉ ch → s.heap.get? b = some o → H b = none → H' b = none)
    (there : ∀ b o, b ∉ ch → s.heap.get? b = some o → ∃ o', h'.get? b = some o')
    (tups : ∀ b xs, H b = some (.tup xs) → H' b = some (.tup xs)) (frzs : ∀ b o u, H b = some (.frz o u) → H' b = some (.frz o u)) (tbls : ∀ b ps, H b = some (.tbl ps) → ∃ more, H' b = some (.tbl (ps ++ more)))
    (ns : ∀ m, s.heap.Ns X.env.locals m → h'.Ns X.env.locals m) (hok : HOk X.prog X.w H' h') (hg : AllBare g') :
    Inv X pins σ H' { s with heap := h', gens := g', drawn := d', toks := t' } := by
  have neL : ∀ b o, X.s₀.heap.get? b = some o → b ≠ X.env.locals := fun b o e => Nat.ne_of_lt (Nat.lt_of_lt_of_le (Heap.lt_size e) I.ok.above)
  have neC : ∀ b o, X.s₀.heap.get? b = some o → b ∉ X.ex → b ∉ ch := fun b o e hx hb => by
    rcases (hch b hb).1 with z | z
    · exact hx z
    · exact absurd (Nat.lt_of_lt_of_le (Heap.lt_size e) z) (Nat.lt_irrefl _)
  have cellK : ∀ x c, X.env.cells.lookup x = some c → ∀ v, s.heap.IsCell c v → h'.IsCell c v := fun x c e v ⟨o, ho, hd⟩ => by
    have nch : c ∉ ch := fun z => (hch c z).2.2.1 x c e rfl
    by_cases hc : c ∈ X.fs
    · obtain ⟨sl, q⟩ := slot c o (I.cne x c e) hc nch ho (I.freeC x c e)
      exact ⟨_, q, hd⟩
    · exact ⟨o, keep c o (I.cne x c e) hc nch ho (I.freeC x c e), hd⟩
  refine ⟨I.ok, I.os, hg, ⟨fun b o e n hb hx => ?_, fun b o e n hb hx => ?_, fun b o e n hx => ?_, fun b o e hx => ?_, fun b xs e => tups b xs (I.base.tups b xs e), fun b o xs e => frzs b o xs (I.base.frzs b o xs e), fun b ps e => ?_⟩, ?_, fun x c e => ?_, ?_, fun x c e => ?_, fun p hp => ?_, hok, I.len⟩
  · exact keep b o (neL b o e) hb (neC b o e hx) (I.base.keep b o e n hb hx) (I.base.free b o e n hx)
  · obtain ⟨sl, e1⟩ := I.base.slot b o e n hb hx
    obtain ⟨sl', e2⟩ := slot b _ (neL b o e) hb (neC b o e hx) e1 (I.base.free b o e n hx)
    exact ⟨sl', e2⟩
  · obtain ⟨o', e1⟩ := I.base.there b o e hx
    exact free b o' (neC b o e hx) e1 (I.base.free b o e n hx)
  · obtain ⟨o', e1⟩ := I.base.there b o e hx
    exact there b o' (neC b o e hx) e1
  · obtain ⟨m1, e1⟩ := I.base.tbls b ps e
    obtain ⟨m2, e2⟩ := tbls b _ e1
    exact ⟨m1 ++ m2, by rw [e2, Array.append_assoc]⟩
  · obtain ⟨m, hn, hl⟩ := I.loc
    refine ⟨m, ns m hn, fun i x v e1 e2 e3 => ?_⟩
    obtain ⟨u, r, l⟩ := hl i x v e1 e2 e3
    refine ⟨u, r, ?_⟩
    rcases l with l | ⟨k, c, e, z⟩
    · exact .inl l
    · exact .inr ⟨k, c, e, cellK x c e _ z⟩
  · obtain ⟨v, z⟩ := I.cell x c e
    exact ⟨v, cellK x c e v z⟩
  · obtain ⟨m, ⟨o, _, _, ho, _⟩, _⟩ := I.loc
    exact free _ o (fun z => (hch _ z).2.1 rfl) ho I.free
  · obtain ⟨v, o, ho, hd⟩ := I.cell x c e
    exact free c o (fun z => (hch c z).2.2.1 x c e rfl) ho (I.freeC x c e)
  · obtain ⟨e, n, ne, nf, d⟩ := I.pin p hp
    have nch : p.1 ∉ ch := fun z => (hch p.1 z).2.2.2 p hp rfl
    exact ⟨keep p.1 p.2 ne nf nch e n, free p.1 p.2 nch e n, ne, nf, d⟩
/-- .. where the frame's own object is kept too -/
theorem Inv.un {t' : Nat} (I : Inv X pins σ H s) (u : Un X.fs [] H H' s.heap h') (hok : HOk X.prog X.w H' h') : Inv X pins σ H' { s with heap := h', toks := t' } := by
  obtain ⟨m, ⟨o, es, ep, ho, r⟩, _⟩ := id I.loc
  obtain ⟨sl, hL⟩ := u.any ho I.free (by simp)
  exact I.step (g' := s.gens) (d' := s.drawn) (ch := []) (fun _ z => nomatch z) (fun b o _ hb _ e n => u.keep b o e n hb (by simp)) (fun b o _ hb _ e n => u.slot b o e n hb (by simp)) (fun b o _ e n => u.free b o e n (by simp)) (fun b o _ e => u.there b o e (by simp)) u.tups u.frzs u.tbls (fun m' hm => by
    obtain ⟨o', es', ep', ho', r'⟩ := hm
    rw [ho] at ho'; cases ho'
    exact ⟨_, es', ep', hL, r'⟩) hok I.bare
/-- behind a call (or a comprehension's block): the slots of this frame may have changed too, the records at ch may have turned -/
theorem Inv.call {g' : Array GenState} {t' : Nat} {d' : Drawn} {ch : List Addr} (I : Inv X pins σ H s) (u : Un (frs X.stack) ch H H' s.heap h') (hok : HOk X.prog X.w H' h') (hg : AllBare g')
    (hch : ∀ b ∈ ch, (b ∈ X.ex ∨ X.s₀.heap.objs.size ≤ b) ∧ b ≠ X.env.locals ∧ (∀ x c, X.env.cells.lookup x = some c → c ≠ b) ∧ ∀ p ∈ X.pn ++ pins, p.1 ≠ b) :
    Inv X pins σ H' { s with heap := h', gens := g', drawn := d', toks := t' } := by
  obtain ⟨m, ⟨o, es, ep, ho, r⟩, _⟩ := id I.loc
  obtain ⟨sl, hL⟩ := u.any ho I.free fun z => (hch _ z).2.1 rfl
  exact I.step (ch := ch) hch (fun b o hL hb hc e n => u.keep b o e n (fun z => (List.mem_cons.mp (I.stkSub b z)).elim hL hb) hc) (fun b o _ _ hc e n => u.any e n hc) (fun b o hc e n => u.free b o e n hc) (fun b o hc e => u.there b o e hc) u.tups u.frzs u.tbls (fun m' hm => by
    obtain ⟨o', es', ep', ho', r'⟩ := hm
    rw [ho] at ho'; cases ho'
    exact ⟨_, es', ep', hL, r'⟩) hok hg
/-- an untracked record of ours (an iterator) has turned -/
theorem Inv.turned {t' : Nat} {it : Addr} (I : Inv X pins σ H s) (k : ∀ b o, b ≠ it → s.heap.get? b = some o → h'.get? b = some o) (hn : H it = none) (hL : it ≠ X.env.locals)
    (h1 : it ∈ X.ex ∨ X.s₀.heap.objs.size ≤ it) (h2 : ∀ x c, X.env.cells.lookup x = some c → c ≠ it) (h3 : ∀ p ∈ X.pn ++ pins, p.1 ≠ it) : Inv X pins σ H { s with heap := h', toks := t' } := by
  have nit : ∀ b u, H b = some u → b ≠ it := fun b u e z => by rw [z, hn] at e; cases e
  refine I.step (g' := s.gens) (d' := s.drawn) (ch := [it]) (fun b hb => ?_) (fun b o _ _ hc e _ => k b o (fun z => hc (by simp [z])) e) (fun b o _ _ hc e _ => ⟨o.slots, k b o (fun z => hc (by simp [z])) e⟩) (fun _ _ _ _ n => n)
    (fun b o hc e => ⟨o, k b o (fun z => hc (by simp [z])) e⟩) (fun _ _ e => e) (fun _ _ _ e => e) (fun b ps e => ⟨#[], by rw [e]; simp⟩) (fun m hm => ?_) (fun b u e => ?_) I.bare
  · have e : b = it := by simpa using hb
    subst e
    exact ⟨h1, hL, h2, h3⟩
  · obtain ⟨o, es, ep, ho, r⟩ := hm
    exact ⟨o, es, ep, k _ o (Ne.symm hL) ho, r⟩
  · refine (I.hok b u e).stay (fun c v hc q => k c v ?_ q) (fun _ q => q) fun _ _ q => q
    rcases hc with z | z
    · rw [z]; exact nit b u e
    · exact nit c _ z
theorem Inv.tok (I : Inv X pins σ H s) (t : Nat) : Inv X pins σ H { s with toks := t } := I.un (h' := s.heap) (t' := t) Un.refl I.hok
/-- all objects kept -/
theorem Inv.kept {t' : Nat} (I : Inv X pins σ H s) (k : ∀ b u, s.heap.get? b = some u → h'.get? b = some u) : Inv X pins σ H { s with heap := h', toks := t' } := I.un (Un.kept k) (I.hok.kept k)
/-- a new object laid and tracked -/
theorem Inv.laid {a : Addr} {o : HO} {t' : Nat} (I : Inv X pins σ H s) (k : ∀ b u, s.heap.get? b = some u → h'.get? b = some u) (hp : s.heap.objs.size ≤ a) (new : ObjOk X.prog X.w (upd H a o) h' a o) :
    Inv X pins σ (upd H a o) { s with heap := h', toks := t' } := I.un (Un.laid k hp (I.hok.fresh hp)) (I.hok.laid k hp new)
/-- an object written -/
theorem Inv.write {x e : Addr} {o : HO} {t' : Nat} (I : Inv X pins σ H s) (mu : Mut (H x)) (he : e = x ∨ H e = some (.own x)) (k : ∀ b u, b ≠ e → s.heap.get? b = some u → h'.get? b = some u) (heo : ∃ u, h'.get? e = some u)
    (new : ObjOk X.prog X.w (upd H x o) h' x o) : Inv X pins σ (upd H x o) { s with heap := h', toks := t' } := I.un (Un.write mu he k heo) (I.hok.write mu he k heo new)
theorem Inv.pins_of {pins' : List (Addr × Obj)} (I : Inv X pins σ H s) (h : ∀ p ∈ pins', s.heap.get? p.1 = some p.2 ∧ H p.1 = none ∧ p.1 ≠ X.env.locals ∧ p.1 ∉ X.fs ∧ ∀ v, p.2.data ≠ .cell v) : Inv X pins' σ H s :=
  ⟨I.ok, I.os, I.bare, I.base, I.loc, I.cell, I.free, I.freeC, fun p hp => (List.mem_append.mp hp).elim (fun z => I.pin p (List.mem_append_left _ z)) (h p), I.hok, I.len⟩

theorem nodup_ix {N : List Str} (hN : N.Nodup) {i j : Nat} {x : Str} (a : N[i]? = some x) (b : N[j]? = some x) : i = j := by
  obtain ⟨h1, e1⟩ := List.getElem?_eq_some_iff.mp a
  obtain ⟨h2, e2⟩ := List.getElem?_eq_some_iff.mp b
  exact (List.getElem_inj hN).mp (e1.trans e2.symm)

/-- a name is stored; what changed -/
theorem store_ok2 {M : Model} {A : Around} {E : Value → Shared → Prop} {i : Nat} {x : Str} {v : V} {u : Value} {Q : Unit → Shared → Prop} (I : Inv X pins σ H s) (hN : X.N.Nodup) (hi : X.N[i]? = some x) (hx : Loc X.env.scope x) (r : RelV v u)
    (h : ∀ s', Inv X pins (σ.set i (some v)) H s' → (∃ a, Heap.SameBut a s.heap s'.heap ∧ (a = X.env.locals ∨ X.env.cells.lookup x = some a)) → Q () s') (hf : X.fn x = true ∨ X.env.scope.names.lookup x = some .local := by first | exact .inl rfl | exact .inr rfl | assumption) : wpAny M A (storeName X.env x u) Q E s := by
  obtain ⟨m, hn, hl⟩ := id I.loc
  have hcls : (X.env.scope.kind == .class || (X.env.scope.kind == .module && X.env.locals != X.env.globals)) = false := by rw [I.ok.kind]; rfl
  have hiσ : i < σ.length := by rw [I.len]; exact (List.getElem?_eq_some_iff.mp hi).1
  have cne := I.cne
  have tracked : ∀ {a : Addr} {h' : Heap}, (∃ o, s.heap.get? a = some o ∧ H a = none) → Heap.SameBut a s.heap h' → HOk X.prog X.w H h' := fun {a h'} ha hs b ob e => by
    obtain ⟨_, _, hfree⟩ := ha
    refine (I.hok b ob e).stay (fun c w' hc q => (hs.2 c ?_).trans q) (fun _ q => q) fun _ _ q => q
    rintro rfl
    rcases hc with rfl | hc
    · rw [hfree] at e; cases e
    · rw [hfree] at hc; cases hc
  rcases hx with hk | hk
  · refine wpAny_storeName_local hk hn (fun h' hn' hs => ?_) hcls
    obtain ⟨oL, _, _, hoL, _⟩ := id hn
    refine h _ ⟨I.ok, I.os, I.bare, ⟨fun b o e n hb hx => ?_, fun b o e n hb hx => ?_, I.base.free, fun b o e hx => ?_, I.base.tups, I.base.frzs, I.base.tbls⟩, ⟨_, hn', fun j y v' e1 e2 e3 => ?_⟩, fun y c e => ?_, I.free, I.freeC, fun p hp => ?_, tracked ⟨oL, hoL, I.free⟩ hs, by simpa using I.len⟩ ⟨_, hs, .inl rfl⟩
    · exact (hs.2 b (Nat.ne_of_lt (Nat.lt_of_lt_of_le (Heap.lt_size e) I.ok.above))).trans (I.base.keep b o e n hb hx)
    · obtain ⟨sl, e1⟩ := I.base.slot b o e n hb hx
      exact ⟨sl, (hs.2 b (Nat.ne_of_lt (Nat.lt_of_lt_of_le (Heap.lt_size e) I.ok.above))).trans e1⟩
    · obtain ⟨o', e1⟩ := I.base.there b o e hx
      exact ⟨o', (hs.2 b (Nat.ne_of_lt (Nat.lt_of_lt_of_le (Heap.lt_size e) I.ok.above))).trans e1⟩
    · by_cases hj : j = i
      · subst hj
        rw [hi] at e1; cases e1
        rw [List.getElem?_set_self hiσ] at e2
        cases e2
        exact ⟨u, r, .inl ⟨hk, by simp⟩⟩
      · rw [List.getElem?_set_ne (Ne.symm hj)] at e2
        obtain ⟨u', r', q⟩ := hl j y v' e1 e2 e3
        refine ⟨u', r', ?_⟩
        rcases q with ⟨k, e⟩ | ⟨k, c, e, z⟩
        · refine .inl ⟨k, ?_⟩
          have : y ≠ x := fun e => hj (nodup_ix hN e1 (e ▸ hi))
          simp [this, e]
        · exact .inr ⟨k, c, e, z.sameBut hs (cne y c e)⟩
    · obtain ⟨w', z⟩ := I.cell y c e
      exact ⟨w', z.sameBut hs (cne y c e)⟩
    · obtain ⟨e, n, ne, nf, d⟩ := I.pin p hp
      exact ⟨(hs.2 p.1 ne).trans e, n, ne, nf, d⟩
  · have hfn : X.fn x = true := by
      rcases hf with z | z
      · exact z
      · rw [z] at hk; cases hk
    obtain ⟨c, hc⟩ := I.ok.has x (.inl hk)
    obtain ⟨w', z⟩ := I.cell x c hc
    refine wpAny_storeName_cell I.ok.kind hk hc z (fun h' hc' hs => ?_)
    obtain ⟨oc, hoc, hocd⟩ := id z
    refine h { s with heap := h' } ⟨I.ok, I.os, I.bare, ⟨fun b o e n hb hx => ?_, fun b o e n hb hx => ?_, I.base.free, fun b o e hx => ?_, I.base.tups, I.base.frzs, I.base.tbls⟩, ⟨m, hn.sameBut hs (Ne.symm (cne x c hc)), fun j y v' e1 e2 e3 => ?_⟩, fun y c' e => ?_, I.free, I.freeC, fun p hp => ?_, tracked ⟨oc, hoc, I.freeC x c hc⟩ hs, by simpa using I.len⟩ ⟨c, hs, .inr hc⟩
    · exact (hs.2 b (Nat.ne_of_lt (Nat.lt_of_lt_of_le (Heap.lt_size e) (I.ok.cab x c hfn hc)))).trans (I.base.keep b o e n hb hx)
    · obtain ⟨sl, e1⟩ := I.base.slot b o e n hb hx
      exact ⟨sl, (hs.2 b (Nat.ne_of_lt (Nat.lt_of_lt_of_le (Heap.lt_size e) (I.ok.cab x c hfn hc)))).trans e1⟩
    · obtain ⟨o', e1⟩ := I.base.there b o e hx
      exact ⟨o', (hs.2 b (Nat.ne_of_lt (Nat.lt_of_lt_of_le (Heap.lt_size e) (I.ok.cab x c hfn hc)))).trans e1⟩
    · by_cases hj : j = i
      · subst hj
        rw [hi] at e1; cases e1
        rw [List.getElem?_set_self hiσ] at e2
        cases e2
        exact ⟨u, r, .inr ⟨.inl hk, c, hc, hc'⟩⟩
      · rw [List.getElem?_set_ne (Ne.symm hj)] at e2
        obtain ⟨u', r', q⟩ := hl j y v' e1 e2 e3
        refine ⟨u', r', ?_⟩
        rcases q with q | ⟨k, c', e, z'⟩
        · exact .inl q
        · refine .inr ⟨k, c', e, z'.sameBut hs ?_⟩
          rintro rfl
          exact hj (nodup_ix hN e1 (I.ok.inj _ _ _ e hc ▸ hi))
    · by_cases hcc : c' = c
      · subst hcc; exact ⟨_, hc'⟩
      · obtain ⟨w2, z2⟩ := I.cell y c' e
        exact ⟨w2, z2.sameBut hs hcc⟩
    · obtain ⟨e, n, ne, nf, d⟩ := I.pin p hp
      refine ⟨(hs.2 p.1 ?_).trans e, n, ne, nf, d⟩
      intro q
      rw [q, hoc] at e
      have q' : oc = p.2 := Option.some.inj e
      exact d w' (by rw [← q']; exact hocd)
theorem store_ok {M : Model} {A : Around} {E : Value → Shared → Prop} {i : Nat} {x : Str} {v : V} {u : Value} {Q : Unit → Shared → Prop} (I : Inv X pins σ H s) (hN : X.N.Nodup) (hi : X.N[i]? = some x) (hx : Loc X.env.scope x) (r : RelV v u)
    (h : ∀ s', Inv X pins (σ.set i (some v)) H s' → Q () s') (hf : X.fn x = true ∨ X.env.scope.names.lookup x = some .local := by first | exact .inl rfl | exact .inr rfl | assumption) : wpAny M A (storeName X.env x u) Q E s :=
  store_ok2 I hN hi hx r (fun s' I' _ => h s' I') hf
/-- behind a call or a block, the state as it is -/
theorem Inv.call' {s' : Shared} {ch : List Addr} (I : Inv X pins σ H s) (ho : s'.os = s.os) (u : Un (frs X.stack) ch H H' s.heap s'.heap) (hok : HOk X.prog X.w H' s'.heap) (hg : AllBare s'.gens)
    (hch : ∀ b ∈ ch, (b ∈ X.ex ∨ X.s₀.heap.objs.size ≤ b) ∧ b ≠ X.env.locals ∧ (∀ x c, X.env.cells.lookup x = some c → c ≠ b) ∧ ∀ p ∈ X.pn ++ pins, p.1 ≠ b) : Inv X pins σ H' s' := by
  obtain ⟨h', g', d', t', o'⟩ := s'
  have e : o' = s.os := ho
  subst e
  exact I.call (g' := g') (t' := t') (d' := d') u hok hg hch
end

/-! ### the judgements -/
/-- an exception: its class, its own dict's address (where it has one), the abstract heap behind it -/
abbrev XK := Value → Option Addr → Hp → Prop
abbrev St := List (Option V)
abbrev VK := V → Hp → Prop
/-- an expression's reading; a test's; an argument list's -/
abbrev TE := St → Hp → VK → Prop
abbrev TT := St → Hp → (Bool → Hp → Prop) → Prop
abbrev TA := St → Hp → (List V → Hp → Prop) → Prop
/-- what is wanted behind a statement -/
structure Ends where
  nx : St → Hp → Prop
  rt : VK
  bk : St → Hp → Prop := fun _ _ => False
  ct : St → Hp → Prop := fun _ _ => False
abbrev TS := Ends → St → Hp → Prop

def EP (X : Cx) (pins : List (Addr × Obj)) (σ : St) (Q : VK) (u : Value) (s' : Shared) : Prop := ∃ v H', Inv X pins σ H' s' ∧ RelV v u ∧ Q v H'
def TP (X : Cx) (pins : List (Addr × Obj)) (σ : St) (Q : Bool → Hp → Prop) (b : Bool) (s' : Shared) : Prop := ∃ H', Inv X pins σ H' s' ∧ Q b H'
def AP (X : Cx) (pins : List (Addr × Obj)) (σ : St) (Q : List V → Hp → Prop) (us : List Value) (s' : Shared) : Prop := ∃ vs H', Inv X pins σ H' s' ∧ Vals vs us ∧ Q vs H'
def SP (X : Cx) (pins : List (Addr × Obj)) (D : Ends) (f : Flow) (s' : Shared) : Prop :=
  match f with
  | .next => ∃ σ' H', Inv X pins σ' H' s' ∧ D.nx σ' H'
  | .brk => ∃ σ' H', Inv X pins σ' H' s' ∧ D.bk σ' H'
  | .cont => ∃ σ' H', Inv X pins σ' H' s' ∧ D.ct σ' H'
  | .ret u => ∃ v σ' H', Inv X pins σ' H' s' ∧ RelV v u ∧ D.rt v H'

def PE (X : Cx) (e : Expr) (t : TE) : Prop :=
  ∀ (pins : List (Addr × Obj)) (s : Shared) (σ : St) (H : Hp) (Q : VK), Inv X pins σ H s → t σ H Q → wpAny (model X.prog X.w) X.A (eval e X.env) (EP X pins σ Q) X.xe s
def PT (X : Cx) (e : Expr) (t : TT) : Prop :=
  ∀ (pins : List (Addr × Obj)) (s : Shared) (σ : St) (H : Hp) (Q : Bool → Hp → Prop), Inv X pins σ H s → t σ H Q → wpAny (model X.prog X.w) X.A (isTrue e X.env (eval e X.env)) (TP X pins σ Q) X.xe s
/-- a test whatever its 'whole' is (and, or) -/
def PW (X : Cx) (e : Expr) (t : TT) : Prop :=
  ∀ (whole : Sem Value) (pins : List (Addr × Obj)) (s : Shared) (σ : St) (H : Hp) (Q : Bool → Hp → Prop), Inv X pins σ H s → t σ H Q → wpAny (model X.prog X.w) X.A (isTrue e X.env whole) (TP X pins σ Q) X.xe s
theorem PW.pt {X : Cx} {e : Expr} {t : TT} (h : PW X e t) : PT X e t := h _
/-- an argument list (no star), from the left -/
def PA (X : Cx) (es : List Expr) (t : TA) : Prop :=
  ∀ (pos : Pos) (pins : List (Addr × Obj)) (s : Shared) (σ : St) (H : Hp) (Q : List V → Hp → Prop), Inv X pins σ H s → t σ H Q → wpAny (model X.prog X.w) X.A (spliced (backTo pos (starEach es X.env))) (AP X pins σ Q) X.xe s
def PS (X : Cx) (st : Stmt) (t : TS) : Prop :=
  ∀ (pins : List (Addr × Obj)) (s : Shared) (σ : St) (H : Hp) (D : Ends), Inv X pins σ H s → t D σ H → wpAny (model X.prog X.w) X.A (exec st X.env) (SP X pins D) X.xe s
def PSs (X : Cx) (st : List Stmt) (t : TS) : Prop :=
  ∀ (pins : List (Addr × Obj)) (s : Shared) (σ : St) (H : Hp) (D : Ends), Inv X pins σ H s → t D σ H → wpAny (model X.prog X.w) X.A (execs st X.env) (SP X pins D) X.xe s
/-- weaken the end -/
theorem thn {α : Type} {t : Sem α} {Q Q' : α → Shared → Prop} {M : Model} {A : Around} {E : Value → Shared → Prop} {s : Shared} (h : wpAny M A t Q E s) (hQ : ∀ a s, Q a s → Q' a s) : wpAny M A t Q' E s := wpAny_mono h hQ fun _ _ x => x
end L2

namespace L2
open PySem PySem.Spec PyProof.Rows
section
variable {X : Cx}

/-! ### names and constants -/
def tVar (i : Nat) : TE := fun σ H Q => ∃ v, σ[i]? = some (some v) ∧ Q v H
def tC (v : V) : TE := fun _ H Q => Q v H
theorem pe_var {i : Nat} {x : Str} {pos : Pos} (hN : X.N[i]? = some x) (hv : Vis X.env.scope x) (hd : (x == ("__debug__" : Str)) = false := by decide) (hcd : (x == ("__classdict__" : Str)) = false := by decide) : PE X (.Name x pos) (tVar i) := by
  intro pins s σ H Q I h
  obtain ⟨v, e, h⟩ := h
  obtain ⟨m, hn, hl⟩ := I.loc
  obtain ⟨u, r, l⟩ := hl i x v hN e hv
  have fin : EP X pins σ Q u s := ⟨v, H, I, r, h⟩
  rcases l with ⟨hk, hm⟩ | ⟨hk, c, hc, hcell⟩
  · exact wpAny_Name (wpAny_loadName_local I.ok.kind hk hn hm fin) hd
  · rcases hk with hk | hk
    · exact wpAny_Name (wpAny_loadName_cell I.ok.kind hk hc hcell fin) hd
    · exact wpAny_Name (wpAny_loadName_free I.ok.kind hk hc hcell fin hcd) hd
theorem pe_int {i j pos} : PE X (.Constant (.int i) j pos) (tC (.int i)) := fun _ _ _ H _ I h => wpAny_Constant_int ⟨.int i, H, I.tok _, ⟨_, rfl⟩, h⟩
theorem pe_bl {b j pos} : PE X (.Constant (.bool b) j pos) (tC (.bl b)) := fun _ _ _ H _ I h => Constant_bool ⟨.bl b, H, I, rfl, h⟩
theorem pe_non {j pos} : PE X (.Constant .none j pos) (tC .non) := fun _ _ _ H _ I h => Constant_none ⟨.non, H, I, rfl, h⟩
theorem pe_str {x j pos} : PE X (.Constant (.str x) j pos) (tC (.str x)) := fun _ _ _ H _ I h => Calls.Constant_str ⟨.str x, H, I.tok _, ⟨_, rfl⟩, h⟩

/-- a global name of the def -/
def Gl (X : Cx) (x : Str) : Prop := X.env.kindOf x = some .globalImplicit
theorem ld_glob {E : Value → Shared → Prop} {pins : List (Addr × Obj)} {s : Shared} {σ : St} {H : Hp} {x : Str} {u : Value} {pos : Pos} {Q : Value → Shared → Prop} (I : Inv X pins σ H s) (hg : Gl X x) (hm : X.mg x = some u) (h : Q u s)
    (hd : (x == ("__debug__" : Str)) = false := by decide) : wpAny (model X.prog X.w) X.A (eval (.Name x pos) X.env) Q E s :=
  Calls.Name_function_global I.ok.kind hg (Calls.loadGlobal_global (by rw [I.ok.glob]; exact I.mod.glob.keeps I.bk) hm h) hd
theorem ld_blt {E : Value → Shared → Prop} {pins : List (Addr × Obj)} {s : Shared} {σ : St} {H : Hp} {x : Str} {u : Value} {pos : Pos} {Q : Value → Shared → Prop} (I : Inv X pins σ H s) (hg : Gl X x) (hm : X.mg x = none) (hv : bootBuiltins x = some u) (h : Q u s)
    (hn : x ≠ "__name__" := by decide) (hd : (x == ("__debug__" : Str)) = false := by decide) : wpAny (model X.prog X.w) X.A (eval (.Name x pos) X.env) Q E s := by
  obtain ⟨mb, h1, h2⟩ := I.mod.blt
  exact Calls.Name_function_global I.ok.kind hg (Calls.loadGlobal_builtin (by rw [I.ok.glob]; exact I.mod.glob.keeps I.bk) hm (by rw [I.ok.blt]; exact h1.keeps I.bk) ((h2 x hn).trans hv) h) hd
/-! ### arithmetic -/
variable {a b : Expr} {ta tb : TE} {pos : Pos}
/-! ### comparisons -/
/-- a comparison as a value, as a test -/
def tB (t : TE) : TT := fun σ H Q => t σ H fun x H1 => ∃ c, x = .bl c ∧ Q c H1
/-- an expression whose value is a bool, as a test -/
theorem pt_val {e : Expr} {t : TE} (h : PE X e t) (he : ∀ whole, isTrue e X.env whole = (do let v ← whole; standAt e.pos; holding [v] (truthy v)) := by intro _; rfl) : PT X e (tB t) := by
  intro pins s σ H Q I hw
  refine isTrue_plain (thn (h pins s σ H _ I hw) fun v s1 ⟨x, H1, I1, r1, q1⟩ => ?_) (he _)
  obtain ⟨d, rfl, q⟩ := q1
  cases r1
  exact wpAny_truthy_bool ⟨H1, I1, q⟩

/-! ### and, or, not -/
variable {tA tB' : TT} {rest : List Expr}
def tAnd (t u : TT) : TT := fun σ H Q => t σ H fun c H1 => if c = true then u σ H1 Q else Q false H1
def tOr (t u : TT) : TT := fun σ H Q => t σ H fun c H1 => if c = true then Q true H1 else u σ H1 Q
def tNot (t : TT) : TT := fun σ H Q => t σ H fun c H1 => Q (!c) H1
theorem pw_and1 (ha : PT X a tA) : PW X (.BoolOp .And [a] pos) tA := by
  intro wh pins s σ H Q I h
  refine isTrue_and (thn (ha pins s σ H Q I h) fun c s1 e => ?_)
  cases c with
  | true => exact isTrue_and_nil e
  | false => exact e
theorem pw_or1 (ha : PT X a tA) : PW X (.BoolOp .Or [a] pos) tA := by
  intro wh pins s σ H Q I h
  refine isTrue_or (thn (ha pins s σ H Q I h) fun c s1 e => ?_)
  cases c with
  | false => exact isTrue_or_nil e
  | true => exact e
theorem pw_and (ha : PT X a tA) (hb : PW X (.BoolOp .And (b :: rest) pos) tB') : PW X (.BoolOp .And (a :: b :: rest) pos) (tAnd tA tB') := by
  intro wh pins s σ H Q I h
  refine isTrue_and (thn (ha pins s σ H _ I h) fun c s1 ⟨H1, I1, q1⟩ => ?_)
  cases c with
  | true => exact hb wh pins s1 σ H1 Q I1 q1
  | false => exact ⟨H1, I1, q1⟩
theorem pw_or (ha : PT X a tA) (hb : PW X (.BoolOp .Or (b :: rest) pos) tB') : PW X (.BoolOp .Or (a :: b :: rest) pos) (tOr tA tB') := by
  intro wh pins s σ H Q I h
  refine isTrue_or (thn (ha pins s σ H _ I h) fun c s1 ⟨H1, I1, q1⟩ => ?_)
  cases c with
  | true => exact ⟨H1, I1, q1⟩
  | false => exact hb wh pins s1 σ H1 Q I1 q1
theorem pt_not (ha : PT X a tA) : PT X (.UnaryOp .Not a pos) (tNot tA) := by
  intro pins s σ H Q I h
  exact isTrue_not (ha pins s σ H (fun c H1 => Q (!c) H1) I h)
end
end L2

namespace L2
open PySem PySem.Spec PyProof.Rows

/-! ### a list, a tuple that is read: tracked, frozen, or an object of the module -/
def SqL (K : PySem.W.Frag) (H : Hp) (a : Addr) (xs : List V) : Prop :=
  Rd H a (.lst xs) ∨
    ∃ (o : Obj) (its : Array Value) (n : Nat), K.lookup a = some o ∧ o.cls = .type "list" ∧ o.dict = none ∧ o.data = .seq its n ∧ its.size ≤ sizeLine ∧ Vals xs its.toList
def SqT (K : PySem.W.Frag) (H : Hp) (a : Addr) (xs : List V) : Prop :=
  Rd H a (.tup xs) ∨
    ∃ (o : Obj) (its : Array Value) (n : Nat), K.lookup a = some o ∧ o.cls = .type "tuple" ∧ o.data = .seq its n ∧ its.size ≤ sizeLine ∧ Vals xs its.toList
def absV : Value → Option V
  | .none => some .non
  | .bool b => some (.bl b)
  | .int i _ => some (.int i)
  | .str x _ => some (.str x)
  | .bytes b _ => some (.byt b)
  | .float b _ => some (.flt b)
  | .ref a => some (.ref a)
  | .type n => some (.ty n)
  | _ => none
theorem RelV.abs {x : V} {u : Value} (r : RelV x u) : absV u = some x := by
  cases x with
  | non => cases r; rfl
  | bl _ => cases r; rfl
  | int _ => obtain ⟨t, rfl⟩ := r; rfl
  | str _ => obtain ⟨t, rfl⟩ := r; rfl
  | byt _ => obtain ⟨t, rfl⟩ := r; rfl
  | flt _ => obtain ⟨t, rfl⟩ := r; rfl
  | ref _ => cases r; rfl
  | ty _ => cases r; rfl
theorem RelV.inj {x y : V} {u : Value} (r : RelV x u) (q : RelV y u) : x = y := Option.some.inj (r.abs.symm.trans q.abs)
theorem Vals.inj : ∀ {xs ys : List V} {us : List Value}, Vals xs us → Vals ys us → xs = ys
  | _, _, _, .nil, .nil => rfl
  | _, _, _, .cons r t, .cons r' t' => by rw [r.inj r', Vals.inj t t']
section
variable {X : Cx} {pins : List (Addr × Obj)} {σ : St} {H : Hp} {s : Shared} {a : Addr} {xs ys : List V}
theorem SqL.of {K : PySem.W.Frag} (h : H a = some (.lst xs)) : SqL K H a xs := .inl (.inl h)
theorem SqT.of {K : PySem.W.Frag} (h : H a = some (.tup xs)) : SqT K H a xs := .inl (.inl h)
theorem Inv.list (I : Inv X pins σ H s) (h : SqL X.K H a xs) : ∃ its : List Value, Vals xs its ∧ PlainL s.heap a its.toArray ∧ xs.length ≤ sizeLine := by
  rcases h with h | ⟨o, its, n, hk, hc, hd, hs, hz, r⟩
  · obtain ⟨z, its, n, r, e⟩ := h.ok I.hok
    exact ⟨its, r, ⟨_, n, e, rfl, rfl, rfl⟩, z⟩
  · refine ⟨its.toList, r, ⟨o, n, I.kIn a o hk, hc, hd, by simpa using hs⟩, ?_⟩
    have e := r.length
    simp only [Array.length_toList] at e
    omega
theorem Inv.tuple (I : Inv X pins σ H s) (h : SqT X.K H a xs) : ∃ its : List Value, Vals xs its ∧ IsTup s.heap a its.toArray ∧ xs.length ≤ sizeLine := by
  rcases h with h | ⟨o, its, n, hk, hc, hs, hz, r⟩
  · obtain ⟨z, its, r, p⟩ := h.ok I.hok
    exact ⟨its, r, p, z⟩
  · refine ⟨its.toList, r, ⟨o, I.kIn a o hk, hc, n, by simpa using hs⟩, ?_⟩
    have e := r.length
    simp only [Array.length_toList] at e
    omega
theorem Inv.list_inj (I : Inv X pins σ H s) (h : SqL X.K H a xs) (h' : SqL X.K H a ys) : xs = ys := by
  obtain ⟨its, r, ⟨o, n, e, _, _, d⟩, _⟩ := I.list h
  obtain ⟨its', r', ⟨o', n', e', _, _, d'⟩, _⟩ := I.list h'
  rw [e] at e'; cases e'
  rw [d] at d'
  injection d' with d1 _
  have : its = its' := by simpa using congrArg Array.toList d1
  subst this
  exact r.inj r'
theorem Inv.tuple_inj (I : Inv X pins σ H s) (h : SqT X.K H a xs) (h' : SqT X.K H a ys) : xs = ys := by
  obtain ⟨its, r, ⟨o, e, _, n, d⟩, _⟩ := I.tuple h
  obtain ⟨its', r', ⟨o', e', _, n', d'⟩, _⟩ := I.tuple h'
  rw [e] at e'; cases e'
  rw [d] at d'
  injection d' with d1 _
  have : its = its' := by simpa using congrArg Array.toList d1
  subst this
  exact r.inj r'
end

/-! ### another wish about exceptions -/
abbrev Cx.wish (X : Cx) (E : Value → Shared → Prop) : Cx := { X with xe := E }
/-- no exception leaves -/
abbrev Cx.nox (X : Cx) : Cx := X.wish fun _ _ => False
theorem Cx.Ok.wish {X : Cx} (ok : X.Ok) (E : Value → Shared → Prop) : (X.wish E).Ok :=
  ⟨ok.mod, ok.kind, ok.glob, ok.blt, ok.above, ok.inj, ok.has, ok.cab, ok.hd, ok.frames, ok.stk, ok.exf, ok.bs, ok.bsz, ok.noex, ok.exfs, ok.funs, ok.frf⟩
theorem Cx.Ok.unwish {X : Cx} {E : Value → Shared → Prop} (ok : (X.wish E).Ok) : X.Ok :=
  ⟨ok.mod, ok.kind, ok.glob, ok.blt, ok.above, ok.inj, ok.has, ok.cab, ok.hd, ok.frames, ok.stk, ok.exf, ok.bs, ok.bsz, ok.noex, ok.exfs, ok.funs, ok.frf⟩
section
variable {X : Cx} {pins : List (Addr × Obj)} {σ : St} {H : Hp} {s : Shared} {E : Value → Shared → Prop}
theorem Inv.wish (I : Inv X pins σ H s) (E : Value → Shared → Prop) : Inv (X.wish E) pins σ H s := ⟨I.ok.wish E, I.os, I.bare, I.base, I.loc, I.cell, I.free, I.freeC, I.pin, I.hok, I.len⟩
theorem Inv.unwish (I : Inv (X.wish E) pins σ H s) : Inv X pins σ H s := ⟨I.ok.unwish, I.os, I.bare, I.base, I.loc, I.cell, I.free, I.freeC, I.pin, I.hok, I.len⟩
theorem SP.unwish {D : Ends} {f : Flow} {s' : Shared} (h : SP (X.wish E) pins D f s') : SP X pins D f s' := by
  cases f with
  | next => obtain ⟨σ', H', I, q⟩ := h; exact ⟨σ', H', I.unwish, q⟩
  | brk => obtain ⟨σ', H', I, q⟩ := h; exact ⟨σ', H', I.unwish, q⟩
  | cont => obtain ⟨σ', H', I, q⟩ := h; exact ⟨σ', H', I.unwish, q⟩
  | ret u => obtain ⟨v, σ', H', I, r, q⟩ := h; exact ⟨v, σ', H', I.unwish, r, q⟩
theorem PSs.nox {st : List Stmt} {t : TS} (h : PSs X.nox st t) : PSs X st t := fun pins s σ H D I hw =>
  wpAny_mono (h pins s σ H D (I.wish _) hw) (fun _ _ q => q.unwish) fun _ _ z => False.elim z
end

/-! ### blocks and small statements -/
section
variable {X : Cx} {st : Stmt} {rest : List Stmt} {t u : TS} {e : Expr} {te : TE} {pos : Pos}
def tNext : TS := fun D σ H => D.nx σ H
def tSeq (t u : TS) : TS := fun D σ H => t { D with nx := u D } σ H
theorem pss_nil : PSs X [] tNext := fun _ _ σ H _ I h => wpAny_execs_nil ⟨σ, H, I, h⟩
theorem pss_cons (h1 : PS X st t) (h2 : PSs X rest u) : PSs X (st :: rest) (tSeq t u) := by
  intro pins s σ H D I h
  refine wpAny_execs_cons (thn (h1 pins s σ H { D with nx := u D } I h) fun f s1 q => ?_)
  cases f with
  | next =>
    obtain ⟨σ', H', I', q⟩ := q
    exact h2 pins s1 σ' H' D I' q
  | ret v => exact q
  | brk => exact q
  | cont => exact q
theorem pss_one (h1 : PS X st t) : PSs X [st] t := by
  intro pins s σ H D I h
  refine wpAny_execs_cons (thn (h1 pins s σ H D I h) fun f s1 q => ?_)
  cases f with
  | next => exact wpAny_execs_nil q
  | ret v => exact q
  | brk => exact q
  | cont => exact q
/-- in a def's body nothing is shown -/
theorem Inv.quiet {pins : List (Addr × Obj)} {σ : St} {H : Hp} {s : Shared} (I : Inv X pins σ H s) : interactive X.env = false := by simp [interactive, I.ok.kind]
/-- an expression whose value is dropped -/
def tDrop (te : TE) : TS := fun D σ H => te σ H fun _ H1 => D.nx σ H1
theorem ps_expr (he : PE X e te) (hs : swapsWith e none pos.line X.env = pure false := by rfl) : PS X (.Expr e pos) (tDrop te) := by
  intro pins s σ H D I h
  exact wpAny_Expr_any (thn (he pins s σ H _ I h) fun v s1 ⟨x, H1, I1, r1, q1⟩ => ⟨σ, H1, I1, q1⟩) I.quiet hs
def tRet (te : TE) : TS := fun D σ H => te σ H D.rt
theorem ps_ret (he : PE X e te) : PS X (.Return (some e) pos) (tRet te) := by
  intro pins s σ H D I h
  exact wpAny_Return_some (thn (he pins s σ H _ I h) fun v s1 ⟨x, H1, I1, r1, q1⟩ => ⟨x, σ, H1, I1, r1, q1⟩)
def tIfS (c : TT) (t u : TS) : TS := fun D σ H => c σ H fun b H1 => if b = true then t D σ H1 else u D σ H1
theorem ps_if {c : Expr} {a b : List Stmt} {tc : TT} (hc : PT X c tc) (ha : PSs X a t) (hb : PSs X b u) : PS X (.If c a b pos) (tIfS tc t u) := by
  intro pins s σ H D I h
  refine wpAny_If (thn (hc pins s σ H _ I h) fun d s1 ⟨H1, I1, q1⟩ => ?_)
  cases d with
  | true => exact ha pins s1 σ H1 D I1 q1
  | false => exact hb pins s1 σ H1 D I1 q1
end

/-! ### targets -/
abbrev TG := V → St → Hp → (St → Hp → Prop) → Prop
abbrev TGs := List V → St → Hp → (St → Hp → Prop) → Prop
def PG (X : Cx) (target : Expr) (t : TG) : Prop :=
  ∀ (pins : List (Addr × Obj)) (s : Shared) (σ : St) (H : Hp) (v : V) (u : Value) (Q : St → Hp → Prop), Inv X pins σ H s → RelV v u → t v σ H Q →
    wpAny (model X.prog X.w) X.A (assign target X.env u) (fun _ s' => ∃ σ' H', Inv X pins σ' H' s' ∧ Q σ' H') X.xe s
/-- several targets, one after another -/
def PGs (X : Cx) (ts : List Expr) (t : TGs) : Prop :=
  ∀ (pins : List (Addr × Obj)) (s : Shared) (σ : St) (H : Hp) (vs : List V) (us : List Value) (Q : St → Hp → Prop), Inv X pins σ H s → Vals vs us → t vs σ H Q →
    wpAny (model X.prog X.w) X.A (assignInOrder ((assignEach ts X.env).map (·.2)) us) (fun _ s' => ∃ σ' H', Inv X pins σ' H' s' ∧ Q σ' H') X.xe s
/-- o[i] = v, by values -/
abbrev TSet := V → V → V → Hp → (Hp → Prop) → Prop
def PSet (X : Cx) (t : TSet) : Prop :=
  ∀ (pins : List (Addr × Obj)) (s : Shared) (σ : St) (H : Hp) (o i v : V) (ov iv u : Value) (Q : Hp → Prop), Inv X pins σ H s → RelV o ov → RelV i iv → RelV v u → t o i v H Q →
    wpAny (model X.prog X.w) X.A (setItem ov iv u) (fun _ s' => ∃ H', Inv X pins σ H' s' ∧ Q H') X.xe s
section
variable {X : Cx} {pos : Pos}
def gName (i : Nat) : TG := fun v σ H Q => Q (σ.set i (some v)) H
theorem pg_name {i : Nat} {x : Str} (hN : X.N.Nodup) (hi : X.N[i]? = some x) (hx : Loc X.env.scope x) (hf : X.fn x = true ∨ X.env.scope.names.lookup x = some .local := by first | exact .inl rfl | exact .inr rfl | assumption) : PG X (.Name x pos) (gName i) := by
  intro pins s σ H v u Q I r h
  exact wpAny_assign_Name (store_ok I hN hi hx r (fun s' I' => ⟨_, H, I', h⟩) hf)
def gNil : TGs := fun vs σ H Q => vs = [] ∧ Q σ H
def gCons (t : TG) (u : TGs) : TGs := fun vs σ H Q => ∃ v r, vs = v :: r ∧ t v σ H fun σ' H' => u r σ' H' Q
theorem pgs_nil : PGs X [] gNil := by
  intro pins s σ H vs us Q I r h
  obtain ⟨e, h⟩ := h
  subst e
  cases r
  exact assignInOrder_nil ⟨σ, H, I, h⟩
theorem pgs_cons {e : Expr} {es : List Expr} {t : TG} {u : TGs} (h1 : PG X e t) (h2 : PGs X es u)
    (hs : (assignEach (e :: es) X.env).map (·.2) = assign e X.env :: (assignEach es X.env).map (·.2) := by rfl) : PGs X (e :: es) (gCons t u) := by
  intro pins s σ H vs us Q I r h
  obtain ⟨v, vr, e1, h⟩ := h
  subst e1
  cases r with
  | cons r rr =>
    rw [hs]
    refine assignInOrder_cons (thn (h1 pins s σ H _ _ _ I r h) fun _ s1 ⟨σ1, H1, I1, q1⟩ => ?_)
    exact h2 pins s1 σ1 H1 _ _ Q I1 rr q1
/-- (a, b, ..) = a tuple of that length -/
def gTup (K : PySem.W.Frag) (n : Nat) (t : TGs) : TG := fun v σ H Q => ∃ a xs, v = .ref a ∧ SqT K H a xs ∧ xs.length = n ∧ t xs σ H Q
theorem pg_tup {es : List Expr} {k : Nat} {t : TGs} {n : Nat} (hc : X.calm = true) (h : PGs X es t)
    (hn : (assignEach es X.env).length = n := by rfl) (hst : (assignEach es X.env).findIdx? (·.1) = none := by rfl) : PG X (.Tuple es k pos) (gTup X.K n t) := by
  intro pins s σ H v u Q I r hw
  obtain ⟨a, xs, e1, hq, hl, hw⟩ := hw
  subst e1
  cases r
  obtain ⟨its, rv, ht, hz⟩ := I.tuple hq
  refine assign_Tuple_tuple (I.ok.hd hc) ht (by simp [hn, ← hl, rv.length]) hst fun h' hx => ?_
  have I1 : Inv X pins σ H { s with heap := h' } := I.kept (t' := s.toks) fun b o e => hx b o (Nat.ne_of_lt (Heap.lt_size e)) e
  exact h pins _ σ H xs _ Q I1 (by simpa using rv) hw
/-- o[i] = .. -/
def gSub (to ti : TE) (t : TSet) : TG := fun v σ H Q => to σ H fun o H1 => ti σ H1 fun i H2 => t o i v H2 fun H3 => Q σ H3
theorem pg_sub {o i : Expr} {to ti : TE} {t : TSet} (ho : PE X o to) (hi : PE X i ti) (hs : PSet X t)
    (ha : ∀ v, assign (.Subscript o i pos) X.env v = (do
      let ov ← holding [v] (eval o X.env)
      let iv ← holding [v, ov] (eval i X.env)
      standAt pos
      holding [v, ov, iv] (setItem ov iv v)
      release [v, ov, iv] []) := by intro _; rfl) : PG X (.Subscript o i pos) (gSub to ti t) := by
  intro pins s σ H v u Q I r h
  rw [ha]
  refine wpAny_bind (wpAny_holding (thn (ho pins s σ H _ I h) fun ov s1 ⟨x, H1, I1, r1, q1⟩ => ?_))
  refine wpAny_bind (wpAny_holding (thn (hi pins s1 σ H1 _ I1 q1) fun iv s2 ⟨y, H2, I2, r2, q2⟩ => ?_))
  refine wpAny_bind (wpAny_standAt (wpAny_bind (wpAny_holding (thn (hs pins s2 σ H2 x y v ov iv u _ I2 r1 r2 r q2) fun _ s3 ⟨H3, I3, q3⟩ => ?_))))
  exact wpAny_release ⟨σ, H3, I3, q3⟩
/-- target = value -/
def tAsg (te : TE) (g : TG) : TS := fun D σ H => te σ H fun x H1 => g x σ H1 D.nx
theorem ps_asg {tg e : Expr} {te : TE} {g : TG} (he : PE X e te) (hg : PG X tg g) (hs : swapsWithSole [tg] e pos.line X.env = pure false := by rfl) (hw : swappedStores [tg] e X.env = pure none := by rfl)
    (h1 : (assignEach [tg] X.env).map (·.2) = [assign tg X.env] := by rfl) : PS X (.Assign [tg] e pos) (tAsg te g) := by
  intro pins s σ H D I h
  refine wpAny_Assign_stores (thn (he pins s σ H _ I h) fun v s1 ⟨x, H1, I1, r1, q1⟩ => ?_) hs hw
  rw [h1]
  exact thn (hg pins s1 σ H1 x v _ I1 r1 q1) fun _ s2 q => q
/-- name = value -/
theorem ps_set {i : Nat} {x : Str} {e : Expr} {te : TE} {pos' : Pos} (hN : X.N.Nodup) (hi : X.N[i]? = some x) (hx : Loc X.env.scope x) (he : PE X e te) (hs : swapsWith e (some (.Name x pos')) pos.line X.env = pure false := by rfl) (hf : X.fn x = true ∨ X.env.scope.names.lookup x = some .local := by first | exact .inl rfl | exact .inr rfl | assumption) :
    PS X (.Assign [.Name x pos'] e pos) (tAsg te (gName i)) := by
  intro pins s σ H D I h
  refine wpAny_Assign_Name (thn (he pins s σ H _ I h) fun v s1 ⟨y, H1, I1, r1, q1⟩ => ?_) hs
  exact store_ok I1 hN hi hx r1 (fun s2 I2 => ⟨_, H1, I2, q1⟩) hf
/-- a, b = x, y with plain local names: stored from the right; the pair itself is not tracked (the opening rows as in PyProof/Rows/TupAssign.lean:23) -/
def tPar (i j : Nat) (ta : TA) : TS := fun D σ H => ta σ H fun vs H1 => ∃ v w, vs = [v, w] ∧ D.nx ((σ.set i (some v)).set j (some w)) H1
theorem ps_par {i j : Nat} {x y : Str} {a b : Expr} {ta : TA} {px py pt : Pos} {kt k2 pt2} (hc : X.calm = true) (hN : X.N.Nodup) (hi : X.N[i]? = some x) (hj : X.N[j]? = some y) (hij : i ≠ j)
    (hx : X.env.scope.names.lookup x = some .local) (hy : X.env.scope.names.lookup y = some .local) (ha : PA X [a, b] ta)
    (hw : swappedStores [.Tuple [.Name x px, .Name y py] kt pt] (.Tuple [a, b] k2 pt2) X.env = pure (some [x, y]))
    (hs : swapsWithSole [.Tuple [.Name x px, .Name y py] kt pt] (.Tuple [a, b] k2 pt2) pos.line X.env = pure false := by rfl) :
    PS X (.Assign [.Tuple [.Name x px, .Name y py] kt pt] (.Tuple [a, b] k2 pt2) pos) (tPar i j ta) := by
  intro pins s σ H D I h
  rw [exec_Assign_arm]
  refine wpAny_bind (wpAny_standAt ?_)
  rw [hs]
  refine wpAny_bind (wpAny_pure ?_)
  rw [if_neg (by decide)]
  refine wpAny_bind (Tuple_ (thn (ha _ pins s σ H _ I h) fun us s1 ⟨vs, H1, I1, r1, q1⟩ => ?_))
  obtain ⟨v, w, e1, q1⟩ := q1
  subst e1
  obtain ⟨u1, u2, rfl, rv, rw'⟩ : ∃ u1 u2, us = [u1, u2] ∧ RelV v u1 ∧ RelV w u2 := by
    cases r1 with
    | cons p q =>
      cases q with
      | cons p' q' =>
        cases q'
        exact ⟨_, _, rfl, p, p'⟩
  refine wpAny_newObj_type ?_ (by show 2 ≤ sizeLine; decide)
  have I2 : Inv X pins σ H1 { s1 with heap := s1.heap.push { cls := .type "tuple", data := .seq [u1, u2].toArray } } := I1.kept (t' := s1.toks) fun b o e => Heap.get?_push_of_some _ e
  rw [hw]
  refine wpAny_bind (wpAny_pure ?_)
  show wpAny (model X.prog X.w) X.A (do rule "assign.swapped-stores"; let items ← unpackItems (.ref s1.heap.objs.size) 2 none; assignInOrder [fun v => bindName X.env y v, fun v => bindName X.env x v] items.reverse; pure Flow.next) _ _ _
  refine wpAny_bind (wpAny_rule (wpAny_bind (unpackItems_tuple (items := #[u1, u2]) (I.ok.hd hc) (IsTup.new s1.heap _) fun h' hx' => ?_)))
  have I3 := I2.kept (h' := h') (t' := s1.toks) fun b o e => hx' b o (Nat.ne_of_lt (Heap.lt_size e)) e
  show wpAny _ _ (assignInOrder [fun v => bindName X.env y v, fun v => bindName X.env x v] [u2, u1] >>= fun _ => pure Flow.next) _ _ _
  refine wpAny_bind (assignInOrder_cons (wpAny_bindName (store_ok I3 hN hj (.inl hy) rw' (fun s2 I4 => ?_) (.inr hy))))
  refine assignInOrder_cons (wpAny_bindName (store_ok I4 hN hi (.inl hx) rv (fun s3 I5 => assignInOrder_nil (wpAny_pure ?_)) (.inr hx)))
  rw [List.set_comm _ _ (Ne.symm hij)] at I5
  exact ⟨_, H1, I5, q1⟩
end

/-! ### while -/
section
variable {X : Cx} {pos : Pos}
/-- the invariant W with its measure -/
def tWhile (c : TT) (tb : TS) : TS := fun D σ H => ∃ W : Nat → St → Hp → Prop, (∃ m, W m σ H) ∧ ∀ m σ H, W m σ H →
  c σ H fun b H1 => if b = true then ∃ N : St → Hp → Prop, (∀ σ' H', N σ' H' → ∃ m', m' < m ∧ W m' σ' H') ∧ tb { D with nx := N, ct := N, bk := D.nx } σ H1 else D.nx σ H1
theorem ps_while {c : Expr} {body : List Stmt} {tc : TT} {tb : TS} (hp : PassesOwn (model X.prog X.w) X.A X.env X.xe) (hc : PT X c tc) (hb : PSs X body tb) : PS X (.While c body [] pos) (tWhile tc tb) := by
  intro pins s σ H D I h
  obtain ⟨W, ⟨m0, w0⟩, turn⟩ := h
  refine wpAny_While (codeAny_whileLoop (fun n s' => ∃ σ' H', Inv X pins σ' H' s' ∧ W n σ' H') ?_ m0 ⟨σ, H, I, w0⟩)
  rintro n s1 ⟨σ1, H1, I1, w1⟩
  refine wpAny_passesOwn hp (thn (hc pins s1 σ1 H1 _ I1 (turn n σ1 H1 w1)) fun b s2 ⟨H2, I2, q2⟩ => ?_)
  cases b with
  | true =>
    obtain ⟨N, hN, q2⟩ := q2
    rw [if_pos rfl]
    refine wpAny_passesOwn hp (thn (hb pins s2 σ1 H2 _ I2 q2) fun f s3 q3 => ?_)
    cases f with
    | next =>
      obtain ⟨σ3, H3, I3, n3⟩ := q3
      obtain ⟨m', hm, w3⟩ := hN σ3 H3 n3
      exact ⟨m', hm, σ3, H3, I3, w3⟩
    | cont =>
      obtain ⟨σ3, H3, I3, n3⟩ := q3
      obtain ⟨m', hm, w3⟩ := hN σ3 H3 n3
      exact ⟨m', hm, σ3, H3, I3, w3⟩
    | brk => exact q3
    | ret v => exact q3
  | false =>
    rw [if_neg Bool.false_ne_true]
    exact wpAny_execs_nil ⟨σ1, H2, I2, q2⟩
end

/-! ### what a loop or a comprehension walks -/
/-- at turn i: it yields x (the heap may grow), or it stops -/
structure It where
  go : Nat → Hp → Prop
  yld : Nat → Hp → V → Hp → Prop
  stop : Nat → Hp → Prop
/-- the iterator's own objects may turn: they are not the frame's, not pinned, younger than the entry (or a comprehension's own) -/
def FpOk (X : Cx) (pins : List (Addr × Obj)) (H : Hp) (b : Addr) : Prop :=
  H b = none ∧ b ≠ X.env.locals ∧ b ∉ X.fs ∧ (b ∈ X.ex ∨ X.s₀.heap.objs.size ≤ b) ∧ (∀ x c, X.env.cells.lookup x = some c → c ≠ b) ∧ ∀ p ∈ X.pn ++ pins, p.1 ≠ b
theorem Inv.fpOk {X : Cx} {pins : List (Addr × Obj)} {σ : St} {H H' : Hp} {s : Shared} {b : Addr} (I : Inv X pins σ H s) (hb : s.heap.objs.size ≤ b) (hn : H' b = none) : FpOk X pins H' b := by
  refine ⟨hn, Nat.ne_of_gt (Nat.lt_of_lt_of_le I.lt hb), I.nofs hb, .inr (Nat.le_trans I.sz hb), fun x c e z => ?_, fun p hp z => ?_⟩
  · obtain ⟨v, q⟩ := I.cell x c e
    exact absurd (Nat.lt_of_lt_of_le q.lt (by rw [z]; exact hb)) (Nat.lt_irrefl _)
  · exact absurd (Nat.lt_of_lt_of_le (Heap.lt_size (I.pin p hp).1) (by rw [z]; exact hb)) (Nat.lt_irrefl _)
structure Turn (P : Program) (w : World) (K : PySem.W.Frag) (tg : Expr) (J : It) (fp : List Addr) (it : Addr) (tn : Nat → Heap → Prop) : Prop where
  mem : it ∈ fp
  obj : ∀ i h, tn i h → ∀ b ∈ fp, ∃ o, h.get? b = some o ∧ ∀ v, o.data ≠ .cell v
  keep : ∀ i h h', tn i h → (∀ b ∈ fp, ∀ o, h.get? b = some o → h'.get? b = some o) → tn i h'
  item : ∀ (X : Cx), X.prog = P → X.w = w → X.K = K → X.calm = true → ∀ (i : Nat) (pins : List (Addr × Obj)) (s : Shared) (σ : St) (H : Hp) (E : Value → Shared → Prop), Inv X pins σ H s → (∀ b ∈ fp, FpOk X pins H b) → tn i s.heap → J.go i H →
    wpAny (model P w) X.A (pyNext (.ref it)) (fun r s1 => ∃ u, r = some u ∧
      wpAny (model P w) X.A (letOwnedTupleGo tg (.ref it) u) (fun _ s2 => ∃ x H', Inv X pins σ H' s2 ∧ RelV x u ∧ J.yld i H x H' ∧ tn (i + 1) s2.heap ∧ ∀ b ∈ fp, H' b = none) E s1) E s
  done : ∀ (X : Cx), X.prog = P → X.w = w → X.K = K → X.calm = true → ∀ (i : Nat) (pins : List (Addr × Obj)) (s : Shared) (σ : St) (H : Hp) (E : Value → Shared → Prop), Inv X pins σ H s → (∀ b ∈ fp, FpOk X pins H b) → tn i s.heap → J.stop i H →
    wpAny (model P w) X.A (pyNext (.ref it)) (fun r s1 => r = none ∧ Inv X pins σ H s1) E s
  self : ∀ (A : Around) (i : Nat) (s : Shared) (Q : Value → Shared → Prop) (E : Value → Shared → Prop), tn i s.heap → Q (.ref it) s → wpAny (model P w) A (pyIter (.ref it)) Q E s
abbrev TI := St → Hp → (It → Hp → Prop) → Prop
/-- an iterator has come -/
def PIE (X : Cx) (pins : List (Addr × Obj)) (σ : St) (tg : Expr) (R : It → Hp → Prop) (itv : Value) (s2 : Shared) : Prop :=
  ∃ (it : Addr) (fp : List Addr) (tn : Nat → Heap → Prop) (J : It) (H' : Hp), itv = .ref it ∧ Inv X pins σ H' s2 ∧ Turn X.prog X.w X.K tg J fp it tn ∧ tn 0 s2.heap ∧ (∀ b ∈ fp, FpOk X pins H' b) ∧ R J H'
def PI (X : Cx) (tg iter : Expr) (wi : TI) : Prop :=
  ∀ (pins : List (Addr × Obj)) (s : Shared) (σ : St) (H : Hp) (R : It → Hp → Prop), Inv X pins σ H s → wi σ H R →
    wpAny (model X.prog X.w) X.A (eval iter X.env) (fun v s1 => wpAny (model X.prog X.w) X.A (pyIter v) (PIE X pins σ tg R) X.xe s1) X.xe s

/-- the step ahead of the store is nothing for an iterator that keeps no tuple -/
theorem go_of {M : Model} {A : Around} {E : Value → Shared → Prop} {s : Shared} {tg : Expr} {it : Addr} {u : Value} {o : Obj} {n : String} {vs : Array Value} {Q : Unit → Shared → Prop} (ho : s.heap.get? it = some o) (hc : o.cls = .type n) (hd : o.data = .fields vs)
    (hn : ["enumerate", "zip", "dict_itemiterator", "dict_reverseitemiterator", "odict_iterator", "itertools.zip_longest", "itertools.pairwise"].contains n = false) (hQ : Q () s) : wpAny M A (letOwnedTupleGo tg (.ref it) u) Q E s := by
  unfold letOwnedTupleGo
  cases tg <;> first
    | exact wpAny_pure hQ
    | (cases u <;> first
        | exact wpAny_pure hQ
        | (refine wpAny_bind (wpAny_load ho ?_)
           rw [hc, hd]
           show wpAny M A (if (["enumerate", "zip", "dict_itemiterator", "dict_reverseitemiterator", "odict_iterator", "itertools.zip_longest", "itertools.pairwise"].contains n && vs[0]? == some (rawInt _)) = true then _ else _) Q E s
           rw [if_neg (by intro h; rw [hn, Bool.false_and] at h; cases h)]
           exact wpAny_pure hQ))

/-- the list at a, as it stands at each turn (a loop may append to it) -/
def Itl (K : PySem.W.Frag) (a : Addr) : It :=
  ⟨fun i H => ∃ xs x, SqL K H a xs ∧ xs[i]? = some x, fun i H x H' => H' = H ∧ ∀ xs, SqL K H a xs → xs[i]? = some x, fun i H => ∃ xs, SqL K H a xs ∧ xs.length ≤ i⟩
def Itt (K : PySem.W.Frag) (a : Addr) : It :=
  ⟨fun i H => ∃ xs x, SqT K H a xs ∧ xs[i]? = some x, fun i H x H' => H' = H ∧ ∀ xs, SqT K H a xs → xs[i]? = some x, fun i H => ∃ xs, SqT K H a xs ∧ xs.length ≤ i⟩
/-- lo, lo + 1, .. (n of them) -/
def Itr (lo : Int) (n : Nat) : It := ⟨fun i _ => i < n, fun i H x H' => H' = H ∧ x = .int (lo + i), fun i _ => n ≤ i⟩
theorem turn_list {P : Program} {w : World} {K : PySem.W.Frag} {tg : Expr} (a it : Addr) : Turn P w K tg (Itl K a) [it] it (fun i h => h.IsListIter it a i) where
  mem := by simp
  obj := fun i h st b hb => by
    have e : b = it := by simpa using hb
    subst e
    obtain ⟨o, e, c, d⟩ := st
    exact ⟨o, e, fun v z => by rw [d] at z; cases z⟩
  keep := fun i h h' st k => st.at fun o e => k it (by simp) o e
  item := by
    intro X hP hw hK hc i pins s σ H E I hf st hg
    subst hP hw hK
    obtain ⟨xs, x, hq, hx⟩ := hg
    obtain ⟨its, rv, p, hz⟩ := I.list hq
    obtain ⟨u, hu, ru⟩ := rv.get hx
    obtain ⟨f0, f1, f2, f3, f4, f5⟩ := hf it (by simp)
    refine wpAny_pyNext_list_item st p.isList (x := u) (by simpa using hu) fun h' st' sb => ?_
    have I1 : Inv X pins σ H { s with heap := h' } := I.turned (t' := s.toks) (fun b o hb e => (sb.2 b hb).trans e) f0 f1 f3 f4 f5
    obtain ⟨o, e, c, d⟩ := id st'
    exact ⟨u, rfl, go_of (s := { s with heap := h' }) e c d (by decide) ⟨x, H, I1, ru, ⟨rfl, fun ys hy => by rw [I.list_inj hy hq]; exact hx⟩, st', fun b hb => (hf b hb).1⟩⟩
  done := by
    intro X hP hw hK hc i pins s σ H E I hf st hg
    subst hP hw hK
    obtain ⟨xs, hq, hx⟩ := hg
    obtain ⟨its, rv, p, hz⟩ := I.list hq
    obtain ⟨f0, f1, f2, f3, f4, f5⟩ := hf it (by simp)
    have hl := rv.length
    exact wpAny_pyNext_list_end (I.ok.hd hc) st p.isList (by simp; omega) fun h' eb => ⟨rfl, I.turned (t' := s.toks) (fun b o hb e => eb b o hb e) f0 f1 f3 f4 f5⟩
  self := fun _ _ _ _ _ st h => wpAny_pyIter_listiter st h
theorem turn_tuple {P : Program} {w : World} {K : PySem.W.Frag} {tg : Expr} (a it : Addr) : Turn P w K tg (Itt K a) [it] it (fun i h => h.IsTupleIter it a i) where
  mem := by simp
  obj := fun i h st b hb => by
    have e : b = it := by simpa using hb
    subst e
    obtain ⟨o, e, c, d⟩ := st
    exact ⟨o, e, fun v z => by rw [d] at z; cases z⟩
  keep := fun i h h' st k => st.at fun o e => k it (by simp) o e
  item := by
    intro X hP hw hK hc i pins s σ H E I hf st hg
    subst hP hw hK
    obtain ⟨xs, x, hq, hx⟩ := hg
    obtain ⟨its, rv, p, hz⟩ := I.tuple hq
    obtain ⟨u, hu, ru⟩ := rv.get hx
    obtain ⟨f0, f1, f2, f3, f4, f5⟩ := hf it (by simp)
    refine wpAny_pyNext_tuple_item st (show s.heap.IsTuple a its.toArray from p) (x := u) (by simpa using hu) fun h' st' sb => ?_
    have I1 : Inv X pins σ H { s with heap := h' } := I.turned (t' := s.toks) (fun b o hb e => (sb.2 b hb).trans e) f0 f1 f3 f4 f5
    obtain ⟨o, e, c, d⟩ := id st'
    exact ⟨u, rfl, go_of (s := { s with heap := h' }) e c d (by decide) ⟨x, H, I1, ru, ⟨rfl, fun ys hy => by rw [I.tuple_inj hy hq]; exact hx⟩, st', fun b hb => (hf b hb).1⟩⟩
  done := by
    intro X hP hw hK hc i pins s σ H E I hf st hg
    subst hP hw hK
    obtain ⟨xs, hq, hx⟩ := hg
    obtain ⟨its, rv, p, hz⟩ := I.tuple hq
    obtain ⟨f0, f1, f2, f3, f4, f5⟩ := hf it (by simp)
    have hl := rv.length
    exact wpAny_pyNext_tuple_end (I.ok.hd hc) st (show s.heap.IsTuple a its.toArray from p) (by simp; omega) fun h' eb => ⟨rfl, I.turned (t' := s.toks) (fun b o hb e => eb b o hb e) f0 f1 f3 f4 f5⟩
  self := fun _ _ _ _ _ st h => wpAny_pyIter_tupleiter st h
theorem turn_range {P : Program} {w : World} {K : PySem.W.Frag} {tg : Expr} (it : Addr) (lo : Int) (n : Nat) : Turn P w K tg (Itr lo n) [it] it (fun i h => IsRangeIter h it (lo + (i : Nat) * 1) ((n : Int) - (i : Nat)) 1) where
  mem := by simp
  obj := fun i h st b hb => by
    have e : b = it := by simpa using hb
    subst e
    exact ⟨_, st, fun v z => by
      have z' : Data.fields _ = Data.cell v := z
      cases z'⟩
  keep := fun i h h' st k => k it (by simp) _ st
  item := by
    intro X hP hw hK hc i pins s σ H E I hf st hg
    subst hP hw hK
    obtain ⟨f0, f1, f2, f3, f4, f5⟩ := hf it (by simp)
    have W := Walks.range (prog := X.prog) (w := X.w) (I.ok.hd hc) it lo 1 n
    refine W.item i s _ _ hg st fun v h' tk hv st' kk => ?_
    obtain ⟨t, rfl⟩ := hv
    have I1 : Inv X pins σ H { s with heap := h', toks := tk } := I.turned (fun b o hb e => kk b o (by simpa using hb) e) f0 f1 f3 f4 f5
    refine ⟨_, rfl, go_of (s := { s with heap := h', toks := tk }) (n := "range_iterator") st' rfl rfl (by decide) ⟨.int (lo + i), H, I1, ⟨t, ?_⟩, ⟨rfl, rfl⟩, st', fun b hb => (hf b hb).1⟩⟩
    rw [Int.mul_one]
  done := by
    intro X hP hw hK hc i pins s σ H E I hf st hg
    subst hP hw hK
    obtain ⟨f0, f1, f2, f3, f4, f5⟩ := hf it (by simp)
    exact wpAny_pyNext_range_end (I.ok.hd hc) st (by have : n ≤ i := hg; omega) fun h' eb => ⟨rfl, I.turned (t' := s.toks) (fun b o hb e => eb b o hb e) f0 f1 f3 f4 f5⟩
  self := fun _ _ _ _ _ st h => wpAny_pyIter_rangeiter st h
end L2

namespace L2
open PySem PySem.Spec PyProof.Rows
section
variable {X : Cx} {tg : Expr}
def iList (K : PySem.W.Frag) (tl : TE) : TI := fun σ H R => tl σ H fun x H1 => ∃ a, x = .ref a ∧ (∃ xs, SqL K H1 a xs) ∧ R (Itl K a) H1
def iTup (K : PySem.W.Frag) (tl : TE) : TI := fun σ H R => tl σ H fun x H1 => ∃ a, x = .ref a ∧ (∃ xs, SqT K H1 a xs) ∧ R (Itt K a) H1
theorem pi_list {l : Expr} {tl : TE} (hl : PE X l tl) : PI X tg l (iList X.K tl) := by
  intro pins s σ H R I h
  refine thn (hl pins s σ H _ I h) fun v s1 ⟨x, H1, I1, r1, q1⟩ => ?_
  obtain ⟨a, e, ⟨xs, hq⟩, q⟩ := q1
  subst e
  cases r1
  obtain ⟨its, rv, p, hz⟩ := I1.list hq
  refine wpAny_pyIter_list p.isList ?_
  refine ⟨s1.heap.objs.size, [s1.heap.objs.size], _, _, H1, rfl, I1.kept (t' := s1.toks) fun b o e => Heap.get?_push_of_some _ e, turn_list a _, ⟨_, Heap.get?_push_size _ rfl, rfl, rfl⟩, fun b hb => ?_, q⟩
  have e : b = s1.heap.objs.size := by simpa using hb
  subst e
  exact I1.fpOk (Nat.le_refl _) (I1.hok.fresh (Nat.le_refl _))
theorem pi_tup {l : Expr} {tl : TE} (hl : PE X l tl) : PI X tg l (iTup X.K tl) := by
  intro pins s σ H R I h
  refine thn (hl pins s σ H _ I h) fun v s1 ⟨x, H1, I1, r1, q1⟩ => ?_
  obtain ⟨a, e, ⟨xs, hq⟩, q⟩ := q1
  subst e
  cases r1
  obtain ⟨its, rv, p, hz⟩ := I1.tuple hq
  refine wpAny_pyIter_tuple (show s1.heap.IsTuple a its.toArray from p) ?_
  refine ⟨s1.heap.objs.size, [s1.heap.objs.size], _, _, H1, rfl, I1.kept (t' := s1.toks) fun b o e => Heap.get?_push_of_some _ e, turn_tuple a _, ⟨_, Heap.get?_push_size _ rfl, rfl, rfl⟩, fun b hb => ?_, q⟩
  have e : b = s1.heap.objs.size := by simpa using hb
  subst e
  exact I1.fpOk (Nat.le_refl _) (I1.hok.fresh (Nat.le_refl _))
/-- a range object just made, walked -/
theorem range_it {pins : List (Addr × Obj)} {σ : St} {H : Hp} {s : Shared} {R : It → Hp → Prop} {E : Value → Shared → Prop} {lo hi : Int} {t u v : Tok} {tk : Nat} (I : Inv X pins σ H s) (h1 : -(2 ^ 62) ≤ lo) (h2 : lo < 2 ^ 62) (h3 : -(2 ^ 62) ≤ hi) (h4 : hi < 2 ^ 62)
    (q : R (Itr lo (hi - lo).toNat) H) : wpAny (model X.prog X.w) X.A (pyIter (.ref s.heap.objs.size)) (PIE X pins σ tg R) E { s with heap := s.heap.push { cls := .type "range", data := .fields #[.int lo t, .int hi u, .int 1 v] }, toks := tk } := by
  refine wpAny_pyIter_range (IsRange.new ..) (small_one h1 h2 h3 h4) ?_
  have I1 : Inv X pins σ H { s with heap := s.heap.push { cls := .type "range", data := .fields #[.int lo t, .int hi u, .int 1 v] }, toks := tk } := I.kept fun b o e => Heap.get?_push_of_some _ e
  refine ⟨(s.heap.push { cls := .type "range", data := .fields #[.int lo t, .int hi u, .int 1 v] }).objs.size, [(s.heap.push { cls := .type "range", data := .fields #[.int lo t, .int hi u, .int 1 v] }).objs.size], _, _, H, rfl,
    I1.kept (t' := tk) fun b o e => Heap.get?_push_of_some _ e, turn_range _ lo (hi - lo).toNat, ?_, fun b hb => ?_, q⟩
  · have e1 : lo + ((0 : Nat) : Int) * 1 = lo := by simp
    have e2 : (((hi - lo).toNat : Nat) : Int) - ((0 : Nat) : Int) = Builtin.Range.rangeSize lo hi 1 := by rw [rangeSize_one]; split <;> omega
    show IsRangeIter _ _ (lo + ((0 : Nat) : Int) * 1) ((((hi - lo).toNat : Nat) : Int) - ((0 : Nat) : Int)) 1
    rw [e1, e2]
    exact Heap.get?_push_size _ rfl
  · have e : b = (s.heap.push { cls := .type "range", data := .fields #[.int lo t, .int hi u, .int 1 v] }).objs.size := by simpa using hb
    subst e
    exact I1.fpOk (Nat.le_refl _) (I1.hok.fresh (Nat.le_refl _))
def iRng1 (ta : TA) : TI := fun σ H R => ta σ H fun vs H1 => ∃ j : Int, vs = [.int j] ∧ -(2 ^ 62) ≤ j ∧ j < 2 ^ 62 ∧ R (Itr 0 j.toNat) H1
theorem pi_range1 {a : Expr} {ta : TA} {p pos : Pos} (hg : Gl X "range") (hm : X.mg "range" = none) (ha : PA X [a] ta) (hs : starEach [a] X.env = [(false, eval a X.env)] := by rfl) : PI X tg (.Call (.Name "range" p) [a] [] pos) (iRng1 ta) := by
  intro pins s σ H R I h
  refine Call_ (ld_blt I hg hm boot_range (PyProof.Rows.callWith_type1 (thn (ha pos pins s σ H _ I h) fun us s1 ⟨vs, H1, I1, r1, q1⟩ => ?_) hs rfl))
  obtain ⟨j, e, q1, q2, q⟩ := q1
  subst e
  cases r1 with
  | cons r rr =>
    cases rr
    obtain ⟨t, rfl⟩ := r
    exact call_range_1 (range_it I1 (by omega) (by omega) q1 q2 (by simpa using q))
/-! ### for -/
/-- W: the invariant by the turn and a measure; N: what the body is to reach -/
def tFor (wi : TI) (g : TG) (tb : TS) : TS := fun D σ H => wi σ H fun J H1 => ∃ W : Nat → Nat → St → Hp → Prop, (∃ m, W 0 m σ H1) ∧ ∀ i m σ H, W i m σ H →
  (J.stop i H ∧ D.nx σ H) ∨ (J.go i H ∧ ∃ N : St → Hp → Prop, (∀ σ' H', N σ' H' → ∃ m', m' < m ∧ W (i + 1) m' σ' H') ∧ ∀ x H', J.yld i H x H' → g x σ H' fun σ2 H2 => tb { D with nx := N, ct := N, bk := D.nx } σ2 H2)
/-- the records at fp as they stand -/
def pinsAt (fp : List Addr) (h : Heap) : List (Addr × Obj) := fp.filterMap fun b => (h.get? b).map fun o => (b, o)
theorem mem_pinsAt {fp : List Addr} {h : Heap} {b : Addr} {o : Obj} (hb : b ∈ fp) (e : h.get? b = some o) : (b, o) ∈ pinsAt fp h := List.mem_filterMap.mpr ⟨b, hb, by rw [e]; rfl⟩
theorem of_pinsAt {fp : List Addr} {h : Heap} {p : Addr × Obj} (hp : p ∈ pinsAt fp h) : p.1 ∈ fp ∧ h.get? p.1 = some p.2 := by
  obtain ⟨b, hb, e⟩ := List.mem_filterMap.mp hp
  cases q : h.get? b with
  | none => rw [q] at e; cases e
  | some o =>
    rw [q] at e
    have e' : (b, o) = p := Option.some.inj e
    subst e'
    exact ⟨hb, q⟩
theorem Inv.pinned {pins : List (Addr × Obj)} {σ : St} {H : Hp} {s : Shared} {fp : List Addr} (I : Inv X pins σ H s) (hf : ∀ b ∈ fp, FpOk X pins H b) (ho : ∀ b ∈ fp, ∃ o, s.heap.get? b = some o ∧ ∀ v, o.data ≠ .cell v) : Inv X (pins ++ pinsAt fp s.heap) σ H s :=
  I.pins_of fun p hp => (List.mem_append.mp hp).elim (fun z => I.pin p (List.mem_append_right _ z)) fun z => by
    obtain ⟨hb, e⟩ := of_pinsAt z
    obtain ⟨f0, f1, f2, _⟩ := hf p.1 hb
    obtain ⟨o, e', d⟩ := ho p.1 hb
    rw [e] at e'; cases e'
    exact ⟨e, f0, f1, f2, d⟩
theorem Inv.unpinned {pins pl : List (Addr × Obj)} {σ : St} {H : Hp} {s : Shared} (I : Inv X (pins ++ pl) σ H s) : Inv X pins σ H s := I.pins_of fun p hp => I.pin p (List.mem_append_right _ (List.mem_append_left _ hp))
theorem ps_for {iter : Expr} {body : List Stmt} {wi : TI} {g : TG} {tb : TS} {pos : Pos} (hp : PassesOwn (model X.prog X.w) X.A X.env X.xe) (hc : X.calm = true) (hi : PI X tg iter wi) (hg : PG X tg g) (hb : PSs X body tb)
    (hs : ∀ x, foldedSetIterable iter X.env x = pure x := by intro _; rfl) : PS X (.For tg iter body [] pos) (tFor wi g tb) := by
  intro pins s σ H D I h
  refine wpAny_For (thn (hi pins s σ H _ I h) fun v s1 h1 => thn h1 fun itv s2 h2 => ?_) hs
  obtain ⟨it, fp, tn, J, H2, e, I2, T, st2, f2, W, ⟨m0, w0⟩, turn⟩ := h2
  subst e
  -- what stays true of the iterator's objects through the loop
  have stat : ∀ {H' : Hp}, (∀ b ∈ fp, H' b = none) → ∀ b ∈ fp, FpOk X pins H' b := fun hn b hb => ⟨hn b hb, (f2 b hb).2⟩
  refine codeAny_forLoop_any (fun n s' => ∃ i σ' H', Inv X pins σ' H' s' ∧ tn i s'.heap ∧ (∀ b ∈ fp, H' b = none) ∧ W i n σ' H') ?_ m0 ⟨0, σ, H2, I2, st2, fun b hb => (f2 b hb).1, w0⟩
  rintro n s3 ⟨i, σ3, H3, I3, st3, fr3, w3⟩
  rcases turn i n σ3 H3 w3 with ⟨stop, qn⟩ | ⟨go, N, hN, step⟩
  · refine wpAny_passesOwn hp (thn (T.done X rfl rfl rfl hc i pins s3 σ3 H3 X.xe I3 (stat fr3) st3 stop) fun r s4 ⟨hr, I4⟩ => ?_)
    subst hr
    exact wpAny_execs_nil ⟨σ3, H3, I4, qn⟩
  · refine wpAny_passesOwn hp (thn (T.item X rfl rfl rfl hc i pins s3 σ3 H3 X.xe I3 (stat fr3) st3 go) fun r s4 ⟨u, hr, h4⟩ => ?_)
    subst hr
    refine wpAny_passesOwn hp (thn h4 fun _ s5 ⟨x, H5, I5, r5, y5, st5, fr5⟩ => ?_)
    have I5' := I5.pinned (stat fr5) (T.obj _ _ st5)
    refine wpAny_passesOwn hp (thn (hg _ s5 σ3 H5 x u _ I5' r5 (step x H5 y5)) fun _ s6 ⟨σ6, H6, I6, q6⟩ => ?_)
    refine wpAny_passesOwn hp (thn (hb _ s6 σ6 H6 _ I6 q6) fun f s7 q7 => ?_)
    have again : ∀ {σ7 : St} {H7 : Hp}, Inv X (pins ++ pinsAt fp s5.heap) σ7 H7 s7 → N σ7 H7 → ∃ m, m < n ∧ ∃ i σ' H', Inv X pins σ' H' s7 ∧ tn i s7.heap ∧ (∀ b ∈ fp, H' b = none) ∧ W i m σ' H' := fun {σ7 H7} I7 n7 => by
      obtain ⟨m', hm, w7⟩ := hN σ7 H7 n7
      refine ⟨m', hm, i + 1, σ7, H7, I7.unpinned, T.keep _ _ _ st5 fun b hb o e => (I7.pin (b, o) (List.mem_append_right _ (List.mem_append_right _ (mem_pinsAt hb e)))).1, fun b hb => ?_, w7⟩
      obtain ⟨o, e, d⟩ := T.obj _ _ st5 b hb
      exact (I7.pin (b, o) (List.mem_append_right _ (List.mem_append_right _ (mem_pinsAt hb e)))).2.1
    cases f with
    | next => obtain ⟨σ7, H7, I7, n7⟩ := q7; exact again I7 n7
    | cont => obtain ⟨σ7, H7, I7, n7⟩ := q7; exact again I7 n7
    | brk => obtain ⟨σ7, H7, I7, q7⟩ := q7; exact ⟨σ7, H7, I7.unpinned, q7⟩
    | ret v => obtain ⟨x7, σ7, H7, I7, r7, q7⟩ := q7; exact ⟨x7, σ7, H7, I7.unpinned, r7, q7⟩
end

/-! ### the forms one uses -/
/-- over a list that the body leaves as it is -/
theorem for_list {K : PySem.W.Frag} {a : Addr} {xs : List V} {g : TG} {tb : TS} {D : Ends} {σ : St} {H : Hp} (Pv : Nat → St → Hp → Prop) (h0 : Pv 0 σ H) (hl : ∀ i σ H, i ≤ xs.length → Pv i σ H → SqL K H a xs)
    (hs : ∀ i x σ H, xs[i]? = some x → Pv i σ H → g x σ H fun σ2 H2 => tb { D with nx := Pv (i + 1), ct := Pv (i + 1), bk := D.nx } σ2 H2) (hd : ∀ σ H, Pv xs.length σ H → D.nx σ H) :
    ∃ W : Nat → Nat → St → Hp → Prop, (∃ m, W 0 m σ H) ∧ ∀ i m σ H, W i m σ H →
      ((Itl K a).stop i H ∧ D.nx σ H) ∨ ((Itl K a).go i H ∧ ∃ N : St → Hp → Prop, (∀ σ' H', N σ' H' → ∃ m', m' < m ∧ W (i + 1) m' σ' H') ∧ ∀ x H', (Itl K a).yld i H x H' → g x σ H' fun σ2 H2 => tb { D with nx := N, ct := N, bk := D.nx } σ2 H2) := by
  refine ⟨fun i m σ H => m = xs.length - i ∧ i ≤ xs.length ∧ Pv i σ H, ⟨xs.length, by simp, Nat.zero_le _, h0⟩, ?_⟩
  rintro i m σ H ⟨rfl, hi, p⟩
  have q := hl i σ H hi p
  by_cases hlt : i < xs.length
  · refine .inr ⟨⟨xs, xs[i], q, by simp [hlt]⟩, Pv (i + 1), fun σ' H' p' => ⟨xs.length - (i + 1), by omega, rfl, hlt, p'⟩, fun x H' y => ?_⟩
    obtain ⟨e, y⟩ := y
    subst e
    exact hs i x σ _ (y xs q) p
  · have e : i = xs.length := by omega
    subst e
    exact .inl ⟨⟨xs, q, Nat.le_refl _⟩, hd σ H p⟩
theorem for_tup {K : PySem.W.Frag} {a : Addr} {xs : List V} {g : TG} {tb : TS} {D : Ends} {σ : St} {H : Hp} (Pv : Nat → St → Hp → Prop) (h0 : Pv 0 σ H) (hl : ∀ i σ H, i ≤ xs.length → Pv i σ H → SqT K H a xs)
    (hs : ∀ i x σ H, xs[i]? = some x → Pv i σ H → g x σ H fun σ2 H2 => tb { D with nx := Pv (i + 1), ct := Pv (i + 1), bk := D.nx } σ2 H2) (hd : ∀ σ H, Pv xs.length σ H → D.nx σ H) :
    ∃ W : Nat → Nat → St → Hp → Prop, (∃ m, W 0 m σ H) ∧ ∀ i m σ H, W i m σ H →
      ((Itt K a).stop i H ∧ D.nx σ H) ∨ ((Itt K a).go i H ∧ ∃ N : St → Hp → Prop, (∀ σ' H', N σ' H' → ∃ m', m' < m ∧ W (i + 1) m' σ' H') ∧ ∀ x H', (Itt K a).yld i H x H' → g x σ H' fun σ2 H2 => tb { D with nx := N, ct := N, bk := D.nx } σ2 H2) := by
  refine ⟨fun i m σ H => m = xs.length - i ∧ i ≤ xs.length ∧ Pv i σ H, ⟨xs.length, by simp, Nat.zero_le _, h0⟩, ?_⟩
  rintro i m σ H ⟨rfl, hi, p⟩
  have q := hl i σ H hi p
  by_cases hlt : i < xs.length
  · refine .inr ⟨⟨xs, xs[i], q, by simp [hlt]⟩, Pv (i + 1), fun σ' H' p' => ⟨xs.length - (i + 1), by omega, rfl, hlt, p'⟩, fun x H' y => ?_⟩
    obtain ⟨e, y⟩ := y
    subst e
    exact hs i x σ _ (y xs q) p
  · have e : i = xs.length := by omega
    subst e
    exact .inl ⟨⟨xs, q, Nat.le_refl _⟩, hd σ H p⟩
theorem for_range {lo : Int} {n : Nat} {g : TG} {tb : TS} {D : Ends} {σ : St} {H : Hp} (Pv : Nat → St → Hp → Prop) (h0 : Pv 0 σ H)
    (hs : ∀ i σ H, i < n → Pv i σ H → g (.int (lo + i)) σ H fun σ2 H2 => tb { D with nx := Pv (i + 1), ct := Pv (i + 1), bk := D.nx } σ2 H2) (hd : ∀ σ H, Pv n σ H → D.nx σ H) :
    ∃ W : Nat → Nat → St → Hp → Prop, (∃ m, W 0 m σ H) ∧ ∀ i m σ H, W i m σ H →
      ((Itr lo n).stop i H ∧ D.nx σ H) ∨ ((Itr lo n).go i H ∧ ∃ N : St → Hp → Prop, (∀ σ' H', N σ' H' → ∃ m', m' < m ∧ W (i + 1) m' σ' H') ∧ ∀ x H', (Itr lo n).yld i H x H' → g x σ H' fun σ2 H2 => tb { D with nx := N, ct := N, bk := D.nx } σ2 H2) := by
  refine ⟨fun i m σ H => m = n - i ∧ i ≤ n ∧ Pv i σ H, ⟨n, by simp, Nat.zero_le _, h0⟩, ?_⟩
  rintro i m σ H ⟨rfl, hi, p⟩
  by_cases hlt : i < n
  · refine .inr ⟨hlt, Pv (i + 1), fun σ' H' p' => ⟨n - (i + 1), by omega, rfl, hlt, p'⟩, fun x H' y => ?_⟩
    obtain ⟨e, y⟩ := y
    subst e y
    exact hs i σ _ hlt p
  · have e : i = n := by omega
    subst e
    exact .inl ⟨Nat.le_refl _, hd σ H p⟩
/-- while, by a word and a measure of the state -/
theorem while_by {c : TT} {tb : TS} {D : Ends} {σ : St} {H : Hp} (Pv : St → Hp → Prop) (μ : St → Hp → Nat) (h0 : Pv σ H)
    (hs : ∀ σ H, Pv σ H → c σ H fun b H1 => if b = true then tb { D with nx := fun σ' H' => Pv σ' H' ∧ μ σ' H' < μ σ H, ct := fun σ' H' => Pv σ' H' ∧ μ σ' H' < μ σ H, bk := D.nx } σ H1 else D.nx σ H1)
    (mono : ∀ σ H Q Q', (∀ b H1, Q b H1 → Q' b H1) → c σ H Q → c σ H Q') : tWhile c tb D σ H := by
  refine ⟨fun m σ H => m = μ σ H ∧ Pv σ H, ⟨_, rfl, h0⟩, ?_⟩
  rintro m σ H ⟨rfl, p⟩
  refine mono σ H _ _ (fun b H1 q => ?_) (hs σ H p)
  cases b with
  | true => exact ⟨_, fun σ' H' ⟨p', l⟩ => ⟨_, l, rfl, p'⟩, q⟩
  | false => exact q
end L2

namespace L2
open PySem PySem.Spec PyProof.Rows

abbrev R2 := V → V → Hp → VK → Prop
/-- a two-place operation on values: f is binaryOp op, inplaceOp op or compareOp op -/
def OpR (X : Cx) (f : Value → Value → Sem Value) (r : R2) : Prop :=
  ∀ (pins : List (Addr × Obj)) (s : Shared) (σ : St) (H : Hp) (x y : V) (v u : Value) (Q : VK), Inv X pins σ H s → RelV x v → RelV y u → r x y H Q →
    wpAny (model X.prog X.w) X.A (f v u) (EP X pins σ Q) X.xe s
/-- a one-place operation -/
def UnR (X : Cx) (f : Value → Sem Value) (r : V → Hp → VK → Prop) : Prop :=
  ∀ (pins : List (Addr × Obj)) (s : Shared) (σ : St) (H : Hp) (x : V) (v : Value) (Q : VK), Inv X pins σ H s → RelV x v → r x H Q →
    wpAny (model X.prog X.w) X.A (f v) (EP X pins σ Q) X.xe s
/-- a call of a value that is known (a builtin, a type) with values -/
def CallR (X : Cx) (f : Value) (r : List V → Hp → VK → Prop) : Prop :=
  ∀ (pins : List (Addr × Obj)) (s : Shared) (σ : St) (H : Hp) (xs : List V) (us : List Value) (Q : VK), Inv X pins σ H s → Vals xs us → r xs H Q →
    wpAny (model X.prog X.w) X.A (call f us) (EP X pins σ Q) X.xe s
def tOp (r : R2) (ta tb : TE) : TE := fun σ H Q => ta σ H fun x H1 => tb σ H1 fun y H2 => r x y H2 Q
def tUn (r : V → Hp → VK → Prop) (ta : TE) : TE := fun σ H Q => ta σ H fun x H1 => r x H1 Q
/-- ints in, under C, and a value out -/
def rI (C : Int → Int → Prop) (g : Int → Int → V) : R2 := fun x y H Q => ∃ i j, x = .int i ∧ y = .int j ∧ C i j ∧ Q (g i j) H
def rI0 (g : Int → Int → V) : R2 := fun x y H Q => ∃ i j, x = .int i ∧ y = .int j ∧ Q (g i j) H
def rU (g : Int → V) : V → Hp → VK → Prop := fun x H Q => ∃ i, x = .int i ∧ Q (g i) H

section
variable {X : Cx} {a b c : Expr} {ta tb tc : TE} {pos : Pos}

theorem binT (ha : PE X a ta) (hb : PE X b tb) {pins : List (Addr × Obj)} {s : Shared} {σ : St} {H : Hp} {R : V → V → Hp → Prop} (I : Inv X pins σ H s)
    (h : ta σ H fun x H1 => tb σ H1 fun y H2 => R x y H2) {Q : Value → Shared → Prop} {f : Value → Value → Sem Value}
    (hf : ∀ v u s2 x y H2, Inv X pins σ H2 s2 → RelV x v → RelV y u → R x y H2 → wpAny (model X.prog X.w) X.A (f v u) Q X.xe s2) :
    wpAny (model X.prog X.w) X.A (eval a X.env) (fun v s₁ => wpAny (model X.prog X.w) X.A (eval b X.env) (fun u s₂ => wpAny (model X.prog X.w) X.A (f v u) Q X.xe s₂) X.xe s₁) X.xe s := by
  refine thn (ha pins s σ H _ I h) fun v s1 ⟨x, H1, I1, r1, q1⟩ => ?_
  refine thn (hb pins s1 σ H1 _ I1 q1) fun u s2 ⟨y, H2, I2, r2, q2⟩ => ?_
  exact hf v u s2 x y H2 I2 r1 r2 q2

theorem pe_op {op : Operator} {r : R2} (ho : OpR X (binaryOp op) r) (ha : PE X a ta) (hb : PE X b tb) : PE X (.BinOp a op b pos) (tOp r ta tb) := by
  intro pins s σ H Q I h
  exact wpAny_BinOp (binT ha hb I h fun v u s2 x y H2 I2 rx ry q => ho pins s2 σ H2 x y v u Q I2 rx ry q)
theorem pe_un {op : UnaryOp} {r : V → Hp → VK → Prop} (ho : UnR X (unaryOp op) r) (ha : PE X a ta) : PE X (.UnaryOp op a pos) (tUn r ta) := by
  intro pins s σ H Q I h
  exact UnaryOp_ (thn (ha pins s σ H _ I h) fun v s1 ⟨x, H1, I1, r1, q1⟩ => ho pins s1 σ H1 x v Q I1 r1 q1)
/-! ### ints -/
theorem opI {f : Value → Value → Sem Value} {C : Int → Int → Prop} {g : Int → Int → Int}
    (rule : ∀ (i j : Int) (t u : Tok) (s : Shared) (Q : Value → Shared → Prop) (E : Value → Shared → Prop), C i j → Q (.int (g i j) s.toks) { s with toks := s.toks + 1 } → wpAny (model X.prog X.w) X.A (f (.int i t) (.int j u)) Q E s) :
    OpR X f (rI C fun i j => .int (g i j)) := by
  intro pins s σ H x y v u Q I rx ry h
  obtain ⟨i, j, rfl, rfl, hc, q⟩ := h
  obtain ⟨t, rfl⟩ := rx
  obtain ⟨t', rfl⟩ := ry
  exact rule i j t t' s _ _ hc ⟨.int (g i j), H, I.tok _, ⟨_, rfl⟩, q⟩
theorem opI0 {f : Value → Value → Sem Value} {g : Int → Int → Int}
    (rule : ∀ (i j : Int) (t u : Tok) (s : Shared) (Q : Value → Shared → Prop) (E : Value → Shared → Prop), Q (.int (g i j) s.toks) { s with toks := s.toks + 1 } → wpAny (model X.prog X.w) X.A (f (.int i t) (.int j u)) Q E s) :
    OpR X f (rI0 fun i j => .int (g i j)) := by
  intro pins s σ H x y v u Q I rx ry h
  obtain ⟨i, j, rfl, rfl, q⟩ := h
  obtain ⟨t, rfl⟩ := rx
  obtain ⟨t', rfl⟩ := ry
  exact rule i j t t' s _ _ ⟨.int (g i j), H, I.tok _, ⟨_, rfl⟩, q⟩
theorem opB0 {f : Value → Value → Sem Value} {g : Int → Int → Bool}
    (rule : ∀ (i j : Int) (t u : Tok) (s : Shared) (Q : Value → Shared → Prop) (E : Value → Shared → Prop), Q (.bool (g i j)) s → wpAny (model X.prog X.w) X.A (f (.int i t) (.int j u)) Q E s) :
    OpR X f (rI0 fun i j => .bl (g i j)) := by
  intro pins s σ H x y v u Q I rx ry h
  obtain ⟨i, j, rfl, rfl, q⟩ := h
  obtain ⟨t, rfl⟩ := rx
  obtain ⟨t', rfl⟩ := ry
  exact rule i j t t' s _ _ ⟨.bl (g i j), H, I, rfl, q⟩

def CDiv (i j : Int) : Prop := 0 < j ∧ j < 1073741824
def CPow (i j : Int) : Prop := 0 ≤ j ∧ j ≤ 1000000 ∧ i.natAbs < 2 ^ 64
def CMul (i j : Int) : Prop := (-(2 ^ 64) < i ∧ i < 2 ^ 64) ∨ (-(2 ^ 64) < j ∧ j < 2 ^ 64)
theorem CMul.ok {i j : Int} (h : CMul i j) : IntMulOk i j := by
  rcases h with ⟨h1, h2⟩ | ⟨h1, h2⟩
  · exact .of_left (intBits_le_64 h1 h2)
  · exact .of_right (intBits_le_64 h1 h2)
theorem two_pow_nn (k : Nat) : (0 : Int) ≤ 2 ^ k := by
  rw [two_pow_cast]
  exact Int.natCast_nonneg _

theorem op_add : OpR X (binaryOp .Add) (rI0 fun i j => .int (i + j)) := opI0 fun _ _ _ _ _ _ _ q => add_int q
theorem op_sub : OpR X (binaryOp .Sub) (rI0 fun i j => .int (i - j)) := opI0 fun _ _ _ _ _ _ _ q => sub_int q
theorem op_mul : OpR X (binaryOp .Mult) (rI CMul fun i j => .int (i * j)) := opI fun _ _ _ _ _ _ _ hc q => mul_int q hc.ok
/-- // by a positive divisor -/
theorem op_fdiv : OpR X (binaryOp .FloorDiv) (rI CDiv fun i j => .int (i / j)) := opI fun i j _ _ _ _ _ hc q => by
  have h1 : (0 : Int) < j := hc.1
  have h2 : j < 1073741824 := hc.2
  exact floordiv_int (by omega) (by rw [Int.fdiv_eq_ediv_of_nonneg i (by omega)]; exact q) (.inl (PyProof.noPylong_small (by omega)))
/-- % by a positive divisor of any size -/
theorem op_mod : OpR X (binaryOp .Mod) (rI (fun _ j => 0 < j) fun i j => .int (i % j)) := opI fun i j _ _ _ _ _ hc q => by
  have h1 : (0 : Int) < j := hc
  exact mod_int' (by omega) (by rw [Int.fmod_eq_emod_of_nonneg i (by omega)]; exact q)
theorem op_modN : OpR X (binaryOp .Mod) (rI (fun _ j => j ≠ 0) fun i j => .int (i.fmod j)) := opI fun _ _ _ _ _ _ _ hc q => mod_int' hc q
theorem op_pow : OpR X (binaryOp .Pow) (rI CPow fun i j => .int (i ^ j.toNat)) := opI fun _ _ _ _ _ _ _ hc q => pow_int_small hc.1 hc.2.1 hc.2.2 q
theorem op_shl : OpR X (binaryOp .LShift) (rI CPow fun i j => .int (i * 2 ^ j.toNat)) := opI fun _ _ _ _ _ _ _ hc q => lshift_int_small hc.1 hc.2.1 hc.2.2 q
theorem op_shr : OpR X (binaryOp .RShift) (rI (fun _ j => 0 ≤ j) fun i j => .int (i / 2 ^ j.toNat)) := opI fun i j _ _ _ _ _ hc q =>
  rshift_int hc (by rw [Int.fdiv_eq_ediv_of_nonneg i (two_pow_nn _)]; exact q)
theorem op_and : OpR X (binaryOp .BitAnd) (rI0 fun i j => .int (Builtin.bitAnd i j)) := opI0 fun _ _ _ _ _ _ _ q => and_int q
theorem unI {f : Value → Sem Value} {g : Int → Int}
    (rule : ∀ (i : Int) (t : Tok) (s : Shared) (Q : Value → Shared → Prop) (E : Value → Shared → Prop), Q (.int (g i) s.toks) { s with toks := s.toks + 1 } → wpAny (model X.prog X.w) X.A (f (.int i t)) Q E s) :
    UnR X f (rU fun i => .int (g i)) := by
  intro pins s σ H x v Q I rx h
  obtain ⟨i, rfl, q⟩ := h
  obtain ⟨t, rfl⟩ := rx
  exact rule i t s _ _ ⟨.int (g i), H, I.tok _, ⟨_, rfl⟩, q⟩
theorem un_neg : UnR X (unaryOp .USub) (rU fun i => .int (-i)) := unI fun _ _ _ _ _ q => neg_int q
/-! ### bools among ints: n += (a < b) -/
end

/-! ### comparisons -/
/-- the scalars that == tells apart as data does -/
def scal : V → V → Bool
  | .non, .non => true | .non, .int _ => true | .int _, .non => true | .non, .bl _ => true | .bl _, .non => true | .non, .str _ => true | .str _, .non => true
  | .int _, .int _ => true | .bl _, .bl _ => true | .str _, .str _ => true | .byt _, .byt _ => true
  | .int _, .str _ => true | .str _, .int _ => true | .bl _, .str _ => true | .str _, .bl _ => true
  | _, _ => false
def rEq : R2 := fun x y H Q => scal x y = true ∧ Q (.bl (decide (x = y))) H
def rNe : R2 := fun x y H Q => scal x y = true ∧ Q (.bl (!decide (x = y))) H

theorem dec_int {i j : Int} : decide (V.int i = V.int j) = (i == j) := by
  rw [Bool.eq_iff_iff]
  simp
theorem dec_bl {i j : Bool} : decide (V.bl i = V.bl j) = (i == j) := by
  rw [Bool.eq_iff_iff]
  simp
theorem dec_str {i j : Str} : decide (V.str i = V.str j) = (i == j) := by
  rw [Bool.eq_iff_iff]
  simp
theorem dec_byt {i j : Array UInt8} : decide (V.byt i = V.byt j) = (i.toList == j.toList) := by
  rw [Bool.eq_iff_iff]
  cases i
  cases j
  simp

section
variable {X : Cx} {a b c : Expr} {ta tb tc : TE} {pos : Pos}
theorem fin_bl {pins : List (Addr × Obj)} {σ : St} {H : Hp} {s : Shared} {Q : VK} {k k' : Bool} (I : Inv X pins σ H s) (q : Q (.bl k) H) (e : k = k') : EP X pins σ Q (.bool k') s := by
  subst e
  exact ⟨.bl k, H, I, rfl, q⟩
theorem op_eq : OpR X (compareOp .Eq) rEq := by
  intro pins s σ H x y v u Q I rx ry h
  obtain ⟨hs, q⟩ := h
  cases x with
  | non =>
    cases rx
    cases y with
    | non => cases ry; exact PySem.EqNone.eq_none_none (fin_bl I q (by simp))
    | bl j => cases ry; exact PySem.EqNone.eq_none_bool (fin_bl I q (by simp))
    | int j => obtain ⟨t', rfl⟩ := ry; exact PySem.EqNone.eq_none_int (fin_bl I q (by simp))
    | str j => obtain ⟨t', rfl⟩ := ry; exact PySem.EqNone.eq_none_str (fin_bl I q (by simp))
    | _ => exact absurd (show false = true from hs) Bool.false_ne_true
  | bl i =>
    cases rx
    cases y with
    | non => cases ry; exact PySem.EqNone.eq_bool_none (fin_bl I q (by simp))
    | bl j => cases ry; exact eq_bool (fin_bl I q dec_bl)
    | str j => obtain ⟨t', rfl⟩ := ry; exact PySem.EqMixed.eq_bool_str (fin_bl I q (by simp))
    | _ => exact absurd (show false = true from hs) Bool.false_ne_true
  | int i =>
    obtain ⟨t, rfl⟩ := rx
    cases y with
    | non => cases ry; exact PySem.EqNone.eq_int_none (fin_bl I q (by simp))
    | int j => obtain ⟨t', rfl⟩ := ry; exact eq_int (fin_bl I q dec_int)
    | str j => obtain ⟨t', rfl⟩ := ry; exact PySem.EqMixed.eq_int_str (fin_bl I q (by simp))
    | _ => exact absurd (show false = true from hs) Bool.false_ne_true
  | str i =>
    obtain ⟨t, rfl⟩ := rx
    cases y with
    | non => cases ry; exact PySem.EqNone.eq_str_none (fin_bl I q (by simp))
    | bl j => cases ry; exact PySem.EqMixed.eq_str_bool (fin_bl I q (by simp))
    | int j => obtain ⟨t', rfl⟩ := ry; exact PySem.EqMixed.eq_str_int (fin_bl I q (by simp))
    | str j => obtain ⟨t', rfl⟩ := ry; exact eq_str (fin_bl I q dec_str)
    | _ => exact absurd (show false = true from hs) Bool.false_ne_true
  | byt i =>
    obtain ⟨t, rfl⟩ := rx
    cases y with
    | byt j => obtain ⟨t', rfl⟩ := ry; exact PySem.W.eq_bytes (fin_bl I q dec_byt)
    | _ => exact absurd (show false = true from hs) Bool.false_ne_true
  | _ => cases y <;> exact absurd (show false = true from hs) Bool.false_ne_true
theorem op_ne : OpR X (compareOp .NotEq) rNe := by
  intro pins s σ H x y v u Q I rx ry h
  obtain ⟨hs, q⟩ := h
  cases x with
  | non =>
    cases rx
    cases y with
    | non => cases ry; exact PySem.EqNone.ne_none_none (fin_bl I q (by simp))
    | bl j => cases ry; exact PySem.EqNone.ne_none_bool (fin_bl I q (by simp))
    | int j => obtain ⟨t', rfl⟩ := ry; exact PySem.EqNone.ne_none_int (fin_bl I q (by simp))
    | str j => obtain ⟨t', rfl⟩ := ry; exact PySem.EqNone.ne_none_str (fin_bl I q (by simp))
    | _ => exact absurd (show false = true from hs) Bool.false_ne_true
  | bl i =>
    cases rx
    cases y with
    | non => cases ry; exact PySem.EqNone.ne_bool_none (fin_bl I q (by simp))
    | bl j => cases ry; exact ne_bool (fin_bl I q (congrArg not dec_bl))
    | str j => obtain ⟨t', rfl⟩ := ry; exact PySem.EqMixed.ne_bool_str (fin_bl I q (by simp))
    | _ => exact absurd (show false = true from hs) Bool.false_ne_true
  | int i =>
    obtain ⟨t, rfl⟩ := rx
    cases y with
    | non => cases ry; exact PySem.EqNone.ne_int_none (fin_bl I q (by simp))
    | int j => obtain ⟨t', rfl⟩ := ry; exact ne_int (fin_bl I q (congrArg not dec_int))
    | str j => obtain ⟨t', rfl⟩ := ry; exact PySem.EqMixed.ne_int_str (fin_bl I q (by simp))
    | _ => exact absurd (show false = true from hs) Bool.false_ne_true
  | str i =>
    obtain ⟨t, rfl⟩ := rx
    cases y with
    | non => cases ry; exact PySem.EqNone.ne_str_none (fin_bl I q (by simp))
    | bl j => cases ry; exact PySem.EqMixed.ne_str_bool (fin_bl I q (by simp))
    | int j => obtain ⟨t', rfl⟩ := ry; exact PySem.EqMixed.ne_str_int (fin_bl I q (by simp))
    | str j => obtain ⟨t', rfl⟩ := ry; exact ne_str (fin_bl I q (congrArg not dec_str))
    | _ => exact absurd (show false = true from hs) Bool.false_ne_true
  | byt i =>
    obtain ⟨t, rfl⟩ := rx
    cases y with
    | byt j => obtain ⟨t', rfl⟩ := ry; exact PySem.W.ne_bytes (fin_bl I q (congrArg not dec_byt))
    | _ => exact absurd (show false = true from hs) Bool.false_ne_true
  | _ => cases y <;> exact absurd (show false = true from hs) Bool.false_ne_true

theorem op_lt : OpR X (compareOp .Lt) (rI0 fun i j => .bl (decide (i < j))) := opB0 fun _ _ _ _ _ _ _ q => lt_int q
theorem op_gt : OpR X (compareOp .Gt) (rI0 fun i j => .bl (decide (j < i))) := opB0 fun _ _ _ _ _ _ _ q => gt_int q
theorem op_notN : OpR X (compareOp .IsNot) (fun x y H Q => y = .non ∧ Q (.bl (!decide (x = .non))) H) := by
  intro pins s σ H x y v u Q I rx ry h
  obtain ⟨rfl, q⟩ := h
  cases ry
  refine isnot_none_gen (fin_bl I q ?_)
  cases x <;> first
    | (cases rx; rfl)
    | (obtain ⟨t, rfl⟩ := rx; rfl)

theorem nomark (b : Expr) {op : CmpOp} (h : op ≠ .In := by decide) (h2 : op ≠ .NotIn := by decide) : behindInMarks op b = false := by
  have e1 : (op == CmpOp.In) = false := by cases op <;> first | rfl | exact absurd rfl h
  have e2 : (op == CmpOp.NotIn) = false := by cases op <;> first | rfl | exact absurd rfl h2
  cases b <;> simp [behindInMarks, e1, e2]
/-- a comparison as a value; hm: nomark b, or (for in, not in) by with_unfolding_all rfl -/
theorem pe_cmpR {op : CmpOp} {r : R2} (ho : OpR X (compareOp op) r) (ha : PE X a ta) (hb : PE X b tb) (hm : behindInMarks op b = false) : PE X (.Compare a [op] [b] pos) (tOp r ta tb) := by
  intro pins s σ H Q I h
  exact wpAny_Compare1 (binT ha hb I h fun v u s2 x y H2 I2 rx ry q => ho pins s2 σ H2 x y v u Q I2 rx ry q) hm
/-- a reading of a value as a test -/
def tTest (t : TE) : TT := fun σ H Q => t σ H fun x H' => ∃ k, x = .bl k ∧ Q k H'
theorem pt_cmpR {op : CmpOp} {r : R2} (ho : OpR X (compareOp op) r) (ha : PE X a ta) (hb : PE X b tb) (hm : behindInMarks op b = false) : PT X (.Compare a [op] [b] pos) (tTest (tOp r ta tb)) := by
  intro pins s σ H Q I h
  refine wpAny_isTrue_Compare1 (thn (ha pins s σ H _ I h) fun v s1 ⟨x, H1, I1, r1, q1⟩ => thn (hb pins s1 σ H1 _ I1 q1) fun u s2 ⟨y, H2, I2, r2, q2⟩ =>
    thn (ho pins s2 σ H2 x y v u _ I2 r1 r2 q2) fun c s3 ⟨z, H3, I3, r3, k, e, q3⟩ => ?_) hm
  subst e
  cases r3
  exact wpAny_truthy_bool ⟨H3, I3, q3⟩
/-! ### truth -/
theorem line63 : (sizeLine : Nat) < 2 ^ 63 := by rw [sizeLine_eq]; decide
/-! ### strs and bytes -/
/-! ### scalar builtins, by CallR -/
theorem vals1 {x : V} {us : List Value} (r : Vals [x] us) : ∃ u, us = [u] ∧ RelV x u := by
  cases r with
  | cons r1 r2 => cases r2; exact ⟨_, rfl, r1⟩
theorem vals2 {x y : V} {us : List Value} (r : Vals [x, y] us) : ∃ u w', us = [u, w'] ∧ RelV x u ∧ RelV y w' := by
  cases r with
  | cons r1 r2 =>
    cases r2 with
    | cons r3 r4 => cases r4; exact ⟨_, _, rfl, r1, r3⟩
theorem call_abs : CallR X (.builtin "abs") (fun xs H Q => ∃ i, xs = [.int i] ∧ Q (.int (if i < 0 then -i else i)) H) := by
  intro pins s σ H xs us Q I r h
  obtain ⟨i, rfl, q⟩ := h
  obtain ⟨u, rfl, t, rfl⟩ := vals1 r
  exact call_abs_int fun u tk => ⟨.int (if i < 0 then -i else i), H, I.tok _, ⟨_, rfl⟩, q⟩
theorem call_max2 (hc : X.calm = true) : CallR X (.builtin "max") (fun xs H Q => ∃ i j, xs = [.int i, .int j] ∧ Q (.int (if j > i then j else i)) H) := by
  intro pins s σ H xs us Q I r h
  obtain ⟨i, j, rfl, q⟩ := h
  obtain ⟨u, w', rfl, ⟨t, rfl⟩, ⟨t', rfl⟩⟩ := vals2 r
  refine max_two_ints (I.ok.hd hc) fun h' tk k => ⟨_, H, I.kept k, ?_, q⟩
  by_cases hj : j > i
  · rw [if_pos hj, if_pos hj]; exact ⟨_, rfl⟩
  · rw [if_neg hj, if_neg hj]; exact ⟨_, rfl⟩
theorem call_min2 (hc : X.calm = true) : CallR X (.builtin "min") (fun xs H Q => ∃ i j, xs = [.int i, .int j] ∧ Q (.int (if j < i then j else i)) H) := by
  intro pins s σ H xs us Q I r h
  obtain ⟨i, j, rfl, q⟩ := h
  obtain ⟨u, w', rfl, ⟨t, rfl⟩, ⟨t', rfl⟩⟩ := vals2 r
  refine min_two_ints (I.ok.hd hc) fun h' tk k => ⟨_, H, I.kept k, ?_, q⟩
  by_cases hj : j < i
  · rw [if_pos hj, if_pos hj]; exact ⟨_, rfl⟩
  · rw [if_neg hj, if_neg hj]; exact ⟨_, rfl⟩
theorem call_int1 : CallR X (.type "int") (fun xs H Q => (∃ i, xs = [.int i] ∧ Q (.int i) H) ∨ ∃ k, xs = [.bl k] ∧ Q (.int (if k then 1 else 0)) H) := by
  intro pins s σ H xs us Q I r h
  rcases h with ⟨i, rfl, q⟩ | ⟨k, rfl, q⟩
  · obtain ⟨u, rfl, t, rfl⟩ := vals1 r
    exact call_int_int ⟨.int i, H, I, ⟨_, rfl⟩, q⟩
  · obtain ⟨u, rfl, r1⟩ := vals1 r
    cases r1
    exact call_int_bool ⟨.int (if k then 1 else 0), H, I.tok _, ⟨_, rfl⟩, q⟩
end
end L2

namespace L2
open PySem PySem.Spec PyProof.Rows

/-! ### an instance, its attributes a map -/
structure ObjM (h : Heap) (x dx C : Addr) (mA : Str → Option Value) : Prop where
  obj : h.get? x = some (PySem.W.instObj C dx)
  ns : h.Ns1 dx mA
  ne : dx ≠ x

theorem lookIn_ns {h : Heap} {dx : Addr} {mA : Str → Option Value} (n : h.Ns1 dx mA) : ∃ od, h.get? dx = some od ∧ ∀ name, PySem.W.lookIn name od = some (mA name) := by
  obtain ⟨o, es, ep, ho, hd, hk, _, hm⟩ := n
  refine ⟨o, ho, fun name => ?_⟩
  have e := hm name
  unfold nsFind findBy at e
  rw [← Array.find?_toList] at e
  unfold PySem.W.lookIn
  rw [hd]
  dsimp only
  split
  · rename_i y q
    rw [q] at e
    exact congrArg some e
  · rename_i q
    rw [q] at e
    have a : es.toList.any (·.refKey) = false := by
      rw [List.any_eq_false]
      intro y hy
      obtain ⟨z, t, hkey⟩ := hk y (Array.mem_toList_iff.mp hy)
      simp [DictEntry.refKey, hkey]
    have a' : ¬ es.toList.any (·.refKey) = true := by rw [a]; exact Bool.false_ne_true
    rw [if_neg a']
    exact congrArg some e

theorem ObjM.look {h : Heap} {x dx C : Addr} {mA : Str → Option Value} (I : ObjM h x dx C mA) : ∃ od, PySem.W.InstAt h x (PySem.W.instObj C dx) C (some od) ∧ ∀ name, PySem.W.lookIn name od = some (mA name) :=
  let ⟨od, ho, hl⟩ := lookIn_ns I.ns
  ⟨od, ⟨I.obj, rfl, rfl, ho⟩, hl⟩

section
variable {prog : Program} {w : World} {A : Around} {E : Value → Shared → Prop} {s : Shared} {K : PySem.W.Frag} {x dx C f : Addr} {mA : Str → Option Value} {name : Str} {v : Value}

end

/-! ### the attributes as a list of pairs -/
section
variable {P : Program} {w : World} {H H' : Hp} {h h' : Heap} {a C dx : Addr} {fs fs' : List (Str × V)}
theorem ins_get (hok : HOk P w H h) (e : H a = some (.ins C dx fs)) : ∃ mA, ObjM h a dx C mA ∧ (∀ f, RelO (fs.lookup f) (mA f)) ∧ PySem.Within mA (fs.map (·.1)) ∧ fs.length ≤ 1000 ∧ H dx = some (.own a) := by
  obtain ⟨d, z, ne, ob, mA, n, r, q⟩ := (show ObjOk P w H h a (.ins C dx fs) from hok a _ e)
  exact ⟨mA, ⟨ob, n, ne⟩, r, q, z, d⟩
end

/-! ### what of the text a class must have -/
structure Cls (K : PySem.W.Frag) (C : Addr) : Prop where
  pg : PySem.W.plainGet K C Str.empty = true
  hd : PySem.W.hasDictIn K C = true
  po : PySem.W.plainOver K C = true
  sa : PySem.W.findIn K (.ref C) "__setattr__" = some (some (.builtin "object.__setattr__"))
theorem Cls.get {K : PySem.W.Frag} {C : Addr} (c : Cls K C) (f : Str) : PySem.W.plainGet K C f = true := c.pg
section
variable {X : Cx} {pins : List (Addr × Obj)} {σ : St} {H : Hp} {s : Shared} {a C dx : Addr} {fs : List (Str × V)} {f : Str} {v : V} {A : Around} {E : Value → Shared → Prop}

end

/-! ### readings and rules -/
section
variable {X : Cx} {o e value : Expr} {f : Str} {pos pos' tpos : Pos} {ta tv : TE}
end

/-! ### isinstance -/
section
variable {X : Cx} {pins : List (Addr × Obj)} {σ : St} {H : Hp} {s : Shared} {A : Around} {E : Value → Shared → Prop} {Q : Value → Shared → Prop} {c : Value} {b : Bool}
/-- the type of a value, as the fragment's deciders take it; for an instance its class -/
inductive TyOf (K : PySem.W.Frag) (H : Hp) : V → Value → Prop where
  | non : TyOf K H .non (.type "NoneType")
  | bl (x : Bool) : TyOf K H (.bl x) (.type "bool")
  | int (i : Int) : TyOf K H (.int i) (.type "int")
  | str (x : Str) : TyOf K H (.str x) (.type "str")
  | flt (x : UInt64) : TyOf K H (.flt x) (.type "float")
  | lst {a : Addr} {xs : List V} (e : H a = some (.lst xs)) : TyOf K H (.ref a) (.type "list")
  | frz {a : Addr} {o : Obj} {xs : List V} (e : H a = some (.frz o (.lst xs))) : TyOf K H (.ref a) (.type "list")
  | tup {a : Addr} {xs : List V} (e : H a = some (.tup xs)) : TyOf K H (.ref a) (.type "tuple")
  | dK {a : Addr} {kvs : List (Key × V)} (e : H a = some (.dK kvs)) : TyOf K H (.ref a) (.type "dict")
  | dT {a : Addr} {kvs : List (List Key × V)} (e : H a = some (.dT kvs)) : TyOf K H (.ref a) (.type "dict")
  | ins {a C dx : Addr} {fs : List (Str × V)} (e : H a = some (.ins C dx fs)) (cl : Cls K C) (ha : PySem.W.findIn K (.ref C) "__class__" = some (some (.builtin "object.__class__")))
      (hn : PySem.W.specialIn K (.builtin "object.__class__") "__get__" = some (some (.builtin "getset_descriptor.__get__"))) (htk : PySem.W.takesIn K (.builtin "object.__class__") = some true)
      (hm : PySem.W.mroIn K C (.type "object") = some true) : TyOf K H (.ref a) (.ref C)
/-- isinstance(x, c) for one class c, a built-in or an own one: kitOne's answer -/
theorem isinst_ok {x : V} {u t : Value} (I : Inv X pins σ H s) (rx : RelV x u) (ty : TyOf X.K H x t) (e : PySem.W.kitOne X.K t c = some b) (h : ∀ tk, Q (.bool b) { s with toks := tk }) :
    wpAny (model X.prog X.w) A (call (.builtin "isinstance") [u, c]) Q E s := by
  cases ty with
  | non => cases (show u = Value.none from rx); exact PySem.W.kia_one PySem.W.kitx_none I.kIn True.intro e (fun z => nomatch z) h
  | bl y => cases (show u = Value.bool y from rx); exact PySem.W.kia_one PySem.W.kitx_bool I.kIn True.intro e (fun z => nomatch z) h
  | int i => obtain ⟨t, q⟩ := (show ∃ t, u = Value.int i t from rx); cases q; exact PySem.W.kia_one PySem.W.kitx_int I.kIn True.intro e (fun z => nomatch z) h
  | str y => obtain ⟨t, q⟩ := (show ∃ t, u = Value.str y t from rx); cases q; exact PySem.W.kia_one PySem.W.kitx_str I.kIn True.intro e (fun z => nomatch z) h
  | flt y => obtain ⟨t, q⟩ := (show ∃ t, u = Value.float y t from rx); cases q; exact PySem.W.kia_one PySem.W.kitx_float I.kIn True.intro e (fun z => nomatch z) h
  | @lst a xs ea =>
    cases (show u = Value.ref a from rx)
    obtain ⟨_, _, n, _, h1⟩ := (show ObjOk X.prog X.w H s.heap a (.lst xs) from I.hok a _ ea)
    exact PySem.W.kia_one PySem.W.kitx_list I.kIn ⟨_, h1, rfl⟩ e (fun z => nomatch z) h
  | @frz a ob xs ea =>
    cases (show u = Value.ref a from rx)
    obtain ⟨_, _, _, n, _, h1⟩ := (show ObjOk X.prog X.w H s.heap a (.frz ob (.lst xs)) from I.hok a _ ea)
    exact PySem.W.kia_one PySem.W.kitx_list I.kIn ⟨_, h1, rfl⟩ e (fun z => nomatch z) h
  | @tup a xs ea =>
    cases (show u = Value.ref a from rx)
    obtain ⟨_, _, _, p⟩ := (show ObjOk X.prog X.w H s.heap a (.tup xs) from I.hok a _ ea)
    obtain ⟨o, h1, h2, _⟩ := p
    exact PySem.W.kia_one PySem.W.kitx_tuple I.kIn ⟨o, h1, h2⟩ e (fun z => nomatch z) h
  | @dK a kvs ea =>
    cases (show u = Value.ref a from rx)
    obtain ⟨_, _, vs, _, p⟩ := (show ObjOk X.prog X.w H s.heap a (.dK kvs) from I.hok a _ ea)
    obtain ⟨o, es, ep, h1, h2, _⟩ := p
    exact PySem.W.kia_one PySem.W.kitx_dict I.kIn ⟨o, h1, h2.1⟩ e (fun z => nomatch z) h
  | @dT a kvs ea =>
    cases (show u = Value.ref a from rx)
    obtain ⟨_, _, xs, _, o, es, ep, h1, h2, _⟩ := (show ObjOk X.prog X.w H s.heap a (.dT kvs) from I.hok a _ ea)
    exact PySem.W.kia_one PySem.W.kitx_dict I.kIn ⟨o, h1, h2.1⟩ e (fun z => nomatch z) h
  | @ins a C dx fs ea cl ha hn htk hm =>
    cases (show u = Value.ref a from rx)
    obtain ⟨mA, O, _⟩ := ins_get I.hok ea
    obtain ⟨od, J, _⟩ := O.look
    exact PySem.W.kia_one (PySem.W.kitx_own (cl.get _) cl.hd ha hn htk hm) I.kIn J e (fun z => nomatch z) h
end
end L2

namespace L2
open PySem PySem.Spec PyProof.Rows

/-! ### room -/
structure Room (k : Nat) (A : Around) : Prop where
  hd : A.handled = none
  dp : A.depth + 3 * k + 5 < recursionLimit
  un : A.units + 16 * k + 200 < cLine
theorem Room.mono {j k : Nat} {A : Around} (r : Room k A) (h : j ≤ k) : Room j A := ⟨r.hd, by have := r.dp; omega, by have := r.un; omega⟩
theorem Room.deeper {k : Nat} {A : Around} (r : Room (k + 1) A) (env : Env) : Room k (A.deeper env) :=
  ⟨r.hd, by have := r.dp; show A.depth + 1 + 3 * k + 5 < _; omega, by have := r.un; show A.units + 3 + 16 * k + 200 < _; omega⟩
theorem Room.depth {k : Nat} {A : Around} (r : Room k A) : A.depth < recursionLimit := by have := r.dp; omega
theorem Room.units {k : Nat} {A : Around} (r : Room k A) : A.units + 64 < cLine := by have := r.un; omega
/-! ### argument lists and displays -/
def tNil : TA := fun _ H Q => Q [] H
def tCons (ta : TE) (tr : TA) : TA := fun σ H Q => ta σ H fun x H1 => tr σ H1 fun xs H2 => Q (x :: xs) H2
section
variable {X : Cx} {e : Expr} {es : List Expr} {te : TE} {t : TA} {pos : Pos}
theorem pa_nil : PA X [] tNil := fun _ _ _ _ H Q I h => Calls.spliced_nil ⟨[], H, I, .nil, h⟩
theorem pa_cons (ha : PE X e te) (hr : PA X es t) (hs : starEach (e :: es) X.env = (false, eval e X.env) :: starEach es X.env := by rfl) : PA X (e :: es) (tCons te t) := by
  intro pos pins s σ H Q I h
  rw [hs]
  show wpAny _ _ (spliced ((false, eval e X.env) :: backTo pos (starEach es X.env))) _ _ s
  refine Calls.spliced_cons (thn (ha pins s σ H _ I h) fun u s1 ⟨x, H1, I1, r1, q1⟩ => ?_)
  exact thn (hr pos pins s1 σ H1 _ I1 q1) fun us s2 ⟨xs, H2, I2, r2, q2⟩ => ⟨x :: xs, H2, I2, .cons r1 r2, q2⟩

/-- a tuple, a list of written items -/
def tTup (t : TA) : TE := fun σ H Q => t σ H fun xs H1 => xs.length ≤ sizeLine ∧ ∀ p, H1 p = none → Q (.ref p) (upd H1 p (.tup xs))
def tLst (t : TA) : TE := fun σ H Q => t σ H fun xs H1 => xs.length ≤ sizeLine ∧ ∀ p, H1 p = none → Q (.ref p) (upd H1 p (.lst xs))
theorem pe_tup {x1} (h : PA X es t) : PE X (.Tuple es x1 pos) (tTup t) := by
  intro pins s σ H Q I hq
  refine wpAny_Tuple_spliced (thn (h pos pins s σ H _ I hq) fun us s1 ⟨xs, H1, I1, r, z, q⟩ => ⟨by rw [← r.length]; exact z, ?_⟩)
  have hf : H1 s1.heap.objs.size = none := I1.hok.fresh (Nat.le_refl _)
  refine ⟨.ref s1.heap.objs.size, upd H1 s1.heap.objs.size (.tup xs), I1.laid (t' := s1.toks) (fun b u e => Heap.get?_push_of_some _ e) (Nat.le_refl _) ?_, rfl, q _ hf⟩
  exact ⟨z, us, r, ⟨_, Heap.get?_push_size _ rfl, rfl, _, rfl⟩⟩
theorem pe_lst (h : PA X es t) : PE X (.List es pos) (tLst t) := by
  intro pins s σ H Q I hq
  refine wpAny_List_spliced (thn (h pos pins s σ H _ I hq) fun us s1 ⟨xs, H1, I1, r, z, q⟩ => ⟨by rw [← r.length]; exact z, ?_⟩)
  have hf : H1 s1.heap.objs.size = none := I1.hok.fresh (Nat.le_refl _)
  refine ⟨.ref s1.heap.objs.size, upd H1 s1.heap.objs.size (.lst xs), I1.laid (t' := s1.toks) (fun b u e => Heap.get?_push_of_some _ e) (Nat.le_refl _) ?_, rfl, q _ hf⟩
  exact ⟨z, us, 0, r, Heap.get?_push_size _ rfl⟩
end

/-! ### what a def promises -/
/-- a def's promise: the bound arguments in the parameters' order, the heap, the wanted end, the wanted exception -/
abbrev Sp := List V → Hp → VK → XK → Prop
/-- how an exception lies behind a call (file 08 gives it): the callers' frames, abstract heap and state ahead of the call, the wish, the exception, the state -/
abbrev CXT := List Env → Hp → Shared → XK → Value → Shared → Prop

/-- the state at a call -/
structure Env0 (P : Program) (w : World) (K : PySem.W.Frag) (mg : Str → Option Value) (base : Heap) (A : Around) (outer : List Env) (s : Shared) (H : Hp) : Prop where
  frames : A.frames = some outer
  mod : Mod K mg base
  bs : ∀ b o, base.get? b = some o → s.heap.get? b = some o ∧ H b = none
  bsz : base.objs.size ≤ s.heap.objs.size
  funs : s.heap.FunFrames base outer
  frf : ∀ b ∈ frs outer, H b = none
  hok : HOk P w H s.heap
  bare : AllBare s.gens
/-- a call's end -/
def CE (outer : List Env) (P : Program) (w : World) (H : Hp) (s : Shared) (Q : VK) (u : Value) (s' : Shared) : Prop :=
  ∃ v H', s'.os = s.os ∧ AllBare s'.gens ∧ Un (frs outer) [] H H' s.heap s'.heap ∧ HOk P w H' s'.heap ∧ RelV v u ∧ Q v H'
def CR (CX : CXT) (outer : List Env) (P : Program) (w : World) (H : Hp) (s : Shared) (Q : VK) (E : XK) (r : Result) (s' : Shared) : Prop :=
  match r with
  | .ok (.ret u) => CE outer P w H s Q u s'
  | .ok _ => False
  | .error e => CX outer H s E e s'
structure FnOk (P : Program) (w : World) (K : PySem.W.Frag) (mg : Str → Option Value) (base : Heap) (CX : CXT) (k : Nat) (f : Addr) (fd : FuncData) (ps : List Str) (sp : Sp) : Prop where
  len : ∀ vs H Q E, sp vs H Q E → vs.length = ps.length
  run : ∀ (A : Around) (outer : List Env) (s : Shared) (H : Hp) (args : Args) (us : List Value) (vs : List V) (Q : VK) (E : XK), Room k A → Env0 P w K mg base A outer s H → BindsTo s fd args (ps.zip us) → Vals vs us → sp vs H Q E →
    codeAny (model P w) A (.call (.ref f) args) (CR CX outer P w H s Q E) s
section
variable {X : Cx} {pins : List (Addr × Obj)} {σ : St} {H : Hp} {s s' : Shared}
/-- from a body: what a callee wants -/
theorem Inv.env0 (I : Inv X pins σ H s) : Env0 X.prog X.w X.K X.mg X.base X.A X.stack s H :=
  ⟨I.ok.frames, I.ok.mod, I.bs, Nat.le_trans I.ok.bsz I.sz, I.stack, I.stkFree, I.hok, I.bare⟩
/-- behind a call -/
theorem Inv.after {Q : VK} {u : Value} (I : Inv X pins σ H s) (h : CE X.stack X.prog X.w H s Q u s') : EP X pins σ Q u s' := by
  obtain ⟨v, H', os, bare, un, hok, r, q⟩ := h
  obtain ⟨hh, g, d, t, os'⟩ := s'
  obtain rfl : os' = s.os := os
  exact ⟨v, H', I.call (h' := hh) (g' := g) (d' := d) (t' := t) (ch := []) un hok bare (fun b z => absurd z (by simp)), r, q⟩
end

/-! ### calls -/
/-- f(..): the written arguments, then the defaults dvs; E: what is wanted of an exception -/
def tCall (sp : Sp) (dvs : List V) (E : XK) (t : TA) : TE := fun σ H Q => t σ H fun vs H1 => sp (vs ++ dvs) H1 Q E
/-- how the parameters are bound: us the positional arguments, kw the keywords' values by name, ds the defaults that fill up -/
def Binds (K : PySem.W.Frag) (fd : FuncData) (ps : List Str) (ds : List Value) : Prop :=
  ∀ (s : Shared) (us : List Value), K.In s.heap → (us ++ ds).length = ps.length → BindsTo s fd ⟨us, []⟩ (ps.zip (us ++ ds))
/-- every parameter is given -/
theorem Binds.all {K : PySem.W.Frag} {fd : FuncData} {ps : List Str} (h : ∀ us : List Value, us.length = ps.length → bindArgs fd ⟨us, []⟩ = pure (ps.zip us)) : Binds K fd ps [] := fun s us _ hl => by
  rw [List.append_nil] at hl ⊢
  exact .of_eq (h us hl)

/-- an exception of a callee reaches what this body wants of exceptions -/
def Passes (CX : CXT) (X : Cx) (E : XK) : Prop := ∀ (pins : List (Addr × Obj)) (σ : St) (H : Hp) (s : Shared) (e : Value) (s' : Shared), Inv X pins σ H s → CX X.stack H s E e s' → X.xe e s'

section
variable {X : Cx} {CX : CXT} {k : Nat} {f C : Addr} {fd : FuncData} {ps : List Str} {sp : Sp} {dvs : List V} {ds : List Value} {E : XK} {x m : Str} {p pos apos : Pos} {e o : Expr} {es : List Expr} {ta : TE} {t : TA}

/-- the callee runs -/
theorem run_fn {pins : List (Addr × Obj)} {σ : St} {H : Hp} {s : Shared} {Q : VK} {us : List Value} {vs : List V} (F : FnOk X.prog X.w X.K X.mg X.base CX k f fd ps sp) (hr : Room k X.A) (hb : Binds X.K fd ps ds) (hd : Vals dvs ds) (hx : Passes CX X E)
    (I : Inv X pins σ H s) (r : Vals vs us) (h : sp (vs ++ dvs) H Q E) : wpAny (model X.prog X.w) X.A (call (.ref f) us) (EP X pins σ Q) X.xe s := by
  have r2 : Vals (vs ++ dvs) (us ++ ds) := r.append hd
  have hl : (us ++ ds).length = ps.length := by rw [← r2.length]; exact F.len _ _ _ _ h
  refine wpAny_call (codeAny_mono (F.run X.A X.stack s H ⟨us, []⟩ (us ++ ds) (vs ++ dvs) Q E hr I.env0 (hb s us I.kIn hl) r2 h) fun r s' hq => ?_)
  cases r with
  | error e => exact hx pins σ H s e s' I hq
  | ok fl =>
    cases fl with
    | ret u => exact I.after hq
    | next => exact False.elim hq
    | brk => exact False.elim hq
    | cont => exact False.elim hq

theorem pe_call (F : FnOk X.prog X.w X.K X.mg X.base CX k f fd ps sp) (hr : Room k X.A) (hg : Gl X x) (hm : X.mg x = some (.ref f)) (hk : PySem.W.keepIn X.K (.ref f) = true) (hb : Binds X.K fd ps ds) (hd : Vals dvs ds) (hx : Passes CX X E)
    (ha : PA X (e :: es) t) (hdb : (x == ("__debug__" : Str)) = false := by decide) (he : starEach (e :: es) X.env = (false, eval e X.env) :: starEach es X.env := by rfl) (hpl : (backTo pos (starEach es X.env)).any (·.1) = false := by rfl) :
    PE X (.Call (.Name x p) (e :: es) [] pos) (tCall sp dvs E t) := by
  intro pins s σ H Q I h
  refine wpAny_Call_Name_kw (ld_glob I hg hm ?_ hdb)
  refine PySem.W.callWith_K (h₀ := X.base) I.ok.mod.kin hk (thn (ha pos pins s σ H _ I h) fun us s1 ⟨vs, H1, I1, r, q⟩ => ⟨I1.kIn, ?_⟩) he hpl
  exact run_fn F hr hb hd hx I1 r q
end

/-! ### keywords -/
section
variable {X : Cx} {CX : CXT} {k : Nat} {f C : Addr} {fd : FuncData} {ps ks : List Str} {sp : Sp} {E : XK} {x m : Str} {p pos apos kpos : Pos} {e o : Expr} {es : List Expr} {kws : List Keyword} {te ta : TE} {t tk : TA} {nm : Option Str}
variable {g : List Value → List Value → List Value} {gV : List V → List V → List V}
end

/-! ### a def's body keeps its promise -/
/-- names: the parameters first -/
structure FnScope (N P : List Str) (sc : Scope) : Prop where
  kind : sc.kind = .function
  co : sc.isCoroutine = false
  gen : sc.isGenerator = false
  nd : N.Nodup
  pre : N.take P.length = P
  par : ∀ x ∈ P, sc.names.lookup x = some .local ∨ sc.names.lookup x = some .cell
  nofree : ∀ y ∈ sc.names, y.2 ≠ .free

theorem bindL_out {kindOf : Str → Option NameKind} {x : Str} : ∀ {binds : List (Str × Value)} {m : Str → Option Value}, (∀ v, (x, v) ∉ binds) → bindL kindOf binds m x = m x
  | [], _, _ => rfl
  | (n, v) :: r, m, h => by
    unfold bindL
    rw [bindL_out fun w hw => h w (List.mem_cons_of_mem _ hw)]
    split
    · have : x ≠ n := by rintro rfl; exact h v List.mem_cons_self
      simp [this]
    · rfl
theorem bindC_out {kindOf : Str → Option NameKind} {x : Str} : ∀ {binds : List (Str × Value)} {m : Str → Option Value}, (∀ v, (x, v) ∉ binds) → bindC kindOf binds m x = m x
  | [], _, _ => rfl
  | (n, v) :: r, m, h => by
    unfold bindC
    rw [bindC_out fun w hw => h w (List.mem_cons_of_mem _ hw)]
    split
    · rfl
    · have : x ≠ n := by rintro rfl; exact h v List.mem_cons_self
      simp [this]
theorem bindL_get {kindOf : Str → Option NameKind} {x : Str} {v : Value} : ∀ {P : List Str} {vs : List Value} {i : Nat} {m : Str → Option Value}, P.Nodup → P[i]? = some x → vs[i]? = some v → kindOf x = some .local →
    bindL kindOf (P.zip vs) m x = some v
  | [], _, _, _, _, h, _, _ => by simp at h
  | _ :: _, [], _, _, _, _, h, _ => by simp at h
  | p :: P, w :: vs, 0, m, nd, h1, h2, hk => by
    simp at h1 h2; subst h1; subst h2
    show bindL kindOf ((p, w) :: P.zip vs) m p = _
    unfold bindL
    rw [bindL_out fun v hv => (List.nodup_cons.mp nd).1 (List.of_mem_zip hv).1, if_pos hk]
    simp
  | p :: P, w :: vs, i + 1, m, nd, h1, h2, hk => by
    show bindL kindOf ((p, w) :: P.zip vs) m x = _
    unfold bindL
    exact bindL_get (i := i) (List.nodup_cons.mp nd).2 (by simpa using h1) (by simpa using h2) hk
theorem bindC_get {kindOf : Str → Option NameKind} {x : Str} {v : Value} : ∀ {P : List Str} {vs : List Value} {i : Nat} {m : Str → Option Value}, P.Nodup → P[i]? = some x → vs[i]? = some v → kindOf x ≠ some .local →
    bindC kindOf (P.zip vs) m x = some v
  | [], _, _, _, _, h, _, _ => by simp at h
  | _ :: _, [], _, _, _, _, h, _ => by simp at h
  | p :: P, w :: vs, 0, m, nd, h1, h2, hk => by
    simp at h1 h2; subst h1; subst h2
    show bindC kindOf ((p, w) :: P.zip vs) m p = _
    unfold bindC
    rw [bindC_out fun v hv => (List.nodup_cons.mp nd).1 (List.of_mem_zip hv).1, if_neg hk]
    simp
  | p :: P, w :: vs, i + 1, m, nd, h1, h2, hk => by
    show bindC kindOf ((p, w) :: P.zip vs) m x = _
    unfold bindC
    exact bindC_get (i := i) (List.nodup_cons.mp nd).2 (by simpa using h1) (by simpa using h2) hk

/-- the names' values at the entry -/
def start (N : List Str) (vs : List V) : St := vs.map some ++ List.replicate (N.length - vs.length) none

/-- the context of a def's body, at its entry; an exception leaves the frame, then lies as CX says -/
def cxOf (CX : CXT) (P : Program) (w : World) (K : PySem.W.Frag) (mg : Str → Option Value) (base : Heap) (N : List Str) (qual : Str) (scope : Scope) (f : Addr) (cd : Value) (A : Around) (outer : List Env) (s : Shared) (H : Hp) (E : XK) : Cx where
  prog := P
  w := w
  K := K
  mg := mg
  base := base
  A := A.deeper (envOfC qual scope s.heap.objs.size f cd)
  N := N
  s₀ := s
  H₀ := H
  env := envOfC qual scope s.heap.objs.size f cd
  outer := outer
  stack := envOfC qual scope s.heap.objs.size f cd :: outer
  ex := []
  calm := true
  fn := fun _ => true
  pn := []
  xe := fun e s' => wpAny (model P w) (A.deeper (envOfC qual scope s.heap.objs.size f cd)) (leaving (envOfC qual scope s.heap.objs.size f cd) e) (fun _ s'' => CX outer H s E e s'') (fun e' s'' => CX outer H s E e' s'') s'

theorem cell_has {sc : Scope} {n : Nat} {x : Str} (h : sc.names.lookup x = some .cell) : ∃ c, (cellsFrom n sc.names []).lookup x = some c := by
  have q := PySem.W.cellsFrom_some sc.names n [] (.inl h)
  exact Option.isSome_iff_exists.mp q

theorem inv_start {CX : CXT} {P : Program} {w : World} {K : PySem.W.Frag} {mg : Str → Option Value} {base : Heap} {N ps : List Str} {qual : Str} {scope : Scope} {f : Addr} {cd : Value} {A : Around} {outer : List Env} {s s1 : Shared} {H : Hp} {E : XK} {us : List Value} {vs : List V}
    (S : FnScope N ps scope) (hd : A.handled = none) (e0 : Env0 P w K mg base A outer s H) (hl : vs.length = ps.length) (r : Vals vs us)
    (x : InCallC s s.heap.objs.size (bindL (envOfC qual scope s.heap.objs.size f cd).kindOf (ps.zip us) fun _ => none) (cellsFrom (s.heap.objs.size + 1) scope.names []) (bindC (envOfC qual scope s.heap.objs.size f cd).kindOf (ps.zip us) fun _ => none) s1) :
    Inv (cxOf CX P w K mg base N qual scope f cd A outer s H E) [] (start N vs) H s1 := by
  have hpl : ps.length ≤ N.length := by have := congrArg List.length S.pre; rw [List.length_take] at this; omega
  obtain ⟨h1, tk, rfl, hk⟩ := x.done
  have noA : ∀ b : Addr, b ∉ (cxOf CX P w K mg base N qual scope f cd A outer s H E).ex := fun b z => absurd (show b ∈ ([] : List Addr) from z) (by simp)
  refine ⟨⟨e0.mod, S.kind, rfl, rfl, Nat.le_refl _, fun y z c h1 h2 => ?_, fun y hy => ?_, fun y c _ h => ?_, fun _ => hd, Around.frames_deeper e0.frames, .inr ⟨rfl, rfl⟩, fun b z => absurd z (noA b), e0.bs, e0.bsz, fun b _ _ => noA b, fun b z => absurd z (noA b), e0.funs, e0.frf⟩,
    rfl, e0.bare, Un.kept hk, ⟨_, x.toInCall.ns, fun i y v h1 h2 h3 => ?_⟩, fun y c h => ⟨_, x.cell y c h⟩, e0.hok.fresh (Nat.le_refl _), fun y c h => ?_, fun p hp => absurd (show p ∈ ([] : List (Addr × Obj)) from hp) (by simp), e0.hok.kept hk, ?_⟩
  · exact name_of_addr x.apart (PySem.mem_of_lookup h1) (PySem.mem_of_lookup h2)
  · have hy : scope.names.lookup y = some .cell ∨ scope.names.lookup y = some .free := hy
    rcases hy with hy | hy
    · exact cell_has hy
    · exact absurd rfl (S.nofree _ (PySem.mem_of_lookup hy))
  · exact Nat.le_of_lt (x.above y c (PySem.mem_of_lookup h))
  · have hi : i < vs.length := by
      unfold start at h2
      by_cases hi : i < vs.length
      · exact hi
      · rw [List.getElem?_append_right (by simpa using hi)] at h2
        rw [List.getElem?_replicate] at h2
        split at h2 <;> cases h2
    have ha : vs[i]? = some v := by
      unfold start at h2
      rw [List.getElem?_append_left (by simpa using hi), List.getElem?_map] at h2
      cases e : vs[i]? with
      | none => rw [e] at h2; cases h2
      | some a => rw [e] at h2; cases h2; rfl
    obtain ⟨u, hu, rv⟩ := r.get ha
    have hp : ps[i]? = some y := by
      rw [← S.pre, List.getElem?_take_of_lt (by omega)]; exact h1
    have ndP : ps.Nodup := by rw [← S.pre]; exact S.nd.sublist (List.take_sublist _ _)
    refine ⟨u, rv, ?_⟩
    rcases S.par y (List.mem_of_getElem? hp) with k | k
    · exact .inl ⟨k, bindL_get ndP hp hu k⟩
    · obtain ⟨c, e⟩ := cell_has (n := s.heap.objs.size + 1) k
      refine .inr ⟨.inl k, c, e, ?_⟩
      have q := x.cell y c e
      rw [bindC_get ndP hp hu (by show scope.names.lookup y ≠ _; rw [k]; decide)] at q
      exact q
  · exact e0.hok.fresh (Nat.le_of_lt (x.above y c (PySem.mem_of_lookup h)))
  · unfold start
    show _ = N.length
    rw [List.length_append, List.length_map, List.length_replicate]
    omega

/-- THE RULE: a def (or a method) of the text, by its body. The body's reading t is chosen for each entry; it is run at the parameters' values -/
theorem fn_of {CX : CXT} {P : Program} {w : World} {K : PySem.W.Frag} {mg : Str → Option Value} {base : Heap} {k : Nat} {f : Addr} {name qual : Str} {params : Arguments} {body : List Stmt} {scope : Scope} {dV kV doc pm cdv ct oc : Value} {an od : Option Addr}
    {osl : Array (Option Value)} {N ps : List Str} {sp : Sp} (lk : K.lookup f = some ⟨oc, od, .func (PySem.W.fnOf name qual params body scope dV kV doc pm an cdv ct), osl⟩) (hcd : PySem.W.codeIn K cdv qual = true) (S : FnScope N ps scope)
    (len : ∀ vs H Q E, sp vs H Q E → vs.length = ps.length)
    (hbody : ∀ (A : Around) (outer : List Env) (s : Shared) (H : Hp) (vs : List V) (Q : VK) (E : XK), Room k (A.deeper (envOfC qual scope s.heap.objs.size f cdv)) → sp vs H Q E →
      ∃ t, PSs (cxOf CX P w K mg base N qual scope f cdv A outer s H E) body t ∧ t { nx := fun _ H' => Q .non H', rt := Q } (start N vs) H) :
    FnOk P w K mg base CX (k + 1) f (PySem.W.fnOf name qual params body scope dV kV doc pm an cdv ct) ps sp := by
  refine ⟨len, fun A outer s H args us vs Q E hr e0 hb r hsp => ?_⟩
  have hl := len _ _ _ _ hsp
  have KX : K.In s.heap := e0.mod.kin.keeps fun b o e => (e0.bs b o e).1
  have lim : s.heap.NoLimit := e0.mod.nolimit.keeps fun b o e => (e0.bs b o e).1
  have hkind : ∀ y ∈ ps.zip us, scope.names.lookup y.1 = some .local ∨ (scope.names.lookup y.1 = some .cell ∧ ((cellsFrom (s.heap.objs.size + 1) scope.names []).lookup y.1).isSome = true) := fun ⟨n, v⟩ hy => by
    rcases S.par n (List.of_mem_zip hy).1 with q | q
    · exact .inl q
    · exact .inr ⟨q, PySem.W.cellsFrom_some _ _ _ (.inl q)⟩
  refine codeAny_call_function hr.depth (KX _ _ lk) rfl S.co S.gen rfl (PySem.W.codeRec_of KX hcd) (hb _ _ _ _ ?_)
  refine wpAny_newFunctionEnv_cells S.kind hkind fun env he s1 x => ?_
  subst he
  refine ⟨lim.keeps x.toInCall.keep, codeAny_func ?_⟩
  obtain ⟨t, ht, hq⟩ := hbody A outer s H vs Q E (hr.deeper _) hsp
  have I : Inv (cxOf CX P w K mg base N qual scope f cdv A outer s H E) [] (start N vs) H s1 := inv_start S hr.hd e0 hl r x
  refine wpAny_mono (ht [] s1 (start N vs) H _ I hq) (fun fl s' hs => ?_) fun e s' hs => hs
  have fin : ∀ {σ' : St} {H' : Hp} {v : V} {u : Value}, Inv (cxOf CX P w K mg base N qual scope f cdv A outer s H E) [] σ' H' s' → RelV v u → Q v H' → CE outer P w H s Q u s' :=
    fun {σ' H' v u} J rv q => ⟨v, H', J.os, J.bare, J.base, J.hok, rv, q⟩
  cases fl with
  | ret u =>
    obtain ⟨v, σ', H', J, rv, q⟩ := hs
    exact fin J rv q
  | next =>
    obtain ⟨σ', H', J, q⟩ := hs
    exact fin (v := V.non) (u := Value.none) J rfl q
  | brk =>
    obtain ⟨_, _, _, q⟩ := hs
    exact False.elim q
  | cont =>
    obtain ⟨_, _, _, q⟩ := hs
    exact False.elim q
end L2

namespace L2
open PySem PySem.Spec PyProof.Rows
section
variable {X : Cx} {x : Str} {p pos : Pos} {e : Expr} {es : List Expr} {t : TA} {id T : String} {r : List V → Hp → VK → Prop}

def tCB (r : List V → Hp → VK → Prop) (t : TA) : TE := fun σ H Q => t σ H fun vs H1 => r vs H1 Q
/-- f(e, ..), f a built-in function -/
theorem pe_callB (hc : CallR X (.builtin id) r) (hg : Gl X x) (hm : X.mg x = none) (hv : bootBuiltins x = some (.builtin id)) (ha : PA X (e :: es) t) (hn : x ≠ "__name__" := by decide) (hdb : (x == ("__debug__" : Str)) = false := by decide)
    (he : starEach (e :: es) X.env = (false, eval e X.env) :: starEach es X.env := by rfl) (hpl : (backTo pos (starEach es X.env)).any (·.1) = false := by rfl) : PE X (.Call (.Name x p) (e :: es) [] pos) (tCB r t) := by
  intro pins s σ H Q I h
  refine wpAny_Call_Name_kw (ld_blt I hg hm hv ?_ hn hdb)
  exact PyProof.Rows.callWith_builtin1 (thn (ha pos pins s σ H _ I h) fun us s1 ⟨vs, H1, I1, r1, q1⟩ => hc pins s1 σ H1 vs us Q I1 r1 q1) he hpl
/-- T(e, ..), T a built-in type -/
theorem pe_callTy (hc : CallR X (.type T) r) (hg : Gl X x) (hm : X.mg x = none) (hv : bootBuiltins x = some (.type T)) (ha : PA X (e :: es) t) (hn : x ≠ "__name__" := by decide) (hdb : (x == ("__debug__" : Str)) = false := by decide)
    (he : starEach (e :: es) X.env = (false, eval e X.env) :: starEach es X.env := by rfl) (hpl : (backTo pos (starEach es X.env)).any (·.1) = false := by rfl) : PE X (.Call (.Name x p) (e :: es) [] pos) (tCB r t) := by
  intro pins s σ H Q I h
  refine wpAny_Call_Name_kw (ld_blt I hg hm hv ?_ hn hdb)
  exact PyProof.Rows.callWith_type1 (thn (ha pos pins s σ H _ I h) fun us s1 ⟨vs, H1, I1, r1, q1⟩ => hc pins s1 σ H1 vs us Q I1 r1 q1) he hpl
end
end L2

namespace HT
open PySem PyProof.Rows

section
open PySem.SeqAt
open PySem.AutoSeq1 (wpAny_loadPart')
open PySem.MeetsSeq PySem.MeetsSeq2 PySem.MeetsSeq3

end

section
variable {prog : Program} {w : World} {A : Around} {E : Value → Shared → Prop} {s : Shared}

/-! ### t[a:b], not the whole -/
/-- a slice's bound as a place among n (d where it is left out) -/
def sIx (n d : Nat) : Option Int → Nat
  | none => d
  | some v => if v < 0 then (v + (n : Int)).toNat else min v.toNat n
theorem sIx_none (n d : Nat) : sIx n d none = d := rfl
end
end HT

namespace L2
open PySem PySem.Spec PyProof.Rows

/-! ### the parts of a slice -/
abbrev TO := St → Hp → (Option Int → Hp → Prop) → Prop
/-- a slice's part (left out, or an int) -/
def PO (X : Cx) (e : Option Expr) (t : TO) : Prop :=
  ∀ (pins : List (Addr × Obj)) (s : Shared) (σ : St) (H : Hp) (Q : Option Int → Hp → Prop), Inv X pins σ H s → t σ H Q →
    wpAny (model X.prog X.w) X.A (evalPart e X.env) (fun u s' => ∃ o H', Inv X pins σ H' s' ∧ IsPart u o ∧ Q o H') X.xe s
def tNoPart : TO := fun _ H Q => Q none H
def tPart (t : TE) : TO := fun σ H Q => t σ H fun x H1 => ∃ i, x = .int i ∧ Q (some i) H1

section
variable {X : Cx} {e : Expr} {te : TE} {lo hi : Option Expr} {tl th : TO} {pos p2 : Pos}

theorem po_none : PO X none tNoPart := by
  intro pins s σ H Q I h
  rw [evalPart_none]
  exact wpAny_pure ⟨none, H, I, .none, h⟩
theorem po_some (h : PE X e te) : PO X (some e) (tPart te) := by
  intro pins s σ H Q I hw
  rw [evalPart_some]
  refine thn (h pins s σ H _ I hw) fun u s1 ⟨x, H1, I1, r1, q1⟩ => ?_
  obtain ⟨i, rfl, q⟩ := q1
  obtain ⟨t, rfl⟩ := r1
  exact ⟨some i, H1, I1, .int i t, q⟩

/-- what a slice of a value is, by values: the slice object stands at sl -/
def SlR (X : Cx) (r : V → Option Int → Option Int → Hp → VK → Prop) : Prop :=
  ∀ (pins : List (Addr × Obj)) (s : Shared) (σ : St) (H : Hp) (x : V) (v vl vu : Value) (lo hi : Option Int) (sl : Addr) (Q : VK), Inv X pins σ H s → RelV x v → s.heap.IsSliceOf sl vl vu .none → IsPart vl lo → IsPart vu hi → r x lo hi H Q →
    ∃ T id, typeLookup (.type T) "__getitem__" = pure (some (.builtin id)) ∧ s.TypeIs v T ∧ wpAny (model X.prog X.w) X.A (getItem v (.ref sl)) (EP X pins σ Q) X.xe s
def tSl (r : V → Option Int → Option Int → Hp → VK → Prop) (te : TE) (tl th : TO) : TE := fun σ H Q => te σ H fun x H1 => tl σ H1 fun l H2 => th σ H2 fun u H3 => r x l u H3 Q
/-- a[lo:hi], any a -/
theorem pe_slice {r : V → Option Int → Option Int → Hp → VK → Prop} (hr : SlR X r) (he : PE X e te) (hl : PO X lo tl) (hu : PO X hi th) : PE X (.Subscript e (.Slice lo hi none p2) pos) (tSl r te tl th) := by
  intro pins s σ H Q I h
  refine Subscript_ (thn (he pins s σ H _ I h) fun v s1 ⟨x, H1, I1, r1, q1⟩ => ?_)
  refine wpAny_Slice (thn (hl pins s1 σ H1 _ I1 q1) fun vl s2 ⟨l, H2, I2, pl, q2⟩ => thn (hu pins s2 σ H2 _ I2 q2) fun vu s3 ⟨u, H3, I3, pu, q3⟩ => ?_)
  rw [evalPart_none]
  refine wpAny_pure ?_
  have I4 : Inv X pins σ H3 { s3 with heap := s3.heap.push { cls := .type "slice", data := .fields #[vl, vu, .none] } } := I3.kept (t' := s3.toks) fun b ob q => Heap.get?_push_of_some _ q
  obtain ⟨T, id, hT, ht, hg⟩ := hr pins { s3 with heap := s3.heap.push { cls := .type "slice", data := .fields #[vl, vu, .none] } } σ H3 x v vl vu l u s3.heap.objs.size Q I4 r1 (Heap.IsSliceOf.new ..) pl pu q3
  show wpAny (model X.prog X.w) X.A (subscriptTail e (.Slice lo hi none p2) v (.ref s3.heap.objs.size)) (EP X pins σ Q) X.xe { s3 with heap := s3.heap.push { cls := .type "slice", data := .fields #[vl, vu, .none] } }
  exact tail_any (ops := [.ref s3.heap.objs.size, v]) ht hT hg (by with_unfolding_all rfl)

/-- the items of xs[lo:hi] -/
def cutV (xs : List V) (lo hi : Option Int) : List V := (xs.drop (HT.sIx xs.length 0 lo)).take (HT.sIx xs.length xs.length hi - HT.sIx xs.length 0 lo)
theorem cutV_length (xs : List V) (lo hi : Option Int) : (cutV xs lo hi).length ≤ xs.length := by
  unfold cutV
  rw [List.length_take, List.length_drop]
  omega
/-! ### t < u, t + u -/
end
end L2

namespace L2
open PySem PySem.Spec PyProof.Rows

/-! ### places -/
/-- the place that an index of any sign means -/
def ixN (n : Nat) (i : Int) : Option Nat := if 0 ≤ i then (if i < n then some i.toNat else none) else if -(n : Int) ≤ i then some (i + n).toNat else none
def atI {α : Type} (xs : List α) (i : Int) : Option α := (ixN xs.length i).bind fun j => xs[j]?
theorem ixN_seq {n : Nat} {i : Int} {j : Nat} (h : ixN n i = some j) : seqIndex? i n = some j ∧ j < n ∧ -(n : Int) ≤ i ∧ i < n := by
  unfold ixN at h
  by_cases h0 : 0 ≤ i
  · rw [if_pos h0] at h
    by_cases h1 : i < n
    · rw [if_pos h1] at h
      have e : i.toNat = j := Option.some.inj h
      exact ⟨by rw [seqIndex_of h0 h1, e], by omega, by omega, h1⟩
    · rw [if_neg h1] at h; cases h
  · rw [if_neg h0] at h
    by_cases h1 : -(n : Int) ≤ i
    · rw [if_pos h1] at h
      have e : (i + n).toNat = j := Option.some.inj h
      exact ⟨by rw [seqIndex_neg (by omega) h1, e], by omega, h1, by omega⟩
    · rw [if_neg h1] at h; cases h
theorem atI_get {α : Type} {xs : List α} {i : Int} {v : α} (h : atI xs i = some v) : ∃ j, seqIndex? i xs.length = some j ∧ xs[j]? = some v ∧ j < xs.length ∧ -(xs.length : Int) ≤ i ∧ i < xs.length := by
  unfold atI at h
  cases e : ixN xs.length i with
  | none => rw [e] at h; cases h
  | some j =>
    rw [e] at h
    obtain ⟨h1, h2, h3, h4⟩ := ixN_seq e
    exact ⟨j, h1, h, h2, h3, h4⟩
theorem atI_nat {α : Type} {xs : List α} {j : Nat} {v : α} (h : xs[j]? = some v) : atI xs (j : Int) = some v := by
  have hj : j < xs.length := (List.getElem?_eq_some_iff.mp h).1
  have e : ixN xs.length (j : Int) = some j := by
    unfold ixN
    rw [if_pos (by omega), if_pos (by omega)]; simp
  unfold atI; rw [e]; exact h
/-! ### what may be subscripted -/
/-- what stands as an index of a plain subscript -/
def PlainIx (b : Expr) : Prop := ∀ o i, subscripted b false o i = operate [o, i] (getItem o i)
/-- a subscript by values -/
def IxR (X : Cx) (r : R2) : Prop :=
  ∀ (value slice : Expr) (pins : List (Addr × Obj)) (s : Shared) (σ : St) (H : Hp) (x y : V) (v u : Value) (Q : VK), Inv X pins σ H s → RelV x v → RelV y u → r x y H Q →
    subscripted slice false v u = operate [v, u] (getItem v u) → wpAny (model X.prog X.w) X.A (subscriptTail value slice v u) (EP X pins σ Q) X.xe s
/-- a call of a builtin's method by values: the receiver, the arguments -/
def MtR (X : Cx) (id : String) (r : V → List V → Hp → VK → Prop) : Prop :=
  ∀ (pins : List (Addr × Obj)) (s : Shared) (σ : St) (H : Hp) (x : V) (xs : List V) (v : Value) (us : List Value) (Q : VK), Inv X pins σ H s → RelV x v → Vals xs us → r x xs H Q →
    wpAny (model X.prog X.w) X.A (call (.builtin id) (v :: us)) (EP X pins σ Q) X.xe s
section
variable {X : Cx} {a b : Expr} {ta tb : TE} {pos : Pos}
/-- a[b] -/
theorem pe_ix {r : R2} (hr : IxR X r) (ha : PE X a ta) (hb : PE X b tb) (hs : PlainIx b) : PE X (.Subscript a b pos) (tOp r ta tb) := by
  intro pins s σ H Q I h
  exact Subscript_ (binT ha hb I h fun v u s2 x y H2 I2 rx ry q => hr a b pins s2 σ H2 x y v u Q I2 rx ry q (hs _ _))

def rIxL (K : PySem.W.Frag) : R2 := fun x y H Q => ∃ p xs i v, x = .ref p ∧ y = .int i ∧ SqL K H p xs ∧ atI xs i = some v ∧ Q v H
def rIxT (K : PySem.W.Frag) : R2 := fun x y H Q => ∃ p xs i v, x = .ref p ∧ y = .int i ∧ SqT K H p xs ∧ atI xs i = some v ∧ Q v H
theorem ix_list : IxR X (rIxL X.K) := by
  intro value slice pins s σ H x y v u Q I rx ry h hs
  obtain ⟨p, xs, i, z, rfl, rfl, hq, he, q⟩ := h
  cases rx
  obtain ⟨t, rfl⟩ := ry
  obtain ⟨its, r, pl, hz⟩ := I.list hq
  obtain ⟨j, h1, h2, h3, h4, h5⟩ := atI_get he
  obtain ⟨w, ew, rw'⟩ := r.get h2
  have hl := r.length
  have hn := line63
  have fin : EP X pins σ Q w s := ⟨z, H, I, rw', q⟩
  by_cases h0 : 0 ≤ i
  · have hj : i.toNat = j := by
      rw [seqIndex_of h0 h5] at h1
      exact Option.some.inj h1
    exact item_listR pl.isList h0 (by omega) (by rw [hj]; simpa using ew) fin hs
  · have hj : (i + (its.toArray.size : Int)).toNat = j := by
      rw [seqIndex_neg (by omega) h4] at h1
      rw [List.size_toArray, ← hl]
      exact Option.some.inj h1
    exact subscriptTail_builtinR (x := w) pl.isList.typeIs slot_list_getitem.lookup
      (wpAny_getItem_list_neg (Q := fun r s' => r = w ∧ EP X pins σ Q r s') pl.isList (by omega) (by rw [List.size_toArray] <;> omega) (by omega) (by rw [hj]; simpa using ew) ⟨rfl, fin⟩) hs
theorem ix_tup : IxR X (rIxT X.K) := by
  intro value slice pins s σ H x y v u Q I rx ry h hs
  obtain ⟨p, xs, i, z, rfl, rfl, hq, he, q⟩ := h
  cases rx
  obtain ⟨t, rfl⟩ := ry
  obtain ⟨its, r, pl, hz⟩ := I.tuple hq
  obtain ⟨j, h1, h2, h3, h4, h5⟩ := atI_get he
  obtain ⟨w, ew, rw'⟩ := r.get h2
  have hl := r.length
  have hn := line63
  have fin : EP X pins σ Q w s := ⟨z, H, I, rw', q⟩
  exact subscriptTail_builtinR (x := w) pl.typeIs slot_tuple_getitem.lookup
    (getItem_tuple (j := j) (Q := fun r s' => r = w ∧ EP X pins σ Q r s') pl (by omega) (by omega) (by rw [List.size_toArray, ← hl]; exact h1) (by simpa using ew) ⟨rfl, fin⟩) hs
/-! ### xs[i] = v, any sign -/
/-- the list's object behind a store -/
theorem mapSeq_set (its : List Value) (n j : Nat) (u : Value) : Obj.mapSeq (·.setIfInBounds j u) { cls := .type "list", data := .seq its.toArray n } = { cls := .type "list", data := .seq (its.set j u).toArray n } := by
  simp [Obj.mapSeq]
theorem Inv.lst {pins : List (Addr × Obj)} {σ : St} {H : Hp} {s : Shared} {p : Addr} {xs : List V} (I : Inv X pins σ H s) (h : H p = some (.lst xs)) :
    ∃ (its : List Value) (n : Nat), Vals xs its ∧ s.heap.get? p = some { cls := .type "list", data := .seq its.toArray n } ∧ xs.length ≤ sizeLine := by
  obtain ⟨z, its, n, r, e⟩ := I.hok p _ h
  exact ⟨its, n, r, e, z⟩
/-- the list at p is written by an update of its object -/
theorem Inv.lstUpd {pins : List (Addr × Obj)} {σ : St} {H : Hp} {s : Shared} {p : Addr} {xs ys : List V} {its its' : List Value} {n n' : Nat} {f : Obj → Obj} (I : Inv X pins σ H s) (h : H p = some (.lst xs))
    (ho : s.heap.get? p = some { cls := .type "list", data := .seq its.toArray n }) (hf : f { cls := .type "list", data := .seq its.toArray n } = { cls := .type "list", data := .seq its'.toArray n' }) (r : Vals ys its') (hz : ys.length ≤ sizeLine) (t : Nat) :
    Inv X pins σ (upd H p (.lst ys)) { s with heap := s.heap.update p f, toks := t } := by
  have e : (s.heap.update p f).get? p = some { cls := .type "list", data := .seq its'.toArray n' } := by
    rw [Heap.get?_update_self f ho (by rw [hf] <;> rfl), hf]
  refine I.write (x := p) (e := p) (by rw [h]; trivial) (.inl rfl) (fun b u hb q => (Heap.get?_update_other _ _ (Ne.symm hb)).trans q) ⟨_, e⟩ ?_
  exact ⟨hz, its', n', r, e⟩
def rSetL : V → V → V → Hp → (Hp → Prop) → Prop := fun o i v H Q => ∃ p xs k j, o = .ref p ∧ i = .int k ∧ H p = some (.lst xs) ∧ ixN xs.length k = some j ∧ Q (upd H p (.lst (xs.set j v)))
theorem set_list : PSet X rSetL := by
  intro pins s σ H o i v ov iv u Q I ro ri rv h
  obtain ⟨p, xs, k, j, rfl, rfl, hp, hj, q⟩ := h
  cases ro
  obtain ⟨t, rfl⟩ := ri
  obtain ⟨its, n, r, ho, hz⟩ := I.lst hp
  obtain ⟨h1, h2, h3, h4⟩ := ixN_seq hj
  have hl := r.length
  have hn := line63
  have I' : Inv X pins σ (upd H p (.lst (xs.set j v))) { s with heap := s.heap.update p (Obj.mapSeq (·.setIfInBounds j u)) } :=
    I.lstUpd hp ho (mapSeq_set its n j u) (r.set rv j) (by rw [List.length_set]; exact hz) s.toks
  by_cases h0 : 0 ≤ k
  · have hk : k.toNat = j := by
      rw [seqIndex_of h0 h4] at h1
      exact Option.some.inj h1
    exact PySem.W.ki_setAt ho h0 (by omega) (by rw [List.size_toArray, ← hl]; exact h4) (by rw [hk]; exact ⟨_, I', q⟩)
  · have hk : (k + (its.toArray.size : Int)).toNat = j := by
      rw [seqIndex_neg (by omega) h3] at h1
      rw [List.size_toArray, ← hl]
      exact Option.some.inj h1
    exact PySem.W.ki_setBack ho (by omega) (by rw [List.size_toArray, ← hl]; exact h3) (by omega) (by rw [hk]; exact ⟨_, I', q⟩)

/-! ### slices -/
theorem slice_bounds (lo hi : Option Int) (n : Nat) : (sliceBounds lo hi none n).1 = ((HT.sIx n 0 lo : Nat) : Int) ∧ (sliceBounds lo hi none n).2.1 = ((HT.sIx n n hi : Nat) : Int) ∧ (sliceBounds lo hi none n).2.2 = 1 := by
  refine ⟨?_, ?_, rfl⟩
  · cases lo with
    | none => simp [sliceBounds, HT.sIx]
    | some i =>
      simp only [sliceBounds, HT.sIx, Option.getD_none, show (1 : Int) > 0 by decide, if_true]
      by_cases h : i < 0
      · simp only [h, if_true] <;> omega
      · simp only [h, if_false] <;> omega
  · cases hi with
    | none => simp [sliceBounds, HT.sIx]
    | some i =>
      simp only [sliceBounds, HT.sIx, Option.getD_none, show (1 : Int) > 0 by decide, if_true]
      by_cases h : i < 0
      · simp only [h, if_true] <;> omega
      · simp only [h, if_false] <;> omega
theorem slicePick_cut (its : List Value) (lo hi : Option Int) : slicePick its.toArray lo hi none = ((its.drop (HT.sIx its.length 0 lo)).take (HT.sIx its.length its.length hi - HT.sIx its.length 0 lo)).toArray := by
  obtain ⟨h1, h2, h3⟩ := slice_bounds lo hi its.toArray.size
  unfold slicePick
  rw [h1, h2, h3]
  simp only [sliceRange_one, pick_run, List.size_toArray] <;> rfl
/-- xs[lo:hi] of a list: a new list -/
def rSlL (K : PySem.W.Frag) : V → Option Int → Option Int → Hp → VK → Prop := fun x lo hi H Q => ∃ a xs, x = .ref a ∧ SqL K H a xs ∧ ∀ p, H p = none → Q (.ref p) (upd H p (.lst (cutV xs lo hi)))
theorem sl_list : SlR X (rSlL X.K) := by
  intro pins s σ H x v vl vu lo hi sl Q I rx hs pl pu h
  obtain ⟨a, xs, rfl, hx, q⟩ := h
  cases rx
  obtain ⟨its, r, ht, hz⟩ := I.list hx
  have hlen := r.length
  refine ⟨"list", _, slot_list_getitem.lookup, ht.isList.typeIs, ?_⟩
  refine wpAny_getItem_list_slice ht.isList hs pl pu .none (by simp) ?_ (by rw [List.size_toArray] <;> omega)
  rw [slicePick_cut, ← hlen]
  refine ⟨.ref s.heap.objs.size, _, I.laid (t' := s.toks) (o := .lst (cutV xs lo hi)) (fun b ob q => Heap.get?_push_of_some _ q) (Nat.le_refl _) ?_, rfl, q _ (I.hok.fresh (Nat.le_refl _))⟩
  exact ⟨Nat.le_trans (cutV_length xs lo hi) hz, _, 0, (r.drop (HT.sIx xs.length 0 lo)).take (HT.sIx xs.length xs.length hi - HT.sIx xs.length 0 lo), Heap.get?_push_size _ rfl⟩

/-! ### in, not in: flat items -/
def flatV : V → Bool
  | .non => true
  | .bl _ => true
  | .int _ => true
  | .str _ => true
  | _ => false
/-- == of flat values -/
def eqV : V → V → Bool
  | .non, .non => true
  | .bl a, .bl b => a == b
  | .bl a, .int b => (if a then 1 else 0) == b
  | .int a, .bl b => a == (if b then 1 else 0)
  | .int a, .int b => a == b
  | .str a, .str b => a == b
  | _, _ => false
theorem eqAt_V {A : Around} {s : Shared} {y x : V} {u v : Value} (ry : RelV y u) (rx : RelV x v) (fy : flatV y = true) (fx : flatV x = true) : SeqAt.EqAt A s u v (eqV y x) := by
  cases y with
  | non =>
    cases ry
    cases x with
    | non => cases rx; exact SeqAt.EqAt.same _
    | bl b => cases rx; exact SeqAt.EqAt.none_bool b
    | int b => obtain ⟨t, rfl⟩ := rx; exact SeqAt.EqAt.none_int b t
    | str b => obtain ⟨t, rfl⟩ := rx; exact SeqAt.EqAt.none_str b t
    | _ => exact absurd (show false = true from fx) Bool.false_ne_true
  | bl a =>
    cases ry
    cases x with
    | non => cases rx; exact SeqAt.EqAt.bool_none a
    | bl b => cases rx; exact SeqAt.EqAt.bool_bool a b
    | int b => obtain ⟨t, rfl⟩ := rx; exact SeqAt.EqAt.bool_int a b t
    | str b => obtain ⟨t, rfl⟩ := rx; exact SeqAt.EqAt.bool_str a b t
    | _ => exact absurd (show false = true from fx) Bool.false_ne_true
  | int a =>
    obtain ⟨t', rfl⟩ := ry
    cases x with
    | non => cases rx; exact SeqAt.EqAt.int_none a t'
    | bl b => cases rx; exact SeqAt.EqAt.int_bool a t' b
    | int b => obtain ⟨t, rfl⟩ := rx; exact SeqAt.EqAt.int_int a t' b t
    | str b => obtain ⟨t, rfl⟩ := rx; exact SeqAt.EqAt.int_str a t' b t
    | _ => exact absurd (show false = true from fx) Bool.false_ne_true
  | str a =>
    obtain ⟨t', rfl⟩ := ry
    cases x with
    | non => cases rx; exact SeqAt.EqAt.str_none a t'
    | bl b => cases rx; exact SeqAt.EqAt.str_bool a t' b
    | int b => obtain ⟨t, rfl⟩ := rx; exact SeqAt.EqAt.str_int a t' b t
    | str b => obtain ⟨t, rfl⟩ := rx; exact SeqAt.EqAt.str_str a t' b t
    | _ => exact absurd (show false = true from fx) Bool.false_ne_true
  | _ => exact absurd (show false = true from fy) Bool.false_ne_true
/-- the items' answers, read off the values (a value's own answer does not lean on its token) -/
def eqU (x : V) (u : Value) : Bool := match u with
  | .none => eqV .non x
  | .bool b => eqV (.bl b) x
  | .int i _ => eqV (.int i) x
  | .str z _ => eqV (.str z) x
  | _ => false
theorem eqU_of {x y : V} {u : Value} (r : RelV y u) (f : flatV y = true) : eqU x u = eqV y x := by
  cases y with
  | non => cases r; rfl
  | bl b => cases r; rfl
  | int i => obtain ⟨t, rfl⟩ := r; rfl
  | str z => obtain ⟨t, rfl⟩ := r; rfl
  | _ => exact absurd (show false = true from f) Bool.false_ne_true
theorem any_eqU {x : V} : ∀ {xs : List V} {us : List Value}, Vals xs us → xs.all flatV = true → us.any (eqU x) = xs.any fun y => eqV y x
  | _, _, .nil, _ => rfl
  | y :: xs, u :: us, .cons r t, f => by
    rw [List.all_cons, Bool.and_eq_true] at f
    rw [List.any_cons, List.any_cons, eqU_of r f.1, any_eqU t f.2]
theorem mem_eqAt {A : Around} {s : Shared} {x : V} {v : Value} (rx : RelV x v) (fx : flatV x = true) : ∀ {xs : List V} {us : List Value}, Vals xs us → xs.all flatV = true → ∀ u ∈ us, SeqAt.EqAt A s u v (eqU x u)
  | _, _, .nil, _ => fun u hu => by cases hu
  | y :: xs, u :: us, .cons r t, f => fun u' hu => by
    rw [List.all_cons, Bool.and_eq_true] at f
    rcases List.mem_cons.mp hu with rfl | hu
    · rw [eqU_of r f.1]; exact eqAt_V r rx f.1 fx
    · exact mem_eqAt rx fx t f.2 u' hu
def inV (x : V) (xs : List V) : Bool := xs.any fun y => eqV y x
/-- x in a list or tuple of flat items -/
def rIn (K : PySem.W.Frag) (neg : Bool) : R2 := fun x y H Q => ∃ p xs, y = .ref p ∧ (SqL K H p xs ∨ SqT K H p xs) ∧ flatV x = true ∧ xs.all flatV = true ∧ Q (.bl (if neg then !inV x xs else inV x xs)) H
theorem op_in_seq : OpR X (compareOp .In) (rIn X.K false) := by
  intro pins s σ H x y v u Q I rx ry h
  obtain ⟨p, xs, rfl, hq, fx, fs, q⟩ := h
  cases ry
  rcases hq with hq | hq
  · obtain ⟨its, r, pl, hz⟩ := I.list hq
    refine SeqAt.in_listAt (eqU x) pl.isList (fun w hw => mem_eqAt rx fx r fs w (by simpa using hw)) ⟨.bl _, H, I, rfl, ?_⟩
    rw [show its.toArray.any (eqU x) = its.any (eqU x) by simp, any_eqU r fs]
    exact q
  · obtain ⟨its, r, pl, hz⟩ := I.tuple hq
    refine SeqAt.in_tupleAt (eqU x) pl (fun w hw => mem_eqAt rx fx r fs w (by simpa using hw)) ⟨.bl _, H, I, rfl, ?_⟩
    rw [show its.toArray.any (eqU x) = its.any (eqU x) by simp, any_eqU r fs]
    exact q
theorem op_notIn_seq : OpR X (compareOp .NotIn) (rIn X.K true) := by
  intro pins s σ H x y v u Q I rx ry h
  obtain ⟨p, xs, rfl, hq, fx, fs, q⟩ := h
  cases ry
  rcases hq with hq | hq
  · obtain ⟨its, r, pl, hz⟩ := I.list hq
    refine SeqAt.notIn_listAt (eqU x) pl.isList (fun w hw => mem_eqAt rx fx r fs w (by simpa using hw)) ⟨.bl _, H, I, rfl, ?_⟩
    rw [show its.toArray.any (eqU x) = its.any (eqU x) by simp, any_eqU r fs]
    exact q
  · obtain ⟨its, r, pl, hz⟩ := I.tuple hq
    refine SeqAt.notIn_tupleAt (eqU x) pl (fun w hw => mem_eqAt rx fx r fs w (by simpa using hw)) ⟨.bl _, H, I, rfl, ?_⟩
    rw [show its.toArray.any (eqU x) = its.any (eqU x) by simp, any_eqU r fs]
    exact q
/-! ### len, list(x), tuple(x) of any list or tuple that is read -/
theorem call_len_seq : CallR X (.builtin "len") (fun xs H Q => ∃ p ys, xs = [.ref p] ∧ (SqL X.K H p ys ∨ SqT X.K H p ys) ∧ Q (.int ys.length) H) := by
  intro pins s σ H xs us Q I r h
  obtain ⟨p, ys, rfl, hq, q⟩ := h
  obtain ⟨u, rfl, rx⟩ := vals1 r
  cases rx
  have hn := line63
  rcases hq with hq | hq
  · obtain ⟨its, r', pl, hz⟩ := I.list hq
    have hlen := r'.length
    exact Calls.call_len_list pl.isList (by simp only [List.size_toArray] <;> omega) ⟨.int ys.length, H, I.tok _, ⟨s.toks + 1, by rw [List.size_toArray, hlen]⟩, q⟩
  · obtain ⟨its, r', pl, hz⟩ := I.tuple hq
    have hlen := r'.length
    exact len_tuple pl (by simp only [List.size_toArray] <;> omega) ⟨.int ys.length, H, I.tok _, ⟨s.toks + 1, by rw [List.size_toArray, hlen]⟩, q⟩
theorem call_list_of : CallR X (.type "list") (fun xs H Q => ∃ p ys, xs = [.ref p] ∧ (SqL X.K H p ys ∨ SqT X.K H p ys) ∧ ∀ l, H l = none → Q (.ref l) (upd H l (.lst ys))) := by
  intro pins s σ H xs us Q I r h
  obtain ⟨p, ys, rfl, hq, q⟩ := h
  obtain ⟨u, rfl, rx⟩ := vals1 r
  cases rx
  have fin : ∀ (its : List Value), Vals ys its → ys.length ≤ sizeLine → ∀ (h' : Heap) (c' : Nat), (∀ b o', s.heap.get? b = some o' → h'.get? b = some o') →
      h'.get? s.heap.objs.size = some { cls := .type "list", dict := none, data := .seq its.toArray c', slots := #[] } → EP X pins σ Q (.ref s.heap.objs.size) { s with heap := h' } := fun its r' hz h' c' kp e =>
    ⟨.ref s.heap.objs.size, _, I.laid (t' := s.toks) kp (Nat.le_refl _) (show ObjOk X.prog X.w _ h' _ (.lst ys) from ⟨hz, its, c', r', e⟩), rfl, q _ (I.hok.fresh (Nat.le_refl _))⟩
  rcases hq with hq | hq
  · obtain ⟨its, r', pl, hz⟩ := I.list hq
    have hlen := r'.length
    obtain ⟨o, ho, hc, n, hd⟩ := pl.isList
    exact call_list_seq p (.inl rfl) ho hc hd (fun h' c' kp e => fin its r' hz h' c' kp e) (by simp only [List.size_toArray] <;> omega)
  · obtain ⟨its, r', pl, hz⟩ := I.tuple hq
    have hlen := r'.length
    obtain ⟨o, ho, hc, n, hd⟩ := pl
    exact call_list_seq p (.inr rfl) ho hc hd (fun h' c' kp e => fin its r' hz h' c' kp e) (by simp only [List.size_toArray] <;> omega)
theorem call_tuple_of : CallR X (.type "tuple") (fun xs H Q => ∃ p ys, xs = [.ref p] ∧ ((SqL X.K H p ys ∧ ∀ l, H l = none → Q (.ref l) (upd H l (.tup ys))) ∨ (SqT X.K H p ys ∧ Q (.ref p) H))) := by
  intro pins s σ H xs us Q I r h
  obtain ⟨p, ys, rfl, h⟩ := h
  obtain ⟨u, rfl, rx⟩ := vals1 r
  cases rx
  rcases h with ⟨hq, q⟩ | ⟨hq, q⟩
  · obtain ⟨its, r', pl, hz⟩ := I.list hq
    have hlen := r'.length
    refine call_tuple_list pl.isList (fun h' kp => ?_) (by simp only [List.size_toArray] <;> omega)
    have I1 : Inv X pins σ H { s with heap := h' } := I.kept (t' := s.toks) kp
    have I2 : Inv X pins σ (upd H h'.objs.size (.tup ys)) { s with heap := h'.push { cls := .type "tuple", data := .seq its.toArray } } :=
      I1.laid (t' := s.toks) (fun b o e => Heap.get?_push_of_some _ e) (Nat.le_refl _) (show ObjOk X.prog X.w _ _ _ (.tup ys) from ⟨hz, its, r', IsTup.new _ _⟩)
    exact ⟨.ref h'.objs.size, _, I2, rfl, q _ (I1.hok.fresh (Nat.le_refl _))⟩
  · obtain ⟨its, r', pl, hz⟩ := I.tuple hq
    exact call_tuple_same pl ⟨.ref p, H, I, rfl, q⟩

/-! ### the call of a builtin's method: o.m(..) -/
/-- the value is of that builtin type -/
def tyV (K : PySem.W.Frag) (T : String) (x : V) (H : Hp) : Prop := match x with
  | .str _ => T = "str"
  | .int _ => T = "int"
  | .ref p => (T = "list" ∧ ∃ xs, SqL K H p xs) ∨ (T = "tuple" ∧ ∃ o, K.lookup p = some o ∧ o.cls = .type "tuple" ∧ o.dict = none) ∨
      (T = "dict" ∧ ((∃ kvs, H p = some (.dK kvs)) ∨ ∃ kvs, H p = some (.dT kvs))) ∨ (T = "set" ∧ ∃ S n, H p = some (.set S n))
  | _ => False
theorem tyV_is {pins : List (Addr × Obj)} {σ : St} {H : Hp} {s : Shared} {T : String} {x : V} {v : Value} (I : Inv X pins σ H s) (r : RelV x v) (ty : tyV X.K T x H) :
    s.TypeIs v T ∧ ∀ a, v = .ref a → ∃ ob, s.heap.get? a = some ob ∧ ob.dict = none := by
  cases x with
  | str z =>
    obtain ⟨t, rfl⟩ := r
    cases (show T = "str" from ty)
    exact ⟨typeIs_str s z t, fun _ e => nomatch e⟩
  | int i =>
    obtain ⟨t, rfl⟩ := r
    cases (show T = "int" from ty)
    exact ⟨typeIs_int s i t, fun _ e => nomatch e⟩
  | ref p =>
    cases r
    rcases ty with ⟨rfl, xs, hq⟩ | ⟨rfl, o, hk, hc, hd⟩ | ⟨rfl, hk⟩ | ⟨rfl, S, n, hk⟩
    · obtain ⟨its, _, pl, _⟩ := I.list hq
      refine ⟨pl.isList.typeIs, fun a e => ?_⟩
      cases e
      obtain ⟨o, n, e, c, hd, _⟩ := pl
      exact ⟨o, e, hd⟩
    · refine ⟨⟨o, I.kIn p o hk, hc⟩, fun a e => ?_⟩
      cases e
      exact ⟨o, I.kIn _ o hk, hd⟩
    · have z : ∃ o, s.heap.get? p = some o ∧ o.ExactDict := by
        rcases hk with ⟨kvs, hk⟩ | ⟨kvs, hk⟩
        · obtain ⟨_, _, _, _, o, _, _, e, ex, _⟩ := I.hok p _ hk
          exact ⟨o, e, ex⟩
        · obtain ⟨_, _, _, _, o, _, _, e, ex, _⟩ := I.hok p _ hk
          exact ⟨o, e, ex⟩
      obtain ⟨o, e, ex⟩ := z
      refine ⟨⟨o, e, ex.1⟩, fun a e2 => ?_⟩
      cases e2
      exact ⟨o, e, ex.2.1⟩
    · obtain ⟨o, _, _, _, e, ex, _⟩ := I.hok p _ hk
      refine ⟨⟨o, e, ex.1⟩, fun a e2 => ?_⟩
      cases e2
      exact ⟨o, e, ex.2.1⟩
  | _ => exact False.elim ty
def tBM (K : PySem.W.Frag) (T : String) (r : V → List V → Hp → VK → Prop) (to : TE) (t : TA) : TE := fun σ H Q => to σ H fun x H1 => tyV K T x H1 ∧ t σ H1 fun xs H2 => r x xs H2 Q
variable {o e : Expr} {es : List Expr} {to : TE} {t : TA} {name : Str} {apos cpos : Pos} {T id : String} {r : V → List V → Hp → VK → Prop}
theorem pe_bm (pa : PlainAttrs T) (slot : Slot T name id) (hty : typeOf (.builtin id) = pure (.type "method_descriptor")) (hm : MtR X id r) (ho : PE X o to) (ha : PA X (e :: es) t)
    (hbase : attributeBase o name X.env (eval o X.env) = eval o X.env := by rfl)
    (hfew : ((backTo cpos (starEach (e :: es) X.env)).all (fun x => !x.1) && (backToKw cpos (keywordEach [] X.env)).all (fun x => x.1.isSome)
      && decide ((e :: es).length + ([] : List Keyword).length + (if ([] : List Keyword).isEmpty then 0 else 1) < 30)) = true := by rfl)
    (hline : (apos.endLine == cpos.line) = true := by rfl) (hs : starEach (e :: es) X.env = (false, eval e X.env) :: starEach es X.env := by rfl) (hplain : (backTo cpos (starEach es X.env)).any (·.1) = false := by rfl) :
    PE X (.Call (.Attribute o name apos) (e :: es) [] cpos) (tBM X.K T r to t) := by
  intro pins s σ H Q I h
  refine wpAny_Call_method_late hbase hfew hline rfl (thn (ho pins s σ H _ I h) fun v s1 ⟨x, H1, I1, r1, ty, q1⟩ => ?_)
  obtain ⟨h1, h2⟩ := tyV_is I1 r1 ty
  refine ⟨T, id, pa, slot, hty, h1, h2, ?_⟩
  have hA := ha cpos pins s1 σ H1 _ I1 q1
  rw [hs] at hA ⊢
  refine Calls.callWith_builtin (by show (false || (backTo cpos (starEach es X.env)).any (·.1)) = false; rw [hplain] <;> rfl) (Calls.evalArgs_plain ?_)
  exact thn hA fun us s2 ⟨vs, H2, I2, r2, q2⟩ => hm pins s2 σ H2 x vs v us Q I2 r1 r2 q2
/- xs.append(e), list.index on a module's tuple .. are MtR facts of 06m -/
end
end L2

namespace L2
open PySem PySem.Spec PyProof.Rows

def MtM (X : Cx) (id : String) (r : V → List V → Hp → VK → Prop) : Prop :=
  ∀ (pins : List (Addr × Obj)) (s : Shared) (σ : St) (H : Hp) (x : V) (xs : List V) (v : Value) (us : List Value) (Q : VK), Inv X pins σ H s → RelV x v → Vals xs us → r x xs H Q →
    wpAny (model X.prog X.w) X.A (call (.builtin id) (v :: us)) (EP X pins σ Q) X.xe s

/-! ### lists of values -/
theorem Vals.one : ∀ {x : V} {us : List Value}, Vals [x] us → ∃ u, us = [u] ∧ RelV x u
  | _, _, .cons r .nil => ⟨_, rfl, r⟩
section
variable {X : Cx} {pins : List (Addr × Obj)} {σ : St} {H : Hp} {s : Shared} {l b : Addr} {xs ys zs : List V}

/-! ### the two steps: a tracked list is rewritten, a new list is laid -/
theorem Inv.lset {its its' : List Value} {n : Nat} {f : Array Value → Array Value} {t' : Nat} (I : Inv X pins σ H s) (hH : H l = some (.lst xs))
    (e : s.heap.get? l = some { cls := .type "list", data := .seq its.toArray n }) (hf : f its.toArray = its'.toArray) (hv : Vals ys its') (hz : ys.length ≤ sizeLine) :
    Inv X pins σ (upd H l (.lst ys)) { s with heap := s.heap.update l (Obj.mapSeq f), toks := t' } := by
  have q := PySem.IsL.update e f
  rw [hf] at q
  refine I.write (x := l) (e := l) (by rw [hH]; exact trivial) (.inl rfl) (fun b' u hb hu => (Heap.get?_update_other s.heap (Obj.mapSeq f) (Ne.symm hb)).trans hu) ⟨_, q⟩ ?_
  exact ⟨hz, its', _, hv, q⟩
theorem Inv.lnew {its : List Value} {t' : Nat} (I : Inv X pins σ H s) (hv : Vals ys its) (hz : ys.length ≤ sizeLine) :
    Inv X pins σ (upd H s.heap.objs.size (.lst ys)) { s with heap := s.heap.push { cls := .type "list", data := .seq its.toArray }, toks := t' } :=
  I.laid (fun _ _ q => Heap.get?_push_of_some _ q) (Nat.le_refl _) ⟨hz, its, 0, hv, Heap.get?_push_size _ rfl⟩
theorem Inv.fresh (I : Inv X pins σ H s) : H s.heap.objs.size = none := I.hok.fresh (Nat.le_refl _)
theorem Inv.lstM (I : Inv X pins σ H s) (hH : H l = some (.lst xs)) : xs.length ≤ sizeLine ∧ ∃ (its : List Value) (n : Nat), Vals xs its ∧ xs.length = its.length ∧ s.heap.get? l = some { cls := .type "list", data := .seq its.toArray n } := by
  obtain ⟨z, its, n, r, e⟩ := I.hok l _ hH
  exact ⟨z, its, n, r, r.length, e⟩

end

section
variable {X : Cx}

/-! ### methods -/
def rAppend : V → List V → Hp → VK → Prop := fun x vs H Q => ∃ l xs y, x = .ref l ∧ vs = [y] ∧ H l = some (.lst xs) ∧ xs.length < sizeLine ∧ Q .non (upd H l (.lst (xs ++ [y])))
theorem mt_append : MtM X "list.append" rAppend := by
  intro pins s σ H x vs v us Q I rx rv h
  obtain ⟨l, xs, y, rfl, rfl, hH, hz, q⟩ := h
  cases rx
  obtain ⟨u, rfl, ru⟩ := rv.one
  obtain ⟨z, its, n, r, hl, e⟩ := I.lstM hH
  refine call_meets F.slot_list_append ⟨_, e, rfl⟩ F.entry_list_append (F.args_list_append_2 _ _) (PySem.list_append l its.toArray n u (by rw [List.size_toArray]; omega)) ⟨e, ?_⟩
  refine ⟨.non, _, I.lset (its' := its ++ [u]) hH e (by simp) (r.append (.cons ru .nil)) ?_, rfl, q⟩
  rw [List.length_append, List.length_singleton]
  omega

/-! ### list + list, list += list, list * int -/
def rCat : R2 := fun x y H Q => ∃ l b xs zs, x = .ref l ∧ y = .ref b ∧ H l = some (.lst xs) ∧ H b = some (.lst zs) ∧ xs.length + zs.length ≤ sizeLine ∧ ∀ p, H p = none → Q (.ref p) (upd H p (.lst (xs ++ zs)))
theorem op_cat : OpR X (binaryOp .Add) rCat := by
  intro pins s σ H x y v u Q I rx ry h
  obtain ⟨l, b, xs, zs, rfl, rfl, hH, hB, hz, q⟩ := h
  cases rx
  cases ry
  obtain ⟨z, its, n, r, hl, e⟩ := I.lstM hH
  obtain ⟨z2, its2, n2, r2, hl2, e2⟩ := I.lstM hB
  refine PySem.P.add_list e e2 ?_ (by rw [List.size_toArray, List.size_toArray]; omega)
  have ea : its.toArray ++ its2.toArray = (its ++ its2).toArray := by simp
  rw [ea]
  exact ⟨.ref _, _, I.lnew (t' := s.toks) (r.append r2) (by rw [List.length_append]; omega), rfl, q _ I.fresh⟩
/-! ### del xs[i] -/
end

/-! ### xs[a:b] = ys -/
section
variable {prog : Program} {w : World} {A : Around} {E : Value → Shared → Prop} {s : Shared}
end

section
variable {X : Cx}
end
end L2

namespace Att
open PySem PySem.W PySem.Calls PyProof.Rows

/-! ### the script -/
theorem ints_of_wellAll {P : Params} {h : Heap} : ∀ (ns : List Int) (vs : List Value), WellAll P h vs (ns.map WData.int) → IntsAre vs ns := by
  intro ns
  induction ns with
  | nil =>
    intro vs w
    rw [List.map_nil] at w
    cases w
    exact .nil
  | cons n ns ih =>
    intro vs w
    rw [List.map_cons] at w
    cases w with
    | cons a b =>
      cases a
      exact .cons _ _ (ih _ b)

theorem script_of {l : OpenLaw} {n : Nat} (hn : l.most = some n) {P : Params} {h : Heap} {args : List WData} {vals : List Value}
    (hpre : l.row.toRowW.claim.pre args = true) (hwl : WellAll P h vals args) :
    ∃ a vs ns, vals = [Value.ref a] ∧ args = [WData.list (ns.map WData.int)] ∧ h.get? a = some { cls := .type "list", data := .seq vs.toArray } ∧ IntsAre vs ns ∧ ns.length ≤ n := by
  have hsh : WShape.hasAll [] args [.list .int] = true := (pre_splitW hpre).1
  have hc : l.pre.holds [] { args := args } = true := (pre_splitW hpre).2
  obtain ⟨d, r, rfl, h1, h2⟩ := hasAllW_cons hsh
  obtain rfl := hasAllW_nil h2
  obtain ⟨xs, rfl, h3⟩ := hasW_list h1
  obtain ⟨ns, rfl⟩ := items_int h3
  have hlen : ns.length ≤ n := by
    unfold OpenLaw.pre at hc
    have h4 : (WTm.not (.lt (.lit (.int (n : Int))) (.len (.arg 0)))).holds [] { args := [.list (ns.map .int)] } = true := by
      have h4 := (holds_andW hc).1
      rw [hn] at h4
      exact h4
    have h5 := condW_of h4 (w_not (w_lt w_lit (w_len_list (w_arg rfl))))
    rw [List.length_map] at h5
    refine Nat.le_of_not_lt fun q => ?_
    have q' : (n : Int) < ((ns.length : Nat) : Int) := by omega
    first
      | (rw [decide_eq_true q'] at h5; exact absurd h5 (by decide))
      | (simp at h5; omega)
  cases hwl with
  | cons w1 w2 =>
    cases w2
    cases w1 with
    | list ho hall => exact ⟨_, _, ns, rfl, rfl, ho, ints_of_wellAll ns _ hall, hlen⟩

theorem post_true (l : OpenLaw) (args : List WData) : l.row.toRowW.claim.post args (.bool true) args = true :=
  postW_of (r := l.row.toRowW) (X := (true == true))
    (show WShape.has [] (.bool true) .bool = true by first | rfl | decide | simp [WShape.has, WShape.arms, WShape.armsAll])
    (show (WTm.eq .res (.lit (.bool true))).value [] { args := args, res := some (.bool true), after := args } = some (.bool (true == true)) from w_eq_bool (w_res rfl) w_lit) rfl

/-! ### the attachment: holds_open's last premise (the goal 'hc' behind k_head) from a wpAny of the law's body -/
/-- the same from a codeAny of the CALL (for a layer whose function contracts speak of calls) -/
theorem attach_call {l : OpenLaw} {n : Nat} {q : Program} {loose : List Str} {XP : (Str → Option Value) → Heap → Prop} {YP : World → Heap → Prop} {d : DefRec}
    (hn : l.most = some n) (hdf : d.params.defaults = [])
    (call : ∀ (w : World) (s₀ s₁ : Shared) (mg mb : Str → Option Value) (fa : Addr) (o : Obj) (pm cd doc : Value) (a : Addr) (vs : List Value) (ns : List Int),
      Ground q loose [] XP w s₀ mg mb s₁.heap → YP w s₁.heap →
      s₁.heap.get? fa = some o → o.data = .func (docDef d.name d.params d.body d.scope pm cd doc) → s₁.heap.CodeRec cd d.name → mg d.name = some (.ref fa) →
      s₁.heap.get? a = some { cls := .type "list", data := .seq vs.toArray } → IntsAre vs ns → ns.length ≤ n → s₁.gens = #[] →
      codeAny (model l.prog w) callerA (.call (.ref fa) ⟨[.ref a], []⟩) (fun r s' => r = .ok (.ret (.bool true)) ∧ OldK s₁.heap s'.heap ∧ s'.os = s₁.os ∧ AllBare s'.gens) s₁) :
    WalkO q loose XP YP l.row.toRowW d [] (fun f vs => PySem.call f vs) := by
  intro w s₀ s₁ mg mb G Y fa o pm cd doc dV kV ho hd hcd hD hmg hg args vals as hpre hlay hrd hwl hlo
  obtain rfl : dV = .none := Dflts.none hD hdf
  obtain rfl : kV = .none := Dflts.noKw hD
  obtain ⟨a, vs, ns, rfl, rfl, hobj, hints, hlen⟩ := script_of hn hpre hwl
  refine enter_call (codeAny_mono (call w s₀ s₁ mg mb fa o pm cd doc a vs ns G Y ho (fd_plain hd) hcd hmg hobj hints hlen hg) fun r s' hq => ?_)
  obtain ⟨rfl, h2, h3, h4⟩ := hq
  exact ⟨.inl ⟨.bool true, .bool true, [], rfl, fun _ => rfl, .bool true, post_true l _, fun _ => ⟨List.Pairwise.nil, fun _ hm => (nomatch hm)⟩⟩, h2, h3, h4⟩

/-! ### rules over ANY heap (no ledger) from facts about the written part K: the library's own take a ledger (News) for what they write -/
section
variable {prog : Program} {w : World} {A : Around} {E : Value → Shared → Prop} {s : Shared} {K : Frag}

/-! the whole heap as the ledger: makes every rule that writes through a ledger a rule over any heap -/
end
end Att

namespace L2
open PySem PySem.Spec PyProof.Rows

theorem vals_ints : ∀ {vs : List Value} {ns : List Int}, IntsAre vs ns → Vals (ns.map V.int) vs
  | _, _, .nil => .nil
  | _, _, .cons n t h => .cons ⟨t, rfl⟩ (vals_ints h)

/-- nothing is tracked but the script, known to the object (or it is an object of the module) -/
def Only (H : Hp) : Prop := ∀ b, H b = none ∨ ∃ o xs, H b = some (.frz o (.lst xs))

/-- THE HEAD: the law's promise, at the heap behind the top. F, the promise of the law's def, may use that base is part of the heap (so K.In base, base.Ns mainGlobals mg stand in Mod) -/
theorem law_call {P : Program} {w : World} {K : PySem.W.Frag} {mg mb : Str → Option Value} {CX : CXT} {k : Nat} {fa a : Addr} {fd : FuncData} {x : Str} {sp : Sp} {s₁ : Shared} {vs : List Value} {ns : List Int}
    (KX : K.In s₁.heap) (hns : s₁.heap.Ns mainGlobals mg) (hb : s₁.heap.Ns builtinsNs mb) (hbb : ∀ x : Str, x ≠ "__name__" → mb x = bootBuiltins x) (hlim : s₁.heap.NoLimit) (hg : s₁.gens = #[])
    (ha : s₁.heap.get? a = some { cls := .type "list", data := .seq vs.toArray }) (hi : IntsAre vs ns) (hl : ns.length ≤ sizeLine) (hr : Room k callerA)
    (F : ∀ base : Heap, K.In base → base.Ns mainGlobals mg → FnOk P w K mg base CX k fa fd [x] sp) (hbind : ∀ (s : Shared) (u : Value), BindsTo s fd ⟨[u], []⟩ [(x, u)])
    (hsp : ∀ H : Hp, Only H → SqL K H a (ns.map V.int) → sp [.ref a] H (fun v _ => v = .bl true) fun _ _ _ => False)
    (hCX : ∀ H e s', CX [] H s₁ (fun _ _ _ => False) e s' → False) :
    codeAny (model P w) callerA (.call (.ref fa) ⟨[.ref a], []⟩) (fun r s' => r = .ok (.ret (.bool true)) ∧ OldK s₁.heap s'.heap ∧ s'.os = s₁.os ∧ AllBare s'.gens) s₁ := by
  have rv := vals_ints hi
  have lenV := hi.length
  -- from an abstract heap in which nothing but the script may be tracked
  have core : ∀ H : Hp, Only H → SqL K H a (ns.map V.int) → HOk P w H s₁.heap → (∀ b, H b ≠ none → b = a) → (H a ≠ none → K.lookup a = none) →
      codeAny (model P w) callerA (.call (.ref fa) ⟨[.ref a], []⟩) (fun r s' => r = .ok (.ret (.bool true)) ∧ OldK s₁.heap s'.heap ∧ s'.os = s₁.os ∧ AllBare s'.gens) s₁ := by
    intro H hO hS hok hA hK
    have base_of : ∀ {b : Addr} {o : Obj}, s₁.heap.get? b = some o → H b = none → (hidT s₁.heap H).get? b = some o := fun e n => hidT_get e n
    have noA : ∀ {b : Addr} {o : Obj} {es : Array DictEntry} {ep : Nat}, s₁.heap.get? b = some o → o.data = .dict es ep → H b = none := fun {b o es ep} e d => by
      cases q : H b with
      | none => rfl
      | some u =>
        have e' : b = a := hA b (by rw [q]; simp)
        subst e'
        rw [ha] at e; cases e
        have d' : Data.seq vs.toArray _ = Data.dict es ep := d
        cases d'
    have nsK : ∀ {b : Addr} {m : Str → Option Value}, s₁.heap.Ns b m → (hidT s₁.heap H).Ns b m := fun {b m} ⟨o, es, ep, e, d, r⟩ => ⟨o, es, ep, base_of e (noA e d), d, r⟩
    have hKb : K.In (hidT s₁.heap H) := fun b o e => base_of (KX b o e) (by
      cases q : H b with
      | none => rfl
      | some u =>
        have e' : b = a := hA b (by rw [q]; simp)
        subst e'
        rw [hK (by rw [q]; simp)] at e; cases e)
    have hM : Mod K mg (hidT s₁.heap H) := ⟨hKb, nsK hns, ⟨mb, nsK hb, hbb⟩, let ⟨mc, h1, h2⟩ := hlim; ⟨mc, nsK h1, h2⟩⟩
    have e0 : Env0 P w K mg (hidT s₁.heap H) callerA [] s₁ H := ⟨rfl, hM, fun b o e => of_hidT e, Nat.le_of_eq (hidT_size _ _), trivial, fun b hb => absurd (show b ∈ ([] : List Addr) from hb) (by simp), hok, .of_eq hg⟩
    refine codeAny_mono ((F _ hKb (nsK hns)).run callerA [] s₁ H ⟨[.ref a], []⟩ [.ref a] [.ref a] _ _ hr e0 (hbind s₁ (.ref a)) (.cons rfl .nil) (hsp H hO hS)) fun r s' h => ?_
    cases r with
    | error e => exact (hCX H e s' h).elim
    | ok fl =>
      cases fl with
      | next => exact False.elim h
      | brk => exact False.elim h
      | cont => exact False.elim h
      | ret u =>
        obtain ⟨v, H', os, bare, un, hok', r', q⟩ := h
        have q' : v = .bl true := q
        subst q'
        obtain rfl : u = Value.bool true := r'
        refine ⟨rfl, OldK.of_keep fun b o e => ?_, os, bare⟩
        cases q : H b with
        | none => exact un.keep b o e q (by intro z; exact absurd (show b ∈ ([] : List Addr) from z) (by simp)) (by simp)
        | some u =>
          rcases hO b with z | ⟨ob, xs, z⟩
          · rw [q] at z; cases z
          · have z2 := un.frzs b ob _ z
            obtain ⟨e1, _⟩ := hok b _ z
            obtain ⟨e2, _⟩ := hok' b _ z2
            rw [e] at e1; cases e1
            exact e2
  cases hk : K.lookup a with
  | some o =>
    -- the script is one of the module's own objects
    have e := KX a o hk
    rw [ha] at e
    cases e
    refine core (fun _ => none) (fun _ => .inl rfl) (.inr ⟨_, vs.toArray, _, hk, rfl, rfl, rfl, by rw [List.size_toArray, lenV]; exact hl, by simpa using rv⟩) (fun b u z => by have z' : (none : Option HO) = some u := z; cases z') (fun b z => absurd rfl z) fun z => absurd rfl z
  | none =>
    refine core (fun b => if b = a then some (.frz { cls := .type "list", data := .seq vs.toArray } (.lst (ns.map V.int))) else none) (fun b => ?_) (.inl (.inr ⟨{ cls := .type "list", data := .seq vs.toArray }, if_pos rfl⟩)) (fun b u z => ?_) (fun b z => ?_) fun _ => hk
    · by_cases hb : b = a
      · exact .inr ⟨_, _, if_pos hb⟩
      · exact .inl (if_neg hb)
    · by_cases hb : b = a
      · have z' := (if_pos hb).symm.trans z
        cases z'
        subst hb
        exact ⟨ha, by rw [List.length_map]; exact hl, vs, _, rv, ha⟩
      · have z' := (if_neg hb).symm.trans z
        cases z'
    · by_cases hb : b = a
      · exact hb
      · exact absurd (if_neg hb) z
end L2

namespace L2
open PySem PySem.Spec PyProof.Rows

/-- the goal that k_head leaves (case hc), from the law's promise. F gives the function object fd (K's own) once, then the promise over every base -/
theorem walk_of {l : PySem.W.OpenLaw} {n k : Nat} {q : Program} {loose : List Str} {XP : (Str → Option Value) → Heap → Prop} {YP : World → Heap → Prop} {d : DefRec} {K : Params → PySem.W.Frag} {CX : World → CXT} {sp : World → Sp} {x : Str}
    (hn : l.most = some n) (hn2 : n ≤ sizeLine) (hdf : d.params.defaults = []) (hr : Room k callerA)
    (hY : ∀ (w : World) (h : Heap), YP w h → (K w.params).In h)
    (F : ∀ (w : World) (mg : Str → Option Value) (fa : Addr) (h : Heap), (K w.params).In h → h.Ns mainGlobals mg → mg d.name = some (.ref fa) →
      ∃ fd : FuncData, (∀ (s : Shared) (u : Value), BindsTo s fd ⟨[u], []⟩ [(x, u)]) ∧
        ∀ base : Heap, (K w.params).In base → base.Ns mainGlobals mg → FnOk l.prog w (K w.params) mg base (CX w) k fa fd [x] (sp w))
    (hsp : ∀ (w : World) (H : Hp) (a : Addr) (ns : List Int), ns.length ≤ n → Only H → SqL (K w.params) H a (ns.map V.int) → sp w [.ref a] H (fun v _ => v = .bl true) fun _ _ _ => False)
    (hCX : ∀ (w : World) (H : Hp) (s : Shared) (e : Value) (s' : Shared), CX w [] H s (fun _ _ _ => False) e s' → False) :
    PySem.W.WalkO q loose XP YP l.row.toRowW d [] (fun f vs => PySem.call f vs) := by
  refine Att.attach_call hn hdf fun w s₀ s₁ mg mb fa o pm cd doc a vs ns G Y ho hd hcd hmg hobj hints hlen hg => ?_
  have KX := hY w _ Y
  obtain ⟨fd, hb, hF⟩ := F w mg fa _ KX G.T.g hmg
  exact law_call KX G.T.g G.T.b G.T.builtins G.T.nolimit hg hobj hints (Nat.le_trans hlen hn2) hr hF hb (fun H hO hS => hsp w H a ns hlen hO hS) fun H e s' => hCX w H s₁ e s'
end L2

/- THE LAST THEOREM (shape; LID, My.* are yours):
   My.Adr: a structure of the addresses that your layer names (classes, functions); My.Txt K t: a structure (Prop) of the equations over K;
   My.txt_mk : {K} {implicit addresses ..} (e1 : nsIn K mainGlobals "law" = some (some (.ref f))) (e2 : K.lookup f = some ⟨oc, od, .func (fnOf "law" "law" params body scope dV kV doc pm an cdv ct), sl⟩) (e3 : codeIn K cdv "law" = true) .. : ∃ t, My.Txt K t

set_option maxRecDepth 100000 in
set_option maxHeartbeats 0 in
theorem PySem.Challenge.cw_LID_holds : PySem.Challenge.rw_LID.Holds := by
  w_on; o_law; k_head; (case hw => w_witness2)
  k_fill
  refine L2.walk_of (l := PySem.Challenge.rw_LID) (n := 63) (k := 40) (x := "script") (CX := fun w => ..) (sp := fun _ => My.sp_law) rfl (by decide) rfl ⟨rfl, by decide, by decide⟩ (fun w h Y => PySem.W.kIn_of Y) ?F ?S ?C
  case F =>
    intro w mg fa h KX G hmg
    have T : ∃ t, My.Txt (L2.KOf KX) t := by
      dsimp only [L2.KOf]                          -- K must stand as «<heap const> w.params» for k_is
      refine' My.txt_mk ?e1 ?e2 ?e3 ..
      (case e1 => PySem.W.k_is)                    -- in the order: a name -> its address -> its object -> its parts
      (case e2 => PySem.W.k_is)
      ..
    obtain ⟨t, T⟩ := T
    have e0 := hmg.symm.trans (PySem.W.mg_of KX G T.law)
    cases e0                                       -- fa is the law's own address
    exact ⟨_, fun s u => .of_eq rfl, fun base kb nb => My.law_fn T kb nb⟩     -- if «.of_eq rfl» comes too early: refine' ⟨_, ?b, fun base kb nb => My.law_fn T kb nb⟩; exact fun s u => .of_eq rfl
  case S => exact fun w H a ns hl hO hS => ..
  case C => exact ..
(the tactic k_is has no namespace: write k_is) -/

/-! SHORT WORDS over the layer: a def of the text, its body, what a loop and a test want. -/
namespace L2
open PySem PySem.Spec PyProof.Rows

/-! ### the text by places -/
def defArgs (s : Stmt) : Arguments := match s with
  | .FunctionDef _ a _ _ _ _ _ _ _ _ => a
  | _ => { posonlyargs := [], args := [], vararg := none, kwonlyargs := [], kw_defaults := [], kwarg := none, defaults := [] }
def defBody (s : Stmt) : List Stmt := match s with
  | .FunctionDef _ _ b _ _ _ _ _ _ _ => b
  | _ => []
def defScope (s : Stmt) : Scope := match s with
  | .FunctionDef _ _ _ _ _ _ sc _ _ _ => sc
  | _ => { kind := .function, names := [], isGenerator := false, isCoroutine := false }

/-! ### no exception leaves a def -/
abbrev CX0 : CXT := fun _ _ _ _ _ _ => False
abbrev E0 : XK := fun _ _ _ => False
theorem pass0 {X : Cx} : Passes CX0 X E0 := fun _ _ _ _ _ _ _ h => h.elim

/-! ### a def (or method) of the text as it stands behind the top -/
structure Fun (K : PySem.W.Frag) (x qual : Str) (st : Stmt) (f : Addr) (fd : FuncData) : Prop where
  ex : ∃ (oc : Value) (od : Option Addr) (kV doc pm : Value) (an : Option Addr) (cdv ct : Value) (osl : Array (Option Value)),
    fd = PySem.W.fnOf x qual (defArgs st) (defBody st) (defScope st) .none kV doc pm an cdv ct ∧ K.lookup f = some ⟨oc, od, .func fd, osl⟩ ∧ PySem.W.codeIn K cdv qual = true
  kp : PySem.W.keepIn K (.ref f) = true
section
variable {P : Program} {w : World} {K : PySem.W.Frag} {mg : Str → Option Value} {base : Heap}
/-- THE RULE for a def: its body as a term of rules, and the reading of that term -/
theorem Fun.ok {x qual : Str} {st : Stmt} {f : Addr} {fd : FuncData} {N ps : List Str} {k : Nat} {sp : Sp} (F : Fun K x qual st f fd) (S : FnScope N ps (defScope st)) (len : ∀ vs H Q E, sp vs H Q E → vs.length = ps.length)
    (hbody : ∀ (cdv : Value) (A : Around) (outer : List Env) (s : Shared) (H : Hp) (vs : List V) (Q : VK) (E : XK), Room k (A.deeper (envOfC qual (defScope st) s.heap.objs.size f cdv)) → sp vs H Q E →
      ∃ t, PSs (cxOf CX0 P w K mg base N qual (defScope st) f cdv A outer s H E).nox (defBody st) t ∧ t { nx := fun _ H' => Q .non H', rt := Q } (start N vs) H) : FnOk P w K mg base CX0 (k + 1) f fd ps sp := by
  obtain ⟨oc, od, kV, doc, pm, an, cdv, ct, osl, rfl, lk, hcd⟩ := F.ex
  refine fn_of lk hcd S len fun A outer s H vs Q E hr hsp => ?_
  obtain ⟨t, h, q⟩ := hbody cdv A outer s H vs Q E hr hsp
  exact ⟨t, h.nox, q⟩
/-- how its arguments bind (no defaults): h is «fun _ _ _ _ _ _ us hl => match us, hl with | [_, _], _ => rfl», one _ a parameter -/
theorem Fun.binds {x qual : Str} {st : Stmt} {f : Addr} {fd : FuncData} {ps : List Str} (F : Fun K x qual st f fd)
    (h : ∀ (kV doc pm : Value) (an : Option Addr) (cdv ct : Value) (us : List Value), us.length = ps.length → bindArgs (PySem.W.fnOf x qual (defArgs st) (defBody st) (defScope st) .none kV doc pm an cdv ct) ⟨us, []⟩ = pure (ps.zip us)) : Binds K fd ps [] := by
  obtain ⟨oc, od, kV, doc, pm, an, cdv, ct, osl, rfl, lk, hcd⟩ := F.ex
  exact .all (h kV doc pm an cdv ct)
theorem fun_mk {x qual : Str} {st : Stmt} {f : Addr} {oc : Value} {od an : Option Addr} {osl : Array (Option Value)} {kV doc pm cdv ct : Value} (l : K.lookup f = some ⟨oc, od, .func (PySem.W.fnOf x qual (defArgs st) (defBody st) (defScope st) .none kV doc pm an cdv ct), osl⟩)
    (c : PySem.W.codeIn K cdv qual = true) (k : PySem.W.keepIn K (.ref f) = true) : Fun K x qual st f (PySem.W.fnOf x qual (defArgs st) (defBody st) (defScope st) .none kV doc pm an cdv ct) := ⟨⟨oc, od, kV, doc, pm, an, cdv, ct, osl, rfl, l, c⟩, k⟩
end
/-! ### expressions in short: the name that stands in the i-th slot -/
section
variable {X : Cx}
theorem pv (i : Nat) {x : Str} {pos : Pos} (hN : X.N[i]? = some x := by rfl) (hv : Vis X.env.scope x := by first | exact Or.inl rfl | exact Or.inr (Or.inl rfl) | exact Or.inr (Or.inr rfl)) (hd : (x == ("__debug__" : Str)) = false := by decide)
    (hcd : (x == ("__classdict__" : Str)) = false := by decide) : PE X (.Name x pos) (tVar i) := pe_var hN hv hd hcd
end

/-! ### tests -/
theorem iteF {A B : Prop} (h : B) : if false = true then A else B := by
  rw [if_neg Bool.false_ne_true]
  exact h
theorem iteT {A B : Prop} (h : A) : if true = true then A else B := by
  rw [if_pos rfl]
  exact h
theorem ite2 {c A B : Prop} [Decidable c] (h1 : c → A) (h2 : ¬ c → B) : if c then A else B := by
  by_cases h : c
  · rw [if_pos h]
    exact h1 h
  · rw [if_neg h]
    exact h2 h
/-! ### heaps -/
end L2

set_option Elab.async false
set_option linter.all false
set_option maxRecDepth 100000
namespace L2
open PySem PySem.Spec PyProof.Rows

/-! ### a comprehension's closure and cells -/
def cloF (env : Env) : List (Str × NameKind) → List (Str × Addr) → List (Str × Addr)
  | [], acc => acc
  | (n, k) :: r, acc => if k == .free then cloF env r ((n, (env.cells.lookup n).getD 0) :: acc) else cloF env r acc
theorem clo_forIn {env : Env} (f : Str × NameKind → List (Str × Addr) → Sem (ForInStep (List (Str × Addr))))
    (hf : ∀ n k cs, f (n, k) cs = if k == .free then (do let a ← cellOf env n; pure (.yield ((n, a) :: cs))) else pure (.yield cs)) :
    ∀ (names : List (Str × NameKind)) (acc : List (Str × Addr)), (∀ x ∈ names, x.2 = .free → (env.cells.lookup x.1).isSome = true) → forIn names acc f = pure (cloF env names acc)
  | [], acc, _ => by rw [List.forIn_nil]; rfl
  | (n, k) :: r, acc, h => by
    rw [List.forIn_cons, hf]
    unfold cloF
    have hr : ∀ x ∈ r, x.2 = .free → (env.cells.lookup x.1).isSome = true := fun x hx => h x (List.mem_cons_of_mem _ hx)
    by_cases hk : (k == NameKind.free) = true
    · rw [if_pos hk, if_pos hk]
      have e := h (n, k) List.mem_cons_self (by simpa using hk)
      obtain ⟨c, hc⟩ := Option.isSome_iff_exists.mp e
      unfold cellOf
      simp only at hc
      rw [hc]
      simp only [pure_bind, Option.getD_some]
      exact clo_forIn f hf r _ hr
    · rw [if_neg hk, if_neg hk, pure_bind]
      exact clo_forIn f hf r _ hr
theorem closureFor_cells {scope : Scope} {env : Env} (h : ∀ x ∈ scope.names, x.2 = .free → (env.cells.lookup x.1).isSome = true) : closureFor scope env = pure (cloF env scope.names []) := by
  show (forIn scope.names ([] : List (Str × Addr)) _ >>= fun cs => pure cs) = _
  rw [clo_forIn (env := env) _ (fun n k cs => by cases hk : k == NameKind.free <;> simp [hk]) scope.names [] h]
  simp only [pure_bind]
theorem clo_look {env : Env} {x : Str} {c : Addr} : ∀ (names : List (Str × NameKind)) (acc : List (Str × Addr)), (∀ x ∈ names, x.2 = .free → (env.cells.lookup x.1).isSome = true) →
    (cloF env names acc).lookup x = some c → env.cells.lookup x = some c ∨ acc.lookup x = some c
  | [], _, _, e => .inr e
  | (n, k) :: r, acc, h, e => by
    unfold cloF at e
    have hr : ∀ x ∈ r, x.2 = .free → (env.cells.lookup x.1).isSome = true := fun x hx => h x (List.mem_cons_of_mem _ hx)
    by_cases hk : (k == NameKind.free) = true
    · rw [if_pos hk] at e
      rcases clo_look r _ hr e with q | q
      · exact .inl q
      · rw [List.lookup_cons] at q
        cases hb : x == n with
        | true =>
          rw [hb] at q
          have hx : x = n := by simpa using hb
          obtain ⟨c', hc⟩ := Option.isSome_iff_exists.mp (h (n, k) List.mem_cons_self (by simpa using hk))
          simp only at hc
          rw [hc] at q
          subst hx
          rw [hc]
          exact .inl (by simpa using q)
        | false => rw [hb] at q; exact .inr q
    · rw [if_neg hk] at e
      exact clo_look r _ hr e
theorem clo_some {env : Env} {x : Str} : ∀ (names : List (Str × NameKind)) (acc : List (Str × Addr)), ((x, NameKind.free) ∈ names ∨ (acc.lookup x).isSome = true) → ((cloF env names acc).lookup x).isSome = true
  | [], _, h => h.elim (fun e => nomatch e) id
  | (n, k) :: r, acc, h => by
    unfold cloF
    by_cases hk : (k == NameKind.free) = true
    · rw [if_pos hk]
      refine clo_some r _ ?_
      rcases h with h | h
      · rcases List.mem_cons.mp h with e | h
        · cases e; exact .inr (by rw [List.lookup_cons]; simp)
        · exact .inl h
      · refine .inr ?_
        rw [List.lookup_cons]
        split
        · rfl
        · exact h
    · rw [if_neg hk]
      refine clo_some r _ ?_
      rcases h with h | h
      · rcases List.mem_cons.mp h with e | h
        · cases e; exact absurd (by decide) hk
        · exact .inl h
      · exact .inr h
theorem cf_look {x : Str} {c : Addr} : ∀ (names : List (Str × NameKind)) (k : Nat) (acc : List (Str × Addr)), (cellsFrom k names acc).lookup x = some c → k ≤ c ∨ (acc.lookup x = some c ∧ (x, NameKind.cell) ∉ names)
  | [], _, _, e => .inr ⟨e, by simp⟩
  | (n, kd) :: r, k, acc, e => by
    unfold cellsFrom at e
    by_cases hk : (kd == NameKind.cell) = true
    · rw [if_pos hk] at e
      rcases cf_look r _ _ e with q | ⟨q, nr⟩
      · exact .inl (by omega)
      · rw [List.lookup_cons] at q
        cases hb : x == n with
        | true => rw [hb] at q; cases q; exact .inl (Nat.le_refl _)
        | false =>
          rw [hb] at q
          refine .inr ⟨q, fun z => ?_⟩
          rcases List.mem_cons.mp z with z | z
          · cases z; simp at hb
          · exact nr z
    · rw [if_neg hk] at e
      rcases cf_look r _ _ e with q | ⟨q, nr⟩
      · exact .inl q
      · refine .inr ⟨q, fun z => ?_⟩
        rcases List.mem_cons.mp z with z | z
        · cases z; exact hk (by simp)
        · exact nr z
theorem cf_inj : ∀ (names : List (Str × NameKind)) (k : Nat) (acc : List (Str × Addr)), (∀ p ∈ acc, p.2 < k) → (∀ p q, p ∈ acc → q ∈ acc → p.2 = q.2 → p.1 = q.1) → ∀ p q, p ∈ cellsFrom k names acc → q ∈ cellsFrom k names acc → p.2 = q.2 → p.1 = q.1
  | [], _, _, _, hi, p, q, hp, hq, e => hi p q hp hq e
  | (n, kd) :: r, k, acc, hb, hi, p, q, hp, hq, e => by
    unfold cellsFrom at hp hq
    by_cases hk : (kd == NameKind.cell) = true
    · rw [if_pos hk] at hp hq
      refine cf_inj r (k + 1) ((n, k) :: acc) (fun z hz => ?_) (fun y z hy hz e => ?_) p q hp hq e
      · rcases List.mem_cons.mp hz with rfl | hz
        · exact Nat.lt_succ_self _
        · exact Nat.lt_succ_of_lt (hb z hz)
      · rcases List.mem_cons.mp hy with hy | hy <;> rcases List.mem_cons.mp hz with hz | hz
        · rw [hy, hz]
        · subst hy; exact absurd (hb z hz) (by rw [← e]; exact Nat.lt_irrefl _)
        · subst hz; exact absurd (hb y hy) (by rw [e]; exact Nat.lt_irrefl _)
        · exact hi y z hy hz e
    · rw [if_neg hk] at hp hq
      exact cf_inj r k acc hb hi p q hp hq e
theorem cf_cell : ∀ (names : List (Str × NameKind)) (h : Heap) (acc : List (Str × Addr)) (p : Str × Addr), p ∈ cellsFrom h.objs.size names acc → p ∈ acc ∨ ((pushCells h names).IsCell p.2 none ∧ h.objs.size ≤ p.2)
  | [], _, _, _, e => .inl e
  | (n, kd) :: r, h, acc, p, e => by
    unfold cellsFrom at e
    unfold pushCells
    by_cases hk : (kd == NameKind.cell) = true
    · rw [if_pos hk] at e ⊢
      have hs : (h.push { cls := .type "cell", data := .cell none }).objs.size = h.objs.size + 1 := Heap.size_push ..
      rw [← hs] at e
      rcases cf_cell r _ _ p e with q | ⟨q, l⟩
      · rcases List.mem_cons.mp q with rfl | q
        · exact .inr ⟨Heap.IsCell.keeps ⟨_, Heap.get?_push_size _ rfl, rfl⟩ (pushCells_keeps _ _), Nat.le_refl _⟩
        · exact .inl q
      · exact .inr ⟨q, by omega⟩
    · rw [if_neg hk] at e ⊢
      exact cf_cell r h acc p e
/-- the block's env is made -/
theorem newEnv_comp {M : Model} {A : Around} {E : Value → Shared → Prop} {s : Shared} {scope : Scope} {globals : Addr} {cl : List (Str × Addr)} {qual : Str} {outer : Env} {Q : Env → Shared → Prop}
    (hQ : Q (newEnv scope s.heap.objs.size globals (cellsFrom (s.heap.objs.size + 1) scope.names cl) qual none .none (some outer) builtinsNs) { s with heap := pushCells (s.heap.push { cls := .type "dict", data := .dict #[] }) scope.names }) :
    wpAny M A (newFunctionEnv scope globals cl [] qual none .none (some outer)) Q E s := by
  simp only [newFunctionEnv, Option.isSome_some, if_true]
  refine wpAny_bind (wpAny_alloc ?_)
  refine wpAny_bind (wpAny_layCells _ (fun name kind cells => by cases hkc : kind == NameKind.cell <;> simp [hkc]) _ _ _ _ ?_)
  rw [show ({ s with heap := s.heap.push { cls := .type "dict", data := .dict #[] } } : Shared).heap.objs.size = s.heap.objs.size + 1 from Heap.size_push ..]
  rw [List.forIn_nil]
  exact wpAny_bind (wpAny_pure (wpAny_pure hQ))

/-- the loop of a list comprehension with one for, any target -/
theorem comp_loop {prog : Program} {w : World} {A : Around} {R : Result → Shared → Prop} {s : Shared} {elt target iter : Expr} {ifs : List Expr} {scope : Scope} {pos : Pos} {it acc : Value} {env : Env} (I : Nat → Shared → Prop)
    (turn : ∀ n s, I n s → wpAny (model prog w) A (pyNext it) (fun r s₁ => match r with
      | none => R (.ok .next) s₁
      | some v => wpAny (model prog w) A (letOwnedTupleGo target it v) (fun _ s₁' => wpAny (model prog w) A (assign target env v) (fun _ s₂ =>
          wpAny (model prog w) A (forIn ifs true fun c r => if r = true then do let ok ← isTrue c env (eval c env); pure (ForInStep.yield ok) else pure (ForInStep.yield r)) (fun ok s₃ =>
            if ok = true then wpAny (model prog w) A (eval elt env) (fun x s₄ =>
              wpAny (model prog w) A (call (.builtin "list.append") [acc, x]) (fun _ s₅ => ∃ m, m < n ∧ I m s₅) (fun _ _ => False) s₄) (fun _ _ => False) s₃
            else ∃ m, m < n ∧ I m s₃) (fun _ _ => False) s₂) (fun _ _ => False) s₁') (fun _ _ => False) s₁) (fun _ _ => False) s)
    (n : Nat) (h : I n s) :
    codeAny (model prog w) A (.compLoop (.ListComp elt [⟨target, iter, ifs, 0⟩] scope pos) 0 it acc env) R s := by
  refine codeAny_loop rfl I (fun n s hI => ?_) n h
  show wpAny _ A ((compTurn (.ListComp elt [⟨target, iter, ifs, 0⟩] scope pos) 0 it acc env).onRaise (fun x => do noteFrame x env; theTreesLotGoes x)) _ _ s
  refine wpAny_noted ?_
  rw [compTurn_list]
  refine wpAny_bind (wpAny_standAt (wpAny_bind (wpAny_mono (turn n s hI) (fun r s₁ h₁ => ?_) fun _ _ h' => h'.elim)))
  cases r with
  | none => exact wpAny_pure h₁
  | some v =>
    refine wpAny_bind (wpAny_mono h₁ (fun _ s₁' h₁' => ?_) fun _ _ h' => h'.elim)
    refine wpAny_bind (wpAny_mono h₁' (fun _ s₂ h₂ => wpAny_bind (wpAny_mono h₂ (fun ok s₃ h₃ => ?_) fun _ _ h' => h'.elim)) fun _ _ h' => h'.elim)
    cases ok with
    | false => exact wpAny_pure ⟨rfl, h₃⟩
    | true =>
      exact wpAny_bind (wpAny_bind (wpAny_mono h₃ (fun x s₄ h₄ => wpAny_bind (wpAny_mono h₄ (fun _ s₅ h₅ => wpAny_pure (wpAny_pure ⟨rfl, h₅⟩)) fun _ _ h' => h'.elim)) fun _ _ h' => h'.elim))

/-! ### the block's context -/
def compE (scope : Scope) (C : Addr) (env : Env) : Env := compEnvC scope (cellsFrom (C + 1) scope.names (cloF env scope.names [])) C env
def cxC (X : Cx) (scope : Scope) (C : Addr) (N : List Str) (fp : List Addr) (s : Shared) (H : Hp) : Cx where
  prog := X.prog
  w := X.w
  K := X.K
  mg := X.mg
  base := X.base
  A := X.A
  N := N
  s₀ := s
  H₀ := H
  env := compE scope C X.env
  outer := X.stack
  stack := X.stack
  ex := fp
  fn := fun x => decide ((x, NameKind.cell) ∈ scope.names)
  calm := X.calm
  pn := []
  xe := fun _ _ => False

/-- the tests of a comprehension -/
def PIfs (X : Cx) (ifs : List Expr) (t : TT) : Prop :=
  ∀ (pins : List (Addr × Obj)) (s : Shared) (σ : St) (H : Hp) (Q : Bool → Hp → Prop), Inv X pins σ H s → t σ H Q →
    wpAny (model X.prog X.w) X.A (forIn ifs true fun c r => if r = true then do let ok ← isTrue c X.env (eval c X.env); pure (ForInStep.yield ok) else pure (ForInStep.yield r)) (TP X pins σ Q) X.xe s
def tYes : TT := fun _ H Q => Q true H
theorem pifs_nil {X : Cx} : PIfs X [] tYes := fun _ s σ H Q I h => wpAny_tests_nil ⟨H, I, h⟩
theorem pifs_one {X : Cx} {c : Expr} {t : TT} (h : PT X c t) : PIfs X [c] t := fun pins s σ H Q I q => wpAny_tests_one (h pins s σ H Q I q)

/-- captured names: name and its slot outside -/
def blkσ (own : Nat) (cap : List Nat) (σ : St) : St := List.replicate own none ++ cap.map fun i => (σ[i]?).getD none

structure BlkOk (X : Cx) (scope : Scope) (own : List Str) (cap : List Str) (ix : List Nat) : Prop where
  kind : scope.kind = .function
  names : ∀ x ∈ scope.names, x.2 = .local → scope.names.lookup x.1 = some .local
  nd : (scope.names.map (·.1)).Nodup
  frees : ∀ x ∈ scope.names, x.2 = .free → X.env.kindOf x.1 = some .cell ∨ X.env.kindOf x.1 = some .free
  caps : ∀ (j : Nat) (x : Str), cap[j]? = some x → (x, NameKind.free) ∈ scope.names
  at' : ∀ (j : Nat) (x : Str), cap[j]? = some x → ∃ i, ix[j]? = some i ∧ X.N[i]? = some x
  len : cap.length = ix.length

theorem relabel_look {env : Env} {scope : Scope} {x : Str} {k : NameKind} (h : (relabel scope env).names.lookup x = some k) : (x, k) ∈ scope.names ∨ (k = .cell ∧ (x, NameKind.free) ∈ scope.names) := by
  have m := PySem.mem_of_lookup h
  obtain ⟨⟨n, k'⟩, hm, e⟩ := List.mem_map.mp m
  simp only at e
  split at e
  · rename_i hc
    cases e
    have : k' = NameKind.free := by simp at hc; exact hc.1.1
    subst this
    exact .inr ⟨rfl, hm⟩
  · cases e; exact .inl hm

theorem nodup_keys {names : List (Str × NameKind)} (nd : (names.map (·.1)).Nodup) {x : Str} {k k' : NameKind} (h : (x, k) ∈ names) (h' : (x, k') ∈ names) : k = k' := by
  induction names with
  | nil => cases h
  | cons p r ih =>
    rw [List.map_cons, List.nodup_cons] at nd
    rcases List.mem_cons.mp h with e | h <;> rcases List.mem_cons.mp h' with e' | h'
    · rw [← e'] at e; cases e; rfl
    · exact absurd (List.mem_map.mpr ⟨_, h', by rw [← e]⟩) nd.1
    · exact absurd (List.mem_map.mpr ⟨_, h, by rw [← e']⟩) nd.1
    · exact ih nd.2 h h'

section
variable {X : Cx} {pins : List (Addr × Obj)} {σ : St} {H : Hp} {s : Shared} {scope : Scope} {own cap : List Str} {ix : List Nat}

/-- the block begins: s stands behind the making of the accumulator -/
theorem Inv.block (I : Inv X pins σ H s) (B : BlkOk X scope own cap ix) {fp : List Addr} (hf : ∀ b ∈ fp, FpOk X pins H b) (ho : ∀ b ∈ fp, ∃ o, s.heap.get? b = some o) :
    Inv (cxC X scope s.heap.objs.size (own ++ cap) fp s H) [] (blkσ own.length ix σ) H { s with heap := pushCells (s.heap.push { cls := .type "dict", data := .dict #[] }) scope.names } := by
  have has : ∀ x ∈ scope.names, x.2 = .free → (X.env.cells.lookup x.1).isSome = true := fun x hx hk => by
    obtain ⟨c, e⟩ := I.ok.has x.1 (B.frees x hx hk)
    rw [e]; rfl
  have keep : ∀ b o, s.heap.get? b = some o → (pushCells (s.heap.push { cls := .type "dict", data := .dict #[] }) scope.names).get? b = some o := fun b o e => pushCells_keeps _ _ b o (Heap.get?_push_of_some _ e)
  have old : ∀ x c, X.env.cells.lookup x = some c → c < s.heap.objs.size := fun x c e => let ⟨v, q⟩ := I.cell x c e; q.lt
  have cs_look : ∀ x c, (cellsFrom (s.heap.objs.size + 1) scope.names (cloF X.env scope.names [])).lookup x = some c → s.heap.objs.size + 1 ≤ c ∨ (X.env.cells.lookup x = some c ∧ (x, NameKind.cell) ∉ scope.names) := fun x c e => by
    rcases cf_look _ _ _ e with q | ⟨q, nm⟩
    · exact .inl q
    · rcases clo_look _ _ has q with q | q
      · exact .inr ⟨q, nm⟩
      · cases q
  have clo_mem : ∀ p ∈ cloF X.env scope.names [], X.env.cells.lookup p.1 = some p.2 := by
    have aux : ∀ (names : List (Str × NameKind)) (acc : List (Str × Addr)), (∀ x ∈ names, x.2 = .free → (X.env.cells.lookup x.1).isSome = true) → (∀ p ∈ acc, X.env.cells.lookup p.1 = some p.2) → ∀ p ∈ cloF X.env names acc, X.env.cells.lookup p.1 = some p.2 := by
      intro names
      induction names with
      | nil => intro acc _ h p hp; exact h p hp
      | cons y r ih =>
        intro acc h h2 p hp
        obtain ⟨n, k⟩ := y
        unfold cloF at hp
        by_cases hk : (k == NameKind.free) = true
        · rw [if_pos hk] at hp
          refine ih _ (fun x hx => h x (List.mem_cons_of_mem _ hx)) (fun q hq => ?_) p hp
          rcases List.mem_cons.mp hq with rfl | hq
          · obtain ⟨c, e⟩ := Option.isSome_iff_exists.mp (h (n, k) List.mem_cons_self (by simpa using hk))
            simp only at e ⊢
            rw [e]; rfl
          · exact h2 q hq
        · rw [if_neg hk] at hp
          exact ih _ (fun x hx => h x (List.mem_cons_of_mem _ hx)) h2 p hp
    exact aux _ _ has (fun p hp => nomatch hp)
  have cinj : ∀ x y c, (cellsFrom (s.heap.objs.size + 1) scope.names (cloF X.env scope.names [])).lookup x = some c → (cellsFrom (s.heap.objs.size + 1) scope.names (cloF X.env scope.names [])).lookup y = some c → x = y := fun x y c e1 e2 =>
    cf_inj scope.names (s.heap.objs.size + 1) (cloF X.env scope.names []) (fun p hp => Nat.lt_succ_of_lt (old p.1 p.2 (clo_mem p hp)))
      (fun p q hp hq e => I.ok.inj p.1 q.1 p.2 (clo_mem p hp) (by rw [e]; exact clo_mem q hq)) (x, c) (y, c) (PySem.mem_of_lookup e1) (PySem.mem_of_lookup e2) rfl
  have ccell : ∀ x c, (cellsFrom (s.heap.objs.size + 1) scope.names (cloF X.env scope.names [])).lookup x = some c → ∃ v, (pushCells (s.heap.push { cls := .type "dict", data := .dict #[] }) scope.names).IsCell c v := fun x c e => by
    have m := PySem.mem_of_lookup e
    have hs : (s.heap.push { cls := .type "dict", data := .dict #[] }).objs.size = s.heap.objs.size + 1 := Heap.size_push ..
    rw [← hs] at m
    rcases cf_cell _ _ _ _ m with q | ⟨q, _⟩
    · obtain ⟨v, z⟩ := I.cell _ _ (clo_mem _ q)
      exact ⟨v, z.keeps keep⟩
    · exact ⟨none, q⟩
  have fplt : ∀ b ∈ fp, b < s.heap.objs.size := fun b hb => let ⟨o, e⟩ := ho b hb; Heap.lt_size e
  refine ⟨⟨I.ok.mod, ?_, I.ok.glob, I.ok.blt, Nat.le_refl _, cinj, fun x hx => ?_, fun x c hfx e => ?_, I.ok.hd, I.ok.frames, .inl rfl, fun b hb => ⟨?_, fun x c e => ?_⟩, I.bs, Nat.le_trans I.ok.bsz I.sz, fun b o e hb => ?_, fun b hb hz => ?_, I.stack, I.stkFree⟩,
    rfl, I.bare, Un.kept keep, ⟨fun _ => none, (Heap.Ns.new s.heap (.type "dict")).keeps (pushCells_keeps _ _), fun i x v h1 h2 h3 => ?_⟩, ccell, I.hok.fresh (Nat.le_refl _), fun x c e => ?_, fun p hp => absurd (show p ∈ ([] : List (Addr × Obj)) from hp) (by simp), I.hok.kept keep, ?_⟩
  · exact B.kind
  · have hx' : (relabel scope X.env).names.lookup x = some .cell ∨ (relabel scope X.env).names.lookup x = some .free := hx
    have : ((cellsFrom (s.heap.objs.size + 1) scope.names (cloF X.env scope.names [])).lookup x).isSome = true := by
      have fr : (x, NameKind.free) ∈ scope.names → ((cellsFrom (s.heap.objs.size + 1) scope.names (cloF X.env scope.names [])).lookup x).isSome = true := fun z => PySem.W.cellsFrom_some _ _ _ (.inr (clo_some _ _ (.inl z)))
      have ce : (x, NameKind.cell) ∈ scope.names → ((cellsFrom (s.heap.objs.size + 1) scope.names (cloF X.env scope.names [])).lookup x).isSome = true := fun z => by
        have aux : ∀ (names : List (Str × NameKind)) (k : Nat) (acc : List (Str × Addr)), (x, NameKind.cell) ∈ names → ((cellsFrom k names acc).lookup x).isSome = true := by
          intro names
          induction names with
          | nil => intro _ _ z; cases z
          | cons y r ih =>
            intro k acc z
            obtain ⟨n, kd⟩ := y
            unfold cellsFrom
            by_cases hk : (kd == NameKind.cell) = true
            · rw [if_pos hk]
              rcases List.mem_cons.mp z with e | z
              · cases e
                exact PySem.W.cellsFrom_some _ _ _ (.inr (by rw [List.lookup_cons]; simp))
              · exact ih _ _ z
            · rw [if_neg hk]
              rcases List.mem_cons.mp z with e | z
              · cases e; exact absurd (by decide) hk
              · exact ih _ _ z
        exact aux _ _ _ z
      rcases hx' with q | q
      · rcases relabel_look q with q | ⟨_, q⟩
        · exact ce q
        · exact fr q
      · rcases relabel_look q with q | ⟨e, _⟩
        · exact fr q
        · cases e
    exact Option.isSome_iff_exists.mp this
  · have hm : (x, NameKind.cell) ∈ scope.names := of_decide_eq_true hfx
    rcases cs_look x c e with q | ⟨_, nm⟩
    · exact Nat.le_trans (Nat.le_succ _) q
    · exact absurd hm nm
  · exact Nat.ne_of_lt (fplt b hb)
  · rcases cs_look x c e with q | ⟨q, _⟩
    · exact Nat.ne_of_gt (Nat.lt_of_lt_of_le (fplt b hb) (Nat.le_trans (Nat.le_succ _) q))
    · exact (hf b hb).2.2.2.2.1 x c q
  · rcases (hf b hb).2.2.2.1 with z | z
    · exact I.ok.noex b o e z
    · exact absurd (Nat.lt_of_lt_of_le (Heap.lt_size e) (Nat.le_trans I.ok.bsz z)) (Nat.lt_irrefl _)
  · rcases List.mem_cons.mp (I.stkSub b hz) with e | z
    · exact (hf b hb).2.1 e
    · exact (hf b hb).2.2.1 z
  · -- a captured name
    have h1 : (own ++ cap)[i]? = some x := h1
    have hi : own.length ≤ i := by
      by_cases hi : i < own.length
      · unfold blkσ at h2
        rw [List.getElem?_append_left (by simpa using hi), List.getElem?_replicate, if_pos hi] at h2
        cases h2
      · omega
    rw [List.getElem?_append_right hi] at h1
    unfold blkσ at h2
    rw [List.getElem?_append_right (by simpa using hi), List.length_replicate, List.getElem?_map] at h2
    obtain ⟨j, hj, hN⟩ := B.at' _ _ h1
    rw [hj] at h2
    simp only [Option.map_some, Option.some.injEq] at h2
    have h2' : σ[j]? = some (some v) := by
      cases q : σ[j]? with
      | none => rw [q] at h2; simp at h2
      | some o => rw [q] at h2; simp at h2; rw [h2]
    have fm := B.caps _ _ h1
    have kd := B.frees _ fm rfl
    obtain ⟨m, hn, hl⟩ := I.loc
    obtain ⟨u, r, l⟩ := hl j x v hN h2' (by rcases kd with k | k; exact .inr (.inl k); exact .inr (.inr k))
    refine ⟨u, r, .inr ?_⟩
    have cellx : ∃ c, X.env.cells.lookup x = some c ∧ s.heap.IsCell c (some u) := by
      rcases l with ⟨k, _⟩ | ⟨_, c, e, z⟩
      · simp only at kd; rw [k] at kd; rcases kd with k | k <;> cases k
      · exact ⟨c, e, z⟩
    obtain ⟨c, ec, zc⟩ := cellx
    have ncell : (x, NameKind.cell) ∉ scope.names := fun z => by have := nodup_keys B.nd z fm; cases this
    refine ⟨?_, c, ?_, zc.keeps keep⟩
    · have h3' : (relabel scope X.env).names.lookup x = some .local ∨ (relabel scope X.env).names.lookup x = some .cell ∨ (relabel scope X.env).names.lookup x = some .free := h3
      rcases h3' with q | q | q
      · rcases relabel_look q with q | ⟨e, _⟩
        · have := nodup_keys B.nd q fm; cases this
        · cases e
      · exact .inl q
      · exact .inr q
    · show (cellsFrom (s.heap.objs.size + 1) scope.names (cloF X.env scope.names [])).lookup x = some c
      obtain ⟨c', e'⟩ := Option.isSome_iff_exists.mp (PySem.W.cellsFrom_some (x := x) scope.names (s.heap.objs.size + 1) (cloF X.env scope.names []) (.inr (clo_some _ _ (.inl fm))))
      rw [e']
      rcases cf_look _ _ _ e' with q | ⟨q, _⟩
      · exfalso
        have m := PySem.mem_of_lookup e'
        have aux : ∀ (names : List (Str × NameKind)) (k : Nat) (acc : List (Str × Addr)), (x, NameKind.cell) ∉ names → (cellsFrom k names acc).lookup x = acc.lookup x := by
          intro names
          induction names with
          | nil => intro _ _ _; rfl
          | cons y r ih =>
            intro k acc nm
            obtain ⟨n, kd⟩ := y
            unfold cellsFrom
            by_cases hk : (kd == NameKind.cell) = true
            · rw [if_pos hk, ih _ _ (fun z => nm (List.mem_cons_of_mem _ z)), List.lookup_cons]
              have : (x == n) = false := by
                simp only [beq_eq_false_iff_ne]
                intro e; subst e
                have : kd = .cell := by simpa using hk
                subst this
                exact nm List.mem_cons_self
              rw [this]
            · rw [if_neg hk, ih _ _ (fun z => nm (List.mem_cons_of_mem _ z))]
        rw [aux _ _ _ ncell] at e'
        rcases clo_look _ _ has e' with z | z
        · exact absurd (Nat.lt_of_lt_of_le (old _ _ z) (Nat.le_trans (Nat.le_succ _) q)) (Nat.lt_irrefl _)
        · cases z
      · rcases clo_look _ _ has q with z | z
        · rw [ec] at z; rw [z]
        · cases z
  · rcases cs_look x c e with q | ⟨q, _⟩
    · exact I.hok.fresh (Nat.le_trans (Nat.le_succ _) q)
    · exact I.freeC x c q
  · unfold blkσ
    show _ = (own ++ cap).length
    rw [List.length_append, List.length_append, List.length_replicate, List.length_map, B.len]
end
end L2

set_option Elab.async false
set_option linter.all false
set_option maxRecDepth 100000
namespace L2
open PySem PySem.Spec PyProof.Rows

def tCompN (g : TG) (tt : TT) (te : TE) (J : It) (acc : Addr) (σ₀ : St) (H₀ : Hp) (Q : VK) : Prop :=
  ∃ W : Nat → Nat → St → Hp → Prop, (∃ m, W 0 m σ₀ (upd H₀ acc (.lst []))) ∧ ∀ i m σ' H', W i m σ' H' →
    (J.stop i H' ∧ Q (.ref acc) H') ∨
    (J.go i H' ∧ ∃ N : St → Hp → Prop, (∀ σ2 H2, N σ2 H2 → ∃ m', m' < m ∧ W (i + 1) m' σ2 H2) ∧ ∀ x H2, J.yld i H' x H2 → g x σ' H2 fun σ3 H3 => tt σ3 H3 fun b H4 =>
      if b = true then te σ3 H4 fun y H5 => ∃ ys, H5 acc = some (.lst ys) ∧ ys.length < sizeLine ∧ N σ3 (upd H5 acc (.lst (ys ++ [y]))) else N σ3 H4)
/-- [elt for tg in iter if ..]: the accumulator stands at acc -/
def tComp (wi : TI) (g : TG) (tt : TT) (te : TE) (own : Nat) (ix : List Nat) : TE := fun σ H Q => wi σ H fun J H1 => ∀ acc, H1 acc = none → tCompN g tt te J acc (blkσ own ix σ) H1 Q

section
variable {X : Cx} {scope : Scope} {own cap : List Str} {ix : List Nat} {tg iter elt : Expr} {ifs : List Expr} {wi : TI} {g : TG} {tt : TT} {te : TE} {pos : Pos}

theorem comp_core {pins : List (Addr × Obj)} {σ : St} {H2 : Hp} {s2 : Shared} {it : Addr} {fp : List Addr} {tn : Nat → Heap → Prop} {J : It} {Q : VK} {RR : Value → Addr → Result → Shared → Prop} {E : Value → Shared → Prop}
    (B : BlkOk X scope own cap ix) (hc : X.calm = true)
    (hb : ∀ C fp s H, PG (cxC X scope C (own ++ cap) fp s H) tg g ∧ PIfs (cxC X scope C (own ++ cap) fp s H) ifs tt ∧ PE (cxC X scope C (own ++ cap) fp s H) elt te)
    (I2 : Inv X pins σ H2 s2) (T : Turn X.prog X.w X.K tg J fp it tn) (st2 : tn 0 s2.heap) (f2 : ∀ b ∈ fp, FpOk X pins H2 b)
    (q : ∀ acc, H2 acc = none → tCompN g tt te J acc (blkσ own.length ix σ) H2 Q)
    (hRR : ∀ D C H' s' m, Inv X pins σ H' s' → Q (.ref D) H' → s'.heap.Ns C m → FpOk X pins H' C → RR (.ref D) C (.ok .next) s') :
    wpAny (model X.prog X.w) X.A (newList []) (fun acc s₃ => wpAny (model X.prog X.w) X.A (newFunctionEnv scope X.env.globals (cloF X.env scope.names []) [] X.env.qual none .none (some X.env)) (fun cenv s₄ =>
      codeAny (model X.prog X.w) X.A (.compStart (.ListComp elt [⟨tg, iter, ifs, 0⟩] scope pos) 0 (.ref it) acc { cenv with scope := relabel scope X.env }) (RR acc cenv.locals) s₄) E s₃) E s2 := by
  refine wpAny_newObj_type (newEnv_comp ?_)
  have I3 : Inv X pins σ (upd H2 s2.heap.objs.size (.lst [])) { s2 with heap := s2.heap.push { cls := .type "list", dict := none, data := .seq ([] : List Value).toArray } } := I2.lnew (its := []) (ys := []) (t' := s2.toks) .nil (Nat.zero_le _)
  obtain ⟨W, ⟨m0, w0⟩, turn⟩ := q s2.heap.objs.size I2.fresh
  generalize hD : s2.heap.objs.size = D at I3 w0 turn ⊢
  have hlt : ∀ b ∈ fp, b < D := fun b hbm => by
    obtain ⟨o, e, _⟩ := T.obj 0 _ st2 b hbm
    rw [← hD]; exact Heap.lt_size e
  generalize hs3 : ({ s2 with heap := s2.heap.push { cls := .type "list", dict := none, data := .seq ([] : List Value).toArray } } : Shared) = s3 at I3 ⊢
  have keep3 : ∀ b o, s2.heap.get? b = some o → s3.heap.get? b = some o := fun b o e => by rw [← hs3]; exact Heap.get?_push_of_some _ e
  have f3 : ∀ b ∈ fp, FpOk X pins (upd H2 D (.lst [])) b := fun b hbm => ⟨by rw [upd_ne (Nat.ne_of_lt (hlt b hbm))]; exact (f2 b hbm).1, (f2 b hbm).2⟩
  have o3 : ∀ b ∈ fp, ∃ o, s3.heap.get? b = some o := fun b hbm => let ⟨o, e, _⟩ := T.obj 0 _ st2 b hbm; ⟨o, keep3 b o e⟩
  have I4 := I3.block B f3 o3
  have st4 : tn 0 (pushCells (s3.heap.push { cls := .type "dict", data := .dict #[] }) scope.names) := T.keep 0 _ _ st2 fun b _ o e => pushCells_keeps _ _ b o (Heap.get?_push_of_some _ (keep3 b o e))
  obtain ⟨hg, hif, he⟩ := hb s3.heap.objs.size fp s3 (upd H2 D (.lst []))
  generalize hX' : cxC X scope s3.heap.objs.size (own ++ cap) fp s3 (upd H2 D (.lst [])) = X' at I4 hg hif he
  have eP : X'.prog = X.prog := by rw [← hX']; rfl
  have eW : X'.w = X.w := by rw [← hX']; rfl
  have eK : X'.K = X.K := by rw [← hX']; rfl
  have eA : X'.A = X.A := by rw [← hX']; rfl
  have eE : X'.env = compE scope s3.heap.objs.size X.env := by rw [← hX']; rfl
  have ex : X'.xe = fun _ _ => False := by rw [← hX']; rfl
  have hc' : X'.calm = true := by rw [← hX']; exact hc
  have stat : ∀ {H' : Hp}, (∀ b ∈ fp, H' b = none) → ∀ b ∈ fp, FpOk X' [] H' b := fun hn b hbm => by
    subst hX'
    exact ⟨hn b hbm, (I4.ok.exf b hbm).1, I4.ok.exfs b hbm, .inl hbm, (I4.ok.exf b hbm).2, fun p hp => absurd (show p ∈ ([] : List (Addr × Obj)) from hp) (by simp)⟩
  have loop : ∀ s4 : Shared, s4 = { s3 with heap := pushCells (s3.heap.push { cls := .type "dict", data := .dict #[] }) scope.names } →
      codeAny (model X.prog X.w) X.A (.compLoop (.ListComp elt [⟨tg, iter, ifs, 0⟩] scope pos) 0 (.ref it) (.ref D) (compE scope s3.heap.objs.size X.env)) (RR (.ref D) s3.heap.objs.size) s4 := by
    rintro s4 rfl
    refine comp_loop (fun n s' => ∃ i σ' H', Inv X' [] σ' H' s' ∧ tn i s'.heap ∧ (∀ b ∈ fp, H' b = none) ∧ W i n σ' H') ?_ m0 ⟨0, _, _, I4, st4, fun b hbm => (f3 b hbm).1, w0⟩
    rintro n s5 ⟨i, σ5, H5, I5, st5, fr5, w5⟩
    rcases turn i n σ5 H5 w5 with ⟨stop, qn⟩ | ⟨go, N, hN, step⟩
    · have := T.done X' eP eW eK hc' i [] s5 σ5 H5 (fun _ _ => False) I5 (stat fr5) st5 stop
      rw [eA] at this
      refine thn this fun r s6 ⟨hr, I6⟩ => ?_
      subst hr
      subst hX'
      have J6 : Inv X pins σ H5 s6 := I3.call' (ch := fp) I6.os I6.base I6.hok I6.bare fun b hbm => ⟨(f3 b hbm).2.2.2.1, (f3 b hbm).2.1, (f3 b hbm).2.2.2.2.1, (f3 b hbm).2.2.2.2.2⟩
      obtain ⟨m, hn, _⟩ := I6.loc
      exact hRR D _ H5 s6 m J6 qn hn (I3.fpOk (Nat.le_refl _) I6.free)
    · have := T.item X' eP eW eK hc' i [] s5 σ5 H5 (fun _ _ => False) I5 (stat fr5) st5 go
      rw [eA] at this
      refine thn this fun r s6 ⟨u, hr, h6⟩ => ?_
      subst hr
      refine thn h6 fun _ s7 ⟨x, H7, I7, r7, y7, st7, fr7⟩ => ?_
      have I7' := I7.pinned (stat fr7) (T.obj _ _ st7)
      have a1 := hg _ s7 σ5 H7 x u _ I7' r7 (step x H7 y7)
      rw [eP, eW, eA, eE, ex] at a1
      refine thn a1 fun _ s8 ⟨σ8, H8, I8, q8⟩ => ?_
      have a2 := hif _ s8 σ8 H8 _ I8 q8
      rw [eP, eW, eA, eE, ex] at a2
      refine thn a2 fun b s9 ⟨H9, I9, q9⟩ => ?_
      have again : ∀ {s' : Shared} {σ' : St} {H' : Hp}, Inv X' ([] ++ pinsAt fp s7.heap) σ' H' s' → N σ' H' → ∃ m, m < n ∧ ∃ i σ' H', Inv X' [] σ' H' s' ∧ tn i s'.heap ∧ (∀ b ∈ fp, H' b = none) ∧ W i m σ' H' := fun {s' σ' H'} I' n' => by
        obtain ⟨m', hm, w'⟩ := hN σ' H' n'
        refine ⟨m', hm, i + 1, σ', H', I'.unpinned, T.keep _ _ _ st7 fun b hbm o e => (I'.pin (b, o) (List.mem_append_right _ (List.mem_append_right _ (mem_pinsAt hbm e)))).1, fun b hbm => ?_, w'⟩
        obtain ⟨o, e, d⟩ := T.obj _ _ st7 b hbm
        exact (I'.pin (b, o) (List.mem_append_right _ (List.mem_append_right _ (mem_pinsAt hbm e)))).2.1
      cases b with
      | false => exact again I9 q9
      | true =>
        rw [if_pos rfl] at q9 ⊢
        have a3 := he _ s9 σ8 H9 _ I9 q9
        rw [eP, eW, eA, eE, ex] at a3
        refine thn a3 fun yv s10 ⟨y, H10, I10, r10, ys, hys, hz, q10⟩ => ?_
        have a4 := mt_append (X := X') _ s10 σ8 H10 (.ref D) [y] (.ref D) [yv] (fun v H' => v = .non ∧ N σ8 H') I10 rfl (.cons r10 .nil) ⟨D, ys, y, rfl, rfl, hys, hz, rfl, q10⟩
        rw [eP, eW, eA, ex] at a4
        refine thn a4 fun _ s11 ⟨_, H11, I11, _, _, q11⟩ => again I11 q11
  exact codeAny_compStart_list (loop _ rfl) (T.self X.A 0 _ _ _ st4 (loop _ rfl))

theorem pe_comp (B : BlkOk X scope own cap ix) (hc : X.calm = true) (hi : PI X tg iter wi)
    (hb : ∀ C fp s H, PG (cxC X scope C (own ++ cap) fp s H) tg g ∧ PIfs (cxC X scope C (own ++ cap) fp s H) ifs tt ∧ PE (cxC X scope C (own ++ cap) fp s H) elt te)
    (hs : ∀ x, foldedSetIterable iter X.env x = pure x := by intro _; rfl) : PE X (.ListComp elt [⟨tg, iter, ifs, 0⟩] scope pos) (tComp wi g tt te own.length ix) := by
  intro pins s σ H Q I h
  rw [eval_ListComp]
  have has : ∀ x ∈ scope.names, x.2 = .free → (X.env.cells.lookup x.1).isSome = true := fun x hx hk => by
    obtain ⟨c, e⟩ := I.ok.has x.1 (B.frees x hx hk)
    rw [e]; rfl
  refine wpAny_comprehension_free (use := none) rfl hs (closureFor_cells has) B.kind B.names ?_
  show wpAny _ _ (eval iter X.env) _ _ s
  refine thn (hi pins s σ H _ I h) fun v s1 h1 => thn h1 fun itv s2 h2 => ?_
  obtain ⟨it, fp, tn, J, H2, e, I2, T, st2, f2, q⟩ := h2
  subst e
  refine comp_core (RR := fun acc C => compPost (model X.prog X.w) X.A X.xe none (EP X pins σ Q) acc C) B hc hb I2 T st2 f2 q ?_
  intro D C H' s' m I' q' hn fC
  refine ⟨m, hn, fun h' hsb => ⟨.ref D, H', ?_, rfl, q'⟩⟩
  exact I'.turned (t' := s'.toks) (it := C) (fun b o hbC e => (hsb.2 b hbC).trans e) fC.1 fC.2.1 fC.2.2.2.1 fC.2.2.2.2.1 fC.2.2.2.2.2

/-- name = [.. for ..], the name a plain local on the comprehension's row -/
theorem ps_setC {i : Nat} {y : Str} {py spos : Pos} (hN : X.N.Nodup) (hiN : X.N[i]? = some y) (hx : X.env.scope.names.lookup y = some .local) (B : BlkOk X scope own cap ix) (hc : X.calm = true) (hi : PI X tg iter wi)
    (hb : ∀ C fp s H, PG (cxC X scope C (own ++ cap) fp s H) tg g ∧ PIfs (cxC X scope C (own ++ cap) fp s H) ifs tt ∧ PE (cxC X scope C (own ++ cap) fp s H) elt te)
    (hsw : swapsWith (.ListComp elt [⟨tg, iter, ifs, 0⟩] scope pos) (some (.Name y py)) spos.line X.env = pure true := by rfl)
    (hs : ∀ x, foldedSetIterable iter X.env x = pure x := by intro _; rfl) : PS X (.Assign [.Name y py] (.ListComp elt [⟨tg, iter, ifs, 0⟩] scope pos) spos) (tAsg (tComp wi g tt te own.length ix) (gName i)) := by
  intro pins s σ H D I h
  rw [exec_Assign_Name_used _ _ _ _ hsw]
  have has : ∀ x ∈ scope.names, x.2 = .free → (X.env.cells.lookup x.1).isSome = true := fun x hx hk => by
    obtain ⟨c, e⟩ := I.ok.has x.1 (B.frees x hx hk)
    rw [e]; rfl
  refine wpAny_bind (wpAny_standAt (wpAny_bind ?_))
  show wpAny _ X.A (do let _ ← comprehension (.ListComp elt [⟨tg, iter, ifs, 0⟩] scope pos) scope X.env _ (newList []) false (eval iter X.env) (some (assign (.Name y py) X.env))) _ _ s
  refine wpAny_bind (wpAny_mono (wpAny_comprehension_free (use := some (assign (.Name y py) X.env)) (Q := fun _ s' => SP X pins D .next s') rfl hs (closureFor_cells has) B.kind B.names ?_) (fun _ s' hq => wpAny_pure (wpAny_pure hq)) fun _ _ e => e)
  refine thn (hi pins s σ H _ I h) fun v s1 h1 => thn h1 fun itv s2 h2 => ?_
  obtain ⟨it, fp, tn, J, H2, e, I2, T, st2, f2, q⟩ := h2
  subst e
  refine comp_core (RR := fun acc C => compPost (model X.prog X.w) X.A X.xe (some (assign (.Name y py) X.env)) (fun _ s' => SP X pins D .next s') acc C) B hc hb I2 T st2 f2 q ?_
  intro Da C H' s' m I' q' hn fC
  show wpAny _ X.A (assign (.Name y py) X.env (.ref Da)) _ _ s'
  obtain ⟨oC, es, ep, hoC, hdC, r⟩ := id hn
  have Ip : Inv X (pins ++ [(C, oC)]) σ H' s' := I'.pins_of fun p hp => by
    rcases List.mem_append.mp hp with z | z
    · exact I'.pin p (List.mem_append_right _ z)
    · obtain rfl : p = (C, oC) := by simpa using z
      exact ⟨hoC, fC.1, fC.2.1, fC.2.2.1, fun v e => by rw [hdC] at e; cases e⟩
  refine wpAny_assign_Name (store_ok Ip hN hiN (.inl hx) (v := .ref Da) rfl (fun s'' I'' => ?_) (.inr hx))
  have pC := (I''.pin (C, oC) (List.mem_append_right _ (List.mem_append_right _ (by simp)))).1
  refine ⟨m, ⟨oC, es, ep, pC, hdC, r⟩, fun h' hsb => ⟨_, H', ?_, q'⟩⟩
  exact I''.unpinned.turned (t' := s''.toks) (it := C) (fun b o hbC e => (hsb.2 b hbC).trans e) fC.1 fC.2.1 fC.2.2.2.1 fC.2.2.2.2.1 fC.2.2.2.2.2
end
end L2

set_option Elab.async false
set_option linter.all false
set_option maxRecDepth 100000
namespace L2
open PySem PySem.Spec PyProof.Rows

/-! ### any, all, sum, max over a list or a tuple of plain values -/
def tv : V → Bool
  | .bl b => b
  | .int i => i != 0
  | _ => false
def plainB : V → Bool
  | .bl _ => true
  | .int _ => true
  | .non => true
  | _ => false
theorem truthy_plain {prog : Program} {w : World} {A : Around} {E : Value → Shared → Prop} {s : Shared} {x : V} {v : Value} {Q : Bool → Shared → Prop} (r : RelV x v) (p : plainB x = true) (h : Q (tv x) s) : wpAny (model prog w) A (truthy v) Q E s := by
  cases x with
  | non => cases r; exact truthy_none h
  | bl b => cases r; exact wpAny_truthy_bool h
  | int i => obtain ⟨t, rfl⟩ := r; exact PySem.P.truthy_int h
  | _ => cases p
theorem any_range {xs : List V} {n : Nat} (hn : n = xs.length) (f : V → Bool) : (List.range n).any (fun i => (xs[i]?.map f).getD false) = xs.any f := by
  subst hn
  rw [Bool.eq_iff_iff]
  simp only [List.any_eq_true, List.mem_range]
  constructor
  · rintro ⟨i, hi, h⟩
    rw [List.getElem?_eq_getElem hi] at h
    exact ⟨_, List.getElem_mem hi, by simpa using h⟩
  · rintro ⟨x, hx, h⟩
    obtain ⟨i, hi, e⟩ := List.mem_iff_getElem.mp hx
    exact ⟨i, hi, by rw [List.getElem?_eq_getElem hi, e]; simpa using h⟩

section
variable {X : Cx}
/-- an iterator of a list or a tuple for a built-in that walks it -/
theorem iter_seq {pins : List (Addr × Obj)} {σ : St} {H : Hp} {s : Shared} {p : Addr} {xs : List V} {A : Around} {E : Value → Shared → Prop} {Q : Value → Shared → Prop} (I : Inv X pins σ H s) (hA : A.handled = none) (h : SqL X.K H p xs ∨ SqT X.K H p xs)
    (k : ∀ (it : Addr) (fp wr : List Addr) (its : List Value) (St : Nat → Heap → Prop) (s2 : Shared), Vals xs its → Walks X.prog X.w A it fp wr its.length (fun i v => its[i]? = some v) St → St 0 s2.heap → (∀ b ∈ fp, b < s2.heap.objs.size) →
      (∀ h' tk, (∀ b o, b ∉ wr → s2.heap.get? b = some o → h'.get? b = some o) → Inv X pins σ H { s2 with heap := h', toks := tk }) → Q (.ref it) s2) :
    wpAny (model X.prog X.w) A (pyIter (.ref p)) Q E s := by
  rcases h with h | h
  · obtain ⟨its, rv, pl, hz⟩ := I.list h
    have hp : p < s.heap.objs.size := by obtain ⟨o, n, e, _⟩ := pl; exact Heap.lt_size e
    refine wpAny_pyIter_list pl.isList ?_
    have W := Walks.list (prog := X.prog) (w := X.w) (A := A) hA s.heap.objs.size p (Nat.ne_of_lt hp) its.toArray
    refine k s.heap.objs.size [s.heap.objs.size, p] [s.heap.objs.size] its (fun i h => h.IsListIter s.heap.objs.size p i ∧ h.IsList p its.toArray) _ rv (by simpa using W) ⟨⟨_, Heap.get?_push_size _ rfl, rfl, rfl⟩, pl.isList.push _⟩ (fun b hb => ?_) (fun h' tk hk => ?_)
    · show b < (s.heap.push _).objs.size
      rw [Heap.size_push]
      rcases List.mem_cons.mp hb with rfl | hb
      · exact Nat.lt_succ_self _
      · rcases List.mem_cons.mp hb with rfl | hb
        · exact Nat.lt_succ_of_lt hp
        · cases hb
    · exact I.kept (t' := tk) fun b o e => hk b o (fun z => Nat.lt_irrefl _ (by have := Heap.lt_size e; simp at z; rw [z] at this; exact this)) (Heap.get?_push_of_some _ e)
  · obtain ⟨its, rv, pl, hz⟩ := I.tuple h
    have hp : p < s.heap.objs.size := by obtain ⟨o, e, _⟩ := pl; exact Heap.lt_size e
    have pt : s.heap.IsTuple p its.toArray := pl
    refine wpAny_pyIter_tuple pt ?_
    have W := Walks.tuple (prog := X.prog) (w := X.w) (A := A) hA s.heap.objs.size p (Nat.ne_of_lt hp) its.toArray
    refine k s.heap.objs.size [s.heap.objs.size, p] [s.heap.objs.size] its (fun i h => h.IsTupleIter s.heap.objs.size p i ∧ h.IsTuple p its.toArray) _ rv (by simpa using W) ⟨⟨_, Heap.get?_push_size _ rfl, rfl, rfl⟩, ?_⟩ (fun b hb => ?_) (fun h' tk hk => ?_)
    · obtain ⟨o, e, r⟩ := pt
      exact ⟨o, Heap.get?_push_of_some _ e, r⟩
    · show b < (s.heap.push _).objs.size
      rw [Heap.size_push]
      rcases List.mem_cons.mp hb with rfl | hb
      · exact Nat.lt_succ_self _
      · rcases List.mem_cons.mp hb with rfl | hb
        · exact Nat.lt_succ_of_lt hp
        · cases hb
    · exact I.kept (t' := tk) fun b o e => hk b o (fun z => Nat.lt_irrefl _ (by have := Heap.lt_size e; simp at z; rw [z] at this; exact this)) (Heap.get?_push_of_some _ e)

theorem Vals.at {xs : List V} {us : List Value} {i : Nat} {v : Value} (r : Vals xs us) (e : us[i]? = some v) : ∃ x, xs[i]? = some x ∧ RelV x v := by
  have hi : i < us.length := (List.getElem?_eq_some_iff.mp e).1
  have hx : i < xs.length := by rw [r.length]; exact hi
  obtain ⟨u, h1, h2⟩ := r.get (List.getElem?_eq_getElem hx)
  rw [e] at h1; cases h1
  exact ⟨_, List.getElem?_eq_getElem hx, h2⟩

theorem call_any (hc : X.calm = true) : CallR X (.builtin "any") (fun xs H Q => ∃ p ys, xs = [.ref p] ∧ (SqL X.K H p ys ∨ SqT X.K H p ys) ∧ ys.all plainB = true ∧ Q (.bl (ys.any tv)) H) := by
  intro pins s σ H xs us Q I r h
  obtain ⟨p, ys, rfl, hs, hp, q⟩ := h
  obtain ⟨u, rfl, ru⟩ := vals1 r
  cases ru
  refine call_any_walk (iter_seq I (A := X.A.in1) (I.ok.hd hc) hs fun it fp wr its St s2 rv W st hfp hk => ?_)
  refine ⟨it, fp, wr, its.length, _, St, (fun i => (ys[i]?.map tv).getD false), rfl, W, st, fun i v s' Q' E' hv hq => ?_, fun h' tk kk => ⟨.bl (ys.any tv), H, hk h' tk kk, ?_, q⟩⟩
  · obtain ⟨x, ex, rx⟩ := rv.at hv
    simp only [ex, Option.map_some, Option.getD_some] at hq
    exact truthy_plain rx (List.all_eq_true.mp hp x (List.mem_of_getElem? ex)) hq
  · rw [any_range rv.length.symm]; rfl

theorem preSum_take (ns : List Int) : ∀ k, k ≤ ns.length → preSum (fun i => (ns[i]?).getD 0) k = (ns.take k).sum
  | 0, _ => by simp [preSum]
  | k + 1, h => by
    have hk : k < ns.length := h
    rw [preSum, preSum_take ns k (Nat.le_of_lt hk), List.getElem?_eq_getElem hk]
    have e : ns.take (k + 1) = ns.take k ++ [ns[k]] := by rw [List.take_add_one, List.getElem?_eq_getElem hk]; rfl
    rw [e, List.sum_append]
    simp
theorem call_sum (hc : X.calm = true) : CallR X (.builtin "sum") (fun xs H Q => ∃ (p : Addr) (ns : List Int), xs = [.ref p] ∧ (SqL X.K H p (ns.map V.int) ∨ SqT X.K H p (ns.map V.int)) ∧ Q (.int ns.sum) H) := by
  intro pins s σ H xs us Q I r h
  obtain ⟨p, ns, rfl, hs, q⟩ := h
  obtain ⟨u, rfl, ru⟩ := vals1 r
  cases ru
  refine call_sum_walkG (iter_seq I (A := X.A.in1) (I.ok.hd hc) hs fun it fp wr its St s2 rv W st hfp hk => ?_)
  refine ⟨it, fp, wr, its.length, _, St, (fun i => (ns[i]?).getD 0), rfl, W, st, hfp, fun i v hv => ?_, fun h' tk t' kk => ⟨.int ns.sum, H, hk h' tk kk, ⟨t', ?_⟩, q⟩⟩
  · obtain ⟨x, ex, rx⟩ := rv.at hv
    rw [List.getElem?_map] at ex
    cases e : ns[i]? with
    | none => rw [e] at ex; cases ex
    | some n =>
      rw [e] at ex
      cases ex
      simp only [e, Option.getD_some]
      exact rx
  · have hl : its.length = ns.length := by rw [← rv.length, List.length_map]
    rw [hl, preSum_take ns _ (Nat.le_refl _), List.take_length]
theorem call_maxL (hc : X.calm = true) : CallR X (.builtin "max") (fun xs H Q => ∃ (p : Addr) (ns : List Int), xs = [.ref p] ∧ (SqL X.K H p (ns.map V.int) ∨ SqT X.K H p (ns.map V.int)) ∧ ns ≠ [] ∧ ∀ m, m ∈ ns → (∀ n ∈ ns, n ≤ m) → Q (.int m) H) := by
  intro pins s σ H xs us Q I r h
  obtain ⟨p, ns, rfl, hs, hne, q⟩ := h
  obtain ⟨u, rfl, ru⟩ := vals1 r
  cases ru
  refine call_max_walk (iter_seq I (A := X.A.in1) (I.ok.hd hc) hs fun it fp wr its St s2 rv W st hfp hk => ?_)
  have hl : its.length = ns.length := by rw [← rv.length, List.length_map]
  have hpos : 0 < ns.length := List.length_pos_iff.mpr hne
  have val : ∀ (i : Nat) (v : Value), its[i]? = some v → ∃ t, v = Value.int ((ns[i]?).getD 0) t := fun i v hv => by
    obtain ⟨x, ex, rx⟩ := rv.at hv
    rw [List.getElem?_map] at ex
    cases e : ns[i]? with
    | none => rw [e] at ex; cases ex
    | some n =>
      rw [e] at ex
      cases ex
      exact rx
  refine ⟨it, fp, wr, its.length, _, St, (fun i j => decide ((ns[i]?).getD 0 > (ns[j]?).getD 0)), rfl, W, st, hfp, by omega, CmpOf.ints_gt (fun i => (ns[i]?).getD 0) val, fun v h' tk hP kk => ?_⟩
  obtain ⟨t, rfl⟩ := val _ _ hP
  obtain ⟨h1, h2⟩ := argBest_gt (fun i => (ns[i]?).getD 0) (its.length - 1)
  have hlt : argBest (fun i j => decide ((ns[i]?).getD 0 > (ns[j]?).getD 0)) (its.length - 1) < ns.length := by
    omega
  refine ⟨.int _, H, hk h' tk kk, ⟨t, rfl⟩, q _ ?_ fun n hn => ?_⟩
  · rw [List.getElem?_eq_getElem hlt]
    exact List.getElem_mem hlt
  · obtain ⟨i, hi, e⟩ := List.mem_iff_getElem.mp hn
    have := h2 i (by omega)
    simp only [List.getElem?_eq_getElem hi, Option.getD_some] at this
    rw [← e]; exact this
end

/-! ### isinstance(x, T), T a name -/
def tIsi (K : PySem.W.Frag) (c : Value) (te : TE) : TE := fun σ H Q => te σ H fun x H1 => ∃ t b, TyOf K H1 x t ∧ PySem.W.kitOne K t c = some b ∧ Q (.bl b) H1
section
variable {X : Cx} {e : Expr} {te : TE}
theorem spl2 {a b : Expr} {ta : TE} {pos : Pos} {pins : List (Addr × Obj)} {s : Shared} {σ : St} {H : Hp} {Q : List Value → Shared → Prop} (ha : PE X a ta) (I : Inv X pins σ H s) {R : V → Hp → Prop} (h : ta σ H R)
    (hs : starEach [a, b] X.env = [(false, eval a X.env), (false, eval b X.env)]) (k : ∀ u s1 x H1, Inv X pins σ H1 s1 → RelV x u → R x H1 → wpAny (model X.prog X.w) X.A (eval b X.env) (fun v s2 => Q [u, v] s2) X.xe s1) :
    wpAny (model X.prog X.w) X.A (spliced (backTo pos (starEach [a, b] X.env))) Q X.xe s := by
  rw [hs]
  refine Calls.spliced_cons (thn (ha pins s σ H _ I h) fun u s1 ⟨x, H1, I1, r, q⟩ => ?_)
  exact Calls.spliced_cons (thn (k u s1 x H1 I1 r q) fun v s2 h2 => Calls.spliced_nil h2)
/-- T a built-in type's name -/
theorem pe_isiB {T : Str} {n : String} {p p2 pos : Pos} (he : PE X e te) (hg : Gl X "isinstance") (hm : X.mg "isinstance" = none) (hgT : Gl X T) (hmT : X.mg T = none) (hv : bootBuiltins T = some (.type n))
    (hb : bootBuiltins "isinstance" = some (.builtin "isinstance")) (hnT : T ≠ "__name__" := by decide) (hdT : (T == ("__debug__" : Str)) = false := by decide)
    (hs : starEach [e, .Name T p2] X.env = [(false, eval e X.env), (false, eval (.Name T p2) X.env)] := by rfl)
    (hpl : (backTo pos (starEach [.Name T p2] X.env)).any (·.1) = false := by rfl) : PE X (.Call (.Name "isinstance" p) [e, .Name T p2] [] pos) (tIsi X.K (.type n) te) := by
  intro pins s σ H Q I h
  refine Call_ (ld_blt I hg hm hb (PyProof.Rows.callWith_builtin1 (spl2 (Q := fun us s1 => wpAny (model X.prog X.w) X.A (call (.builtin "isinstance") us) (EP X pins σ Q) X.xe s1) he I h hs fun u s1 x H1 I1 r q => ?_) ?_ hpl))
  · refine ld_blt I1 hgT hmT hv ?_ hnT hdT
    obtain ⟨t, b, ty, ek, q⟩ := q
    exact isinst_ok I1 r ty ek fun tk => ⟨.bl b, H1, I1.tok tk, rfl, q⟩
  · rw [hs]; rfl
end

/-! ### == and != of nested data -/
mutual
inductive DtV (K : PySem.W.Frag) (H : Hp) : V → PyData → Prop
  | non : DtV K H .non .none
  | bl (b : Bool) : DtV K H (.bl b) (.bool b)
  | int (i : Int) : DtV K H (.int i) (.int i)
  | str (x : Str) (ok : (PyData.str x).canLay0 = true) : DtV K H (.str x) (.str x)
  | lst {a : Addr} {xs : List V} {ds : List PyData} : SqL K H a xs → DtVs K H xs ds → DtV K H (.ref a) (.list ds)
  | tup {a : Addr} {xs : List V} {ds : List PyData} : SqT K H a xs → DtVs K H xs ds → DtV K H (.ref a) (.tuple ds)
inductive DtVs (K : PySem.W.Frag) (H : Hp) : List V → List PyData → Prop
  | nil : DtVs K H [] []
  | cons {x : V} {xs : List V} {d : PyData} {ds : List PyData} : DtV K H x d → DtVs K H xs ds → DtVs K H (x :: xs) (d :: ds)
end
section
variable {X : Cx} {pins : List (Addr × Obj)} {σ : St} {H : Hp} {s : Shared}
mutual
theorem DtV.reads (I : Inv X pins σ H s) : ∀ {x : V} {d : PyData} {u : Value}, DtV X.K H x d → RelV x u → ∃ as, Reads s.heap u d as
  | _, _, _, .non, r => by cases r; exact ⟨_, .none⟩
  | _, _, _, .bl b, r => by cases r; exact ⟨_, .bool b⟩
  | _, _, _, .int i, r => by obtain ⟨t, rfl⟩ := r; exact ⟨_, .int i t⟩
  | _, _, _, .str x _, r => by obtain ⟨t, rfl⟩ := r; exact ⟨_, .str x t⟩
  | _, _, _, .lst hq h, r => by
    cases r
    obtain ⟨its, rv, ⟨o, n, e, c, _, d⟩, _⟩ := I.list hq
    obtain ⟨as, ra⟩ := DtVs.reads I h rv
    exact ⟨_, .list e c d (by simpa using ra)⟩
  | _, _, _, .tup hq h, r => by
    cases r
    obtain ⟨its, rv, ⟨o, e, c, n, d⟩, _⟩ := I.tuple hq
    obtain ⟨as, ra⟩ := DtVs.reads I h rv
    exact ⟨_, .tuple e c d (by simpa using ra)⟩
theorem DtVs.reads (I : Inv X pins σ H s) : ∀ {xs : List V} {ds : List PyData} {us : List Value}, DtVs X.K H xs ds → Vals xs us → ∃ as, ReadsAll s.heap us ds as
  | _, _, _, .nil, r => by cases r; exact ⟨_, .nil⟩
  | _, _, _, .cons h t, r => by
    cases r with
    | cons r1 r2 =>
      obtain ⟨as, ra⟩ := DtV.reads I h r1
      obtain ⟨bs, rb⟩ := DtVs.reads I t r2
      exact ⟨_, .cons ra rb⟩
end
mutual
theorem DtV.lay {K : PySem.W.Frag} : ∀ {x : V} {d : PyData}, DtV K H x d → d.canLay0 = true
  | _, _, .non => rfl
  | _, _, .bl b => rfl
  | _, _, .int i => rfl
  | _, _, .str x ok => ok
  | _, _, .lst hq h => by have := DtVs.lay h; simpa [PyData.canLay0] using this
  | _, _, .tup hq h => by have := DtVs.lay h; simpa [PyData.canLay0] using this
theorem DtVs.lay {K : PySem.W.Frag} : ∀ {xs : List V} {ds : List PyData}, DtVs K H xs ds → PyData.canLayAll0 ds = true
  | _, _, .nil => rfl
  | _, _, .cons h t => by have h1 := DtV.lay h; have h2 := DtVs.lay t; simp [PyData.canLayAll0, h1, h2]
end
end
section
variable {X : Cx}
def rEqD (K : PySem.W.Frag) : R2 := fun x y H Q => ∃ dx dy, DtV K H x dx ∧ DtV K H y dy ∧ min dx.depth dy.depth ≤ 60 ∧ Q (.bl (PyData.eqv dx dy)) H
def rNeD (K : PySem.W.Frag) : R2 := fun x y H Q => ∃ dx dy, DtV K H x dx ∧ DtV K H y dy ∧ min dx.depth dy.depth ≤ 60 ∧ Q (.bl (!PyData.eqv dx dy)) H
theorem op_eqD (hu : X.A.units + 64 < cLine) : OpR X (compareOp .Eq) (rEqD X.K) := by
  intro pins s σ H x y v u Q I rx ry h
  obtain ⟨dx, dy, hx, hy, hd, q⟩ := h
  obtain ⟨as, ra⟩ := hx.reads I rx
  obtain ⟨bs, rb⟩ := hy.reads I ry
  exact SeqAt.eqOverData X.prog X.w X.A X.xe s v u dx dy as bs _ ra rb hx.lay hy.lay (by omega) ⟨.bl (PyData.eqv dx dy), H, I, rfl, q⟩
theorem op_neD (hu : X.A.units + 64 < cLine) : OpR X (compareOp .NotEq) (rNeD X.K) := by
  intro pins s σ H x y v u Q I rx ry h
  obtain ⟨dx, dy, hx, hy, hd, q⟩ := h
  obtain ⟨as, ra⟩ := hx.reads I rx
  obtain ⟨bs, rb⟩ := hy.reads I ry
  exact SeqAt.neOverData X.prog X.w X.A X.xe s v u dx dy as bs _ ra rb hx.lay hy.lay (by omega) ⟨.bl (!PyData.eqv dx dy), H, I, rfl, q⟩
end
end L2

set_option Elab.async false
set_option linter.all false
set_option maxRecDepth 100000
namespace PySem
open AutoSeq1 (wpAny_loadPart')
theorem nextOf_tup_item {prog : Program} {w : World} {A : Around} {E : Value → Shared → Prop} {s : Shared} {it l : Addr} {i : Nat} {items} {x : Value} {Q : Value → Shared → Prop} (hit : s.heap.IsTupleIter it l i)
    (hl : s.heap.IsTuple l items) (hx : items[i]? = some x)
    (hQ : ∀ h', h'.IsTupleIter it l (i + 1) → Heap.SameBut it s.heap h' → Q x { s with heap := h' }) :
    wpAny (model prog w) A (Builtin.SmallTypes.nextOf (.ref it)) Q E s := by
  obtain ⟨o, ho, hc, hd⟩ := id hit
  obtain ⟨ol, hol, _, nl, hdl⟩ := hl
  have hty : s.TypeIs (.ref it) "tuple_iterator" := ⟨o, ho, hc⟩
  unfold Builtin.SmallTypes.nextOf
  refine wpAny_bind (wpAny_callSpecial?_slot (name := Str.ofString "__next__") hty PyProof.Rows.slot_tupleiter_next
    (wpAny_call_entry PyProof.Rows.slot_tupleiter_next hty PyProof.Rows.entry_tupleiter_next ?_ (PyProof.Rows.args_tupleiter_next _)))
  show wpAny _ _ (field (.ref it) 0 >>= _) _ _ s
  refine wpAny_bind (wpAny_field ho hd (x := .ref l) rfl ?_)
  show wpAny _ _ (if (Value.ref l == Value.none) = true then _ else _) _ _ s
  rw [if_neg (show ¬ ((Value.ref l == Value.none) = true) from Bool.false_ne_true)]
  show wpAny _ _ (field (.ref it) 1 >>= _) _ _ s
  refine wpAny_bind (wpAny_field ho hd (x := .int i 0) rfl ?_)
  show wpAny _ _ (seqItems? (.ref l) >>= _) _ _ s
  refine wpAny_bind (wpAny_seqItems hol hdl ?_)
  simp only [Int.toNat_natCast, hx]
  refine wpAny_bind (wpAny_setField ho hd (by simp) (wpAny_pure ⟨x, rfl, wpAny_pure (hQ _ ?_ (Heap.SameBut.update ..))⟩))
  exact ⟨_, Heap.get?_update_self _ ho (Obj.isFreed_of_fields (Obj.data_mapFields hd _)), (Obj.cls_mapFields ..).trans hc, by
    rw [Obj.data_mapFields hd]; simp [rawInt]⟩
theorem nextOf_tup_end {prog : Program} {w : World} {A : Around} {E : Value → Shared → Prop} {s : Shared} {it l : Addr} {i : Nat} {items} {Q : Value → Shared → Prop} (hh : A.handled = none)
    (hit : s.heap.IsTupleIter it l i) (hl : s.heap.IsTuple l items) (hx : items[i]? = none)
    (hE : ∀ h' e, Heap.ExtBut it s.heap h' → (∃ o, h'.get? e = some o ∧ o.cls = .type "StopIteration") → E (.ref e) { s with heap := h' }) :
    wpAny (model prog w) A (Builtin.SmallTypes.nextOf (.ref it)) Q E s := by
  obtain ⟨o, ho, hc, hd⟩ := id hit
  obtain ⟨ol, hol, _, nl, hdl⟩ := hl
  have hty : s.TypeIs (.ref it) "tuple_iterator" := ⟨o, ho, hc⟩
  unfold Builtin.SmallTypes.nextOf
  refine wpAny_bind (wpAny_callSpecial?_slot (name := Str.ofString "__next__") hty PyProof.Rows.slot_tupleiter_next
    (wpAny_call_entry PyProof.Rows.slot_tupleiter_next hty PyProof.Rows.entry_tupleiter_next ?_ (PyProof.Rows.args_tupleiter_next _)))
  show wpAny _ _ (field (.ref it) 0 >>= _) _ _ s
  refine wpAny_bind (wpAny_field ho hd (x := .ref l) rfl ?_)
  show wpAny _ _ (if (Value.ref l == Value.none) = true then _ else _) _ _ s
  rw [if_neg (show ¬ ((Value.ref l == Value.none) = true) from Bool.false_ne_true)]
  show wpAny _ _ (field (.ref it) 1 >>= _) _ _ s
  refine wpAny_bind (wpAny_field ho hd (x := .int i 0) rfl ?_)
  show wpAny _ _ (seqItems? (.ref l) >>= _) _ _ s
  refine wpAny_bind (wpAny_seqItems hol hdl ?_)
  simp only [Int.toNat_natCast, hx]
  refine wpAny_bind (wpAny_rule (wpAny_bind (wpAny_setField ho hd (by simp) ?_)))
  show wpAny _ _ (newExc (.type "StopIteration") [] >>= _) _ _ _
  refine wpAny_bind ?_
  simp only [newExc, newTuple]
  refine wpAny_bind (wpAny_newObj_type ?_ (by size_fits))
  refine wpAny_bind (m := firstArgMember _ _) (wpAny_of_eq (a := Value.none) (by first | rfl | (simp only [firstArgMember]; rfl)) ?_)
  refine wpAny_newObj_type ?_ (by size_fits)
  simp only [raiseNew]
  refine wpAny_bind (wpAny_handled ?_)
  first | rw [show A.in1.handled = none from hh] | rw [hh]
  refine wpAny_bind (wpAny_pure (wpAny_throw ?_))
  exact hE _ _ (((Heap.SameBut.update ..).extBut.push _).push _) ⟨_, Heap.get?_push_size _ rfl, rfl⟩
theorem Draws.tup {prog : Program} {w : World} {A : Around} (hh : A.handled = none) (it l : Addr) (hne : l ≠ it) (items : Array Value) :
    Draws prog w A it [it, l] items.size (fun i v => items[i]? = some v) (fun i h => h.IsTupleIter it l i ∧ h.IsTuple l items) where
  live := fun _ _ st => let ⟨o, ho, _⟩ := st.1; ⟨o, ho⟩
  frame := fun _ _ _ st hk => ⟨let ⟨o, e, r⟩ := st.1; ⟨o, hk it (by simp) o e, r⟩, let ⟨o, e, r⟩ := st.2; ⟨o, hk l (by simp) o e, r⟩⟩
  item := fun i s Q E hi st hQ => by
    refine nextOf_tup_item st.1 st.2 (x := items[i]) (by simp [hi]) fun h' hit' hs' => ?_
    obtain ⟨o, e, r⟩ := st.2
    exact hQ _ h' s.toks (by simp [hi]) ⟨hit', ⟨o, hs'.extBut l o hne e, r⟩⟩ hs'
  done := fun s Q E st hE => nextOf_tup_end hh st.1 st.2 (by simp) hE
set_option maxHeartbeats 1000000 in
theorem meets_enumerate_newT (l : Addr) (items : Array Value) (n : Nat) (dct : Option Addr) (sl : Array (Option Value)) :
    Meets (Builtin.«enumerate.__new__» ⟨[.type "enumerate", .ref l], []⟩) (fun _ R s => s.heap.get? l = some { cls := .type "tuple", dict := dct, data := .seq items n, slots := sl } ∧
      R (.ok (.ret (.ref (s.heap.push { cls := .type "tuple_iterator", data := .fields #[.ref l, .int 0 0] }).objs.size)))
        { s with heap := (s.heap.push { cls := .type "tuple_iterator", data := .fields #[.ref l, .int 0 0] }).push { cls := .type "enumerate", data := .fields #[.none, .bool false, .ref s.heap.objs.size, rawInt 0, .none, .none] } }) :=
  .of_wp fun prog w A R s h => by
    obtain ⟨hp, g, d, tk, os⟩ := s; obtain ⟨hl, h⟩ := h
    have hsub := sub_enumerate
    have hL : Heap.IsTuple (Shared.heap ⟨hp, g, d, tk, os⟩) l items := ⟨_, hl, rfl, n, rfl⟩
    wp_walk using wpAny_loadPart' hl
    refine wpAny_stack_any fun st => wpAny_pure ?_
    split
    · rename_i c _ _ _ _ _
      cases (c == Value.type "enumerate")
      · wp_walk using wpAny_loadPart' hl, wpAny_pyIter_tuple hL
        exact ⟨_, rfl, h⟩
      · wp_walk using wpAny_loadPart' hl, wpAny_pyIter_tuple hL
        exact ⟨_, rfl, h⟩
    · wp_walk using wpAny_loadPart' hl, wpAny_pyIter_tuple hL
      exact ⟨_, rfl, h⟩
theorem call_enumerate_tup {prog : Program} {w : World} {A : Around} {E : Value → Shared → Prop} {s : Shared} {l : Addr} {items : Array Value} {Q : Value → Shared → Prop} (hL : s.heap.IsTuple l items)
    (h : ∀ h', IsEnum h' (s.heap.objs.size + 1) s.heap.objs.size 0 .none → h'.IsTupleIter s.heap.objs.size l 0 → h'.objs.size = s.heap.objs.size + 2 →
      (∀ b o, s.heap.get? b = some o → h'.get? b = some o) → Q (.ref (s.heap.objs.size + 1)) { s with heap := h' }) :
    wpAny (model prog w) A (call (.type "enumerate") [.ref l]) Q E s := by
  obtain ⟨⟨c, dct, dt, sl⟩, hl, hc, n, hd⟩ := hL
  replace hc : c = .type "tuple" := hc
  replace hd : dt = .seq items n := hd
  subst hc hd
  refine callType_new F.called_enumerate (by decide) (F.typeCall_enumerate_1 _) (F.newCall_enumerate_1 _) (fun obj => F.args_object_init_2 obj _) F.entry_enumerate_new
    (meets_enumerate_newT l items n dct sl) ⟨hl, ?_⟩
  have hz : (s.heap.push { cls := .type "tuple_iterator", data := .fields #[.ref l, .int 0 0] }).objs.size = s.heap.objs.size + 1 := Heap.size_push ..
  show _ ∧ _
  rw [hz]
  have he : IsEnum ((s.heap.push { cls := .type "tuple_iterator", data := .fields #[.ref l, .int 0 0] }).push
      { cls := .type "enumerate", data := .fields #[.none, .bool false, .ref s.heap.objs.size, rawInt 0, .none, .none] }) (s.heap.objs.size + 1) s.heap.objs.size 0 .none := by
    have := Heap.get?_push_size (s.heap.push { cls := .type "tuple_iterator", data := .fields #[.ref l, .int 0 0] })
      (o := { cls := .type "enumerate", data := .fields #[.none, .bool false, .ref s.heap.objs.size, rawInt 0, .none, .none] }) rfl
    rw [hz] at this; exact this
  refine ⟨⟨_, he, rfl⟩, h _ he ⟨_, Heap.get?_push_of_some _ (Heap.get?_push_size _ rfl), rfl, rfl⟩ (by rw [Heap.size_push, hz]) fun b o x => Heap.get?_push_of_some _ (Heap.get?_push_of_some _ x)⟩
end PySem
namespace PySem
end PySem

set_option Elab.async false
set_option linter.all false
set_option maxRecDepth 100000
namespace PySem
open AutoSeq1 (wpAny_loadPart')
end PySem
namespace L2
open PySem PySem.Spec PyProof.Rows
section
variable {X : Cx}
/-! ### enumerate of a tuple, unpacked at once -/
def Ite (K : PySem.W.Frag) (a : Addr) : It :=
  ⟨fun i H => ∃ xs x, SqT K H a xs ∧ xs[i]? = some x, fun i H x H' => ∃ p, H p = none ∧ x = .ref p ∧ ∀ xs, SqT K H a xs → ∃ y, xs[i]? = some y ∧ H' = upd H p (.tup [.int i, y]), fun i H => ∃ xs, SqT K H a xs ∧ xs.length ≤ i⟩
theorem Inv.turnedL {pins : List (Addr × Obj)} {σ : St} {H : Hp} {s : Shared} {h' : Heap} {t' : Nat} {ch : List Addr} (I : Inv X pins σ H s) (k : ∀ b o, b ∉ ch → s.heap.get? b = some o → h'.get? b = some o) (hf : ∀ b ∈ ch, FpOk X pins H b) :
    Inv X pins σ H { s with heap := h', toks := t' } := by
  have nit : ∀ b u, H b = some u → b ∉ ch := fun b u e z => by rw [(hf b z).1] at e; cases e
  refine I.step (g' := s.gens) (d' := s.drawn) (ch := ch) (fun b hb => ⟨(hf b hb).2.2.2.1, (hf b hb).2.1, (hf b hb).2.2.2.2.1, (hf b hb).2.2.2.2.2⟩) (fun b o _ _ hc e _ => k b o hc e) (fun b o _ _ hc e _ => ⟨o.slots, k b o hc e⟩) (fun _ _ _ _ n => n)
    (fun b o hc e => ⟨o, k b o hc e⟩) (fun _ _ e => e) (fun _ _ _ e => e) (fun b ps e => ⟨#[], by rw [e]; simp⟩) (fun m hm => ?_) (fun b u e => ?_) I.bare
  · obtain ⟨o, es, ep, ho, r⟩ := hm
    exact ⟨o, es, ep, k _ o (fun z => (hf _ z).2.1 rfl) ho, r⟩
  · refine (I.hok b u e).stay (fun c v hc q => k c v ?_ q) (fun _ q => q) fun _ _ q => q
    rcases hc with z | z
    · rw [z]; exact nit b u e
    · exact nit c _ z
theorem Inv.track {pins : List (Addr × Obj)} {σ : St} {H : Hp} {s : Shared} {p : Addr} {o : HO} (I : Inv X pins σ H s) (f : FpOk X pins H p) (new : ObjOk X.prog X.w (upd H p o) s.heap p o) : Inv X pins σ (upd H p o) s := by
  have ne : ∀ b u, H b = some u → b ≠ p := fun b u e z => by rw [z, f.1] at e; cases e
  have := I.step (g' := s.gens) (d' := s.drawn) (t' := s.toks) (h' := s.heap) (H' := upd H p o) (ch := [p]) (fun b hb => by
      obtain rfl : b = p := by simpa using hb
      exact ⟨f.2.2.2.1, f.2.1, f.2.2.2.2.1, f.2.2.2.2.2⟩) (fun b o _ _ _ e _ => e) (fun b o _ _ _ e _ => ⟨o.slots, e⟩)
    (fun b o hc _ n => by rw [upd_ne (fun z => hc (by simp [z]))]; exact n) (fun b o _ e => ⟨o, e⟩) (fun b xs e => by rw [upd_ne (ne b _ e)]; exact e) (fun b o u e => by rw [upd_ne (ne b _ e)]; exact e)
    (fun b ps e => ⟨#[], by rw [upd_ne (ne b _ e), e]; simp⟩) (fun m hm => hm) (fun b u e => by
      by_cases hb : b = p
      · subst hb; rw [upd_same] at e; cases e; exact new
      · rw [upd_ne hb] at e
        exact (I.hok b u e).stay (fun c v _ q => q) (fun c q => by rw [upd_ne (ne c _ q)]; exact q) fun c xs q => by rw [upd_ne (ne c _ q)]; exact q) I.bare
  exact this
theorem turn_enum {P : Program} {w : World} {K : PySem.W.Frag} {elts : List Expr} {kk} {pos : Pos} (a e it : Addr) (hei : e ≠ it) : Turn P w K (.Tuple elts kk pos) (Ite K a) [e, it] e (fun i h => (∃ old, IsEnum h e it (i : Nat) old) ∧ h.IsTupleIter it a i) where
  mem := by simp
  obj := fun i h st b hb => by
    obtain ⟨⟨old, he⟩, o, e1, c, d⟩ := st
    rcases List.mem_cons.mp hb with rfl | hb
    · exact ⟨_, he, fun v z => by cases z⟩
    · obtain rfl : b = it := by simpa using hb
      exact ⟨o, e1, fun v z => by rw [d] at z; cases z⟩
  keep := fun i h h' st k => by
    obtain ⟨⟨old, he⟩, o, e1, c, d⟩ := st
    exact ⟨⟨old, k e (by simp) _ he⟩, o, k it (by simp) _ e1, c, d⟩
  item := by
    intro X hP hw hK hc i pins s σ H E I hf st hg
    subst hP hw hK
    obtain ⟨xs, x, hq, hx⟩ := hg
    obtain ⟨its, rv, p, hz⟩ := I.tuple hq
    obtain ⟨u, hu, ru⟩ := rv.get hx
    obtain ⟨⟨old, he⟩, st2⟩ := st
    have pt : s.heap.IsTuple a its.toArray := p
    have hae : e ≠ a := fun z => by
      obtain ⟨o, e1, c, _⟩ := pt
      rw [← z, he] at e1; cases e1; exact absurd (show Value.type "enumerate" = Value.type "tuple" from c) (by decide)
    have hai : a ≠ it := fun z => by
      obtain ⟨o, e1, c, _⟩ := pt
      obtain ⟨o', e2, c', _⟩ := id st2
      rw [z, e2] at e1; cases e1; rw [c] at c'; exact absurd c' (by decide)
    have hlt : i < its.toArray.size := by simpa using (List.getElem?_eq_some_iff.mp hu).1
    have D := Draws.tup (prog := X.prog) (w := X.w) (A := X.A.in1) (I.ok.hd hc) it a hai its.toArray
    refine wpAny_pyNext_enum_itemD D he ⟨st2, pt⟩ hlt hei (by simp [hei, hae]) fun y h' tk hP heo hst ht hsz hk => ?_
    have hy : y = u := by
      have hP : its.toArray[i]? = some y := hP
      rw [List.getElem?_toArray, hu] at hP
      exact (Option.some.inj hP).symm
    subst hy
    refine ⟨_, rfl, ?_⟩
    refine wpAny_letOwnedTupleGo_enum heo fun h2 he2 hs2 => ?_
    replace hs2 : Heap.SameBut e h' h2 := hs2
    have hne : s.heap.objs.size ≠ e := Nat.ne_of_gt (Heap.lt_size he)
    have I1 : Inv X pins σ H { s with heap := h2, toks := tk + 1 } := I.turnedL (ch := [e, it]) (fun b o hb q => by
      have b1 : b ≠ e := fun z => hb (by simp [z])
      have b2 : b ≠ it := fun z => hb (by simp [z])
      exact hs2.extBut b o b1 (hk b o b1 b2 q)) hf
    have ht2 := hs2.extBut _ _ hne ht
    have fp : FpOk X pins H s.heap.objs.size := I.fpOk (Nat.le_refl _) I.fresh
    have I2 := I1.track (p := s.heap.objs.size) (o := .tup [.int i, x]) fp ⟨by show 2 ≤ sizeLine; decide, [.int i tk, y], .cons ⟨tk, rfl⟩ (.cons ru .nil), ⟨_, ht2, rfl, _, rfl⟩⟩
    refine ⟨.ref s.heap.objs.size, _, I2, rfl, ⟨_, I.fresh, rfl, fun ys hy => by rw [I.tuple_inj hy hq]; exact ⟨x, hx, rfl⟩⟩, ⟨⟨_, he2⟩, ?_⟩, fun b hb => ?_⟩
    · obtain ⟨⟨o, e1, c, d⟩, _⟩ := hst
      exact ⟨o, hs2.extBut _ _ (Ne.symm hei) e1, c, d⟩
    · rw [upd_ne]
      · exact (hf b hb).1
      · rcases List.mem_cons.mp hb with rfl | hb
        · exact hne.symm
        · obtain rfl : b = it := by simpa using hb
          obtain ⟨o, e1, _⟩ := st2
          exact Nat.ne_of_lt (Heap.lt_size e1)
  done := by
    intro X hP hw hK hc i pins s σ H E I hf st hg
    subst hP hw hK
    obtain ⟨xs, hq, hx⟩ := hg
    obtain ⟨its, rv, p, hz⟩ := I.tuple hq
    obtain ⟨⟨old, he⟩, st2⟩ := st
    have pt : s.heap.IsTuple a its.toArray := p
    have hai : a ≠ it := fun z => by
      obtain ⟨o, e1, c, _⟩ := pt
      obtain ⟨o', e2, c', _⟩ := id st2
      rw [z, e2] at e1; cases e1; rw [c] at c'; exact absurd c' (by decide)
    have hl := rv.length
    have hT : s.TypeIs (.ref e) "enumerate" := ⟨_, he, rfl⟩
    unfold pyNext
    refine wpAny_bind (wpAny_attempt (wpAny_callSpecial?_slot (name := Str.ofString "__next__") hT F.slot_enumerate_next
      (wpAny_call_entry F.slot_enumerate_next hT F.entry_enumerate_next ?_ (F.args_enumerate_next_1 _))))
    show wpAny _ _ (field (.ref e) 2 >>= _) _ _ _
    refine wpAny_bind (wpAny_field he rfl (x := .ref it) rfl ?_)
    refine wpAny_bind (nextOf_tup_end (A := X.A.in1) (I.ok.hd hc) st2 pt (by simp; omega) fun h' ex he' hx' => ?_)
    obtain ⟨o, ho, hc'⟩ := hx'
    refine wpAny_bind (wpAny_isInstance (T := "StopIteration") (b := true) ⟨o, ho, hc'⟩ isSubtype_stop ?_)
    exact wpAny_pure ⟨rfl, I.turnedL (t' := s.toks) (ch := [it]) (fun b o hb q => he' b o (fun z => hb (by simp [z])) q) (fun b hb => hf b (List.mem_cons_of_mem _ hb))⟩
  self := fun A i s Q E st h => by
    obtain ⟨⟨old, he⟩, _⟩ := st
    exact wpAny_pyIter_enum he h
def iEnum (K : PySem.W.Frag) (ta : TA) : TI := fun σ H R => ta σ H fun vs H1 => ∃ a, vs = [.ref a] ∧ (∃ xs, SqT K H1 a xs) ∧ R (Ite K a) H1
theorem pi_enum {a : Expr} {ta : TA} {p pos : Pos} {elts : List Expr} {kk} {tpos : Pos} (hg : Gl X "enumerate") (hm : X.mg "enumerate" = none) (hb : bootBuiltins "enumerate" = some (.type "enumerate")) (ha : PA X [a] ta) (hs : starEach [a] X.env = [(false, eval a X.env)] := by rfl) :
    PI X (.Tuple elts kk tpos) (.Call (.Name "enumerate" p) [a] [] pos) (iEnum X.K ta) := by
  intro pins s σ H R I h
  refine Call_ (ld_blt I hg hm hb (PyProof.Rows.callWith_type1 (thn (ha pos pins s σ H _ I h) fun us s1 ⟨vs, H1, I1, r1, q1⟩ => ?_) hs rfl))
  obtain ⟨t, e, ⟨xs, hq⟩, q⟩ := q1
  subst e
  obtain ⟨u, rfl, ru⟩ := vals1 r1
  cases ru
  obtain ⟨its, rv, pl, hz⟩ := I1.tuple hq
  have pt : s1.heap.IsTuple t its.toArray := pl
  refine call_enumerate_tup pt fun h' he hit hsz hk => ?_
  refine wpAny_pyIter_enum he ?_
  have I2 : Inv X pins σ H1 { s1 with heap := h' } := I1.kept (t' := s1.toks) hk
  refine ⟨s1.heap.objs.size + 1, [s1.heap.objs.size + 1, s1.heap.objs.size], _, Ite X.K t, H1, rfl, I2, turn_enum t _ s1.heap.objs.size (Nat.succ_ne_self _), ⟨⟨_, he⟩, hit⟩, fun b hb => ?_, q⟩
  rcases List.mem_cons.mp hb with rfl | hb
  · exact I1.fpOk (Nat.le_succ _) (I1.hok.fresh (Nat.le_succ _))
  · obtain rfl : b = s1.heap.objs.size := by simpa using hb
    exact I1.fpOk (Nat.le_refl _) I1.fresh
end
end L2

set_option Elab.async false
set_option linter.all false
set_option maxRecDepth 100000
namespace L2
open PySem PySem.Spec PyProof.Rows
def Cn (σ₀ : St) (acc : Addr) (P : List V → Hp → Prop) (σ : St) (H : Hp) : Prop := (∀ v, σ.set 0 v = σ₀.set 0 v) ∧ ∃ ys, H acc = some (.lst ys) ∧ P ys H
theorem Cn.of {σ₀ : St} {acc : Addr} {P : List V → Hp → Prop} {w : Option V} {H : Hp} {ys : List V} (h : H acc = some (.lst ys)) (p : P ys H) : Cn σ₀ acc P (σ₀.set 0 w) H := ⟨fun v => by rw [List.set_set], ys, h, p⟩
/-- a block's facts, decided -/
def capOk (outer : List (Str × NameKind)) (N : List Str) (scope : Scope) (cap : List Str) (ix : List Nat) : Bool :=
  (scope.kind == .function) && (scope.names.all fun x => x.2 != .local || scope.names.lookup x.1 == some .local) && decide (scope.names.map (·.1)).Nodup &&
  (scope.names.all fun x => x.2 != .free || outer.lookup x.1 == some .cell || outer.lookup x.1 == some .free) && (cap.all fun x => decide ((x, NameKind.free) ∈ scope.names)) && (cap.zip ix).all (fun p => N[p.2]? == some p.1) && cap.length == ix.length
theorem BlkOk.of {X : Cx} {scope : Scope} {own cap : List Str} {ix : List Nat} (outer : List (Str × NameKind)) (N : List Str) (hsc : X.env.scope.names = outer := by rfl) (hN : X.N = N := by rfl) (h : capOk outer N scope cap ix = true := by decide +kernel) : BlkOk X scope own cap ix := by
  unfold capOk at h
  simp only [Bool.and_eq_true, List.all_eq_true, beq_iff_eq, decide_eq_true_eq, Bool.or_eq_true, bne_iff_ne, ne_eq] at h
  obtain ⟨⟨⟨⟨⟨⟨h1, h2⟩, h3⟩, h4⟩, h5⟩, h6⟩, h7⟩ := h
  refine ⟨h1, fun x hx hl => ?_, h3, fun x hx hl => ?_, fun j x e => h5 x (List.mem_of_getElem? e), fun j x e => ?_, h7⟩
  · rcases h2 x hx with z | z
    · exact absurd hl z
    · exact z
  · show X.env.scope.names.lookup x.1 = _ ∨ X.env.scope.names.lookup x.1 = _
    rw [hsc]
    rcases h4 x hx with (z | z) | z
    · exact absurd hl z
    · exact .inl z
    · exact .inr z
  · have hj : j < cap.length := (List.getElem?_eq_some_iff.mp e).1
    have hj' : j < ix.length := by omega
    refine ⟨ix[j], List.getElem?_eq_getElem hj', ?_⟩
    rw [hN]
    have hz : (cap.zip ix)[j]? = some (x, ix[j]) := by
      rw [List.getElem?_zip_eq_some]
      exact ⟨e, List.getElem?_eq_getElem hj'⟩
    exact h6 _ (List.mem_of_getElem? hz)
section
variable {K : PySem.W.Frag} {lo : Int} {n : Nat} {tt : TT} {te : TE} {acc a : Addr} {xs : List V} {σ₀ : St} {H₀ : Hp} {Q : VK}
theorem comp_range (Pv : Nat → List V → Hp → Prop) (h0 : Pv 0 [] (upd H₀ acc (.lst [])))
    (hs : ∀ (i : Nat) ys H, i < n → H acc = some (.lst ys) → Pv i ys H → tt (σ₀.set 0 (some (.int (lo + i)))) H fun b H4 =>
      if b = true then te (σ₀.set 0 (some (.int (lo + i)))) H4 fun y H5 => ∃ zs, H5 acc = some (.lst zs) ∧ zs.length < sizeLine ∧ Cn σ₀ acc (Pv (i + 1)) (σ₀.set 0 (some (.int (lo + i)))) (upd H5 acc (.lst (zs ++ [y]))) else Cn σ₀ acc (Pv (i + 1)) (σ₀.set 0 (some (.int (lo + i)))) H4)
    (hd : ∀ ys H, H acc = some (.lst ys) → Pv n ys H → Q (.ref acc) H) : tCompN (gName 0) tt te (Itr lo n) acc σ₀ H₀ Q := by
  refine ⟨fun i m σ H => m = n - i ∧ i ≤ n ∧ Cn σ₀ acc (Pv i) σ H, ⟨n, by simp, Nat.zero_le _, fun _ => rfl, [], upd_same, h0⟩, ?_⟩
  rintro i m σ H ⟨rfl, hi, hσ, ys, hy, p⟩
  by_cases hlt : i < n
  · refine .inr ⟨hlt, Cn σ₀ acc (Pv (i + 1)), fun σ' H' c => ⟨n - (i + 1), by omega, rfl, hlt, c⟩, fun x H' y => ?_⟩
    obtain ⟨e, y⟩ := y
    subst e y
    show tt (σ.set 0 _) _ _
    rw [hσ]
    exact hs i ys _ hlt hy p
  · have e : i = n := by omega
    subst e
    exact .inl ⟨Nat.le_refl _, hd ys H hy p⟩
theorem comp_list (Pv : Nat → List V → Hp → Prop) (h0 : Pv 0 [] (upd H₀ acc (.lst []))) (hl : ∀ (i : Nat) ys H, i ≤ xs.length → H acc = some (.lst ys) → Pv i ys H → SqL K H a xs)
    (hs : ∀ (i : Nat) x ys H, xs[i]? = some x → H acc = some (.lst ys) → Pv i ys H → tt (σ₀.set 0 (some x)) H fun b H4 =>
      if b = true then te (σ₀.set 0 (some x)) H4 fun y H5 => ∃ zs, H5 acc = some (.lst zs) ∧ zs.length < sizeLine ∧ Cn σ₀ acc (Pv (i + 1)) (σ₀.set 0 (some x)) (upd H5 acc (.lst (zs ++ [y]))) else Cn σ₀ acc (Pv (i + 1)) (σ₀.set 0 (some x)) H4)
    (hd : ∀ ys H, H acc = some (.lst ys) → Pv xs.length ys H → Q (.ref acc) H) : tCompN (gName 0) tt te (Itl K a) acc σ₀ H₀ Q := by
  refine ⟨fun i m σ H => m = xs.length - i ∧ i ≤ xs.length ∧ Cn σ₀ acc (Pv i) σ H, ⟨xs.length, by simp, Nat.zero_le _, fun _ => rfl, [], upd_same, h0⟩, ?_⟩
  rintro i m σ H ⟨rfl, hi, hσ, ys, hy, p⟩
  have q := hl i ys H hi hy p
  by_cases hlt : i < xs.length
  · refine .inr ⟨⟨xs, xs[i], q, by simp [hlt]⟩, Cn σ₀ acc (Pv (i + 1)), fun σ' H' c => ⟨xs.length - (i + 1), by omega, rfl, hlt, c⟩, fun x H' y => ?_⟩
    obtain ⟨e, y⟩ := y
    subst e
    show tt (σ.set 0 _) _ _
    rw [hσ]
    exact hs i x ys _ (y xs q) hy p
  · have e : i = xs.length := by omega
    subst e
    exact .inl ⟨⟨xs, q, Nat.le_refl _⟩, hd ys H hy p⟩
theorem comp_tup (Pv : Nat → List V → Hp → Prop) (h0 : Pv 0 [] (upd H₀ acc (.lst []))) (hl : ∀ (i : Nat) ys H, i ≤ xs.length → H acc = some (.lst ys) → Pv i ys H → SqT K H a xs)
    (hs : ∀ (i : Nat) x ys H, xs[i]? = some x → H acc = some (.lst ys) → Pv i ys H → tt (σ₀.set 0 (some x)) H fun b H4 =>
      if b = true then te (σ₀.set 0 (some x)) H4 fun y H5 => ∃ zs, H5 acc = some (.lst zs) ∧ zs.length < sizeLine ∧ Cn σ₀ acc (Pv (i + 1)) (σ₀.set 0 (some x)) (upd H5 acc (.lst (zs ++ [y]))) else Cn σ₀ acc (Pv (i + 1)) (σ₀.set 0 (some x)) H4)
    (hd : ∀ ys H, H acc = some (.lst ys) → Pv xs.length ys H → Q (.ref acc) H) : tCompN (gName 0) tt te (Itt K a) acc σ₀ H₀ Q := by
  refine ⟨fun i m σ H => m = xs.length - i ∧ i ≤ xs.length ∧ Cn σ₀ acc (Pv i) σ H, ⟨xs.length, by simp, Nat.zero_le _, fun _ => rfl, [], upd_same, h0⟩, ?_⟩
  rintro i m σ H ⟨rfl, hi, hσ, ys, hy, p⟩
  have q := hl i ys H hi hy p
  by_cases hlt : i < xs.length
  · refine .inr ⟨⟨xs, xs[i], q, by simp [hlt]⟩, Cn σ₀ acc (Pv (i + 1)), fun σ' H' c => ⟨xs.length - (i + 1), by omega, rfl, hlt, c⟩, fun x H' y => ?_⟩
    obtain ⟨e, y⟩ := y
    subst e
    show tt (σ.set 0 _) _ _
    rw [hσ]
    exact hs i x ys _ (y xs q) hy p
  · have e : i = xs.length := by omega
    subst e
    exact .inl ⟨⟨xs, q, Nat.le_refl _⟩, hd ys H hy p⟩
/-- for i, x in enumerate(t) -/
theorem for_enum {g : TG} {tb : TS} {D : Ends} {σ : St} {H : Hp} (Pv : Nat → St → Hp → Prop) (h0 : Pv 0 σ H) (hl : ∀ i σ H, i ≤ xs.length → Pv i σ H → H a = some (.tup xs))
    (hs : ∀ (i : Nat) x p σ H, xs[i]? = some x → H p = none → Pv i σ H → g (.ref p) σ (upd H p (.tup [.int i, x])) fun σ2 H2 => tb { D with nx := Pv (i + 1), ct := Pv (i + 1), bk := D.nx } σ2 H2) (hd : ∀ σ H, Pv xs.length σ H → D.nx σ H) :
    ∃ W : Nat → Nat → St → Hp → Prop, (∃ m, W 0 m σ H) ∧ ∀ i m σ H, W i m σ H →
      ((Ite K a).stop i H ∧ D.nx σ H) ∨ ((Ite K a).go i H ∧ ∃ N : St → Hp → Prop, (∀ σ' H', N σ' H' → ∃ m', m' < m ∧ W (i + 1) m' σ' H') ∧ ∀ x H', (Ite K a).yld i H x H' → g x σ H' fun σ2 H2 => tb { D with nx := N, ct := N, bk := D.nx } σ2 H2) := by
  refine ⟨fun i m σ H => m = xs.length - i ∧ i ≤ xs.length ∧ Pv i σ H, ⟨xs.length, by simp, Nat.zero_le _, h0⟩, ?_⟩
  rintro i m σ H ⟨rfl, hi, p⟩
  have q := hl i σ H hi p
  by_cases hlt : i < xs.length
  · refine .inr ⟨⟨xs, xs[i], SqT.of q, by simp [hlt]⟩, Pv (i + 1), fun σ' H' p' => ⟨xs.length - (i + 1), by omega, rfl, hlt, p'⟩, fun x H' y => ?_⟩
    obtain ⟨pp, hp, e, hyy⟩ := y
    obtain ⟨z, hy, e2⟩ := hyy xs (SqT.of q)
    subst e e2
    exact hs i z pp σ H hy hp p
  · have e : i = xs.length := by omega
    subst e
    exact .inl ⟨⟨xs, SqT.of q, Nat.le_refl _⟩, hd σ H p⟩
end
end L2

set_option Elab.async false
set_option linter.all false
set_option maxRecDepth 100000
namespace L2
open PySem PySem.Spec PyProof.Rows
/-! the rules that name the fragment, with the fragment said: for use inside a comprehension's block -/
section
variable {X : Cx} {tg l : Expr} {tl : TE}
theorem ixL (K : PySem.W.Frag) (h : X.K = K := by rfl) : IxR X (rIxL K) := by subst h; exact ix_list
theorem ixT (K : PySem.W.Frag) (h : X.K = K := by rfl) : IxR X (rIxT K) := by subst h; exact ix_tup
theorem piL (K : PySem.W.Frag) (hl : PE X l tl) (h : X.K = K := by rfl) : PI X tg l (iList K tl) := by subst h; exact pi_list hl
theorem piT (K : PySem.W.Frag) (hl : PE X l tl) (h : X.K = K := by rfl) : PI X tg l (iTup K tl) := by subst h; exact pi_tup hl
theorem cLen (K : PySem.W.Frag) (h : X.K = K := by rfl) : CallR X (.builtin "len") (fun xs H Q => ∃ p ys, xs = [.ref p] ∧ (SqL K H p ys ∨ SqT K H p ys) ∧ Q (.int ys.length) H) := by subst h; exact call_len_seq
theorem cTup (K : PySem.W.Frag) (h : X.K = K := by rfl) : CallR X (.type "tuple") (fun xs H Q => ∃ p ys, xs = [.ref p] ∧ ((SqL K H p ys ∧ ∀ l, H l = none → Q (.ref l) (upd H l (.tup ys))) ∨ (SqT K H p ys ∧ Q (.ref p) H))) := by subst h; exact call_tuple_of
theorem cLst (K : PySem.W.Frag) (h : X.K = K := by rfl) : CallR X (.type "list") (fun xs H Q => ∃ p ys, xs = [.ref p] ∧ (SqL K H p ys ∨ SqT K H p ys) ∧ ∀ l, H l = none → Q (.ref l) (upd H l (.lst ys))) := by subst h; exact call_list_of
theorem cAny (K : PySem.W.Frag) (hc : X.calm = true) (h : X.K = K := by rfl) : CallR X (.builtin "any") (fun xs H Q => ∃ p ys, xs = [.ref p] ∧ (SqL K H p ys ∨ SqT K H p ys) ∧ ys.all plainB = true ∧ Q (.bl (ys.any tv)) H) := by subst h; exact call_any hc
theorem cSum (K : PySem.W.Frag) (hc : X.calm = true) (h : X.K = K := by rfl) : CallR X (.builtin "sum") (fun xs H Q => ∃ (p : Addr) (ns : List Int), xs = [.ref p] ∧ (SqL K H p (ns.map V.int) ∨ SqT K H p (ns.map V.int)) ∧ Q (.int ns.sum) H) := by subst h; exact call_sum hc
theorem cMax (K : PySem.W.Frag) (hc : X.calm = true) (h : X.K = K := by rfl) : CallR X (.builtin "max") (fun xs H Q => ∃ (p : Addr) (ns : List Int), xs = [.ref p] ∧ (SqL K H p (ns.map V.int) ∨ SqT K H p (ns.map V.int)) ∧ ns ≠ [] ∧ ∀ m, m ∈ ns → (∀ n ∈ ns, n ≤ m) → Q (.int m) H) := by subst h; exact call_maxL hc
theorem opEqD (K : PySem.W.Frag) (hu : X.A.units + 64 < cLine) (h : X.K = K := by rfl) : OpR X (compareOp .Eq) (rEqD K) := by subst h; exact op_eqD hu
theorem opNeD (K : PySem.W.Frag) (hu : X.A.units + 64 < cLine) (h : X.K = K := by rfl) : OpR X (compareOp .NotEq) (rNeD K) := by subst h; exact op_neD hu
end
end L2

set_option Elab.async false
set_option linter.all false
set_option maxRecDepth 100000
set_option maxHeartbeats 4000000
namespace KG
open PySem L2
theorem boot_tuple : bootBuiltins "tuple" = some (.type "tuple") := by first | rfl | kernel_rfl | decide +kernel
theorem boot_int : bootBuiltins "int" = some (.type "int") := by first | rfl | kernel_rfl | decide +kernel
theorem boot_abs : bootBuiltins "abs" = some (.builtin "abs") := by first | rfl | kernel_rfl | decide +kernel
theorem boot_max : bootBuiltins "max" = some (.builtin "max") := by first | rfl | kernel_rfl | decide +kernel
theorem boot_min : bootBuiltins "min" = some (.builtin "min") := by first | rfl | kernel_rfl | decide +kernel
theorem boot_any : bootBuiltins "any" = some (.builtin "any") := by first | rfl | kernel_rfl | decide +kernel
theorem boot_sum : bootBuiltins "sum" = some (.builtin "sum") := by first | rfl | kernel_rfl | decide +kernel
theorem boot_enumerate : bootBuiltins "enumerate" = some (.type "enumerate") := by first | rfl | kernel_rfl | decide +kernel
theorem boot_isinstance : bootBuiltins "isinstance" = some (.builtin "isinstance") := by first | rfl | kernel_rfl | decide +kernel
/-! ### data -/
def Bag (H : Hp) (b : Addr) : Prop := ∃ c d : Int, H b = some (.lst [.int c, .int d])
/-- all but the bag stays -/
def Kp (b : Addr) (H H' : Hp) : Prop := ∀ a o, a ≠ b → H a = some o → H' a = some o
theorem Kp.refl (b : Addr) (H : Hp) : Kp b H H := fun _ _ _ h => h
theorem Kp.trans {b : Addr} {H H1 H2 : Hp} (x : Kp b H H1) (y : Kp b H1 H2) : Kp b H H2 := fun a o n h => y a o n (x a o n h)
theorem Kp.bag {b : Addr} {H H' : Hp} {o : HO} (x : Kp b H H') : Kp b H (upd H' b o) := fun a u n h => by rw [upd_ne n]; exact x a u n h
theorem Kp.new {b p : Addr} {H H' : Hp} {o : HO} (x : Kp b H H') (hp : H' p = none) : Kp b H (upd H' p o) := fun a u n h => by rw [upd_ne (ne_of_none (x a u n h) hp)]; exact x a u n h
theorem Kp.acc {b p : Addr} {H H' : Hp} {o : HO} (x : Kp b H H') (hp : H p = none) : Kp b H (upd H' p o) := fun a u n h => by rw [upd_ne (ne_of_none h hp)]; exact x a u n h
theorem Kp.free {b p : Addr} {H H' : Hp} (x : Kp b H H') (hb : Bag H b) (hp : H' p = none) (hb' : Bag H' b) : H p = none := by
  cases q : H p with
  | none => rfl
  | some o =>
    by_cases e : p = b
    · subst e; obtain ⟨c, d, h⟩ := hb'; rw [h] at hp; cases hp
    · rw [x p o e q] at hp; cases hp
theorem Bag.new {b p : Addr} {H : Hp} {o : HO} (h : Bag H b) (hp : H p = none) : Bag (upd H p o) b := by
  obtain ⟨c, d, e⟩ := h
  exact ⟨c, d, by rw [upd_ne (ne_of_none e hp)]; exact e⟩
theorem Bag.ne {b p : Addr} {H : Hp} (h : Bag H b) (hp : H p = none) : b ≠ p := by
  obtain ⟨c, d, e⟩ := h
  exact ne_of_none e hp
def spTake : Sp := fun vs H Q _ => ∃ (b : Addr) (m : Int), vs = [.ref b, .int m] ∧ Bag H b ∧ 0 < m ∧ m < 1073741824 ∧ ∀ (r : Int) (H' : Hp), 0 ≤ r → r < m → Bag H' b → Kp b H H' → Q (.int r) H'
def spBag (K : PySem.W.Frag) : Sp := fun vs H Q _ => ∃ (a : Addr) (ns : List Int) (k : Int), vs = [.ref a, .int k] ∧ SqL K H a (ns.map V.int) ∧ 0 ≤ k ∧ k < 100 ∧ ∀ (p : Addr) (c d : Int), H p = none → Q (.ref p) (upd H p (.lst [.int c, .int d]))
/-- a def as it is called -/
structure Cal (K : PySem.W.Frag) (mg : Str → Option Value) (P : Program) (w : World) (base : Heap) (x : Str) (k : Nat) (ps : List Str) (sp : Sp) (f : Addr) (fd : FuncData) : Prop where
  ok : FnOk P w K mg base CX0 k f fd ps sp
  mg : mg x = some (.ref f)
  kp : PySem.W.keepIn K (.ref f) = true
  bd : Binds K fd ps []
theorem sz : sizeLine = 16777216 := PySem.sizeLine_eq

theorem yes_i {σ : St} {H : Hp} {A B : Hp → Prop} (h : A H) : tYes σ H (fun b H4 => if b = true then A H4 else B H4) := iteT (B := B H) h
theorem menu2 {r : Int} (h0 : 0 ≤ r) (h1 : r < 2) : ∃ m : Int, atI [V.int 3, V.int 6] r = some (.int m) ∧ 0 < m ∧ m ≤ 6 := by
  have : r = 0 ∨ r = 1 := by omega
  rcases this with rfl | rfl
  · exact ⟨3, rfl, by decide, by decide⟩
  · exact ⟨6, rfl, by decide, by decide⟩
theorem atI_ints {ns : List Int} {r : Int} (h0 : 0 ≤ r) (h1 : r < ns.length) : atI (ns.map V.int) r = some (V.int (ns.getD r.toNat 0)) ∧ ixN (ns.map V.int).length r = some r.toNat ∧ ns.getD r.toNat 0 ∈ ns := by
  have hl : r.toNat < ns.length := by omega
  have e : (ns.map V.int)[r.toNat]? = some (V.int (ns.getD r.toNat 0)) := by
    rw [List.getElem?_map, List.getElem?_eq_getElem hl]
    simp [List.getD, List.getElem?_eq_getElem hl]
  refine ⟨?_, ?_, ?_⟩
  · have := atI_nat e
    rw [Int.toNat_of_nonneg h0] at this
    exact this
  · unfold ixN
    rw [if_pos h0, if_pos (by rw [List.length_map]; exact h1)]
  · simp [List.getD, List.getElem?_eq_getElem hl]

/-- the tuples stay -/
def Tm (H H' : Hp) : Prop := ∀ a xs, H a = some (.tup xs) → H' a = some (.tup xs)
theorem Kp.tm {b : Addr} {H H' : Hp} (x : Kp b H H') (hb : Bag H b) : Tm H H' := fun a xs h => x a _ (fun z => by obtain ⟨c, d, e⟩ := hb; rw [z, e] at h; cases h) h
theorem Tm.lst {p : Addr} {H : Hp} {xs : List V} {o : HO} (h : H p = some (.lst xs)) : Tm H (upd H p o) := fun a ys e => by
  rw [upd_ne (fun z => by rw [z, h] at e; cases e)]; exact e
theorem Tm.new {p : Addr} {H : Hp} {o : HO} (h : H p = none) : Tm H (upd H p o) := fun a ys e => by rw [upd_ne (ne_of_none e h)]; exact e
theorem Tm.trans {H H1 H2 : Hp} (a : Tm H H1) (b : Tm H1 H2) : Tm H H2 := fun x xs h => b x xs (a x xs h)
theorem Bag.acc {b p : Addr} {H : Hp} {o : HO} (h : Bag H b) (hp : b ≠ p) : Bag (upd H p o) b := by
  obtain ⟨c, d, e⟩ := h
  exact ⟨c, d, by rw [upd_ne hp]; exact e⟩
theorem comp_bag {te : TE} {σ₀ : St} {acc b : Addr} {H1 : Hp} {n : Nat} {Q : VK} (hb1 : Bag H1 b) (hacc : H1 acc = none) (hn : n ≤ 100) (R : Hp → V → Prop) (hR : ∀ H H' v, Tm H H' → R H v → R H' v)
    (ht : ∀ (i : Nat) H', i < n → Bag H' b → Kp b H1 H' → ∀ (Z : V → Hp → Prop), (∀ y H5, Bag H5 b → Kp b H' H5 → R H5 y → Z y H5) → te (σ₀.set 0 (some (.int (0 + i)))) H' Z)
    (hd : ∀ ys H', Bag H' b → Kp b H1 H' → ys.length = n → (∀ y ∈ ys, R H' y) → H' acc = some (.lst ys) → Q (.ref acc) H') : tCompN (gName 0) tYes te (Itr 0 n) acc σ₀ H1 Q := by
  have nacc := hb1.ne hacc
  refine comp_range (fun i ys H' => Bag H' b ∧ Kp b H1 H' ∧ ys.length = i ∧ ∀ y ∈ ys, R H' y) ⟨hb1.new hacc, (Kp.refl b H1).new hacc, rfl, fun y hy => nomatch hy⟩ ?_ ?_
  · rintro i ys H' hi hy ⟨hb', kp', hl, hr⟩
    refine yes_i ?_
    refine ht i H' hi hb' kp' _ fun y H5 hb5 kp5 r5 => ?_
    have hy5 := kp5 acc _ nacc.symm hy
    refine ⟨ys, hy5, by rw [hl, sz]; omega, Cn.of upd_same ⟨hb5.acc nacc, (kp'.trans kp5).acc hacc, by rw [List.length_append, hl]; rfl, fun z hz => ?_⟩⟩
    have tm := Tm.lst (o := .lst (ys ++ [y])) hy5
    rcases List.mem_append.mp hz with q | q
    · exact hR _ _ z tm (hR _ _ z (kp5.tm hb') (hr z q))
    · obtain rfl : z = y := by simpa using q
      exact hR _ _ z tm r5
  · rintro ys H' hy ⟨hb', kp', hl, hr⟩
    exact hd ys H' hb' kp' hl hr hy
/-- rows of ints, tracked -/
def Rws (H : Hp) (ws : List V) (M : List (List Int)) : Prop := Paired (fun v ns => ∃ a, v = V.ref a ∧ H a = some (.tup (List.map V.int ns))) ws M
theorem Rws.len {H : Hp} {ws : List V} {M : List (List Int)} (h : Rws H ws M) : ws.length = M.length := Paired.length h
theorem Rws.at : ∀ {H : Hp} {ws : List V} {M : List (List Int)} {i : Nat} {x : V}, Rws H ws M → ws[i]? = some x → ∃ ns a, M[i]? = some ns ∧ x = V.ref a ∧ H a = some (.tup (List.map V.int ns))
  | _, _, _, _, _, .nil, e => by simp at e
  | _, _, _, 0, _, .cons ⟨a, h1, h2⟩ _, e => by simp at e; subst e; exact ⟨_, a, rfl, h1, h2⟩
  | _, _, _, i + 1, _, .cons _ t, e => by
    obtain ⟨ns, a, h1, h2, h3⟩ := Rws.at (i := i) t (by simpa using e)
    exact ⟨ns, a, by simpa using h1, h2, h3⟩
/-- all that was tracked stays -/
def Stay (H H' : Hp) : Prop := ∀ a o, H a = some o → H' a = some o
theorem Stay.refl (H : Hp) : Stay H H := fun _ _ h => h
theorem Stay.trans {H H1 H2 : Hp} (a : Stay H H1) (b : Stay H1 H2) : Stay H H2 := fun x o h => b x o (a x o h)
theorem Stay.new {H H' : Hp} {p : Addr} {o : HO} (a : Stay H H') (hp : H' p = none) : Stay H (upd H' p o) := fun x u h => by rw [upd_ne (ne_of_none (a x u h) hp)]; exact a x u h
theorem Stay.acc {H H' : Hp} {p : Addr} {o : HO} (a : Stay H H') (hp : H p = none) : Stay H (upd H' p o) := fun x u h => by rw [upd_ne (ne_of_none h hp)]; exact a x u h
def has (M : List (List Int)) (j : Nat) : Bool := M.any fun r => decide (0 < r.getD j 0)
def wishedL (g : Nat) (M : List (List Int)) : List V := ((List.range g).filter (has M)).map fun (j : Nat) => V.int (0 + (j : Int))
theorem filter_succ (f : Nat → Bool) (n : Nat) : (List.range (n + 1)).filter f = (List.range n).filter f ++ if f n = true then [n] else [] := by
  rw [List.range_succ, List.filter_append]
  congr 1
  by_cases h : f n = true
  · simp [h]
  · simp [h]
theorem wishedL_len (g : Nat) (M : List (List Int)) : (wishedL g M).length ≤ g := by
  unfold wishedL
  rw [List.length_map]
  exact Nat.le_trans (List.length_filter_le _ _) (by simp)
theorem wishedL_succ (i : Nat) (M : List (List Int)) : wishedL (i + 1) M = wishedL i M ++ if has M i = true then [V.int (0 + (i : Int))] else [] := by
  unfold wishedL
  rw [filter_succ, List.map_append]
  split <;> simp

theorem Stay.kp {b : Addr} {H0 H H' : Hp} (s : Stay H0 H) (k : Kp b H H') (hb : H0 b = none) : Stay H0 H' := fun a o h => k a o (ne_of_none h hb) (s a o h)
theorem Stay.free {H0 H : Hp} {p : Addr} (s : Stay H0 H) (h : H p = none) : H0 p = none := by
  cases q : H0 p with
  | none => rfl
  | some o => rw [s p o q] at h; cases h
def spLaw (K : PySem.W.Frag) : Sp := fun vs H Q _ => ∃ (a : Addr) (ns : List Int), vs = [.ref a] ∧ SqL K H a (ns.map V.int) ∧ ns.length ≤ 63 ∧ ∀ H', Q (.bl true) H'
theorem SqL.stay {K : PySem.W.Frag} {H H' : Hp} {a : Addr} {xs : List V} (h : SqL K H a xs) (s : Stay H H') : SqL K H' a xs := by
  rcases h with (h | ⟨o, h⟩) | h
  · exact .inl (.inl (s _ _ h))
  · exact .inl (.inr ⟨o, s _ _ h⟩)
  · exact .inr h

theorem boot_list : bootBuiltins "list" = some (.type "list") := by first | rfl | kernel_rfl | decide +kernel
/-! a thing made of plain data, none of it the bag -/
mutual
inductive TrV (b : Addr) (H : Hp) : V → PyData → Prop
  | non : TrV b H .non .none
  | bl (c : Bool) : TrV b H (.bl c) (.bool c)
  | int (i : Int) : TrV b H (.int i) (.int i)
  | str (x : Str) (ok : (PyData.str x).canLay0 = true) : TrV b H (.str x) (.str x)
  | lst {a : Addr} {xs : List V} {ds : List PyData} : a ≠ b → H a = some (.lst xs) → TrVs b H xs ds → TrV b H (.ref a) (.list ds)
  | tup {a : Addr} {xs : List V} {ds : List PyData} : H a = some (.tup xs) → TrVs b H xs ds → TrV b H (.ref a) (.tuple ds)
inductive TrVs (b : Addr) (H : Hp) : List V → List PyData → Prop
  | nil : TrVs b H [] []
  | cons {x : V} {xs : List V} {d : PyData} {ds : List PyData} : TrV b H x d → TrVs b H xs ds → TrVs b H (x :: xs) (d :: ds)
end
mutual
theorem TrV.stay {b : Addr} {H H' : Hp} (k : Stay H H') : ∀ {v : V} {d : PyData}, TrV b H v d → TrV b H' v d
  | _, _, .non => .non
  | _, _, .bl c => .bl c
  | _, _, .int i => .int i
  | _, _, .str x ok => .str x ok
  | _, _, .lst n h t => .lst n (k _ _ h) (TrVs.stay k t)
  | _, _, .tup h t => .tup (k _ _ h) (TrVs.stay k t)
theorem TrVs.stay {b : Addr} {H H' : Hp} (k : Stay H H') : ∀ {vs : List V} {ds : List PyData}, TrVs b H vs ds → TrVs b H' vs ds
  | _, _, .nil => .nil
  | _, _, .cons h t => .cons (TrV.stay k h) (TrVs.stay k t)
end
mutual
theorem TrV.dt {K : PySem.W.Frag} {b : Addr} {H : Hp} : ∀ {v : V} {d : PyData}, TrV b H v d → DtV K H v d
  | _, _, .non => .non
  | _, _, .bl c => .bl c
  | _, _, .int i => .int i
  | _, _, .str x ok => .str x ok
  | _, _, .lst n h t => .lst (SqL.of h) (TrVs.dt t)
  | _, _, .tup h t => .tup (SqT.of h) (TrVs.dt t)
theorem TrVs.dt {K : PySem.W.Frag} {b : Addr} {H : Hp} : ∀ {vs : List V} {ds : List PyData}, TrVs b H vs ds → DtVs K H vs ds
  | _, _, .nil => .nil
  | _, _, .cons h t => .cons (TrV.dt h) (TrVs.dt t)
end
theorem TrVs.len {b : Addr} {H : Hp} : ∀ {vs : List V} {ds : List PyData}, TrVs b H vs ds → vs.length = ds.length
  | _, _, .nil => rfl
  | _, _, .cons _ t => congrArg (· + 1) (TrVs.len t)
/-! ### the mirrors -/
def isWhole : PyData → Bool
  | .int _ => true
  | _ => false
def within (lo hi : Int) : PyData → Bool
  | .int i => decide (lo ≤ i) && decide (i ≤ hi)
  | _ => false
def isPurse : PyData → Bool
  | .tuple [.int t, .int u] => decide (1 ≤ u) && decide (Int.gcd t u = 1) && decide (1 ≤ t) && decide (t ≤ 1000000) && decide (u ≤ 1000000)
  | _ => false
def isRow (n : Nat) (lo hi : Int) : PyData → Bool
  | .tuple ds => decide (ds.length = n) && ds.all (within lo hi)
  | _ => false
def isMk : PyData → Bool
  | .tuple [.tuple a, .tuple p, .tuple w] => decide (1 ≤ a.length) && decide (a.length ≤ 6) && a.all (within 1 60) && (decide (1 ≤ p.length) && decide (p.length ≤ 6) && p.all isPurse) && (decide (w.length = p.length) && w.all (isRow a.length 0 100))
  | _ => false
/-! all numbers within are small -/
end KG

set_option Elab.async false
set_option linter.all false
set_option maxRecDepth 100000
set_option maxHeartbeats 4000000
namespace HT
open PySem PySem.Spec PyProof.Rows
section
variable {prog : Program} {w : World} {A : Around} {E : Value → Shared → Prop} {s : Shared}
end
end HT
namespace L2
open PySem PySem.Spec PyProof.Rows
section
variable {X : Cx}
end
end L2

set_option Elab.async false
set_option linter.all false
set_option maxRecDepth 100000
set_option maxHeartbeats 1000000
namespace L2
open PySem PySem.Spec PyProof.Rows KG
end L2

set_option Elab.async false
set_option linter.all false
set_option maxRecDepth 100000
set_option maxHeartbeats 1000000
/-! an exception of an own class in the air: what it touches -/
namespace EX
open PySem PySem.Spec PyProof.Rows
def excO (C t : Addr) (hd : Value) : Obj := { cls := .ref C, data := .fields #[.ref t, hd, .none, .none, .bool false, .none] }
/-- the traceback's head -/
def Hd (B : Heap) (e : Addr) (h : Heap) (v : Value) : Prop := v = .none ∨ ∃ T oT ts, v = .ref T ∧ B.get? T = none ∧ T ≠ e ∧ h.get? T = some oT ∧ oT.data = .fields ts ∧ 3 < ts.size
structure Air (B : Heap) (l : List Env) (e C t : Addr) (h : Heap) : Prop where
  st : B.StaysIn h
  ne : B.get? e = none
  ff : h.FunFrames B l
  ob : ∃ hd, h.get? e = some (excO C t hd) ∧ Hd B e h hd
theorem Air.tail {B : Heap} {env : Env} {l : List Env} {e C t : Addr} {h : Heap} (a : Air B (env :: l) e C t h) : Air B l e C t h := ⟨a.st, a.ne, a.ff.2.2, a.ob⟩
section
variable {M : Model} {A : Around} {E : Value → Shared → Prop} {s : Shared} {B : Heap} {env : Env} {outer : List Env} {L e C t : Addr} {Q : Unit → Shared → Prop}
theorem air_entry {head : Value} {hn : Bool} (a : Air B (env :: outer) e C t s.heap) (hfr : A.frames = some (env :: outer)) (hf : env.frame = some L)
    (k : ∀ h', Air B (env :: outer) e C t h' → s.heap.UpToSlots h' → Q () { s with heap := h' }) :
    wpAny M A (do let fr ← frameOf env; let pl ← entryPlaceOf L hn; let x ← EntryCells.newEntry head fr .none (rawInt L) .none pl; setField (.ref e) 1 x) Q E s := by
  obtain ⟨hd, he, _⟩ := a.ob
  refine wpAny_bind (wpAny_frameOf_fun hfr a.ff hf fun g so => ?_)
  obtain ⟨_, so2, so3⟩ := so
  have nfr : e ∉ (env :: outer).filterMap (·.frame) := fun m => by
    obtain ⟨_, o, ho, nf⟩ := a.ff.mem m
    rw [he] at ho
    cases ho
    exact nf _ rfl
  have ge : g.get? e = some (excO C t hd) := (so2 e nfr).trans he
  have gB : B.StaysIn g := fun b o q => (so2 b fun m => by rw [(a.ff.mem m).1] at q; cases q).trans (a.st b o q)
  refine wpAny_bind (wpAny_entryPlaceOf fun pl ipl => ?_)
  unfold EntryCells.newEntry newFields
  refine wpAny_bind (wpAny_newObj_type ?_ (ipl.sizeOk5 _ _ _ _ _))
  generalize hN : ({ cls := .type "traceback", dict := none, data := .fields ([head, .ref L, .none, rawInt L, .none] ++ (if pl.isEmpty then List.replicate 6 Value.none else pl)).toArray } : Obj) = oN
  have g2 : (g.push oN).get? e = some (excO C t hd) := Heap.get?_push_of_some _ ge
  have gT : (g.push oN).get? g.objs.size = some oN := Heap.get?_push_size g (by rw [← hN]; rfl)
  have Te : g.objs.size ≠ e := Nat.ne_of_gt (Heap.lt_size ge)
  have nBT : B.get? g.objs.size = none := by
    cases q : B.get? g.objs.size with
    | none => rfl
    | some o => exact absurd (Heap.lt_size (gB _ o q)) (Nat.lt_irrefl _)
  refine wpAny_setField g2 rfl (by show 1 < 6; decide) (k _ ?_ ?_)
  · refine ⟨fun b o q => ?_, a.ne, ?_, .ref g.objs.size, ?_, .inr ⟨g.objs.size, oN, _, rfl, nBT, Te, ?_, by rw [← hN], ?_⟩⟩
    · rw [Heap.get?_update_other _ _ (fun z => by rw [← z, a.ne] at q; cases q)]
      exact Heap.get?_push_of_some _ (gB b o q)
    · refine a.ff.of_keeps fun b o q nf => ?_
      obtain ⟨sl, q2⟩ := so3 b o q
      refine ⟨{ o with slots := sl }, ?_, rfl⟩
      rw [Heap.get?_update_other _ _ (fun z => by rw [← z, he] at q; cases q; exact nf _ rfl)]
      exact Heap.get?_push_of_some _ q2
    · exact Heap.get?_update_self _ g2 rfl
    · rw [Heap.get?_update_other _ _ Te.symm]; exact gT
    · simp only [List.size_toArray, List.length_append, List.length_cons]; omega
  · intro b o q nf
    obtain ⟨sl, q2⟩ := so3 b o q
    refine ⟨sl, ?_⟩
    rw [Heap.get?_update_other _ _ (fun z => by rw [← z, he] at q; cases q; exact nf _ rfl)]
    exact Heap.get?_push_of_some _ q2
theorem air_head {T : Addr} {oT : Obj} {ts : Array Value} {v : Value} (a : Air B outer e C t s.heap) (nT : B.get? T = none) (Te : T ≠ e) (hT : s.heap.get? T = some oT) (dT : oT.data = .fields ts) (h3 : 3 < ts.size)
    (k : ∀ h', Air B outer e C t h' → s.heap.UpToSlots h' → Q () { s with heap := h' }) : wpAny M A (setField (.ref T) 3 v) Q E s := by
  obtain ⟨hd, he, hh⟩ := a.ob
  refine wpAny_setField hT dT h3 ?_
  have oth : ∀ b, b ≠ T → (s.heap.update T (Obj.mapFields (·.setIfInBounds 3 v))).get? b = s.heap.get? b := fun b n => Heap.get?_update_other _ _ (Ne.symm n)
  have isf : ∀ b o, s.heap.get? b = some o → (∀ vs, o.data ≠ .fields vs) → b ≠ T := fun b o q nf z => by
    rw [z, hT] at q; cases q; exact nf _ dT
  refine k _ ⟨fun b o q => ?_, a.ne, a.ff.of_keeps fun b o q nf => ⟨o, (oth b (isf b o q nf)).trans q, rfl⟩, hd, (oth e Te.symm).trans he, ?_⟩ fun b o q nf => ⟨o.slots, (oth b (isf b o q nf)).trans q⟩
  · exact (oth b fun z => by rw [z, nT] at q; cases q).trans (a.st b o q)
  · rcases hh with z | ⟨T2, o2, t2, z, n2, e2, h2, d2, s2⟩
    · exact .inl z
    · by_cases w : T2 = T
      · subst w
        rw [hT] at h2; cases h2
        have := Obj.data_mapFields dT (·.setIfInBounds 3 v)
        exact .inr ⟨T2, _, _, z, n2, e2, Heap.get?_update_self _ hT (Obj.isFreed_of_fields this), this, by simpa using h3⟩
      · exact .inr ⟨T2, o2, t2, z, n2, e2, (oth T2 w).trans h2, d2, s2⟩
theorem air_note (a : Air B (env :: outer) e C t s.heap) (hfr : A.frames = some (env :: outer)) (hf : env.frame = some L)
    (k : ∀ h', Air B (env :: outer) e C t h' → s.heap.UpToSlots h' → Q () { s with heap := h' }) : wpAny M A (noteFrame (.ref e) env) Q E s := by
  obtain ⟨hd, he, hh⟩ := a.ob
  unfold noteFrame
  simp only [hf]
  refine wpAny_bind (wpAny_field he rfl (x := hd) rfl ?_)
  rcases hh with rfl | ⟨T, oT, ts, rfl, nT, Te, hT, dT, h3⟩
  · rw [if_neg (by decide)]
    exact air_entry a hfr hf k
  · rw [if_pos (show (Value.ref T != Value.none) = true from by simp)]
    refine wpAny_bind (wpAny_field hT dT (x := ts[3]) (by rw [Array.getElem?_eq_getElem h3]) ?_)
    by_cases hv : (ts[3] == rawInt L) = true
    · rw [if_pos hv]
      exact wpAny_pure (k s.heap a (Heap.UpToSlots.refl _))
    · rw [if_neg hv]
      refine wpAny_bind (air_head a nT Te hT dT h3 fun h1 a1 u1 => ?_)
      exact air_entry (s := { s with heap := h1 }) a1 hfr hf fun h2 a2 u2 => k h2 a2 (u1.trans u2)
theorem air_land (a : Air B outer e C t s.heap) (k : ∀ h', Air B outer e C t h' → s.heap.UpToSlots h' → Q () { s with heap := h' }) : wpAny M A (setFlight (.ref e) none) Q E s := by
  obtain ⟨hd, he, hh⟩ := a.ob
  unfold setFlight
  refine wpAny_bind (wpAny_field he rfl (x := hd) rfl ?_)
  rcases hh with rfl | ⟨T, oT, ts, rfl, nT, Te, hT, dT, h3⟩
  · rw [if_neg (by decide)]
    exact wpAny_pure (k s.heap a (Heap.UpToSlots.refl _))
  · rw [if_pos (show (Value.ref T != Value.none) = true from by simp)]
    exact air_head a nT Te hT dT h3 k
theorem air_leave (a : Air B (env :: outer) e C t s.heap) (hfr : A.frames = some (env :: outer)) (hf : env.frame = some L)
    (k : ∀ h', Air B outer e C t h' → s.heap.UpToSlots h' → Q () { s with heap := h' }) : wpAny M A (leaving env (.ref e)) Q E s := by
  unfold leaving
  refine wpAny_bind (air_note a hfr hf fun h1 a1 u1 => ?_)
  exact air_land (s := { s with heap := h1 }) a1.tail fun h2 a2 u2 => k h2 a2 (u1.trans u2)
end
end EX

set_option Elab.async false
set_option linter.all false
set_option maxRecDepth 100000
set_option maxHeartbeats 1000000
namespace L2
open PySem PySem.Spec PyProof.Rows EX
theorem obj_is {P : Program} {w : World} {H : Hp} {h : Heap} {a : Addr} {o : HO} (x : ObjOk P w H h a o) : ∃ u, h.get? a = some u := by
  cases o with
  | lst xs => obtain ⟨_, _, _, _, q⟩ := x; exact ⟨_, q⟩
  | tup xs => obtain ⟨_, _, _, ⟨_, q, _⟩⟩ := x; exact ⟨_, q⟩
  | dK kvs => obtain ⟨_, _, _, _, _, _, _, q, _⟩ := x; exact ⟨_, q⟩
  | dT kvs => obtain ⟨_, _, _, _, _, _, _, q, _⟩ := x; exact ⟨_, q⟩
  | set S n => obtain ⟨_, _, _, _, q, _⟩ := x; exact ⟨_, q⟩
  | ins C dx fs => obtain ⟨_, _, _, q, _⟩ := x; exact ⟨_, q⟩
  | own y => exact x
  | xd fs => obtain ⟨_, ⟨_, _, _, q, _⟩, _⟩ := x; exact ⟨_, q⟩
  | rng lo hi => obtain ⟨_, _, _, q⟩ := x; exact ⟨_, q⟩
  | frz ob u => exact ⟨_, x.1⟩
  | tbl ps => exact ⟨_, x⟩
  | met f y => exact ⟨_, x⟩
  | ext φ => exact x.2.1
theorem ff_base {h base B : Heap} : ∀ {l : List Env}, (∀ b ∈ frs l, B.get? b = none) → h.FunFrames base l → h.FunFrames B l
  | [], _, _ => trivial
  | env :: r, hB, ⟨hk, ⟨L, o, hf, hn, ho, hd⟩, hr⟩ =>
    ⟨hk, ⟨L, o, hf, hB L (by unfold frs; rw [List.filterMap_cons, hf]; exact List.mem_cons_self), ho, hd⟩,
      ff_base (fun b hb => hB b (by unfold frs; rw [List.filterMap_cons, hf]; exact List.mem_cons_of_mem _ hb)) hr⟩
/-- an exception of an own class that left a def: all that was there stands in B, but the frames -/
def CXF (P : Program) (w : World) : CXT := fun outer H s E e s' => ∃ (a C t : Addr) (B : Heap) (H' : Hp), e = .ref a ∧ s'.os = s.os ∧ AllBare s'.gens ∧ Un (frs outer) [] H H' s.heap s'.heap ∧ HOk P w H' B ∧
  (∀ b o, s.heap.get? b = some o → b ∉ frs outer → (∃ o', B.get? b = some o') ∧ (H b = none → B.get? b = some o)) ∧ Air B outer a C t s'.heap ∧ s.heap.get? a = none ∧ H' a = none ∧ E (.ref C) none H'
section
variable {P : Program} {w : World} {K : PySem.W.Frag} {mg : Str → Option Value} {base : Heap} {N : List Str} {qual : Str} {scope : Scope} {f : Addr} {cd : Value} {A : Around} {outer : List Env} {s₀ : Shared} {H₀ : Hp} {E : XK}
/-- from the state at the raise (or at the callee's end) to the def's caller -/
theorem fly_out {pins : List (Addr × Obj)} {σ : St} {H H' : Hp} {s s' : Shared} {a C t : Addr} {B h' : Heap} (I : Inv (cxOf (CXF P w) P w K mg base N qual scope f cd A outer s₀ H₀ E) pins σ H s)
    (os : s'.os = s.os) (bare : AllBare s'.gens) (un : Un (envOfC qual scope s₀.heap.objs.size f cd :: outer |> frs) [] H H' s.heap s'.heap) (hok : HOk P w H' B)
    (third : ∀ b o, s.heap.get? b = some o → b ∉ frs (envOfC qual scope s₀.heap.objs.size f cd :: outer) → (∃ o', B.get? b = some o') ∧ (H b = none → B.get? b = some o))
    (ff : s'.heap.FunFrames B (envOfC qual scope s₀.heap.objs.size f cd :: outer)) (air : Air B outer a C t h') (up : s'.heap.UpToSlots h') (na : s.heap.get? a = none) (na' : H' a = none) (he : E (.ref C) none H') : CXF P w outer H₀ s₀ E (.ref a) { s' with heap := h' } := by
  have stk : ∀ b o, s₀.heap.get? b = some o → b ∉ frs outer → b ∉ frs (envOfC qual scope s₀.heap.objs.size f cd :: outer) := fun b o q n m => by
    rcases List.mem_cons.mp (I.stkSub b m) with z | z
    · have : b < s₀.heap.objs.size := Heap.lt_size q
      have h2 : s₀.heap.objs.size ≤ b := by rw [z]; exact I.ok.above
      exact absurd (Nat.lt_of_lt_of_le this h2) (Nat.lt_irrefl _)
    · exact n z
  have infr : ∀ b, b ∈ frs outer → b ∈ frs (envOfC qual scope s₀.heap.objs.size f cd :: outer) := fun b m => by
    unfold frs; rw [List.filterMap_cons]; exact List.mem_cons_of_mem _ m
  have ub : Un (frs outer) [] H₀ H s₀.heap s.heap := I.base
  refine ⟨a, C, t, B, H', rfl, os.trans I.os, bare, ⟨fun b o q n nf _ => ?_, fun b o q n m _ => ?_, fun b o q n _ => ?_, fun b o q _ => ?_, fun b xs q => un.tups b xs (ub.tups b xs q), fun b o u q => un.frzs b o u (ub.frzs b o u q), fun b ps q => ?_⟩, hok, fun b o q nf => ?_, air, ?_, na', he⟩
  · exact air.st b o ((third b o (ub.keep b o q n nf (by simp)) (stk b o q nf)).2 (ub.free b o q n (by simp)))
  · obtain ⟨sl, q1⟩ := ub.slot b o q n m (by simp)
    obtain ⟨sl2, q2⟩ := un.slot b _ q1 (ub.free b o q n (by simp)) (infr b m) (by simp)
    obtain ⟨_, o3, q3, nf⟩ := ff.mem (infr b m)
    rw [q2] at q3
    cases q3
    obtain ⟨sl3, q4⟩ := up b _ q2 nf
    exact ⟨sl3, q4⟩
  · obtain ⟨o', q1⟩ := ub.there b o q (by simp)
    exact un.free b o' q1 (ub.free b o q n (by simp)) (by simp)
  · obtain ⟨o', q1⟩ := ub.there b o q (by simp)
    by_cases m : b ∈ frs outer
    · obtain ⟨_, o3, q3, nf⟩ := ff.mem (infr b m)
      obtain ⟨sl3, q4⟩ := up b _ q3 nf
      exact ⟨_, q4⟩
    · obtain ⟨o2, q2⟩ := (third b o' q1 (stk b o q m)).1
      exact ⟨o2, air.st b o2 q2⟩
  · obtain ⟨m1, e1⟩ := ub.tbls b ps q
    obtain ⟨m2, e2⟩ := un.tbls b _ e1
    exact ⟨m1 ++ m2, by rw [e2, Array.append_assoc]⟩
  · obtain ⟨o', q1⟩ := ub.there b o q (by simp)
    refine ⟨(third b o' q1 (stk b o q nf)).1, fun n => ?_⟩
    have q2 := ub.keep b o q n nf (by simp)
    exact (third b o q2 (stk b o q nf)).2 (ub.free b o q n (by simp))
  · cases q : s₀.heap.get? a with
    | none => rfl
    | some o =>
      obtain ⟨o', q1⟩ := ub.there a o q (by simp)
      rw [na] at q1; cases q1
/-- a callee's exception passes on -/
theorem passF : Passes (CXF P w) (cxOf (CXF P w) P w K mg base N qual scope f cd A outer s₀ H₀ E) E := by
  intro pins σ H s e s' I h
  obtain ⟨a, C, t, B, H', rfl, os, bare, un, hok, third, air, na, na', he⟩ := h
  refine air_leave (L := s₀.heap.objs.size) air I.ok.frames rfl fun h' air' up => ?_
  exact fly_out I os bare un hok third air.ff air' up na na' he
/-- a raise -/
theorem raiseF {pins : List (Addr × Obj)} {σ : St} {H : Hp} {s : Shared} {h1 : Heap} {a C : Addr} {args : List Value} (I : Inv (cxOf (CXF P w) P w K mg base N qual scope f cd A outer s₀ H₀ E) pins σ H s) (mk : Heap.MadeExcOf s.heap h1 a (.ref C) args) (he : E (.ref C) none H) :
    (cxOf (CXF P w) P w K mg base N qual scope f cd A outer s₀ H₀ E).xe (.ref a) { s with heap := h1 } := by
  obtain ⟨t, ht, htn, _⟩ := mk.there
  have nofr : ∀ b u, H b = some u → b ∉ frs (envOfC qual scope s₀.heap.objs.size f cd :: outer) := fun b u q m => by
    have := I.stkFree b m
    rw [q] at this; cases this
  have hB : ∀ b ∈ frs (envOfC qual scope s₀.heap.objs.size f cd :: outer), (PySem.W.hideAll s.heap (frs (envOfC qual scope s₀.heap.objs.size f cd :: outer))).get? b = none := fun b m => PySem.W.hideAll_none _ m
  have hokB : HOk P w H (PySem.W.hideAll s.heap (frs (envOfC qual scope s₀.heap.objs.size f cd :: outer))) := fun b u q =>
    (I.hok b u q).stay (fun c v hc qc => PySem.W.hideAll_get _ qc (by
      rcases hc with z | z
      · rw [z]; exact nofr b u q
      · exact nofr c _ z)) (fun _ z => z) fun _ _ z => z
  have na' : H a = none := by
    cases q : H a with
    | none => rfl
    | some u =>
      obtain ⟨o, ho⟩ := obj_is (I.hok a u q)
      rw [mk.new] at ho; cases ho
  have air0 : Air (PySem.W.hideAll s.heap (frs (envOfC qual scope s₀.heap.objs.size f cd :: outer))) (envOfC qual scope s₀.heap.objs.size f cd :: outer) a C t h1 := by
    refine ⟨fun b o q => mk.keeps b o (PySem.W.of_hideAll _ q), ?_, (ff_base hB I.stack).of_keeps fun b o q _ => ⟨o, mk.keeps b o q, rfl⟩, .none, ht, .inl rfl⟩
    cases q : (PySem.W.hideAll s.heap (frs (envOfC qual scope s₀.heap.objs.size f cd :: outer))).get? a with
    | none => rfl
    | some o => have := PySem.W.of_hideAll _ q; rw [mk.new] at this; cases this
  refine air_leave (s := { s with heap := h1 }) (L := s₀.heap.objs.size) air0 I.ok.frames rfl fun h' air' up => ?_
  exact fly_out (s' := { s with heap := h1 }) I rfl I.bare (Un.kept mk.keeps) hokB (fun b o q n => ⟨⟨o, PySem.W.hideAll_get _ q n⟩, fun _ => PySem.W.hideAll_get _ q n⟩) air0.ff air' up mk.new na' he
/-- THE RULE for a def that may raise -/
theorem Fun.okX {x qual : Str} {st : Stmt} {f : Addr} {fd : FuncData} {N ps : List Str} {k : Nat} {sp : Sp} (F : Fun K x qual st f fd) (S : FnScope N ps (defScope st)) (len : ∀ vs H Q E, sp vs H Q E → vs.length = ps.length)
    (hbody : ∀ (cdv : Value) (A : Around) (outer : List Env) (s : Shared) (H : Hp) (vs : List V) (Q : VK) (E : XK), Room k (A.deeper (envOfC qual (defScope st) s.heap.objs.size f cdv)) → sp vs H Q E →
      ∃ t, PSs (cxOf (CXF P w) P w K mg base N qual (defScope st) f cdv A outer s H E) (defBody st) t ∧ t { nx := fun _ H' => Q .non H', rt := Q } (start N vs) H) : FnOk P w K mg base (CXF P w) (k + 1) f fd ps sp := by
  obtain ⟨oc, od, kV, doc, pm, an, cdv, ct, osl, rfl, lk, hcd⟩ := F.ex
  exact fn_of lk hcd S len fun A outer s H vs Q E hr hsp => hbody cdv A outer s H vs Q E hr hsp
end
/-- what a raise asks -/
def tRaise (E : XK) (C : Addr) (t : TA) : TS := fun _ σ H => t σ H fun vs H1 => vs.length ≤ sizeLine ∧ E (.ref C) none H1
/-- raise C(e, ..), C an own class below ValueError -/
theorem ps_raise {P : Program} {w : World} {K : PySem.W.Frag} {mg : Str → Option Value} {base : Heap} {N : List Str} {qual : Str} {scope : Scope} {f : Addr} {cd : Value} {A : Around} {outer : List Env} {s₀ : Shared} {H₀ : Hp} {E : XK}
    {x : Str} {C : Addr} {e : Expr} {es : List Expr} {t : TA} {np cpos pos : Pos} {bmB : List Value} {B newId initId : String} (FB : ExcBaseFacts B newId initId bmB) (hg : Gl (cxOf (CXF P w) P w K mg base N qual scope f cd A outer s₀ H₀ E) x) (hm : mg x = some (.ref C)) (hx : PySem.W.excIn K C bmB newId = true)
    (ha : PA (cxOf (CXF P w) P w K mg base N qual scope f cd A outer s₀ H₀ E) (e :: es) t) (hd : (x == ("__debug__" : Str)) = false := by decide)
    (he : starEach (e :: es) (envOfC qual scope s₀.heap.objs.size f cd) = (false, eval e (envOfC qual scope s₀.heap.objs.size f cd)) :: starEach es (envOfC qual scope s₀.heap.objs.size f cd) := by rfl)
    (hpl : (backTo cpos (starEach es (envOfC qual scope s₀.heap.objs.size f cd))).any (·.1) = false := by rfl) :
    PS (cxOf (CXF P w) P w K mg base N qual scope f cd A outer s₀ H₀ E) (.Raise (some (.Call (.Name x np) (e :: es) [] cpos)) none pos) (tRaise E C t) := by
  intro pins s σ H D I h
  unfold PySem.W.excIn at hx
  split at hx
  · rename_i dd cdd sl ho
    split at hx
    · rename_i C' bm k0 k1 k2 k3 n k5 hmro hs
      simp only [Bool.and_eq_true, beq_iff_eq, Bool.not_eq_true'] at hx
      obtain ⟨⟨⟨⟨⟨rfl, rfl⟩, hdel⟩, ht⟩, hok⟩, hni⟩ := hx
      obtain ⟨nm, bs, mro, ns, qn, hdd, sn, sub, ab, col, del⟩ := cdd
      dsimp only at hmro hdel hok hni
      subst hmro hdel
      have hsl : sl = #[k0, k1, k2, k3, some (.builtin n), k5] := by
        obtain ⟨l⟩ := sl
        simp only at hs
        rw [hs]
      subst hsl
      have kb : K.In base := I.ok.mod.kin
      have nsB := Heap.Ns.of_isNs (PySem.W.isNs_of_in kb hok)
      refine wpAny_Raise_call_subT FB (C := C') (nm := nm) (q := qn) (N := ns) (bs := bs) (bm := bm) (hdct := hdd) (sn := sn) (sub := sub) (ab := ab) (col := col) (dd := dd) (k0 := k0) (k1 := k1) (k2 := k2) (k3 := k3) (k5 := k5) (mN := base.nsMap ns)
        ((PySem.W.tail_of_in kb ht).hasType FB.hasBase) (I.ok.hd rfl) ?_ (PySem.W.nsMap_none_of_in kb hok hni) ?_
      · show (backTo cpos (starEach (e :: es) (envOfC qual scope s₀.heap.objs.size f cd))).any (·.1) = false
        rw [he]
        show (false || (backTo cpos (starEach es (envOfC qual scope s₀.heap.objs.size f cd))).any (·.1)) = false
        rw [hpl]; rfl
      · refine ld_glob I hg hm ⟨rfl, ?_⟩ hd
        show wpAny _ _ (evalArgs (.ref C') true (backTo cpos (starEach (e :: es) (envOfC qual scope s₀.heap.objs.size f cd))) []) _ _ s
        have ha' := ha cpos pins s σ H _ I h
        have ha2 : wpAny (model P w) (A.deeper (envOfC qual scope s₀.heap.objs.size f cd)) (spliced (backTo cpos (starEach (e :: es) (envOfC qual scope s₀.heap.objs.size f cd)))) _ _ s := ha'
        rw [he] at ha2 ⊢
        refine Calls.evalArgs_plain (thn ha2 fun us s2 ⟨vs, H2, I2, r, z, q⟩ => ?_)
        exact ⟨rfl, by rw [← r.length]; exact z, I2.bk _ _ (kb _ _ ho), nsB.keeps I2.bk, (PySem.W.tail_of_in kb ht).keeps I2.bk, fun h' a mk => raiseF I2 mk q⟩
    · cases hx
  · cases hx
end L2

set_option Elab.async false
set_option linter.all false
set_option maxRecDepth 100000
set_option maxHeartbeats 1000000
namespace EX
open PySem PySem.Spec PyProof.Rows
section
variable {prog : Program} {w : World} {A : Around} {E : Value → Shared → Prop} {s : Shared}
end
end EX

set_option Elab.async false
set_option linter.all false
set_option maxRecDepth 100000
set_option maxHeartbeats 2000000
namespace L2
open PySem PySem.Spec PyProof.Rows EX
section
variable {X : Cx} {tg : Expr}
end
section
variable {X : Cx} {scope : Scope} {own cap : List Str} {ix : List Nat} {tg iter elt : Expr} {ifs : List Expr} {wi : TI} {g : TG} {tt : TT} {te : TE} {pos : Pos}
end
end L2

set_option Elab.async false
set_option linter.all false
set_option maxRecDepth 100000
set_option maxHeartbeats 1000000
namespace EX
open PySem PySem.Spec PyProof.Rows PySem.W
section
variable {prog : Program} {w : World} {A : Around} {E : Value → Shared → Prop} {s : Shared} {K : Frag} {x D t : Addr} {hd : Value}
end
end EX
namespace L2
open PySem PySem.Spec PyProof.Rows EX
section
variable {X : Cx} {e : Expr} {te : TE} {ea D t : Addr} {hd : Value}
end
end L2

set_option Elab.async false
set_option linter.all false
set_option maxRecDepth 100000
set_option maxHeartbeats 1000000
namespace EX
open PySem PySem.Spec PyProof.Rows PySem.W
section
variable {prog : Program} {w : World} {A : Around} {E : Value → Shared → Prop} {s : Shared} {K : Frag} {e D C t : Addr} {hd : Value}
end
end EX

namespace L2
open PySem PySem.Spec PyProof.Rows EX
/-! ### ''.join(words) -/
end L2

set_option Elab.async false
set_option linter.all false
set_option maxRecDepth 100000
set_option maxHeartbeats 1000000
namespace L2
open PySem PySem.Spec PyProof.Rows EX
/-! ### a def called within an except suite -/
section
variable {P : Program} {w : World} {K : PySem.W.Frag} {mg : Str → Option Value} {base : Heap}
end
end L2

set_option Elab.async false
set_option linter.all false
set_option maxRecDepth 100000
set_option maxHeartbeats 2000000
namespace L2
open PySem PySem.Spec PyProof.Rows EX
section
variable {X : Cx} {pins : List (Addr × Obj)} {σ : St} {H : Hp} {s : Shared}
end
end L2

set_option Elab.async false
set_option linter.all false
set_option maxRecDepth 100000
set_option maxHeartbeats 2000000
namespace L2
open PySem PySem.Spec PyProof.Rows EX
end L2

set_option Elab.async false
set_option linter.all false
set_option maxRecDepth 100000
set_option maxHeartbeats 1000000
namespace KG
open PySem
/-- within k bits -/
def Bd (k : Nat) (n : Int) : Prop := n.natAbs < 2 ^ k
theorem Bd.mono {j k : Nat} {n : Int} (h : Bd j n) (hj : j ≤ k) : Bd k n := Nat.lt_of_lt_of_le h (Nat.pow_le_pow_right (by decide) hj)
theorem Bd.mul {j k : Nat} {a b : Int} (h : Bd j a) (h' : Bd k b) : Bd (j + k) (a * b) := by
  unfold Bd at *
  rw [Int.natAbs_mul, Nat.pow_add]
  exact Nat.mul_lt_mul'' h h'
theorem Bd.le {k : Nat} {a b : Int} (h : Bd k b) (hl : a.natAbs ≤ b.natAbs) : Bd k a := Nat.lt_of_le_of_lt hl h
theorem Bd.log {k : Nat} {n : Int} (h : Bd k n) (hk : k ≤ 8999) : n.natAbs.log2 < 9000 := by
  by_cases h0 : n.natAbs = 0
  · rw [h0]; decide +kernel
  · exact (Nat.log2_lt h0).mpr (Nat.lt_of_lt_of_le h (Nat.pow_le_pow_right (by decide) (by omega)))
/-! lowest terms -/
def sg (t u : Int) : Int := if u < 0 then -(Int.gcd t u : Int) else (Int.gcd t u : Int)
def nx (t u : Int) : Int := t.fdiv (sg t u)
def ny (t u : Int) : Int := u.fdiv (sg t u)
theorem nf_spec {t u : Int} (h : u ≠ 0) : nx t u * u = t * ny t u ∧ 0 < ny t u ∧ Int.gcd (nx t u) (ny t u) = 1 ∧ sg t u ≠ 0 ∧ (nx t u).natAbs ≤ t.natAbs ∧ (ny t u).natAbs ≤ u.natAbs := by
  have g0 : 0 < Int.gcd t u := Int.gcd_pos_of_ne_zero_right t h
  obtain ⟨a, ha⟩ : (Int.gcd t u : Int) ∣ t := Int.gcd_dvd_left ..
  obtain ⟨b, hb⟩ : (Int.gcd t u : Int) ∣ u := Int.gcd_dvd_right ..
  generalize hg : Int.gcd t u = g at *
  have hc : Int.gcd a b = 1 := by
    have e : Int.gcd t u = Int.gcd ((g : Int) * a) ((g : Int) * b) := by rw [← ha, ← hb]
    rw [hg, Int.gcd_mul_left] at e
    simp at e
    have e2 : g * 1 = g * Int.gcd a b := by rw [Nat.mul_one]; exact e
    exact (Nat.eq_of_mul_eq_mul_left g0 e2).symm
  have gp : (0 : Int) < g := by omega
  have la : a.natAbs ≤ t.natAbs := by
    rw [ha, Int.natAbs_mul]; simp
    exact Nat.le_mul_of_pos_left _ g0
  have lb : b.natAbs ≤ u.natAbs := by
    rw [hb, Int.natAbs_mul]; simp
    exact Nat.le_mul_of_pos_left _ g0
  unfold nx ny sg
  rw [hg]
  by_cases hu : u < 0
  · rw [if_pos hu]
    have dn : (-(g : Int)) ≠ 0 := by omega
    have e1 : t.fdiv (-(g : Int)) = -a := by
      have : t = (-(g : Int)) * (-a) := by rw [Int.neg_mul_neg]; exact ha
      rw [this, Int.mul_fdiv_cancel_left _ dn]
    have e2 : u.fdiv (-(g : Int)) = -b := by
      have : u = (-(g : Int)) * (-b) := by rw [Int.neg_mul_neg]; exact hb
      rw [this, Int.mul_fdiv_cancel_left _ dn]
    rw [e1, e2]
    refine ⟨?_, ?_, by rw [Int.neg_gcd, Int.gcd_neg]; exact hc, dn, by rw [Int.natAbs_neg]; exact la, by rw [Int.natAbs_neg]; exact lb⟩
    · have q : a * u = t * b := by rw [hb, ha]; rw [Int.mul_left_comm, Int.mul_assoc]
      rw [Int.neg_mul, q, Int.mul_neg]
    · rcases Int.lt_or_le b 0 with z | z
      · omega
      · have : 0 ≤ (g : Int) * b := Int.mul_nonneg (by omega) z
        omega
  · rw [if_neg hu]
    have dn : (g : Int) ≠ 0 := by omega
    have e1 : t.fdiv (g : Int) = a := by rw [ha, Int.mul_fdiv_cancel_left _ dn]
    have e2 : u.fdiv (g : Int) = b := by rw [hb, Int.mul_fdiv_cancel_left _ dn]
    rw [e1, e2]
    refine ⟨?_, ?_, hc, dn, la, lb⟩
    · rw [hb, ha, Int.mul_left_comm, Int.mul_assoc]
    · rcases Int.lt_or_le 0 b with z | z
      · exact z
      · have : (g : Int) * b ≤ 0 := Int.mul_nonpos_of_nonneg_of_nonpos (by omega) z
        omega
theorem nf_pos {t u : Int} (h : 0 < u) : nx t u = t / (Int.gcd t u : Int) ∧ ny t u = u / (Int.gcd t u : Int) := by
  unfold nx ny sg
  rw [if_neg (by omega)]
  exact ⟨Int.fdiv_eq_ediv_of_nonneg _ (by omega), Int.fdiv_eq_ediv_of_nonneg _ (by omega)⟩
theorem fmod_lt {a c : Int} (h : c ≠ 0) : (a.fmod c).natAbs < c.natAbs := by
  rcases Int.lt_or_gt_of_ne h with z | z
  · have e : (-a).fmod (-c) = -(a.fmod c) := Int.neg_fmod_neg a c
    have h1 := Int.fmod_nonneg_of_pos (-a) (show 0 < -c by omega)
    have h2 := Int.fmod_lt_of_pos (-a) (show 0 < -c by omega)
    omega
  · have h1 := Int.fmod_nonneg_of_pos a z
    have h2 := Int.fmod_lt_of_pos a z
    omega
theorem gcd_fmod {a c : Int} : Int.gcd c (a.fmod c) = Int.gcd a c := by
  rw [Int.gcd_comm a c, Int.fmod_def, Int.gcd_sub_mul_left_right]
end KG
namespace L2
open PySem PySem.Spec PyProof.Rows KG
section
variable {X : Cx}
theorem op_fdivB : OpR X (binaryOp .FloorDiv) (rI (fun _ j => 0 < j ∧ Bd 8000 j) fun i j => .int (i / j)) := opI fun i j _ _ _ _ _ hc q => by
  have h1 : (0 : Int) < j := hc.1
  exact floordiv_int (by omega) (by rw [Int.fdiv_eq_ediv_of_nonneg i (by omega)]; exact q) (.inl (PyProof.noPylong_of_log2 (hc.2.log (by decide))))
theorem op_fdivBN : OpR X (binaryOp .FloorDiv) (rI (fun _ j => j ≠ 0 ∧ Bd 8000 j) fun i j => .int (i.fdiv j)) := opI fun _ _ _ _ _ _ _ hc q => floordiv_int hc.1 q (.inl (PyProof.noPylong_of_log2 (hc.2.log (by decide))))
theorem op_mulB : OpR X (binaryOp .Mult) (rI (fun i j => Bd 8000 i ∧ Bd 8000 j) fun i j => .int (i * j)) := opI fun i j _ _ _ _ _ hc q => mul_int q (IntMulOk.of_bits (Nat.le_trans (intBits_le hc.1) (by decide)) (Nat.le_trans (intBits_le hc.2) (by decide)))
end
end L2

set_option Elab.async false
set_option linter.all false
set_option maxRecDepth 100000
set_option maxHeartbeats 1000000
namespace KG
open PySem L2
theorem eqv_nil {es : List PyData} : PyData.eqv (.list es) (.list []) = es.isEmpty := by
  cases es <;> simp [PyData.eqv, PyData.eqvAll]
end KG
namespace L2
open PySem PySem.Spec PyProof.Rows
/-- (a, b, ..) = a list of that length -/
def gLst (K : PySem.W.Frag) (n : Nat) (t : TGs) : TG := fun v σ H Q => ∃ a xs, v = .ref a ∧ SqL K H a xs ∧ xs.length = n ∧ t xs σ H Q
theorem pg_lst {X : Cx} {es : List Expr} {k : Nat} {t : TGs} {n : Nat} {pos : Pos} (hc : X.calm = true) (h : PGs X es t)
    (hn : (assignEach es X.env).length = n := by rfl) (hst : (assignEach es X.env).findIdx? (·.1) = none := by rfl) : PG X (.Tuple es k pos) (gLst X.K n t) := by
  intro pins s σ H v u Q I r hw
  obtain ⟨a, xs, e1, hq, hl, hw⟩ := hw
  subst e1
  cases r
  obtain ⟨its, rv, ht, hz⟩ := I.list hq
  rw [assign_Tuple]
  refine wpAny_bind (wpAny_standAt ?_)
  unfold unpack
  rw [hn, hst]
  have hsz : n = its.toArray.size := by rw [List.size_toArray, ← rv.length, hl]
  rw [hsz]
  refine wpAny_bind (wpAny_holding (PySem.W.kun_itemsOf (I.ok.hd hc) ht.isList fun h' hx => ?_))
  have I1 : Inv X pins σ H { s with heap := h' } := I.kept (t' := s.toks) fun b o e => hx b o (Nat.ne_of_lt (Heap.lt_size e)) e
  exact h pins _ σ H xs _ Q I1 (by simpa using rv) hw
theorem pIsi {X : Cx} {e : Expr} {te : TE} (K : PySem.W.Frag) {T : Str} {n : String} {p p2 pos : Pos} (he : PE X e te) (hg : Gl X "isinstance") (hm : X.mg "isinstance" = none) (hgT : Gl X T) (hmT : X.mg T = none) (hv : bootBuiltins T = some (.type n))
    (hb : bootBuiltins "isinstance" = some (.builtin "isinstance")) (h : X.K = K := by rfl) (hnT : T ≠ "__name__" := by decide) (hdT : (T == ("__debug__" : Str)) = false := by decide)
    (hs : starEach [e, .Name T p2] X.env = [(false, eval e X.env), (false, eval (.Name T p2) X.env)] := by rfl)
    (hpl : (backTo pos (starEach [.Name T p2] X.env)).any (·.1) = false := by rfl) : PE X (.Call (.Name "isinstance" p) [e, .Name T p2] [] pos) (tIsi K (.type n) te) := by
  subst h; exact pe_isiB he hg hm hgT hmT hv hb hnT hdT hs hpl
end L2

set_option Elab.async false
set_option linter.all false
set_option maxRecDepth 100000
set_option maxHeartbeats 2000000
namespace L2
open PySem PySem.Spec PyProof.Rows EX
/-! statements that may raise, the exception's wish by the names' values where it came -/
section
variable {X : Cx} {st : Stmt} {sts : List Stmt} {t u : TX}
end
end L2

set_option Elab.async false
set_option linter.all false
set_option maxRecDepth 100000
set_option maxHeartbeats 4000000
namespace KM
open PySem L2 KG EX
/-! ### kinds -/
def isT : PyData → Bool
  | .tuple _ => true
  | _ => false
structure IsK (K : PySem.W.Frag) : Prop where
  i1 : PySem.W.kitOne K (.type "NoneType") (.type "int") = some false
  i2 : PySem.W.kitOne K (.type "bool") (.type "int") = some true
  i3 : PySem.W.kitOne K (.type "int") (.type "int") = some true
  i4 : PySem.W.kitOne K (.type "str") (.type "int") = some false
  i5 : PySem.W.kitOne K (.type "list") (.type "int") = some false
  i6 : PySem.W.kitOne K (.type "tuple") (.type "int") = some false
  b1 : PySem.W.kitOne K (.type "NoneType") (.type "bool") = some false
  b2 : PySem.W.kitOne K (.type "bool") (.type "bool") = some true
  b3 : PySem.W.kitOne K (.type "int") (.type "bool") = some false
  b4 : PySem.W.kitOne K (.type "str") (.type "bool") = some false
  b5 : PySem.W.kitOne K (.type "list") (.type "bool") = some false
  b6 : PySem.W.kitOne K (.type "tuple") (.type "bool") = some false
  t1 : PySem.W.kitOne K (.type "NoneType") (.type "tuple") = some false
  t2 : PySem.W.kitOne K (.type "bool") (.type "tuple") = some false
  t3 : PySem.W.kitOne K (.type "int") (.type "tuple") = some false
  t4 : PySem.W.kitOne K (.type "str") (.type "tuple") = some false
  t5 : PySem.W.kitOne K (.type "list") (.type "tuple") = some false
  t6 : PySem.W.kitOne K (.type "tuple") (.type "tuple") = some true
theorem ist {K : PySem.W.Frag} (Z : IsK K) {b : Addr} {H : Hp} {v : V} {d : PyData} (h : TrV b H v d) : ∃ t, TyOf K H v t ∧ PySem.W.kitOne K t (.type "tuple") = some (isT d) := by
  cases h with
  | non => exact ⟨_, .non, Z.t1⟩
  | bl c => exact ⟨_, .bl _, Z.t2⟩
  | int c => exact ⟨_, .int _, Z.t3⟩
  | str x ok => exact ⟨_, .str _, Z.t4⟩
  | lst n e t => exact ⟨_, .lst e, Z.t5⟩
  | tup e t => exact ⟨_, .tup e, Z.t6⟩
theorem intCase {b : Addr} {H : Hp} {v : V} {d : PyData} (h : TrV b H v d) : isWhole d = false ∨ ∃ i, v = .int i ∧ d = .int i := by
  cases h with
  | non => exact .inl rfl
  | bl c => exact .inl rfl
  | int c => exact .inr ⟨_, rfl, rfl⟩
  | str x ok => exact .inl rfl
  | lst n e t => exact .inl rfl
  | tup e t => exact .inl rfl
theorem within_no {lo hi : Int} {d : PyData} (h : isWhole d = false) : within lo hi d = false := by cases d <;> first | rfl | cases h
/-! ### contracts -/
theorem gcd_emod {a c : Int} : Int.gcd c (a % c) = Int.gcd a c := by
  rw [Int.gcd_comm a c, Int.emod_def, Int.gcd_sub_mul_left_right]
theorem abs_gcd {a : Int} : (if a < 0 then -a else a) = (Int.gcd a 0 : Int) := by
  rw [Int.gcd_zero_right]
  split <;> omega
/-- the fraction in lowest terms -/
def spFrac : Sp := fun vs H Q _ => ∃ (t u : Int), vs = [.int t, .int u] ∧ 0 < u ∧ u < 1073741824 ∧ ∀ (p : Addr), H p = none → Q (.ref p) (upd H p (.tup [.int (t / (Int.gcd t u : Int)), .int (u / (Int.gcd t u : Int))]))
theorem gcd_pos {t u : Int} (h : 0 < u) : 0 < (Int.gcd t u : Int) ∧ (Int.gcd t u : Int) ≤ u := by
  have h1 : 0 < Int.gcd t u := Int.gcd_pos_of_ne_zero_right t (by omega)
  have h2 : (Int.gcd t u : Int) ∣ u := Int.gcd_dvd_right ..
  exact ⟨by omega, Int.le_of_dvd h h2⟩

/-- a purse of a market, told -/
def spPu : Sp := fun vs H Q _ => ∃ (b : Addr), vs = [.ref b] ∧ Bag H b ∧ ∀ (v : V) (d : PyData) (H' : Hp), Bag H' b → Kp b H H' → TrV b H' v d → isPurse d = true → Q v H'
theorem purse_one {t : Int} (h1 : 1 ≤ t) (h2 : t ≤ 1000000) : isPurse (.tuple [.int t, .int 1]) = true := by
  show (decide ((1 : Int) ≤ 1) && decide (Int.gcd t 1 = 1) && decide (1 ≤ t) && decide (t ≤ 1000000) && decide ((1 : Int) ≤ 1000000)) = true
  rw [decide_eq_true h1, decide_eq_true h2, Int.gcd_one_right]; rfl
theorem purse_low {t u : Int} (h1 : 1 ≤ t) (h2 : t ≤ 1000000) (h3 : 1 ≤ u) (h4 : u ≤ 1000000) : isPurse (.tuple [.int (t / (Int.gcd t u : Int)), .int (u / (Int.gcd t u : Int))]) = true := by
  obtain ⟨g0, g1⟩ := gcd_pos (t := t) (u := u) (by omega)
  have gt : (Int.gcd t u : Int) ∣ t := Int.gcd_dvd_left ..
  have gu : (Int.gcd t u : Int) ∣ u := Int.gcd_dvd_right ..
  have e : Int.gcd (t / (Int.gcd t u : Int)) (u / (Int.gcd t u : Int)) = 1 := Int.gcd_ediv_gcd_ediv_gcd (by omega)
  have lo : ∀ n : Int, 1 ≤ n → n ≤ 1000000 → (Int.gcd t u : Int) ∣ n → 1 ≤ n / (Int.gcd t u : Int) ∧ n / (Int.gcd t u : Int) ≤ 1000000 := fun n n1 n2 hd => by
    have a1 : n / (Int.gcd t u : Int) * (Int.gcd t u : Int) = n := Int.ediv_mul_cancel hd
    have a2 : n / (Int.gcd t u : Int) ≤ n := Int.ediv_le_self _ (by omega)
    have a3 : 0 ≤ n / (Int.gcd t u : Int) := Int.ediv_nonneg (by omega) (by omega)
    refine ⟨?_, by omega⟩
    rcases Int.lt_or_le 0 (n / (Int.gcd t u : Int)) with z | z
    · omega
    · have : n / (Int.gcd t u : Int) = 0 := by omega
      rw [this, Int.zero_mul] at a1; omega
  obtain ⟨t1, t2⟩ := lo t h1 h2 gt
  obtain ⟨u1, u2⟩ := lo u h3 h4 gu
  show (decide _ && decide (Int.gcd _ _ = 1) && decide _ && decide _ && decide _) = true
  rw [decide_eq_true u1, decide_eq_true e, decide_eq_true t1, decide_eq_true t2, decide_eq_true u2]; rfl
theorem trI2 {b p : Addr} {H : Hp} {x y : Int} : TrV b (upd H p (.tup [.int x, .int y])) (.ref p) (.tuple [.int x, .int y]) := .tup upd_same (.cons (.int x) (.cons (.int y) .nil))

def spWi : Sp := fun vs H Q _ => ∃ (b : Addr) (g : Int), vs = [.ref b, .int g] ∧ Bag H b ∧ 0 < g ∧ g ≤ 6 ∧
  ∀ (p : Addr) (ns : List Int) (H' : Hp), Bag H' b → Kp b H H' → H' p = some (.tup (ns.map V.int)) → (ns.length : Int) = g → (∀ n ∈ ns, 0 ≤ n ∧ n ≤ 100) → (∃ n ∈ ns, 1 ≤ n) → Q (.ref p) H'
theorem menu5b {r : Int} (h0 : 0 ≤ r) (h1 : r < 5) : ∃ m : Int, atI [V.int 3, V.int 101, V.int 2, V.int 10, V.int 101] r = some (.int m) ∧ 0 < m ∧ m ≤ 101 := by
  have : r = 0 ∨ r = 1 ∨ r = 2 ∨ r = 3 ∨ r = 4 := by omega
  rcases this with rfl | rfl | rfl | rfl | rfl
  · exact ⟨3, rfl, by decide, by decide⟩
  · exact ⟨101, rfl, by decide, by decide⟩
  · exact ⟨2, rfl, by decide, by decide⟩
  · exact ⟨10, rfl, by decide, by decide⟩
  · exact ⟨101, rfl, by decide, by decide⟩
theorem menu3c {r : Int} (h0 : 0 ≤ r) (h1 : r < 3) : ∃ m : Int, atI [V.int 1, V.int 9, V.int 60] r = some (.int m) ∧ 0 < m ∧ m ≤ 60 := by
  have : r = 0 ∨ r = 1 ∨ r = 2 := by omega
  rcases this with rfl | rfl | rfl
  · exact ⟨1, rfl, by decide, by decide⟩
  · exact ⟨9, rfl, by decide, by decide⟩
  · exact ⟨60, rfl, by decide, by decide⟩
theorem trAll {b : Addr} {H : Hp} {m : PyData → Bool} : ∀ {ys : List V}, (∀ y ∈ ys, ∃ d, TrV b H y d ∧ m d = true) → ∃ ds, TrVs b H ys ds ∧ ds.all m = true
  | [], _ => ⟨[], .nil, rfl⟩
  | y :: ys, h => by
    obtain ⟨ds, h1, h2⟩ := trAll (ys := ys) fun z hz => h z (List.mem_cons_of_mem _ hz)
    obtain ⟨d, h3, h4⟩ := h y List.mem_cons_self
    exact ⟨d :: ds, .cons h3 h1, by rw [List.all_cons, h4, h2]; rfl⟩
/-- some wish of the row is above nought -/
def oneD : PyData → Bool
  | .int n => decide (1 ≤ n)
  | _ => false
def posD : PyData → Bool
  | .tuple ds => ds.any oneD
  | _ => false
theorem all_both {α : Type} {f g : α → Bool} : ∀ {xs : List α}, (xs.all fun x => f x && g x) = true → xs.all f = true ∧ xs.all g = true
  | [], _ => ⟨rfl, rfl⟩
  | x :: xs, h => by
    rw [List.all_cons, Bool.and_eq_true, Bool.and_eq_true] at h
    obtain ⟨h1, h2⟩ := all_both h.2
    exact ⟨by rw [List.all_cons, h.1.1, h1]; rfl, by rw [List.all_cons, h.1.2, h2]; rfl⟩
def spMk : Sp := fun vs H Q _ => ∃ (b : Addr), vs = [.ref b] ∧ Bag H b ∧ ∀ (p : Addr) (am pu wi : List PyData) (H' : Hp), Bag H' b → Kp b H H' → TrV b H' (.ref p) (.tuple [.tuple am, .tuple pu, .tuple wi]) → isMk (.tuple [.tuple am, .tuple pu, .tuple wi]) = true → wi.all posD = true → Q (.ref p) H'
def RA (_ : Hp) (v : V) : Prop := ∃ n : Int, v = .int n ∧ 1 ≤ n ∧ n ≤ 60
def RP (H : Hp) (v : V) : Prop := ∃ (a : Addr) (t u : Int), v = .ref a ∧ H a = some (.tup [.int t, .int u]) ∧ isPurse (.tuple [.int t, .int u]) = true
def RW (g : Int) (H : Hp) (v : V) : Prop := ∃ (a : Addr) (ns : List Int), v = .ref a ∧ H a = some (.tup (List.map V.int ns)) ∧ (ns.length : Int) = g ∧ (∀ n ∈ ns, 0 ≤ n ∧ n ≤ 100) ∧ ∃ n ∈ ns, 1 ≤ n
theorem purseShape {d : PyData} (h : isPurse d = true) : ∃ t u : Int, d = .tuple [.int t, .int u] := by
  unfold isPurse at h
  split at h
  · exact ⟨_, _, rfl⟩
  · cases h
theorem RP.of {b : Addr} {H : Hp} {v : V} {d : PyData} (h : TrV b H v d) (hp : isPurse d = true) : RP H v := by
  obtain ⟨t, u, rfl⟩ := purseShape hp
  cases h with
  | tup ha hs =>
  cases hs with
  | cons hx hs =>
  cases hs with
  | cons hy hs =>
  cases hs
  cases hx
  cases hy
  exact ⟨_, t, u, rfl, ha, hp⟩
theorem RA.tr {b : Addr} {H : Hp} {v : V} (h : RA H v) : ∃ d, TrV b H v d ∧ within 1 60 d = true := by
  obtain ⟨n, rfl, h1, h2⟩ := h
  exact ⟨.int n, .int n, by show (decide _ && decide _) = true; rw [decide_eq_true h1, decide_eq_true h2]; rfl⟩
theorem RP.tr {b : Addr} {H : Hp} {v : V} (h : RP H v) : ∃ d, TrV b H v d ∧ isPurse d = true := by
  obtain ⟨a, t, u, rfl, h1, h2⟩ := h
  exact ⟨_, .tup h1 (.cons (.int t) (.cons (.int u) .nil)), h2⟩
theorem trInts {b : Addr} {H : Hp} : ∀ ns : List Int, TrVs b H (ns.map V.int) (ns.map PyData.int)
  | [] => .nil
  | n :: ns => .cons (.int n) (trInts ns)
theorem all_within {lo hi : Int} {ns : List Int} (h : ∀ n ∈ ns, lo ≤ n ∧ n ≤ hi) : (ns.map PyData.int).all (within lo hi) = true := by
  rw [List.all_map, List.all_eq_true]
  intro n hn
  obtain ⟨h1, h2⟩ := h n hn
  show (decide _ && decide _) = true
  rw [decide_eq_true h1, decide_eq_true h2]; rfl
theorem RW.tr {b : Addr} {H : Hp} {v : V} {g : Nat} (h : RW g H v) : ∃ d, TrV b H v d ∧ (isRow g 0 100 d && posD d) = true := by
  obtain ⟨a, ns, rfl, h1, h2, h3, n, hn, hp⟩ := h
  refine ⟨_, .tup h1 (trInts ns), ?_⟩
  have e1 : isRow g 0 100 (.tuple (ns.map PyData.int)) = true := by
    show (decide _ && _) = true
    rw [decide_eq_true (show (ns.map PyData.int).length = g by rw [List.length_map]; omega), all_within h3]; rfl
  have e2 : posD (.tuple (ns.map PyData.int)) = true := List.any_eq_true.mpr ⟨.int n, List.mem_map.mpr ⟨n, hn, rfl⟩, by show decide (1 ≤ n) = true; exact decide_eq_true hp⟩
  rw [e1, e2]; rfl
theorem isMk_of {a p w : List PyData} (h1 : 1 ≤ a.length) (h2 : a.length ≤ 6) (h3 : a.all (within 1 60) = true) (h4 : 1 ≤ p.length) (h5 : p.length ≤ 6) (h6 : p.all isPurse = true) (h7 : w.length = p.length) (h8 : w.all (isRow a.length 0 100) = true) : isMk (.tuple [.tuple a, .tuple p, .tuple w]) = true := by
  show (decide _ && decide _ && _ && (decide _ && decide _ && _) && (decide _ && _)) = true
  rw [decide_eq_true h1, decide_eq_true h2, h3, decide_eq_true h4, decide_eq_true h5, h6, decide_eq_true h7, h8]; rfl
theorem isMk_out {a p w : List PyData} (h : isMk (.tuple [.tuple a, .tuple p, .tuple w]) = true) : 1 ≤ a.length ∧ a.length ≤ 6 ∧ a.all (within 1 60) = true ∧ 1 ≤ p.length ∧ p.length ≤ 6 ∧ p.all isPurse = true ∧ w.length = p.length ∧ w.all (isRow a.length 0 100) = true := by
  have h' : (decide (1 ≤ a.length) && decide (a.length ≤ 6) && a.all (within 1 60) && (decide (1 ≤ p.length) && decide (p.length ≤ 6) && p.all isPurse) && (decide (w.length = p.length) && w.all (isRow a.length 0 100))) = true := h
  simp only [Bool.and_eq_true, decide_eq_true_eq] at h'
  obtain ⟨⟨⟨⟨h1, h2⟩, h3⟩, ⟨h4, h5⟩, h6⟩, h7, h8⟩ := h'
  exact ⟨h1, h2, h3, h4, h5, h6, h7, h8⟩
theorem cut_to {xs : List V} {r : Int} (h0 : 0 ≤ r) (h1 : r < xs.length) : cutV xs none (some r) = xs.take r.toNat := by
  have e1 : HT.sIx xs.length xs.length (some r) = r.toNat := by
    show (if r < 0 then (r + (xs.length : Int)).toNat else min r.toNat xs.length) = _
    rw [if_neg (by omega)]; omega
  unfold cutV
  rw [HT.sIx_none, e1]; simp
theorem cut_from {xs : List V} {r : Int} (h0 : 0 ≤ r) (h1 : r ≤ xs.length) : cutV xs (some r) none = xs.drop r.toNat := by
  have e1 : HT.sIx xs.length 0 (some r) = r.toNat := by
    show (if r < 0 then (r + (xs.length : Int)).toNat else min r.toNat xs.length) = _
    rw [if_neg (by omega)]; omega
  unfold cutV
  rw [HT.sIx_none, e1, List.take_of_length_le]
  rw [List.length_drop]; omega
theorem rowShape {n : Nat} {lo hi : Int} {d : PyData} (h : isRow n lo hi d = true) : ∃ rs, d = .tuple rs ∧ rs.length = n ∧ rs.all (within lo hi) = true := by
  unfold isRow at h
  split at h
  · next ds => simp only [Bool.and_eq_true, decide_eq_true_eq] at h; exact ⟨ds, rfl, h.1, h.2⟩
  · cases h
theorem intsOf {b : Addr} {H : Hp} : ∀ {xs : List V} {ds : List PyData}, TrVs b H xs ds → ds.all (within 0 100) = true → ∃ ns : List Int, xs = ns.map V.int ∧ ∀ n ∈ ns, 0 ≤ n ∧ n ≤ 100
  | _, _, .nil, _ => ⟨[], rfl, fun n h => nomatch h⟩
  | _, _, .cons (x := x) (d := d) h t, e => by
    rw [List.all_cons, Bool.and_eq_true] at e
    obtain ⟨ns, rfl, h2⟩ := intsOf t e.2
    rcases intCase h with hn | ⟨i, rfl, rfl⟩
    · rw [within_no hn] at e; cases e.1
    · have h1 : (decide (0 ≤ i) && decide (i ≤ 100)) = true := e.1
      simp only [Bool.and_eq_true, decide_eq_true_eq] at h1
      refine ⟨i :: ns, rfl, fun n hn => ?_⟩
      rcases List.mem_cons.mp hn with rfl | hn
      · exact h1
      · exact h2 n hn
end KM

set_option Elab.async false
set_option linter.all false
set_option maxRecDepth 100000
set_option maxHeartbeats 4000000
namespace KM
open PySem L2 KG EX
/-- the built-ins are the interpreter's own -/
structure Nm (mg : Str → Option Value) : Prop where
  len : mg "len" = none
  range : mg "range" = none
  tuple : mg "tuple" = none
  list : mg "list" = none
  all : mg "all" = none
  any : mg "any" = none
  max : mg "max" = none
  min : mg "min" = none
  sum : mg "sum" = none
  abs : mg "abs" = none
  int : mg "int" = none
  isinstance : mg "isinstance" = none
  bool : mg "bool" = none
  enumerate : mg "enumerate" = none
  valueError : mg "ValueError" = none
structure CalX (K : PySem.W.Frag) (mg : Str → Option Value) (P : Program) (w : World) (base : Heap) (x : Str) (k : Nat) (ps : List Str) (sp : Sp) (f : Addr) (fd : FuncData) : Prop where
  ok : FnOk P w K mg base (CXF P w) k f fd ps sp
  mg : mg x = some (.ref f)
  kp : PySem.W.keepIn K (.ref f) = true
  bd : Binds K fd ps []
theorem passE0 {P : Program} {w : World} {X : Cx} : Passes (CXF P w) X E0 := fun _ _ _ _ _ _ _ h => by
  obtain ⟨_, _, _, _, _, _, _, _, _, _, _, _, _, _, z⟩ := h
  exact z.elim
end KM

set_option Elab.async false
set_option linter.all false
set_option maxRecDepth 100000
set_option maxHeartbeats 4000000
namespace KM
open PySem L2 KG EX
def intOf : PyData → Int
  | .int i => i
  | _ => 0
def rowOf : PyData → List Int
  | .tuple rs => rs.map intOf
  | _ => []
def rowsOf (wi : List PyData) : List (List Int) := wi.map rowOf
theorem rows_of {b : Addr} {H : Hp} {n : Nat} : ∀ {xw : List V} {wi : List PyData}, TrVs b H xw wi → wi.all (isRow n 0 100) = true → Rws H xw (rowsOf wi) ∧ ∀ r ∈ rowsOf wi, r.length = n ∧ ∀ k ∈ r, 0 ≤ k ∧ k ≤ 100
  | _, _, .nil, _ => ⟨.nil, fun r h => nomatch h⟩
  | _, _, .cons (d := d) h t, e => by
    rw [List.all_cons, Bool.and_eq_true] at e
    obtain ⟨h1, h2⟩ := rows_of t e.2
    obtain ⟨rs, rfl, hl, hr⟩ := rowShape e.1
    cases h with
    | @tup a xs _ ha hs =>
    obtain ⟨ns, rfl, hn⟩ := intsOf hs hr
    have er : rs = ns.map PyData.int := by
      clear ha hn hr hl e
      induction ns generalizing rs with
      | nil => cases hs; rfl
      | cons m ns ih =>
        cases hs with
        | cons hx ht => cases hx; rw [ih _ ht]; rfl
    subst er
    have eo : rowOf (.tuple (ns.map PyData.int)) = ns := by
      show (ns.map PyData.int).map intOf = ns
      rw [List.map_map]
      have : (intOf ∘ PyData.int) = fun i => i := rfl
      rw [this, List.map_id']
    refine ⟨?_, fun r hr' => ?_⟩
    · show Rws H _ (rowOf (.tuple (ns.map PyData.int)) :: rowsOf _)
      rw [eo]
      exact .cons ⟨a, rfl, ha⟩ h1
    · have hr2 : r = rowOf (.tuple (ns.map PyData.int)) ∨ r ∈ rowsOf _ := List.mem_cons.mp hr'
      rcases hr2 with z | z
      · rw [z, eo]; rw [List.length_map] at hl; exact ⟨hl, hn⟩
      · exact h2 r z
/-- a market at hand -/
structure MkAt (b : Addr) (H : Hp) (p pa pp pw : Addr) (xa xp xw : List V) (am pu wi : List PyData) : Prop where
  hp : H p = some (.tup [.ref pa, .ref pp, .ref pw])
  ha : H pa = some (.tup xa)
  hpp : H pp = some (.tup xp)
  hw : H pw = some (.tup xw)
  ta : TrVs b H xa am
  tp : TrVs b H xp pu
  tw : TrVs b H xw wi
  ok : isMk (.tuple [.tuple am, .tuple pu, .tuple wi]) = true
theorem MkAt.of {b p : Addr} {H : Hp} {am pu wi : List PyData} (h : TrV b H (.ref p) (.tuple [.tuple am, .tuple pu, .tuple wi])) (m : isMk (.tuple [.tuple am, .tuple pu, .tuple wi]) = true) : ∃ pa pp pw xa xp xw, MkAt b H p pa pp pw xa xp xw am pu wi := by
  cases h with
  | @tup _ xs0 _ hp hs0 =>
  match xs0, hs0 with
  | _, .cons (.tup (a := pa) (xs := xa) ha hsa) (.cons (.tup (a := pp) (xs := xp) hpp hsp) (.cons (.tup (a := pw) (xs := xw) hpw hsw) .nil)) => exact ⟨pa, pp, pw, xa, xp, xw, hp, ha, hpp, hpw, hsa, hsp, hsw, m⟩
theorem MkAt.stay {b p pa pp pw : Addr} {H H' : Hp} {xa xp xw : List V} {am pu wi : List PyData} (m : MkAt b H p pa pp pw xa xp xw am pu wi) (s : Stay H H') : MkAt b H' p pa pp pw xa xp xw am pu wi :=
  ⟨s _ _ m.hp, s _ _ m.ha, s _ _ m.hpp, s _ _ m.hw, m.ta.stay s, m.tp.stay s, m.tw.stay s, m.ok⟩
def spLWished : Sp := fun vs H Q _ => ∃ (p pa pw : Addr) (z : V) (am ws : List V) (M : List (List Int)), vs = [.ref p] ∧ H p = some (.tup [.ref pa, z, .ref pw]) ∧ H pa = some (.tup am) ∧ H pw = some (.tup ws) ∧ Rws H ws M ∧ M ≠ [] ∧
  (∀ r ∈ M, r.length = am.length) ∧ am.length ≤ 6 ∧ ws.length ≤ 6 ∧ ∀ (q : Addr) (H' : Hp), Stay H H' → H q = none → H' q = some (.lst (wishedL am.length M)) → Q (.ref q) H'
/-- how a market fits the contract of the wished goods -/
theorem MkAt.lw {b p pa pp pw : Addr} {H : Hp} {xa xp xw : List V} {am pu wi : List PyData} (m : MkAt b H p pa pp pw xa xp xw am pu wi) : Rws H xw (rowsOf wi) ∧ rowsOf wi ≠ [] ∧ (∀ r ∈ rowsOf wi, r.length = xa.length) ∧ (∀ r ∈ rowsOf wi, ∀ k ∈ r, 0 ≤ k ∧ k ≤ 100) ∧ 1 ≤ xa.length ∧ xa.length ≤ 6 ∧ 1 ≤ xw.length ∧ xw.length ≤ 6 ∧ xp.length = xw.length := by
  obtain ⟨h1, h2, h3, h4, h5, h6, h7, h8⟩ := isMk_out m.ok
  obtain ⟨r1, r2⟩ := rows_of m.tw h8
  have la := m.ta.len
  have lp := m.tp.len
  have lw := m.tw.len
  refine ⟨r1, ?_, fun r hr => by rw [(r2 r hr).1, la], fun r hr => (r2 r hr).2, by omega, by omega, by omega, by omega, by omega⟩
  intro z
  have := congrArg List.length z
  unfold rowsOf at this
  rw [List.length_map] at this
  simp at this
  rw [this] at h7
  simp at h7
  omega
/-! prices -/
end KM

set_option Elab.async false
set_option linter.all false
set_option maxRecDepth 100000
set_option maxHeartbeats 4000000
namespace KM
open PySem L2 KG EX
end KM

set_option Elab.async false
set_option linter.all false
set_option maxRecDepth 100000
set_option maxHeartbeats 4000000
namespace KM
open PySem L2 KG EX
/-! fractions in lowest terms are the rational numbers -/
theorem low_uniq {a b X Y : Int} (hb : 0 < b) (hY : 0 < Y) (g1 : Int.gcd a b = 1) (g2 : Int.gcd X Y = 1) (h : X * b = a * Y) : X = a ∧ Y = b := by
  have d1 : Y ∣ b := by
    have q : Y ∣ X * b := ⟨a, by rw [h, Int.mul_comm]⟩
    rw [← Int.dvd_gcd_mul_iff_dvd_mul, Int.gcd_comm, g2] at q
    simpa using q
  have d2 : b ∣ Y := by
    have q : b ∣ a * Y := ⟨X, by rw [← h, Int.mul_comm]⟩
    rw [← Int.dvd_gcd_mul_iff_dvd_mul, Int.gcd_comm, g1] at q
    simpa using q
  have e : Y = b := Int.dvd_antisymm (by omega) (by omega) d1 d2
  subst e
  exact ⟨Int.eq_of_mul_eq_mul_right (by omega) h, rfl⟩
theorem den_pos (q : Rat) : (0 : Int) < (q.den : Int) := by have := q.den_nz; omega
theorem rat_gcd (q : Rat) : Int.gcd q.num (q.den : Int) = 1 := q.reduced
theorem nf_rat {T U : Int} (hU : U ≠ 0) : nx T U = (Rat.divInt T U).num ∧ ny T U = ((Rat.divInt T U).den : Int) := by
  obtain ⟨n1, n2, n3, _⟩ := nf_spec (t := T) hU
  have hd := den_pos (Rat.divInt T U)
  have h1 : T * ((Rat.divInt T U).den : Int) = (Rat.divInt T U).num * U := by
    rw [← Rat.divInt_eq_divInt_iff hU (by omega), Rat.num_divInt_den]
  refine low_uniq hd n2 (rat_gcd _) n3 ?_
  have e : nx T U * ((Rat.divInt T U).den : Int) * U = (Rat.divInt T U).num * ny T U * U := by
    calc nx T U * ((Rat.divInt T U).den : Int) * U = nx T U * U * ((Rat.divInt T U).den : Int) := by rw [Int.mul_right_comm]
      _ = T * ny T U * ((Rat.divInt T U).den : Int) := by rw [n1]
      _ = T * ((Rat.divInt T U).den : Int) * ny T U := by rw [Int.mul_right_comm]
      _ = (Rat.divInt T U).num * U * ny T U := by rw [h1]
      _ = (Rat.divInt T U).num * ny T U * U := by rw [Int.mul_right_comm]
  exact Int.eq_of_mul_eq_mul_right hU e
/-- a fraction at hand -/
abbrev qO (q : Rat) : HO := .tup [.int q.num, .int (q.den : Int)]
def Rb (k : Nat) (q : Rat) : Prop := Bd k q.num ∧ Bd k (q.den : Int)
theorem Rb.mono {j k : Nat} {q : Rat} (h : Rb j q) (hk : j ≤ k) : Rb k q := ⟨h.1.mono hk, h.2.mono hk⟩
theorem rat_pos {q : Rat} : 0 < q ↔ 0 < q.num := by
  rw [Rat.lt_iff]; simp
theorem rat_of {t u : Int} (hu : 0 < u) (hg : Int.gcd t u = 1) : ∃ q : Rat, q.num = t ∧ (q.den : Int) = u := by
  refine ⟨⟨t, u.toNat, by omega, ?_⟩, rfl, by show ((u.toNat : Nat) : Int) = u; omega⟩
  show Nat.gcd t.natAbs u.toNat = 1
  have : u.toNat = u.natAbs := by omega
  rw [this]; exact hg
theorem mul_rat (a b : Rat) : Rat.divInt (a.num * b.num) (a.den * b.den) = a * b := by
  rw [← Rat.divInt_mul_divInt, Rat.num_divInt_den, Rat.num_divInt_den]
theorem div_rat {a b : Rat} (hb : b.num ≠ 0) : Rat.divInt (a.num * b.den) (a.den * b.num) = a / b := by
  rw [Rat.div_def, Rat.inv_def]
  conv => rhs; rw [← Rat.num_divInt_den a]
  rw [Rat.divInt_mul_divInt]
theorem lt_rat (a b : Rat) : (a.num * b.den < b.num * a.den) = (a < b) := propext (Rat.lt_iff a b).symm
theorem rb_div {k : Nat} {T U : Int} (hU : U ≠ 0) (h1 : Bd k T) (h2 : Bd k U) : Rb k (Rat.divInt T U) := by
  obtain ⟨e1, e2⟩ := nf_rat (T := T) hU
  obtain ⟨_, _, _, _, n5, n6⟩ := nf_spec (t := T) hU
  refine ⟨?_, ?_⟩
  · rw [← e1]; exact h1.le n5
  · rw [← e2]; exact h2.le n6
theorem rb_mul {j k : Nat} {a b : Rat} (ha : Rb j a) (hb : Rb k b) : Rb (j + k) (a * b) := by
  rw [← mul_rat]
  have h2 : (a.den : Int) * b.den ≠ 0 := Int.ne_of_gt (Int.mul_pos (den_pos a) (den_pos b))
  exact rb_div h2 (ha.1.mul hb.1) (ha.2.mul hb.2)
/-- the contracts over them -/
def spFr (Nn : Addr) : Sp := fun vs H Q E => ∃ (t u : Int), vs = [.int t, .int u] ∧ Bd 8000 u ∧ (u = 0 → E (.ref Nn) none H) ∧ (u ≠ 0 → ∀ p, H p = none → Q (.ref p) (upd H p (qO (Rat.divInt t u))))
def spLf : Sp := fun vs H Q _ => ∃ (t u : Int), vs = [.int t, .int u] ∧ 0 < u ∧ Bd 8000 u ∧ ∀ p, H p = none → Q (.ref p) (upd H p (qO (Rat.divInt t u)))
def sp2 (op : Rat → Rat → Rat) : Sp := fun vs H Q _ => ∃ (p q : Addr) (a b : Rat), vs = [.ref p, .ref q] ∧ H p = some (qO a) ∧ H q = some (qO b) ∧ Rb 3000 a ∧ Rb 3000 b ∧ ∀ r, H r = none → Q (.ref r) (upd H r (qO (op a b)))
def spOver (Nn : Addr) : Sp := fun vs H Q E => ∃ (p q : Addr) (a b : Rat), vs = [.ref p, .ref q] ∧ H p = some (qO a) ∧ H q = some (qO b) ∧ Rb 3000 a ∧ Rb 3000 b ∧ (b = 0 → E (.ref Nn) none H) ∧ (b ≠ 0 → ∀ r, H r = none → Q (.ref r) (upd H r (qO (a / b))))
def spLess : Sp := fun vs H Q _ => ∃ (p q : Addr) (a b : Rat), vs = [.ref p, .ref q] ∧ H p = some (qO a) ∧ H q = some (qO b) ∧ Rb 3000 a ∧ Rb 3000 b ∧ Q (.bl (decide (a < b))) H
def qTi : Rat → Rat → Rat := fun a b => a * b
theorem b3 {n : Int} (h : Bd 3000 n) : Bd 8000 n := h.mono (by decide)
theorem b6 {n : Int} (h : Bd (3000 + 3000) n) : Bd 8000 n := h.mono (by decide)
theorem sg_bd {k : Nat} {t u : Int} (h : Bd k u) (hu : u ≠ 0) : Bd k (sg t u) := by
  refine h.le ?_
  have g0 : 0 < Int.gcd t u := Int.gcd_pos_of_ne_zero_right t hu
  have e : (sg t u).natAbs = Int.gcd t u := by unfold sg; split <;> omega
  rw [e]
  exact Nat.le_of_dvd (by omega) (Int.gcd_dvd_natAbs_right t u)
theorem abs_gcd0 {a : Int} : (if a < 0 then -a else a) = (Int.gcd a 0 : Int) := by
  rw [Int.gcd_zero_right]
  split <;> omega
def spGcdN : Sp := fun vs H Q _ => ∃ (t u : Int), vs = [.int t, .int u] ∧ Q (.int (Int.gcd t u)) H
end KM

set_option Elab.async false
set_option linter.all false
set_option maxRecDepth 100000
set_option maxHeartbeats 4000000
namespace KM
open PySem L2 KG EX
def spMulS : Sp := fun vs H Q _ => ∃ (p q : Addr) (a b c d : Int), vs = [.ref p, .ref q] ∧ H p = some (.tup [.int a, .int b]) ∧ H q = some (.tup [.int c, .int d]) ∧ 0 ≤ a ∧ a < 1073741824 ∧ 0 < b ∧ b < 1073741824 ∧ 0 < d ∧ b * d < 1073741824 ∧
  ∀ r, H r = none → Q (.ref r) (upd H r (.tup [.int (a * c / (Int.gcd (a * c) (b * d) : Int)), .int (b * d / (Int.gcd (a * c) (b * d) : Int))]))
/-! prices as rational numbers -/
def qD (q : Rat) : PyData := .tuple [.int q.num, .int (q.den : Int)]
theorem getD_map {α β : Type} {f : α → β} {xs : List α} {j : Nat} {a : α} {b : β} (h : j < xs.length) : (xs.map f).getD j b = f (xs.getD j a) := by
  simp [List.getD, List.getElem?_map, List.getElem?_eq_getElem h]
/-- a good is worse than another one -/
def worse (row : List Int) (qs : List Rat) (g o : Nat) : Bool := decide (0 < row.getD o 0) && decide ((row.getD g 0 : Rat) * qs.getD o 0 < (row.getD o 0 : Rat) * qs.getD g 0)
def bestB (row : List Int) (qs : List Rat) (g : Nat) : Bool := decide (row.getD g 0 ≠ 0) && (List.range row.length).all fun o => !worse row qs g o
def bestR (row : List Int) (qs : List Rat) : List Nat := (List.range row.length).filter (bestB row qs)
def bestM (M : List (List Int)) (qs : List Rat) : List (List Int) := M.map fun row => (bestR row qs).map fun g : Nat => (g : Int)
def takesB (gs : List Nat) (best : List Int) : Bool := best.any fun g => gs.any fun h => decide ((h : Int) = g)
def takersL (M : List (List Int)) (qs : List Rat) (gs : List Nat) : List Nat := (List.range M.length).filter fun i => takesB gs ((bestM M qs).getD i [])
/-- the program's own, over what may be none -/
def natsV (gs : List Nat) : List V := gs.map fun g : Nat => V.int (g : Int)
end KM

set_option Elab.async false
set_option linter.all false
set_option maxRecDepth 100000
set_option maxHeartbeats 4000000
namespace KM
open PySem L2 KG EX
theorem mul_den (x : Rat) : x * (((x.den : Int) : Int) : Rat) = (x.num : Rat) := by
  have hd := den_pos x
  rw [← mul_rat, Rat.num_intCast, Rat.den_intCast, ← Rat.num_divInt_den (x.num : Rat), Rat.num_intCast, Rat.den_intCast, Rat.divInt_eq_divInt_iff (by simpa using (by omega : (x.den : Int) ≠ 0)) (by decide)]
  simp
theorem worse_int {a b : Int} {x y : Rat} : ((a : Rat) * x < (b : Rat) * y) ↔ (a * x.num * y.den < b * y.num * x.den) := by
  have hx := den_pos x
  have hy := den_pos y
  have pc : (0 : Rat) < (((x.den : Int) * (y.den : Int) : Int) : Rat) := by
    have : (0 : Rat) = ((0 : Int) : Rat) := rfl
    rw [this, Rat.intCast_lt_intCast]
    exact Int.mul_pos hx hy
  rw [← Rat.mul_lt_mul_left pc, ← Rat.intCast_lt_intCast]
  have e1 : (((x.den : Int) * (y.den : Int) : Int) : Rat) * ((a : Rat) * x) = ((a * x.num * y.den : Int) : Rat) := by
    rw [Rat.intCast_mul, Rat.intCast_mul, Rat.intCast_mul, ← mul_den x]
    simp only [Rat.mul_assoc, Rat.mul_comm]
    grind
  have e2 : (((x.den : Int) * (y.den : Int) : Int) : Rat) * ((b : Rat) * y) = ((b * y.num * x.den : Int) : Rat) := by
    rw [Rat.intCast_mul, Rat.intCast_mul, Rat.intCast_mul, ← mul_den y]
    grind
  rw [e1, e2]
theorem rb_int {k : Nat} {n : Int} (h : Bd k n) (hk : 1 ≤ k) : Rb k (n : Rat) := ⟨h, by
  show Bd k ((1 : Nat) : Int)
  unfold Bd
  exact Nat.one_lt_two_pow (by omega)⟩
/-- fractions at hand, one by one -/
def Frs (H : Hp) (ys : List V) (qs : List Rat) : Prop := ys.length = qs.length ∧ ∀ (j : Nat) y, ys[j]? = some y → ∃ a, y = .ref a ∧ H a = some (qO (qs.getD j 0))
theorem Frs.stay {H H' : Hp} {ys : List V} {qs : List Rat} (h : Frs H ys qs) (s : Stay H H') : Frs H' ys qs := ⟨h.1, fun j y hy => by obtain ⟨a, e, z⟩ := h.2 j y hy; exact ⟨a, e, s _ _ z⟩⟩
theorem Frs.of {b : Addr} {H : Hp} : ∀ {ys : List V} {qs : List Rat}, TrVs b H ys (qs.map qD) → Frs H ys qs
  | [], [], _ => ⟨rfl, fun j y h => by simp at h⟩
  | y :: ys, q :: qs, .cons h t => by
    have ih := Frs.of t
    refine ⟨by simp [ih.1], fun j z hz => ?_⟩
    cases j with
    | zero =>
      have e : y = z := by simpa using hz
      subst e
      unfold qD at h
      cases h with
      | @tup a xs _ ha hs =>
      match xs, hs with
      | _, .cons (.int _) (.cons (.int _) .nil) => exact ⟨a, rfl, ha⟩
    | succ j => exact ih.2 j z (by simpa using hz)
theorem Frs.at {H : Hp} {ys : List V} {qs : List Rat} (h : Frs H ys qs) {g : Nat} (hg : g < qs.length) : ∃ a, atI ys (g : Int) = some (.ref a) ∧ H a = some (qO (qs.getD g 0)) := by
  have hl : g < ys.length := by rw [h.1]; exact hg
  have e := List.getElem?_eq_getElem hl
  obtain ⟨a, e2, z⟩ := h.2 g _ e
  rw [e2] at e
  exact ⟨a, atI_nat e, z⟩
theorem Frs.app {H : Hp} {ys : List V} {qs : List Rat} (h : Frs H ys qs) {a : Addr} {q : Rat} (ha : H a = some (qO q)) : Frs H (ys ++ [.ref a]) (qs ++ [q]) := by
  refine ⟨by simp [h.1], fun j y hy => ?_⟩
  rcases Nat.lt_or_ge j ys.length with z | z
  · rw [List.getElem?_append_left z] at hy
    obtain ⟨c, e, hc⟩ := h.2 j y hy
    refine ⟨c, e, ?_⟩
    have : (qs ++ [q]).getD j 0 = qs.getD j 0 := by simp [List.getD, List.getElem?_append_left (h.1 ▸ z)]
    rw [this]; exact hc
  · have : j = ys.length := by
      have := (List.getElem?_eq_some_iff.mp hy).1
      simp at this; omega
    subst this
    simp at hy
    subst hy
    refine ⟨a, rfl, ?_⟩
    have : (qs ++ [q]).getD ys.length 0 = q := by rw [h.1]; simp [List.getD]
    rw [this]; exact ha
/-- in a heap in which the list itself has grown -/
theorem Frs.tm {H H' : Hp} {ys : List V} {qs : List Rat} (h : Frs H ys qs) (s : Tm H H') : Frs H' ys qs := ⟨h.1, fun j y hy => by obtain ⟨a, e, z⟩ := h.2 j y hy; exact ⟨a, e, s _ _ z⟩⟩
def sumQ (qs : List Rat) : Rat := qs.foldl (fun s q => s + q) 0
theorem take_snoc {α : Type} {xs : List α} {i : Nat} {x : α} (h : xs[i]? = some x) : xs.take (i + 1) = xs.take i ++ [x] := by rw [List.take_succ, h]; rfl
theorem rb_zero : Rb 1 (0 : Rat) := by unfold Rb Bd; decide +kernel
/-- the amounts -/
theorem am_of {b : Addr} {H : Hp} : ∀ {xa : List V} {am : List PyData}, TrVs b H xa am → am.all (within 1 60) = true → xa = (am.map intOf).map V.int ∧ ∀ n ∈ am.map intOf, 1 ≤ n ∧ n ≤ 60
  | _, _, .nil, _ => ⟨rfl, fun n hn => nomatch hn⟩
  | _, _, .cons (d := d) h t, h3 => by
    rw [List.all_cons, Bool.and_eq_true] at h3
    obtain ⟨e, hb⟩ := am_of t h3.2
    obtain ⟨n, rfl, n1, n2⟩ : ∃ n : Int, d = .int n ∧ 1 ≤ n ∧ n ≤ 60 := by
      have := h3.1
      unfold within at this
      split at this
      · simp at this; exact ⟨_, rfl, this⟩
      · cases this
    cases h
    refine ⟨by rw [e]; simp [intOf], fun k hk => ?_⟩
    rcases List.mem_cons.mp hk with rfl | hk
    · exact ⟨n1, n2⟩
    · exact hb k hk
theorem MkAt.am {b p pa pp pw : Addr} {H : Hp} {xa xp xw : List V} {am pu wi : List PyData} (m : MkAt b H p pa pp pw xa xp xw am pu wi) : xa = (am.map intOf).map V.int ∧ ∀ n ∈ am.map intOf, 1 ≤ n ∧ n ≤ 60 := by
  obtain ⟨_, _, h3, _⟩ := isMk_out m.ok
  exact am_of m.ta h3
/-- prices at hand -/
structure PrAt (b : Addr) (H : Hp) (q : Addr) (ys : List V) (qs : List Rat) : Prop where
  hq : H q = some (.tup ys)
  tr : TrVs b H ys (qs.map qD)
  bd : ∀ z ∈ qs, Rb 293 z
theorem PrAt.stay {b : Addr} {H H' : Hp} {q : Addr} {ys : List V} {qs : List Rat} (h : PrAt b H q ys qs) (s : Stay H H') : PrAt b H' q ys qs := ⟨s _ _ h.hq, h.tr.stay s, h.bd⟩
theorem PrAt.rb {b : Addr} {H : Hp} {q : Addr} {ys : List V} {qs : List Rat} (h : PrAt b H q ys qs) (g : Nat) : Rb 293 (qs.getD g 0) := by
  by_cases hg : g < qs.length
  · have : qs.getD g 0 ∈ qs := by simp [List.getD, List.getElem?_eq_getElem hg]
    exact h.bd _ this
  · have : qs.getD g 0 = 0 := by simp [List.getD, List.getElem?_eq_none (Nat.le_of_not_lt hg)]
    rw [this]; exact rb_zero.mono (by decide)
/-- lists of whole numbers at hand, one by one -/
def LsR (H : Hp) (xs : List V) (M : List (List Int)) : Prop := xs.length = M.length ∧ ∀ (j : Nat) x, xs[j]? = some x → ∃ a, x = .ref a ∧ H a = some (.lst ((M.getD j []).map V.int))
theorem LsR.stay {H H' : Hp} {xs : List V} {M : List (List Int)} (h : LsR H xs M) (s : Stay H H') : LsR H' xs M := ⟨h.1, fun j x hx => by obtain ⟨a, e, z⟩ := h.2 j x hx; exact ⟨a, e, s _ _ z⟩⟩
def spLBest : Sp := fun vs H Q _ => ∃ (b p pa pp pw q : Addr) (xa xp xw ys : List V) (am pu wi : List PyData) (qs : List Rat), vs = [.ref p, .ref q] ∧ MkAt b H p pa pp pw xa xp xw am pu wi ∧ PrAt b H q ys qs ∧ qs.length = xa.length ∧
  ∀ (r : Addr) (xs : List V) (H' : Hp), Stay H H' → H' r = some (.lst xs) → LsR H' xs (bestM (rowsOf wi) qs) → Q (.ref r) H'
def spLTakers : Sp := fun vs H Q _ => ∃ (pb pg : Addr) (xs : List V) (M : List (List Int)) (qs : List Rat) (gs : List Nat), vs = [.ref pb, .ref pg] ∧ H pb = some (.lst xs) ∧ LsR H xs (bestM M qs) ∧ H pg = some (.lst (natsV gs)) ∧ gs.length ≤ 6 ∧ M.length ≤ 6 ∧ (∀ r ∈ M, r.length ≤ 6) ∧
  ∀ (r : Addr) (H' : Hp), Stay H H' → H' r = some (.lst (natsV (takersL M qs gs))) → Q (.ref r) H'
end KM

set_option Elab.async false
set_option linter.all false
set_option maxRecDepth 100000
set_option maxHeartbeats 4000000
namespace L2
open PySem PySem.Spec PyProof.Rows
theorem opInK {X : Cx} (K : PySem.W.Frag) (h : X.K = K := by rfl) : OpR X (compareOp .In) (rIn K false) := by subst h; exact op_in_seq
theorem opNinK {X : Cx} (K : PySem.W.Frag) (h : X.K = K := by rfl) : OpR X (compareOp .NotIn) (rIn K true) := by subst h; exact op_notIn_seq
end L2
namespace KM
open PySem L2 KG EX
theorem ints_tr {b : Addr} {H : Hp} : ∀ (ns : List Int), TrVs b H (ns.map V.int) (ns.map PyData.int)
  | [] => .nil
  | n :: ns => .cons (.int n) (ints_tr ns)
theorem eqv_q (q : Rat) : PyData.eqv (qD q) (qD q) = true := by unfold qD; simp [PyData.eqv, PyData.eqvAll]
theorem dep_q (q : Rat) : (qD q).depth ≤ 1 := by unfold qD; simp [PyData.depth, PyData.depthAll]
def inG (gs : List Nat) (n : Int) : Bool := gs.any fun h => decide ((h : Int) = n)
theorem in_nats (gs : List Nat) (n : Int) : inV (V.int n) (natsV gs) = inG gs n := by
  unfold inV natsV inG
  rw [List.any_map]
  congr 1
theorem flat_nats (gs : List Nat) : (natsV gs).all flatV = true := by
  unfold natsV
  rw [List.all_map]; simp [Function.comp_def, flatV]
theorem filt_empty {f : Int → Bool} (ns : List Int) : ((ns.filter f).map PyData.int).isEmpty = !ns.any f := by
  induction ns with
  | nil => rfl
  | cons n ns ih =>
    cases h : f n with
    | true => simp [List.filter, h]
    | false => simp only [List.filter, h, List.any_cons, Bool.false_or]; exact ih
end KM

set_option Elab.async false
set_option linter.all false
set_option maxRecDepth 100000
set_option maxHeartbeats 4000000
namespace KM
open PySem L2 KG EX
/-! purses as rational numbers -/
theorem purse_q {d : PyData} (h : isPurse d = true) : ∃ q : Rat, d = qD q ∧ 0 < q ∧ Rb 20 q := by
  obtain ⟨t, u, rfl⟩ := purseShape h
  have h' : (decide (1 ≤ u) && decide (Int.gcd t u = 1) && decide (1 ≤ t) && decide (t ≤ 1000000) && decide (u ≤ 1000000)) = true := h
  simp only [Bool.and_eq_true, decide_eq_true_eq] at h'
  obtain ⟨⟨⟨⟨h1, h2⟩, h3⟩, h4⟩, h5⟩ := h'
  obtain ⟨q, e1, e2⟩ := rat_of (t := t) (u := u) (by omega) h2
  refine ⟨q, by unfold qD; rw [e1, e2], rat_pos.mpr (by omega), ?_, ?_⟩
  · unfold Bd; omega
  · unfold Bd; omega
theorem purses_q : ∀ {pu : List PyData}, pu.all isPurse = true → ∃ ps : List Rat, pu = ps.map qD ∧ ∀ q ∈ ps, 0 < q ∧ Rb 20 q
  | [], _ => ⟨[], rfl, fun q h => nomatch h⟩
  | d :: pu, h => by
    rw [List.all_cons, Bool.and_eq_true] at h
    obtain ⟨q, rfl, h1, h2⟩ := purse_q h.1
    obtain ⟨ps, rfl, hp⟩ := purses_q h.2
    refine ⟨q :: ps, rfl, fun z hz => ?_⟩
    rcases List.mem_cons.mp hz with rfl | hz
    · exact ⟨h1, h2⟩
    · exact hp z hz
def qOf : PyData → Rat
  | .tuple [.int t, .int u] => Rat.divInt t u
  | _ => 0
theorem qOf_qD (q : Rat) : qOf (qD q) = q := Rat.num_divInt_den q
def pursesQ (pu : List PyData) : List Rat := pu.map qOf
theorem MkAt.pu {b p pa pp pw : Addr} {H : Hp} {xa xp xw : List V} {am pu wi : List PyData} (m : MkAt b H p pa pp pw xa xp xw am pu wi) : pu = (pursesQ pu).map qD ∧ ∀ q ∈ pursesQ pu, 0 < q ∧ Rb 20 q := by
  obtain ⟨_, _, _, _, _, h6, _⟩ := isMk_out m.ok
  obtain ⟨ps, e, hp⟩ := purses_q h6
  have : pursesQ pu = ps := by
    rw [e]; unfold pursesQ
    rw [List.map_map]
    have : (qOf ∘ qD) = id := by funext q; exact qOf_qD q
    rw [this, List.map_id]
  rw [this]
  exact ⟨e, hp⟩
theorem MkAt.fp {b p pa pp pw : Addr} {H : Hp} {xa xp xw : List V} {am pu wi : List PyData} (m : MkAt b H p pa pp pw xa xp xw am pu wi) : Frs H xp (pursesQ pu) := by
  have h := m.tp
  rw [m.pu.1] at h
  exact Frs.of h
def pickQ (ps : List Rat) (bs : List Nat) : Rat := sumQ (bs.map fun i => ps.getD i 0)
def spDiv : Sp := fun vs H Q _ => ∃ (p q : Addr) (a b : Rat), vs = [.ref p, .ref q] ∧ H p = some (qO a) ∧ H q = some (qO b) ∧ Rb 3000 a ∧ Rb 3000 b ∧ 0 < b ∧ ∀ r, H r = none → Q (.ref r) (upd H r (qO (a / b)))
theorem rb_divq {j k : Nat} {a b : Rat} (ha : Rb j a) (hb : Rb k b) (h : b ≠ 0) : Rb (j + k) (a / b) := by
  have hn : b.num ≠ 0 := fun z => h (Rat.num_eq_zero.mp z)
  rw [← div_rat hn]
  refine rb_div ?_ (ha.1.mul hb.2) (ha.2.mul hb.1)
  intro z
  rcases Int.mul_eq_zero.mp z with y | y
  · have := den_pos a; omega
  · exact hn y
/-- all sets of some numbers -/
def pickL (ns : List Int) (mask : Nat) : List Int := ((List.range ns.length).filter fun k => decide (mask / 2 ^ k % 2 = 1)).map fun k => ns.getD k 0
def setsL (ns : List Int) : List (List Int) := (List.range (2 ^ ns.length)).map (pickL ns)
def spSets : Sp := fun vs H Q _ => ∃ (l : Addr) (ns : List Int), vs = [.ref l] ∧ H l = some (.lst (ns.map V.int)) ∧ ns.length ≤ 6 ∧ ∀ (r : Addr) (xs : List V) (H' : Hp), Stay H H' → H' r = some (.lst xs) → LsR H' xs (setsL ns) → (∀ a, V.ref a ∈ xs → H a = none) → Q (.ref r) H'
/-- whole numbers, all multiplied alike -/
def IntsOf (c : Int) (ms : List Int) (qs : List Rat) : Prop := ms.length = qs.length ∧ ∀ j, j < qs.length → ((ms.getD j 0 : Int) : Rat) = (c : Rat) * qs.getD j 0
def moneysQ (am : List Int) (qs : List Rat) : List Rat := (List.range qs.length).map fun g => qs.getD g 0 * ((am.getD g 0 : Int) : Rat)
def spInts : Sp := fun vs H Q _ => ∃ (b p pa pp pw q : Addr) (xa xp xw ys : List V) (am pu wi : List PyData) (qs : List Rat), vs = [.ref p, .ref q] ∧ MkAt b H p pa pp pw xa xp xw am pu wi ∧ PrAt b H q ys qs ∧ qs.length = xa.length ∧
  ∀ (r r1 r2 : Addr) (c : Int) (ms ps : List Int) (H' : Hp), Stay H H' → 0 < c → IntsOf c ms (moneysQ (am.map intOf) qs) → IntsOf c ps (pursesQ pu) → H' r = some (.lst [.ref r1, .ref r2]) → H' r1 = some (.lst (ms.map V.int)) → H' r2 = some (.lst (ps.map V.int)) → Q (.ref r) H'
/-- what lies in all the sets with the greatest number -/
def topsL (rows : List (Int × List Int)) (m : Int) : List (List Int) := (rows.filter fun r => decide (r.1 = m)).map (·.2)
def leastOf (rows : List (Int × List Int)) (m : Int) : List Int := ((topsL rows m).getD 0 []).filter fun x => (topsL rows m).all fun s => s.contains x
/-- rows of pairs at hand -/
def RowsAt (H : Hp) (xs : List V) (rows : List (Int × List Int)) : Prop := xs.length = rows.length ∧ ∀ (j : Nat) x, xs[j]? = some x → ∃ a c, x = .ref a ∧ H a = some (.lst [.int (rows.getD j (0, [])).1, .ref c]) ∧ H c = some (.lst ((rows.getD j (0, [])).2.map V.int))
def spLeast : Sp := fun vs H Q _ => ∃ (l : Addr) (xs : List V) (rows : List (Int × List Int)), vs = [.ref l] ∧ H l = some (.lst xs) ∧ RowsAt H xs rows ∧ rows ≠ [] ∧ rows.length ≤ 64 ∧ (∀ r ∈ rows, r.2.length ≤ 6) ∧
  ∀ (m : Int) (r : Addr) (H' : Hp), m ∈ rows.map (·.1) → (∀ n ∈ rows.map (·.1), n ≤ m) → Stay H H' → H' r = some (.tup ((leastOf rows m).map V.int)) → Q (.ref r) H'
end KM

set_option Elab.async false
set_option linter.all false
set_option maxRecDepth 100000
namespace L2
open PySem PySem.Spec PyProof.Rows

/-! ### lists of pairs as tables -/
section
variable {κ : Type} [DecidableEq κ]
end


/-! ### a tracked dict, its keys ints and texts or tuples of these -/
section
variable {P : Program} {w : World} {H : Hp} {h : Heap} {a : Addr}
end

section
variable {X : Cx} {pins : List (Addr × Obj)} {σ : St} {H : Hp} {s : Shared} {a : Addr} {y v : V} {u r : Value} {o : Option V} {A : Around} {E : Value → Shared → Prop}

end

section
variable {X : Cx} {pins : List (Addr × Obj)} {σ : St} {H : Hp} {s : Shared} {a : Addr} {kvs : List (Key × V)} {k : Key} {u : Value} {A : Around} {E : Value → Shared → Prop}
end


/-! ### readings and rules -/
section
variable {X : Cx} {o i e value : Expr} {pos pos' tpos : Pos} {td ty tv : TE}
end


/-! ### displays -/
section
variable {X : Cx} {pos : Pos}
end

/-! ### methods -/
section
variable {X : Cx} {pins : List (Addr × Obj)} {σ : St} {H : Hp} {s : Shared} {a : Addr} {y d : V} {u r : Value} {o : Option V} {A : Around} {E : Value → Shared → Prop}
end

section
variable {X : Cx} {o e f : Expr} {apos cpos : Pos} {td ty tx : TE}
end

/-! ### dict(d): a copy -/
section
variable {X : Cx} {pins : List (Addr × Obj)} {σ : St} {H : Hp} {s : Shared} {a : Addr} {kvs : List (Key × V)} {A : Around} {E : Value → Shared → Prop}
end


section
variable {X : Cx} {pins : List (Addr × Obj)} {σ : St} {H : Hp} {s : Shared} {a : Addr} {y : V} {u : Value} {A : Around} {E : Value → Shared → Prop}
end
end L2
namespace L2
open PySem PySem.Spec PyProof.Rows
section
variable {X : Cx}
end
section
variable {κ : Type} [DecidableEq κ]
end
end L2

set_option Elab.async false
set_option linter.all false
set_option maxRecDepth 100000
namespace L2
open PySem PySem.Spec PyProof.Rows

/-! ### a dict comprehension, keys ints and texts -/
section
variable {X : Cx} {scope : Scope} {own cap : List Str} {ix : List Nat} {tg iter kx vx : Expr} {ifs : List Expr} {wi : TI} {g : TG} {tt : TT} {tk tv : TE} {pos : Pos}

end
end L2

set_option Elab.async false
set_option linter.all false
set_option maxRecDepth 100000
namespace L2
open PySem PySem.Spec PyProof.Rows
section
variable {X : Cx}

/-! ### d.values(), list(d.values()) -/
/-! ### for k in d: the dict stands frozen from there on -/
end
end L2

set_option Elab.async false
set_option linter.all false
set_option maxRecDepth 100000
namespace PySem
/-! ### zip of two tuples -/
section
variable {prog : Program} {w : World} {A : Around} {E : Value → Shared → Prop} {s : Shared} {z TI TO i1 i2 l1 l2 : Addr} {k1 k2 : Nat} {xs ys : Array Value} {x y a b : Value}
end
end PySem
namespace L2
open PySem PySem.Spec PyProof.Rows
section
variable {X : Cx}
end
end L2

set_option Elab.async false
set_option linter.all false
set_option maxRecDepth 100000
namespace L2
open PySem PySem.Spec PyProof.Rows KG
section
variable {K : PySem.W.Frag} {tt : TT} {te tk tv : TE} {acc a b : Addr} {xs ys : List V} {σ₀ : St} {H₀ : Hp} {Q : VK} {o : Obj} {kvs : List (Key × V)}
end
/-! the same rules with the fragment said -/
section
variable {X : Cx}
theorem piEnum (K : PySem.W.Frag) {a : Expr} {ta : TA} {p pos : Pos} {elts : List Expr} {kk} {tpos : Pos} (hg : Gl X "enumerate") (hm : X.mg "enumerate" = none) (hb : bootBuiltins "enumerate" = some (.type "enumerate")) (ha : PA X [a] ta) (hs : starEach [a] X.env = [(false, eval a X.env)] := by rfl) (h : X.K = K := by rfl) :
    PI X (.Tuple elts kk tpos) (.Call (.Name "enumerate" p) [a] [] pos) (iEnum K ta) := by subst h; exact pi_enum hg hm hb ha hs
theorem pgTup (K : PySem.W.Frag) {es : List Expr} {k : Nat} {t : TGs} {n : Nat} {pos : Pos} (hc : X.calm = true) (h : PGs X es t) (hn : (assignEach es X.env).length = n := by rfl) (hst : (assignEach es X.env).findIdx? (·.1) = none := by rfl) (hK : X.K = K := by rfl) : PG X (.Tuple es k pos) (gTup K n t) := by subst hK; exact pg_tup hc h hn hst
end
end L2

set_option Elab.async false
set_option linter.all false
set_option maxRecDepth 100000
set_option maxHeartbeats 4000000
namespace KM
open PySem L2 KG EX
/-- the program's wished goods -/
def spWis : Sp := fun vs H Q _ => ∃ (b p pa pp pw : Addr) (xa xp xw : List V) (am pu wi : List PyData), vs = [.ref p] ∧ MkAt b H p pa pp pw xa xp xw am pu wi ∧ ∀ (q : Addr) (H' : Hp), Stay H H' → H' q = some (.tup (wishedL xa.length (rowsOf wi))) → Q (.ref q) H'
def spGre : Sp := fun vs H Q _ => ∃ (l : Addr) (ys : List V) (qs : List Rat), vs = [.ref l] ∧ H l = some (.lst ys) ∧ Frs H ys qs ∧ qs ≠ [] ∧ (∀ q ∈ qs, Rb 3000 q) ∧ ∀ (a : Addr) (q : Rat), H a = some (qO q) → q ∈ qs → (∀ z ∈ qs, z ≤ q) → Q (.ref a) H
theorem frs_get {H : Hp} {ys : List V} {qs : List Rat} (h : Frs H ys qs) {i : Nat} {y : V} (hy : ys[i]? = some y) : ∃ (a : Addr) (q : Rat), y = .ref a ∧ H a = some (qO q) ∧ qs[i]? = some q := by
  obtain ⟨a, e, z⟩ := h.2 i y hy
  have hi : i < qs.length := by rw [← h.1]; exact (List.getElem?_eq_some_iff.mp hy).1
  refine ⟨a, qs[i], e, ?_, List.getElem?_eq_getElem hi⟩
  have : qs.getD i 0 = qs[i] := by simp [List.getD, List.getElem?_eq_getElem hi]
  rw [this] at z; exact z
/-! the rates: keys in order, values as fractions -/
end KM
namespace KM
open PySem L2 KG EX
end KM
namespace KM
open PySem L2 KG EX
end KM
namespace KM
open PySem L2 KG EX
end KM
namespace KM
open PySem L2 KG EX
theorem LsR.app {H : Hp} {ys : List V} {M : List (List Int)} (h : LsR H ys M) {a : Addr} {r : List Int} (ha : H a = some (.lst (r.map V.int))) : LsR H (ys ++ [.ref a]) (M ++ [r]) := by
  refine ⟨by simp [h.1], fun j y hy => ?_⟩
  rcases Nat.lt_or_ge j ys.length with z | z
  · rw [List.getElem?_append_left z] at hy
    obtain ⟨c, e, hc⟩ := h.2 j y hy
    refine ⟨c, e, ?_⟩
    have : (M ++ [r]).getD j [] = M.getD j [] := by simp [List.getD, List.getElem?_append_left (h.1 ▸ z)]
    rw [this]; exact hc
  · have : j = ys.length := by
      have := (List.getElem?_eq_some_iff.mp hy).1
      simp at this; omega
    subst this
    simp at hy
    subst hy
    refine ⟨a, rfl, ?_⟩
    have : (M ++ [r]).getD ys.length [] = r := by rw [h.1]; simp [List.getD]
    rw [this]; exact ha
theorem inv_ints (ns : List Int) (n : Int) : inV (V.int n) (ns.map V.int) = ns.contains n := by
  unfold inV
  rw [List.any_map, Bool.eq_iff_iff, List.any_eq_true, List.contains_iff_mem]
  constructor
  · rintro ⟨x, hx, e⟩
    have : x = n := by simpa [eqV] using e
    rw [← this]; exact hx
  · intro h
    exact ⟨n, h, by simp [eqV]⟩
theorem lsr_dt {K : PySem.W.Frag} {H : Hp} : ∀ {zs : List V} {M : List (List Int)}, LsR H zs M → DtVs K H zs (M.map fun r => PyData.list (r.map PyData.int))
  | [], [], _ => .nil
  | [], _ :: _, h => by have := h.1; simp at this
  | _ :: _, [], h => by have := h.1; simp at this
  | z :: zs, r :: M, h => by
    obtain ⟨a, e, ha⟩ := h.2 0 z rfl
    subst e
    have hr : (r :: M).getD 0 [] = r := rfl
    rw [hr] at ha
    refine .cons (.lst (SqL.of ha) (ints_tr (b := a) r).dt) (lsr_dt (zs := zs) (M := M) ⟨by simpa using h.1, fun j x hx => ?_⟩)
    obtain ⟨c, e, hc⟩ := h.2 (j + 1) x (by simpa using hx)
    exact ⟨c, e, by simpa [List.getD] using hc⟩
theorem filt_all {α : Type} {f : α → Bool} : ∀ (xs : List α), (xs.filter fun x => !f x).isEmpty = xs.all f
  | [] => rfl
  | x :: xs => by
    cases h : f x with
    | true => simp only [List.filter, h, Bool.not_true, List.all_cons, Bool.true_and]; exact filt_all xs
    | false => simp [List.filter, h]
end KM
namespace KM
theorem filt1 {α : Type} (f : α → Bool) (x : α) : [x].filter f = if f x = true then [x] else [] := by cases h : f x <;> simp [List.filter, h]
end KM

set_option Elab.async false
set_option linter.all false
set_option maxRecDepth 100000
set_option maxHeartbeats 4000000
namespace KM
open PySem L2 KG EX
def wishN (g : Nat) (M : List (List Int)) : List Nat := (List.range g).filter (has M)
def wishZ (g : Nat) (M : List (List Int)) : List Int := (wishN g M).map fun j : Nat => (j : Int)
theorem wishedL_Z (g : Nat) (M : List (List Int)) : wishedL g M = (wishZ g M).map V.int := by
  unfold wishedL wishZ wishN
  rw [List.map_map]
  refine List.map_congr_left fun j _ => ?_
  show V.int (0 + (j : Int)) = V.int (j : Int)
  rw [Int.zero_add]
theorem wishedL_N (g : Nat) (M : List (List Int)) : wishedL g M = natsV (wishN g M) := by rw [wishedL_Z]; unfold wishZ natsV; rw [List.map_map]; rfl
theorem wishN_lt {g : Nat} {M : List (List Int)} {j : Nat} (h : j ∈ wishN g M) : j < g ∧ has M j = true := by
  unfold wishN at h
  rw [List.mem_filter] at h
  exact ⟨by simpa using h.1, h.2⟩
theorem wishN_len (g : Nat) (M : List (List Int)) : (wishN g M).length ≤ g := by
  unfold wishN; exact Nat.le_trans (List.length_filter_le _ _) (by simp)
/-- rows of pairs, all their objects apart from p -/
def RowsN (p : Addr) (H : Hp) (xs : List V) (rows : List (Int × List Int)) : Prop := xs.length = rows.length ∧ ∀ (j : Nat) x, xs[j]? = some x → ∃ (a c : Addr) (r : Int × List Int), rows[j]? = some r ∧ x = .ref a ∧ a ≠ p ∧ c ≠ p ∧ H a = some (.lst [.int r.1, .ref c]) ∧ H c = some (.lst (r.2.map V.int))
theorem RowsN.stay {p : Addr} {H H' : Hp} {xs : List V} {rows : List (Int × List Int)} (h : RowsN p H xs rows) (s : Stay H H') : RowsN p H' xs rows := ⟨h.1, fun j x hx => by obtain ⟨a, c, r, e1, e2, e3, e4, e5, e6⟩ := h.2 j x hx; exact ⟨a, c, r, e1, e2, e3, e4, s _ _ e5, s _ _ e6⟩⟩
theorem RowsN.upd {p : Addr} {H : Hp} {o : HO} {xs : List V} {rows : List (Int × List Int)} (h : RowsN p H xs rows) : RowsN p (upd H p o) xs rows := ⟨h.1, fun j x hx => by
  obtain ⟨a, c, r, e1, e2, e3, e4, e5, e6⟩ := h.2 j x hx
  exact ⟨a, c, r, e1, e2, e3, e4, by rw [upd_ne e3]; exact e5, by rw [upd_ne e4]; exact e6⟩⟩
theorem RowsN.app {p : Addr} {H : Hp} {xs : List V} {rows : List (Int × List Int)} (h : RowsN p H xs rows) {a c : Addr} {r : Int × List Int} (na : a ≠ p) (nc : c ≠ p) (ha : H a = some (.lst [.int r.1, .ref c])) (hc : H c = some (.lst (r.2.map V.int))) : RowsN p H (xs ++ [.ref a]) (rows ++ [r]) := by
  refine ⟨by simp [h.1], fun j y hy => ?_⟩
  rcases Nat.lt_or_ge j xs.length with z | z
  · rw [List.getElem?_append_left z] at hy
    obtain ⟨a', c', r', e1, e2⟩ := h.2 j y hy
    exact ⟨a', c', r', by rw [List.getElem?_append_left (by rw [← h.1]; exact z)]; exact e1, e2⟩
  · have : j = xs.length := by
      have := (List.getElem?_eq_some_iff.mp hy).1
      simp at this; omega
    subst this
    simp at hy
    subst hy
    exact ⟨a, c, r, by rw [h.1]; simp, rfl, na, nc, ha, hc⟩
theorem RowsN.at {p : Addr} {H : Hp} {xs : List V} {rows : List (Int × List Int)} (h : RowsN p H xs rows) : RowsAt H xs rows := ⟨h.1, fun j x hx => by
  obtain ⟨a, c, r, e1, e2, _, _, e5, e6⟩ := h.2 j x hx
  have : rows.getD j (0, []) = r := by simp [List.getD, e1]
  rw [this]; exact ⟨a, c, e2, e5, e6⟩⟩
theorem ints_sum {c : Int} {ms : List Int} {qs : List Rat} (h : IntsOf c ms qs) : ∀ {ix : List Nat}, (∀ i ∈ ix, i < qs.length) → (((ix.map fun i => ms.getD i 0).sum : Int) : Rat) = (c : Rat) * sumQ (ix.map fun i => qs.getD i 0) := by
  intro ix
  have key : ∀ (ix : List Nat) (z : Rat), (∀ i ∈ ix, i < qs.length) → ((ix.map fun i => qs.getD i 0).foldl (fun s q => s + q) z) = z + sumQ (ix.map fun i => qs.getD i 0) := by
    intro ix
    induction ix with
    | nil => intro z _; unfold sumQ; simp [Rat.add_zero]
    | cons i ix ih =>
      intro z hi
      have hi' : ∀ j ∈ ix, j < qs.length := fun j hj => hi j (List.mem_cons_of_mem _ hj)
      unfold sumQ
      rw [List.map_cons, List.foldl_cons, List.foldl_cons, ih _ hi', ih _ hi', Rat.zero_add, Rat.add_assoc]
  induction ix with
  | nil => intro _; unfold sumQ; simp [Rat.mul_zero]
  | cons i ix ih =>
    intro hi
    have hi' : ∀ j ∈ ix, j < qs.length := fun j hj => hi j (List.mem_cons_of_mem _ hj)
    rw [List.map_cons, List.sum_cons, Rat.intCast_add, ih hi', h.2 i (hi i List.mem_cons_self)]
    have : sumQ ((i :: ix).map fun i => qs.getD i 0) = qs.getD i 0 + sumQ (ix.map fun i => qs.getD i 0) := by
      conv => lhs; unfold sumQ
      rw [List.map_cons, List.foldl_cons, key ix _ hi', Rat.zero_add]
    rw [this, Rat.mul_add]
/-- by how much the money of some goods is above the purses of their takers -/
def moneyOf (am : List Int) (qs : List Rat) (S : List Nat) : Rat := sumQ (S.map fun g => (moneysQ am qs).getD g 0)
def aboveQ (am : List Int) (ps qs : List Rat) (M : List (List Int)) (S : List Nat) : Rat := moneyOf am qs S - pickQ ps (takersL M qs S)
def nats (S : List Int) : List Nat := S.map Int.toNat
theorem nats_V {S : List Int} (h : ∀ x ∈ S, 0 ≤ x) : S.map V.int = natsV (nats S) := by
  unfold natsV nats
  rw [List.map_map]
  refine List.map_congr_left fun x hx => ?_
  show V.int x = V.int ((x.toNat : Nat) : Int)
  rw [Int.toNat_of_nonneg (h x hx)]
theorem pickL_mem {ns : List Int} {mask : Nat} {x : Int} (h : x ∈ pickL ns mask) : x ∈ ns := by
  unfold pickL at h
  obtain ⟨k, hk, rfl⟩ := List.mem_map.mp h
  have : k < ns.length := by simpa using (List.mem_filter.mp hk).1
  simp [List.getD, List.getElem?_eq_getElem this]
theorem pickL_len (ns : List Int) (mask : Nat) : (pickL ns mask).length ≤ ns.length := by
  unfold pickL
  rw [List.length_map]
  exact Nat.le_trans (List.length_filter_le _ _) (by simp)
theorem setsL_mem {ns S : List Int} (h : S ∈ setsL ns) : (∀ x ∈ S, x ∈ ns) ∧ S.length ≤ ns.length := by
  unfold setsL at h
  obtain ⟨k, _, rfl⟩ := List.mem_map.mp h
  exact ⟨fun x hx => pickL_mem hx, pickL_len ns k⟩
theorem takersL_lt {M : List (List Int)} {qs : List Rat} {S : List Nat} {i : Nat} (h : i ∈ takersL M qs S) : i < M.length := by
  unfold takersL at h
  simpa using (List.mem_filter.mp h).1
theorem takersL_len (M : List (List Int)) (qs : List Rat) (S : List Nat) : (takersL M qs S).length ≤ M.length := by
  unfold takersL
  exact Nat.le_trans (List.length_filter_le _ _) (by simp)
theorem nat_at {gs : List Nat} {i : Nat} {x : V} (h : (natsV gs)[i]? = some x) : ∃ g : Nat, gs[i]? = some g ∧ x = V.int (g : Int) := by
  unfold natsV at h
  rw [List.getElem?_map] at h
  cases e : gs[i]? with
  | none => rw [e] at h; cases h
  | some g => rw [e] at h; exact ⟨g, rfl, by simpa using h.symm⟩
theorem nats_len (gs : List Nat) : (natsV gs).length = gs.length := by unfold natsV; rw [List.length_map]
/-- the law's dear goods -/
def spLDear : Sp := fun vs H Q _ => ∃ (b p pa pp pw q : Addr) (xa xp xw ys : List V) (am pu wi : List PyData) (qs : List Rat), vs = [.ref p, .ref q] ∧ MkAt b H p pa pp pw xa xp xw am pu wi ∧ PrAt b H q ys qs ∧ qs.length = xa.length ∧
  ∀ (c : Int) (rows : List (Int × List Int)) (m : Int) (r : Addr) (H' : Hp), 0 < c → rows.map (·.2) = setsL (wishZ xa.length (rowsOf wi)) → (∀ x ∈ rows, ((x.1 : Int) : Rat) = (c : Rat) * aboveQ (am.map intOf) (pursesQ pu) qs (rowsOf wi) (nats x.2)) →
    m ∈ rows.map (·.1) → (∀ n ∈ rows.map (·.1), n ≤ m) → Stay H H' → H' r = some (.tup ((leastOf rows m).map V.int)) → Q (.ref r) H'
end KM

set_option Elab.async false
set_option linter.all false
set_option maxRecDepth 100000
set_option maxHeartbeats 4000000
namespace KM
open PySem L2 KG EX
/-! greatest and least, shares, the first prices -/
def IsMax (l : List Rat) (q : Rat) : Prop := q ∈ l ∧ ∀ z ∈ l, z ≤ q
def IsMin (l : List Rat) (q : Rat) : Prop := q ∈ l ∧ ∀ z ∈ l, q ≤ z
theorem IsMax.uniq {l : List Rat} {p q : Rat} (h1 : IsMax l p) (h2 : IsMax l q) : p = q := Rat.le_antisymm (h2.2 p h1.1) (h1.2 q h2.1)
theorem IsMin.uniq {l : List Rat} {p q : Rat} (h1 : IsMin l p) (h2 : IsMin l q) : p = q := Rat.le_antisymm (h1.2 q h2.1) (h2.2 p h1.1)
theorem max_ex : ∀ {l : List Rat}, l ≠ [] → ∃ q, IsMax l q
  | [], h => absurd rfl h
  | [x], _ => ⟨x, List.mem_cons_self, fun z hz => by rw [List.mem_singleton.mp hz]; exact Rat.le_refl⟩
  | x :: y :: l, _ => by
    obtain ⟨q, h1, h2⟩ := max_ex (l := y :: l) (by simp)
    by_cases h : q < x
    · exact ⟨x, List.mem_cons_self, fun z hz => by
        rcases List.mem_cons.mp hz with rfl | hz
        · exact Rat.le_refl
        · exact Rat.le_trans (h2 z hz) (Rat.le_of_lt h)⟩
    · exact ⟨q, List.mem_cons_of_mem _ h1, fun z hz => by
        rcases List.mem_cons.mp hz with rfl | hz
        · exact Rat.not_lt.mp h
        · exact h2 z hz⟩
def mI (a b : Int) : Int := if a < b then b else a
theorem mI_l (a b : Int) : a ≤ mI a b := by unfold mI; split <;> omega
theorem mI_r (a b : Int) : b ≤ mI a b := by unfold mI; split <;> omega
theorem mI_or (a b : Int) : mI a b = a ∨ mI a b = b := by unfold mI; split <;> simp
def maxI (row : List Int) : Int := row.foldl mI 0
theorem maxI_key : ∀ (row : List Int) (a : Int), a ≤ row.foldl mI a ∧ (∀ n ∈ row, n ≤ row.foldl mI a) ∧ (row.foldl mI a = a ∨ row.foldl mI a ∈ row)
  | [], a => ⟨Int.le_refl _, (fun n h => by cases h), Or.inl rfl⟩
  | x :: row, a => by
    obtain ⟨h1, h2, h3⟩ := maxI_key row (mI a x)
    rw [List.foldl_cons]
    refine ⟨Int.le_trans (mI_l a x) h1, fun n hn => ?_, ?_⟩
    · rcases List.mem_cons.mp hn with rfl | hn
      · exact Int.le_trans (mI_r a n) h1
      · exact h2 n hn
    · rcases h3 with h | h
      · rcases mI_or a x with e | e
        · rw [h]; exact .inl e
        · rw [h, e]; exact .inr List.mem_cons_self
      · exact .inr (List.mem_cons_of_mem _ h)
theorem maxI_eq {row : List Int} {m : Int} (hm : m ∈ row) (hmax : ∀ n ∈ row, n ≤ m) (hnn : ∀ n ∈ row, 0 ≤ n) : m = maxI row := by
  obtain ⟨h1, h2, h3⟩ := maxI_key row 0
  have a1 := h2 m hm
  have a2 := hnn m hm
  show m = row.foldl _ 0
  rcases h3 with h | h
  · omega
  · have := hmax _ h; omega
/-- a buyer's row, as the documents have it: it wishes something -/
structure GoodRow (n : Nat) (row : List Int) : Prop where
  len : row.length = n
  bd : ∀ k ∈ row, 0 ≤ k ∧ k ≤ 100
  pos : ∃ k ∈ row, 1 ≤ k
theorem GoodRow.mx {n : Nat} {row : List Int} (h : GoodRow n row) : 1 ≤ maxI row ∧ maxI row ≤ 100 := by
  obtain ⟨h1, h2, h3⟩ := maxI_key row 0
  obtain ⟨k, hk, k1⟩ := h.pos
  have := h2 k hk
  refine ⟨by show 1 ≤ row.foldl _ 0; omega, ?_⟩
  show row.foldl _ 0 ≤ 100
  rcases h3 with e | e
  · omega
  · exact (h.bd _ e).2
theorem GoodRow.at {n : Nat} {row : List Int} (h : GoodRow n row) (g : Nat) : 0 ≤ row.getD g 0 ∧ row.getD g 0 ≤ maxI row := by
  obtain ⟨h1, h2, h3⟩ := maxI_key row 0
  by_cases hg : g < row.length
  · have : row.getD g 0 ∈ row := by simp [List.getD, List.getElem?_eq_getElem hg]
    exact ⟨(h.bd _ this).1, h2 _ this⟩
  · have : row.getD g 0 = 0 := by simp [List.getD, List.getElem?_eq_none (Nat.le_of_not_lt hg)]
    rw [this]; exact ⟨Int.le_refl _, h1⟩
def shareR (g : Nat) (row : List Int) : Rat := ((row.getD g 0 : Int) : Rat) / ((maxI row : Int) : Rat)
theorem share_div {g : Nat} {row : List Int} : Rat.divInt (row.getD g 0) (maxI row) = shareR g row := Rat.divInt_eq_div _ _
theorem cast_pos {z : Int} (h : 0 < z) : (0 : Rat) < (z : Rat) := by
  have e : (0 : Rat) = ((0 : Int) : Rat) := rfl
  rw [e, Rat.intCast_lt_intCast]; exact h
theorem cast_nn {z : Int} (h : 0 ≤ z) : (0 : Rat) ≤ (z : Rat) := by
  have e : (0 : Rat) = ((0 : Int) : Rat) := rfl
  rw [e, Rat.intCast_le_intCast]; exact h
theorem div_mul_self {a b : Rat} (hb : 0 < b) : a / b * b = a := by
  have : b ≠ 0 := fun z => by rw [z] at hb; exact absurd hb (by decide)
  grind
theorem div_nn {a b : Rat} (ha : 0 ≤ a) (hb : 0 < b) : 0 ≤ a / b := by
  rcases Classical.em (0 ≤ a / b) with h | h
  · exact h
  · exfalso
    have h1 : a / b < 0 := Rat.not_le.mp h
    have h2 : a / b * b < 0 * b := (Rat.mul_lt_mul_right hb).mpr h1
    rw [div_mul_self hb, Rat.zero_mul] at h2
    exact absurd h2 (Rat.not_lt.mpr ha)
theorem share_nn {n : Nat} {g : Nat} {row : List Int} (h : GoodRow n row) : 0 ≤ shareR g row := div_nn (cast_nn (h.at g).1) (cast_pos (by have := h.mx.1; omega))
theorem share_mul {n : Nat} {g : Nat} {row : List Int} (h : GoodRow n row) : shareR g row * ((maxI row : Int) : Rat) = ((row.getD g 0 : Int) : Rat) := div_mul_self (cast_pos (by have := h.mx.1; omega))
theorem share_le {n : Nat} {g : Nat} {row : List Int} (h : GoodRow n row) : shareR g row ≤ 1 := by
  have hp := cast_pos (z := maxI row) (by have := h.mx.1; omega)
  refine Rat.not_lt.mp fun z => ?_
  have h2 := (Rat.mul_lt_mul_right hp).mpr z
  rw [share_mul h, Rat.one_mul, Rat.intCast_lt_intCast] at h2
  have := (h.at g).2; omega
theorem share_pos {n : Nat} {g : Nat} {row : List Int} (h : GoodRow n row) : 0 < shareR g row ↔ 0 < row.getD g 0 := by
  have hp := cast_pos (z := maxI row) (by have := h.mx.1; omega)
  rw [← Rat.mul_lt_mul_right hp, share_mul h, Rat.zero_mul]
  have e : (0 : Rat) = ((0 : Int) : Rat) := rfl
  rw [e, Rat.intCast_lt_intCast]
theorem rb_share {n : Nat} {g : Nat} {row : List Int} (h : GoodRow n row) : Rb 7 (shareR g row) := by
  rw [← share_div]
  have h1 := h.at g
  have h2 := h.mx
  exact rb_div (by omega) (by unfold Bd; omega) (by unfold Bd; omega)
/-- the pieces of all wished goods -/
def piecesI (am : List Int) (W : List Nat) : Int := (W.map fun g => am.getD g 0).sum
structure First (am : List Int) (ps : List Rat) (M : List (List Int)) (n : Nat) (qs : List Rat) : Prop where
  len : qs.length = n
  ex : ∃ mn, IsMin ps mn ∧ ∀ g, g < n → ∃ sh, IsMax (M.map (shareR g)) sh ∧ qs.getD g 0 = mn / ((piecesI am (wishN n M) : Int) : Rat) * sh
theorem First.uniq {am : List Int} {ps : List Rat} {M : List (List Int)} {n : Nat} {p q : List Rat} (h1 : First am ps M n p) (h2 : First am ps M n q) : p = q := by
  obtain ⟨m1, i1, e1⟩ := h1.ex
  obtain ⟨m2, i2, e2⟩ := h2.ex
  have em := i1.uniq i2
  subst em
  refine List.ext_getElem (by rw [h1.len, h2.len]) fun g hg1 hg2 => ?_
  have hg : g < n := by rw [← h1.len]; exact hg1
  obtain ⟨s1, j1, f1⟩ := e1 g hg
  obtain ⟨s2, j2, f2⟩ := e2 g hg
  have es := j1.uniq j2
  subst es
  have a1 : p.getD g 0 = p[g] := by simp [List.getD, List.getElem?_eq_getElem hg1]
  have a2 : q.getD g 0 = q[g] := by simp [List.getD, List.getElem?_eq_getElem hg2]
  rw [← a1, ← a2, f1, f2]
/-- sums -/
theorem sum_acc : ∀ (l : List Rat) (z : Rat), l.foldl (fun s q => s + q) z = z + sumQ l
  | [], z => by unfold sumQ; simp [Rat.add_zero]
  | x :: l, z => by
    have h1 := sum_acc l (z + x)
    have h2 := sum_acc l (0 + x)
    unfold sumQ
    rw [List.foldl_cons, List.foldl_cons, h1, h2, Rat.zero_add, Rat.add_assoc]
theorem sum_cons (x : Rat) (l : List Rat) : sumQ (x :: l) = x + sumQ l := by
  conv => lhs; unfold sumQ
  rw [List.foldl_cons, sum_acc, Rat.zero_add]
theorem sum_nn : ∀ {l : List Rat}, (∀ x ∈ l, 0 ≤ x) → 0 ≤ sumQ l
  | [], _ => Rat.le_refl
  | x :: l, h => by
    rw [sum_cons]
    have h1 := h x List.mem_cons_self
    have h2 := sum_nn (l := l) fun y hy => h y (List.mem_cons_of_mem _ hy)
    exact Rat.add_nonneg h1 h2
theorem sum_ge {l : List Rat} {x : Rat} (h : ∀ y ∈ l, 0 ≤ y) (hx : x ∈ l) : x ≤ sumQ l := by
  induction l with
  | nil => cases hx
  | cons y l ih =>
    rw [sum_cons]
    have hl := fun z hz => h z (List.mem_cons_of_mem y hz)
    rcases List.mem_cons.mp hx with rfl | hx
    · have := sum_nn hl
      have h2 := (Rat.add_le_add_left (c := x)).mpr this
      rw [Rat.add_zero] at h2; exact h2
    · have h1 := ih hl hx
      have h2 := (Rat.add_le_add_right (c := sumQ l)).mpr (h y List.mem_cons_self)
      rw [Rat.zero_add] at h2
      exact Rat.le_trans h1 h2
theorem sum_le {f g : Nat → Rat} : ∀ {ix : List Nat}, (∀ i ∈ ix, f i ≤ g i) → sumQ (ix.map f) ≤ sumQ (ix.map g)
  | [], _ => Rat.le_refl
  | i :: ix, h => by
    rw [List.map_cons, List.map_cons, sum_cons, sum_cons]
    have h1 := h i List.mem_cons_self
    have h2 := sum_le (ix := ix) fun j hj => h j (List.mem_cons_of_mem _ hj)
    exact Rat.le_trans ((Rat.add_le_add_right (c := sumQ (ix.map f))).mpr h1) ((Rat.add_le_add_left (c := g i)).mpr h2)
theorem sum_sub {f : Nat → Rat} : ∀ {xs ys : List Nat}, xs.Sublist ys → (∀ i ∈ ys, 0 ≤ f i) → sumQ (xs.map f) ≤ sumQ (ys.map f)
  | _, _, .slnil, _ => Rat.le_refl
  | _, y :: ys, .cons _ h, hn => by
    rw [List.map_cons, sum_cons]
    have h1 := sum_sub h fun i hi => hn i (List.mem_cons_of_mem _ hi)
    have h2 := (Rat.add_le_add_right (c := sumQ (ys.map f))).mpr (hn y List.mem_cons_self)
    rw [Rat.zero_add] at h2
    exact Rat.le_trans h1 h2
  | x :: xs, _ :: ys, .cons₂ _ h, hn => by
    rw [List.map_cons, List.map_cons, sum_cons, sum_cons]
    exact (Rat.add_le_add_left (c := f x)).mpr (sum_sub h fun i hi => hn i (List.mem_cons_of_mem _ hi))
theorem sum_scale {c : Rat} {f : Nat → Rat} : ∀ (ix : List Nat), sumQ (ix.map fun i => c * f i) = c * sumQ (ix.map f)
  | [] => by unfold sumQ; simp [Rat.mul_zero]
  | i :: ix => by rw [List.map_cons, List.map_cons, sum_cons, sum_cons, sum_scale ix, Rat.mul_add]
theorem sum_cast {f : Nat → Int} : ∀ (ix : List Nat), sumQ (ix.map fun i => ((f i : Int) : Rat)) = (((ix.map f).sum : Int) : Rat)
  | [] => rfl
  | i :: ix => by rw [List.map_cons, List.map_cons, sum_cons, sum_cast ix, List.sum_cons, Rat.intCast_add]
/-- sets are sublists -/
theorem pickL_sub (ns : List Int) (mask : Nat) : (pickL ns mask).Sublist ns := by
  have e : ns = (List.range ns.length).map fun k => ns.getD k 0 := by
    refine List.ext_getElem (by simp) fun i h1 h2 => ?_
    simp [List.getD, List.getElem?_eq_getElem h1]
  have h : (pickL ns mask).Sublist ((List.range ns.length).map fun k => ns.getD k 0) := by
    unfold pickL
    exact List.Sublist.map _ List.filter_sublist
  rw [← e] at h; exact h
theorem setsL_sub {ns S : List Int} (h : S ∈ setsL ns) : S.Sublist ns := by
  unfold setsL at h
  obtain ⟨k, _, rfl⟩ := List.mem_map.mp h
  exact pickL_sub ns k
theorem nats_wishZ (g : Nat) (M : List (List Int)) : nats (wishZ g M) = wishN g M := by
  unfold nats wishZ
  rw [List.map_map]
  have : (Int.toNat ∘ fun j : Nat => (j : Int)) = id := by funext j; simp
  rw [this, List.map_id]
end KM

set_option Elab.async false
set_option linter.all false
set_option maxRecDepth 100000
set_option maxHeartbeats 4000000
namespace KM
open PySem L2 KG EX
theorem div_pos {a b : Rat} (ha : 0 < a) (hb : 0 < b) : 0 < a / b := by
  have h := (Rat.lt_div_iff (a := 0) (b := a) (c := b) hb)
  rw [h, Rat.zero_mul]; exact ha
section
variable {am : List Int} {ps qs : List Rat} {M : List (List Int)} {n : Nat}
theorem pieces_pos (hM : ∀ r ∈ M, GoodRow n r) (hne : M ≠ []) (hal : am.length = n) (ham : ∀ a ∈ am, 1 ≤ a) : 1 ≤ piecesI am (wishN n M) := by
  obtain ⟨row, M', rfl⟩ := List.exists_cons_of_ne_nil hne
  have hr := hM row List.mem_cons_self
  obtain ⟨k, hk, k1⟩ := hr.pos
  obtain ⟨j, hj, ej⟩ := List.getElem_of_mem hk
  have hjn : j < n := by rw [← hr.len]; exact hj
  have hw : j ∈ wishN n (row :: M') := by
    unfold wishN
    refine List.mem_filter.mpr ⟨by simpa using hjn, ?_⟩
    unfold has
    exact List.any_eq_true.mpr ⟨row, List.mem_cons_self, by simp only [List.getD, List.getElem?_eq_getElem hj, Option.getD_some, ej]; exact decide_eq_true (by omega)⟩
  have key : ∀ (W : List Nat), (∀ g ∈ W, g < n) → j ∈ W → 1 ≤ piecesI am W := by
    intro W
    have nn : ∀ (W : List Nat), (∀ g ∈ W, g < n) → 0 ≤ piecesI am W := by
      intro W
      induction W with
      | nil => intro _; exact Int.le_refl _
      | cons g W ih =>
        intro h
        have hg := h g List.mem_cons_self
        have h1 := ih fun x hx => h x (List.mem_cons_of_mem _ hx)
        have h2 : am.getD g 0 ∈ am := by simp [List.getD, List.getElem?_eq_getElem (show g < am.length by omega)]
        have h3 := ham _ h2
        unfold piecesI at h1 ⊢
        rw [List.map_cons, List.sum_cons]; omega
    induction W with
    | nil => intro _ h; cases h
    | cons g W ih =>
      intro h hj
      have hg := h g List.mem_cons_self
      have h1 := nn W fun x hx => h x (List.mem_cons_of_mem _ hx)
      have h2 : am.getD g 0 ∈ am := by simp [List.getD, List.getElem?_eq_getElem (show g < am.length by omega)]
      have h3 := ham _ h2
      unfold piecesI at h1 ⊢
      rw [List.map_cons, List.sum_cons]; omega
  exact key _ (fun g hg => (wishN_lt hg).1) hw
theorem first_best (hM : ∀ r ∈ M, GoodRow n r) (hF : First am ps M n qs) (hps : ∀ p ∈ ps, 0 < p) (hpc : 1 ≤ piecesI am (wishN n M)) {g : Nat} (hg : g ∈ wishN n M) : ∃ (i : Nat) (row : List Int), M[i]? = some row ∧ g ∈ bestR row qs := by
  obtain ⟨hgn, hh⟩ := wishN_lt hg
  obtain ⟨mn, hmn, hq⟩ := hF.ex
  have hb : 0 < mn / ((piecesI am (wishN n M) : Int) : Rat) := div_pos (hps mn hmn.1) (cast_pos (by omega))
  generalize mn / ((piecesI am (wishN n M) : Int) : Rat) = base at hb hq
  obtain ⟨sh, ⟨hsh, hmax⟩, eg⟩ := hq g hgn
  obtain ⟨row, hrow, er⟩ := List.mem_map.mp hsh
  have hr := hM row hrow
  have hpos : 0 < row.getD g 0 := by
    unfold has at hh
    obtain ⟨r', hr', h1⟩ := List.any_eq_true.mp hh
    have h2 := (share_pos (hM r' hr') (g := g)).mpr (by simpa using h1)
    have h3 := hmax _ (List.mem_map.mpr ⟨r', hr', rfl⟩)
    refine (share_pos hr).mp ?_
    rw [er]
    refine Rat.not_le.mp fun z => ?_
    exact absurd h2 (Rat.not_lt.mpr (Rat.le_trans h3 z))
  obtain ⟨i, hi, ei⟩ := List.getElem_of_mem hrow
  refine ⟨i, row, by rw [List.getElem?_eq_getElem hi, ei], ?_⟩
  unfold bestR
  refine List.mem_filter.mpr ⟨by rw [hr.len]; simpa using hgn, ?_⟩
  unfold bestB
  rw [decide_eq_true (show row.getD g 0 ≠ 0 by omega), Bool.true_and, List.all_eq_true]
  intro o ho
  have hon : o < n := by rw [← hr.len]; simpa using ho
  obtain ⟨so, ⟨_, hmo⟩, eo⟩ := hq o hon
  have hso := hmo _ (List.mem_map.mpr ⟨row, hrow, rfl⟩)
  unfold worse
  have : ¬ (((row.getD g 0 : Int) : Rat) * qs.getD o 0 < ((row.getD o 0 : Int) : Rat) * qs.getD g 0) := by
    refine Rat.not_lt.mpr ?_
    rw [eo, eg, ← er, ← share_mul hr (g := g), ← share_mul hr (g := o)]
    have hmx := cast_nn (z := maxI row) (by have := hr.mx.1; omega)
    have hgn' := share_nn hr (g := g)
    generalize ((maxI row : Int) : Rat) = mx at hmx
    generalize shareR g row = sg at hgn'
    generalize shareR o row = s1 at hso
    have e1 : s1 * mx * (base * sg) = sg * mx * base * s1 := by grind
    have e2 : sg * mx * (base * so) = sg * mx * base * so := by grind
    rw [e1, e2]
    exact Rat.mul_le_mul_of_nonneg_left hso (Rat.mul_nonneg (Rat.mul_nonneg hgn' hmx) (Rat.le_of_lt hb))
  rw [decide_eq_false this, Bool.and_false]; rfl
theorem pick_nn (hps : ∀ p ∈ ps, 0 < p) (i : Nat) : 0 ≤ ps.getD i 0 := by
  by_cases h : i < ps.length
  · have : ps.getD i 0 ∈ ps := by simp [List.getD, List.getElem?_eq_getElem h]
    exact Rat.le_of_lt (hps _ this)
  · have : ps.getD i 0 = 0 := by simp [List.getD, List.getElem?_eq_none (Nat.le_of_not_lt h)]
    rw [this]; exact Rat.le_refl
theorem first_above (hM : ∀ r ∈ M, GoodRow n r) (hF : First am ps M n qs) (hps : ∀ p ∈ ps, 0 < p) (hpl : ps.length = M.length) (hal : am.length = n) (ham : ∀ a ∈ am, 1 ≤ a) (hpc : 1 ≤ piecesI am (wishN n M)) {S : List Nat} (hS : S.Sublist (wishN n M)) : aboveQ am ps qs M S ≤ 0 := by
  obtain ⟨mn, hmn, hq⟩ := hF.ex
  cases hSe : S with
  | nil =>
    unfold aboveQ moneyOf
    have : pickQ ps (takersL M qs []) = 0 := by
      have : takersL M qs [] = [] := by
        unfold takersL
        rw [List.filter_eq_nil_iff]
        intro i _
        unfold takesB
        simp
      rw [this]; rfl
    rw [this]
    show (0 : Rat) - 0 ≤ 0
    rw [Rat.sub_self]; exact Rat.le_refl
  | cons g S' =>
    rw [hSe] at hS
    have hgw : g ∈ wishN n M := hS.subset List.mem_cons_self
    obtain ⟨i, row, hMi, hbest⟩ := first_best hM hF hps hpc hgw
    have hi : i < M.length := (List.getElem?_eq_some_iff.mp hMi).1
    have htk : i ∈ takersL M qs (g :: S') := by
      unfold takersL
      refine List.mem_filter.mpr ⟨by simpa using hi, ?_⟩
      have e : (bestM M qs).getD i [] = (bestR row qs).map fun g : Nat => (g : Int) := by
        unfold bestM; simp [List.getD, List.getElem?_map, hMi]
      rw [e]
      unfold takesB
      exact List.any_eq_true.mpr ⟨(g : Int), List.mem_map.mpr ⟨g, hbest, rfl⟩, List.any_eq_true.mpr ⟨g, List.mem_cons_self, by simp⟩⟩
    have h1 : mn ≤ pickQ ps (takersL M qs (g :: S')) := by
      have hm1 : ps.getD i 0 ∈ ps := by simp [List.getD, List.getElem?_eq_getElem (show i < ps.length by omega)]
      refine Rat.le_trans (hmn.2 _ hm1) ?_
      unfold pickQ
      exact sum_ge (fun y hy => by obtain ⟨j, _, rfl⟩ := List.mem_map.mp hy; exact pick_nn hps j) (List.mem_map.mpr ⟨i, htk, rfl⟩)
    have hpp := cast_pos (z := piecesI am (wishN n M)) (by omega)
    have hb : 0 < mn / ((piecesI am (wishN n M) : Int) : Rat) := div_pos (hps mn hmn.1) hpp
    have hbm : mn / ((piecesI am (wishN n M) : Int) : Rat) * ((piecesI am (wishN n M) : Int) : Rat) = mn := div_mul_self hpp
    have h2 : moneyOf am qs (g :: S') ≤ mn := by
      unfold moneyOf
      have hlt : ∀ o ∈ wishN n M, o < n := fun o ho => (wishN_lt ho).1
      have eo : ∀ o, o < n → (moneysQ am qs).getD o 0 = qs.getD o 0 * ((am.getD o 0 : Int) : Rat) := fun o ho => by
        unfold moneysQ
        rw [getD_map (a := 0) (by rw [List.length_range, hF.len]; exact ho)]
        have : (List.range qs.length).getD o 0 = o := by simp [List.getD, List.getElem?_range (show o < qs.length by rw [hF.len]; exact ho)]
        rw [this]
      have amn : ∀ o, o < n → (0 : Rat) ≤ ((am.getD o 0 : Int) : Rat) := fun o ho => by
        have : am.getD o 0 ∈ am := by simp [List.getD, List.getElem?_eq_getElem (show o < am.length by omega)]
        have := ham _ this
        exact cast_nn (by omega)
      have hle : ∀ o ∈ g :: S', (moneysQ am qs).getD o 0 ≤ mn / ((piecesI am (wishN n M) : Int) : Rat) * ((am.getD o 0 : Int) : Rat) := fun o ho => by
        have hon := hlt o (hS.subset ho)
        rw [eo o hon]
        obtain ⟨so, ⟨hsm, _⟩, e⟩ := hq o hon
        obtain ⟨r, hr, er⟩ := List.mem_map.mp hsm
        have hs1 : so ≤ 1 := by rw [← er]; exact share_le (hM r hr)
        rw [e]
        refine Rat.mul_le_mul_of_nonneg_right ?_ (amn o hon)
        have := Rat.mul_le_mul_of_nonneg_left hs1 (Rat.le_of_lt hb)
        rw [Rat.mul_one] at this; exact this
      refine Rat.le_trans (sum_le hle) ?_
      rw [sum_scale]
      have h3 := sum_sub (f := fun o => ((am.getD o 0 : Int) : Rat)) hS (fun o ho => amn o (hlt o ho))
      have h4 := Rat.mul_le_mul_of_nonneg_left h3 (Rat.le_of_lt hb)
      refine Rat.le_trans h4 ?_
      rw [sum_cast (f := fun o => am.getD o 0)]
      show mn / ((piecesI am (wishN n M) : Int) : Rat) * ((piecesI am (wishN n M) : Int) : Rat) ≤ mn
      rw [hbm]; exact Rat.le_refl
    unfold aboveQ
    have h5 := Rat.le_trans h2 h1
    rw [Rat.sub_right_le_iff_le_add, Rat.zero_add]; exact h5
theorem above_nil : aboveQ am ps qs M [] = 0 := by
  unfold aboveQ moneyOf
  have : takersL M qs [] = [] := by
    unfold takersL
    rw [List.filter_eq_nil_iff]
    intro i _
    unfold takesB
    simp
  rw [this]
  show (0 : Rat) - 0 = 0
  exact Rat.sub_self
end
/-- where no set is above, the least set is empty -/
theorem least_nil {rows : List (Int × List Int)} {m c : Int} {f : List Int → Rat} (hc : 0 < c) (hrows : ∀ x ∈ rows, ((x.1 : Int) : Rat) = (c : Rat) * f x.2) (h0 : f [] = 0) (hle : ∀ x ∈ rows, f x.2 ≤ 0) (hn : [] ∈ rows.map (·.2)) (hm : m ∈ rows.map (·.1)) (hmax : ∀ k ∈ rows.map (·.1), k ≤ m) : leastOf rows m = [] := by
  have hcp := cast_pos hc
  obtain ⟨r0, hr0, e0⟩ := List.mem_map.mp hn
  have e1 : r0.1 = 0 := by
    have := hrows r0 hr0
    rw [e0, h0, Rat.mul_zero] at this
    exact Rat.intCast_inj.mp this
  have hm0 : m = 0 := by
    have h1 := hmax r0.1 (List.mem_map.mpr ⟨r0, hr0, rfl⟩)
    obtain ⟨r, hr, er⟩ := List.mem_map.mp hm
    have h2 := hrows r hr
    have h3 := Rat.mul_le_mul_of_nonneg_left (hle r hr) (Rat.le_of_lt hcp)
    rw [Rat.mul_zero, ← h2] at h3
    have h4 : r.1 ≤ 0 := Rat.intCast_le_intCast.mp h3
    omega
  have ht : [] ∈ topsL rows m := by
    unfold topsL
    exact List.mem_map.mpr ⟨r0, List.mem_filter.mpr ⟨hr0, by simp [e1, hm0]⟩, e0⟩
  unfold leastOf
  rw [List.filter_eq_nil_iff]
  intro x _ hall
  have := List.all_eq_true.mp hall [] ht
  simp at this
theorem nil_sets (ns : List Int) : [] ∈ setsL ns := by
  unfold setsL
  refine List.mem_map.mpr ⟨0, by simp [Nat.pow_pos], ?_⟩
  unfold pickL
  have : ((List.range ns.length).filter fun k => decide (0 / 2 ^ k % 2 = 1)) = [] := by
    rw [List.filter_eq_nil_iff]
    intro k _
    simp
  rw [this]; rfl
end KM
namespace KM
open PySem L2 KG EX
def spWl : Sp := fun vs H Q _ => ∃ (b p pa pp pw : Addr) (xa xp xw : List V) (am pu wi : List PyData), vs = [.ref p] ∧ MkAt b H p pa pp pw xa xp xw am pu wi ∧ (∀ r ∈ rowsOf wi, GoodRow xa.length r) ∧ ∀ H', Stay H H' → Q .non H'
def spLeaT : Sp := fun vs H Q _ => ∃ (l : Addr) (ys : List V) (qs : List Rat), vs = [.ref l] ∧ H l = some (.tup ys) ∧ Frs H ys qs ∧ qs ≠ [] ∧ (∀ q ∈ qs, Rb 3000 q) ∧ ∀ (a : Addr) (q : Rat), H a = some (qO q) → IsMin qs q → Q (.ref a) H
def spGS : Sp := fun vs H Q _ => ∃ (pw : Addr) (xw : List V) (M : List (List Int)) (n g : Nat), vs = [.ref pw, .int (g : Int)] ∧ H pw = some (.tup xw) ∧ Rws H xw M ∧ g < n ∧ (∀ r ∈ M, GoodRow n r) ∧ M ≠ [] ∧ M.length ≤ 6 ∧ ∀ (a : Addr) (q : Rat) (H' : Hp), Stay H H' → H' a = some (qO q) → IsMax (M.map (shareR g)) q → Q (.ref a) H'
def spFP : Sp := fun vs H Q _ => ∃ (b p pa pp pw : Addr) (xa xp xw : List V) (am pu wi : List PyData), vs = [.ref p] ∧ MkAt b H p pa pp pw xa xp xw am pu wi ∧ (∀ r ∈ rowsOf wi, GoodRow xa.length r) ∧
  ∀ (r : Addr) (xs : List V) (qs : List Rat) (H' : Hp), Stay H H' → H' r = some (.tup xs) → Frs H' xs qs → First (am.map intOf) (pursesQ pu) (rowsOf wi) xa.length qs → Q (.ref r) H'
theorem pieces_le {am : List Int} {M : List (List Int)} {n : Nat} (hal : am.length = n) (h6 : n ≤ 6) (ham : ∀ a ∈ am, a ≤ 60) : piecesI am (wishN n M) ≤ 360 := by
  have key : ∀ W : List Nat, (∀ g ∈ W, g < n) → piecesI am W ≤ 60 * (W.length : Int) := by
    intro W
    induction W with
    | nil => intro _; exact Int.le_refl _
    | cons g W ih =>
      intro h
      have hg := h g List.mem_cons_self
      have h1 := ih fun x hx => h x (List.mem_cons_of_mem _ hx)
      have h2 : am.getD g 0 ∈ am := by simp [List.getD, List.getElem?_eq_getElem (show g < am.length by omega)]
      have h3 := ham _ h2
      unfold piecesI at h1 ⊢
      rw [List.map_cons, List.sum_cons, List.length_cons]; omega
  have h1 := key (wishN n M) fun g hg => (wishN_lt hg).1
  have h2 := wishN_len n M
  omega
end KM
namespace KM
open PySem L2 KG EX
theorem frs_tr {b : Addr} {H : Hp} : ∀ {ys : List V} {qs : List Rat}, Frs H ys qs → TrVs b H ys (qs.map qD)
  | [], [], _ => .nil
  | [], _ :: _, h => by have := h.1; simp at this
  | _ :: _, [], h => by have := h.1; simp at this
  | y :: ys, q :: qs, h => by
    obtain ⟨a, e, ha⟩ := h.2 0 y rfl
    subst e
    have hr : (q :: qs).getD 0 0 = q := rfl
    rw [hr] at ha
    refine .cons (.tup ha (.cons (.int _) (.cons (.int _) .nil))) (frs_tr (ys := ys) (qs := qs) ⟨by simpa using h.1, fun j x hx => ?_⟩)
    obtain ⟨c, e, hc⟩ := h.2 (j + 1) x (by simpa using hx)
    exact ⟨c, e, by simpa [List.getD] using hc⟩
theorem eqv_qs : ∀ qs : List Rat, PyData.eqvAll (qs.map qD) (qs.map qD) = true
  | [] => by simp [PyData.eqvAll]
  | q :: qs => by simp [PyData.eqvAll, eqv_q q, eqv_qs qs]
theorem eqv_qt (qs : List Rat) : PyData.eqv (.tuple (qs.map qD)) (.tuple (qs.map qD)) = true := by
  simp only [PyData.eqv]; exact eqv_qs qs
theorem dep_qs : ∀ qs : List Rat, PyData.depthAll (qs.map qD) ≤ 1
  | [] => by simp [PyData.depthAll]
  | q :: qs => by
    have h1 := dep_q q
    have h2 := dep_qs qs
    simp [PyData.depthAll]; omega
theorem dep_qt (qs : List Rat) : (PyData.tuple (qs.map qD)).depth ≤ 2 := by
  have := dep_qs qs
  simp [PyData.depth]; omega
def spLFirst : Sp := fun vs H Q _ => ∃ (b p pa pp pw : Addr) (xa xp xw : List V) (am pu wi : List PyData), vs = [.ref p] ∧ MkAt b H p pa pp pw xa xp xw am pu wi ∧ (∀ r ∈ rowsOf wi, GoodRow xa.length r) ∧
  ∀ (r : Addr) (xs : List V) (qs : List Rat) (H' : Hp), Stay H H' → H' r = some (.tup xs) → Frs H' xs qs → First (am.map intOf) (pursesQ pu) (rowsOf wi) xa.length qs → Q (.ref r) H'
/-- from nought on, taken greater one by one -/
theorem run_max {base z : Rat} {M : List (List Int)} {n g : Nat} (hb : 0 < base) (hM : ∀ r ∈ M, GoodRow n r) (hne : M ≠ []) (hz : z = 0 ∨ ∃ r ∈ M, z = base * shareR g r) (hmax : ∀ r ∈ M, base * shareR g r ≤ z) : ∃ sh, IsMax (M.map (shareR g)) sh ∧ z = base * sh := by
  obtain ⟨sh, hs⟩ := max_ex (l := M.map (shareR g)) (by simpa using hne)
  refine ⟨sh, hs, ?_⟩
  obtain ⟨r0, hr0, e0⟩ := List.mem_map.mp hs.1
  have h1 : base * sh ≤ z := by rw [← e0]; exact hmax r0 hr0
  refine Rat.le_antisymm ?_ h1
  rcases hz with rfl | ⟨r, hr, rfl⟩
  · have : 0 ≤ sh := by rw [← e0]; exact share_nn (hM r0 hr0)
    exact Rat.mul_nonneg (Rat.le_of_lt hb) this
  · exact Rat.mul_le_mul_of_nonneg_left (hs.2 _ (List.mem_map.mpr ⟨r, hr, rfl⟩)) (Rat.le_of_lt hb)
end KM
namespace KM
open PySem L2 KG EX
theorem pos_row {am pu wi : List PyData} (hM : isMk (.tuple [.tuple am, .tuple pu, .tuple wi]) = true) (h : wi.all posD = true) {r : List Int} (hr : r ∈ rowsOf wi) : ∃ k ∈ r, 1 ≤ k := by
  unfold rowsOf at hr
  obtain ⟨d, hd, rfl⟩ := List.mem_map.mp hr
  have h1 := List.all_eq_true.mp h d hd
  cases d with
  | tuple ds =>
    obtain ⟨x, hx, h2⟩ := List.any_eq_true.mp (show ds.any oneD = true from h1)
    cases x with
    | int n => exact ⟨n, List.mem_map.mpr ⟨.int n, hx, rfl⟩, of_decide_eq_true h2⟩
    | _ => cases h2
  | _ => cases h1
theorem first_rb {am : List Int} {ps qs : List Rat} {M : List (List Int)} {n : Nat} (hF : First am ps M n qs) (hM : ∀ r ∈ M, GoodRow n r) (hps : ∀ p ∈ ps, Rb 20 p) (hpc : 1 ≤ piecesI am (wishN n M)) (hpu : piecesI am (wishN n M) ≤ 360) : ∀ z ∈ qs, Rb 293 z := by
  intro z hz
  obtain ⟨g, hg, rfl⟩ := List.getElem_of_mem hz
  obtain ⟨mn, hmn, hq⟩ := hF.ex
  obtain ⟨sh, hsh, e⟩ := hq g (by rw [← hF.len]; exact hg)
  have : qs.getD g 0 = qs[g] := by simp [List.getD, List.getElem?_eq_getElem hg]
  rw [← this, e]
  obtain ⟨r, hr, rfl⟩ := List.mem_map.mp hsh.1
  have hpp := cast_pos (z := piecesI am (wishN n M)) (by omega)
  have hne : ((piecesI am (wishN n M) : Int) : Rat) ≠ 0 := fun z => by rw [z] at hpp; exact absurd hpp (by decide)
  have b1 : Rb 9 ((piecesI am (wishN n M) : Int) : Rat) := rb_int (by unfold Bd; omega) (by decide)
  exact (rb_mul (rb_divq (hps mn hmn.1) b1 hne) (rb_share (hM r hr))).mono (by decide)
end KM

set_option Elab.async false
set_option linter.all false
set_option maxRecDepth 100000
set_option maxHeartbeats 4000000
namespace K11
open PySem L2 KG EX KM
def top (i : Nat) : Stmt := PySem.Challenge.pw_wishmart_k11_first_prices.main.body.getD i (.Pass ⟨0, 0, 0, 0⟩)
section
variable {P : Program} {w : World} {K : PySem.W.Frag} {mg : Str → Option Value} {base : Heap}
theorem scTake : FnScope ["bag", "many", "found"] ["bag", "many"] (defScope (top 20)) := ⟨rfl, rfl, rfl, by decide +kernel, rfl, by decide +kernel, by decide +kernel⟩
theorem ok_take {f : Addr} {fd : FuncData} (F : Fun K "_law_take" "_law_take" (top 20) f fd) : FnOk P w K mg base CX0 1 f fd ["bag", "many"] spTake := by
  refine F.ok scTake (fun vs H Q E h => ?_) (fun cdv A outer s H vs Q E hr h => ?_)
  · obtain ⟨b, m, rfl, _⟩ := h; rfl
  · obtain ⟨b, m, rfl, ⟨c, d, hb⟩, h0, h1, k⟩ := h
    refine ⟨_, pss_cons (ps_if (pt_cmpR op_gt (pe_ix ix_list (pv 0) pe_int (fun _ _ => rfl)) pe_int (nomark _))
        (pss_cons (ps_set (i := 2) scTake.nd rfl (Or.inl rfl) (pe_op op_mod (pe_ix ix_list (pv 0) pe_int (fun _ _ => rfl)) (pv 1)))
          (pss_cons (ps_asg (pe_op op_fdiv (pe_ix ix_list (pv 0) pe_int (fun _ _ => rfl)) (pv 1)) (pg_sub (pv 0) pe_int set_list)) (pss_one (ps_ret (pv 2))))) pss_nil)
      (pss_cons (ps_asg (pe_op op_mod (pe_op op_mul (pe_ix ix_list (pv 0) pe_int (fun _ _ => rfl)) pe_int) pe_int) (pg_sub (pv 0) pe_int set_list))
        (pss_one (ps_ret (pe_op op_mod (pe_op op_fdiv (pe_op op_mod (pe_op op_mul (pe_op op_fdiv (pe_ix ix_list (pv 0) pe_int (fun _ _ => rfl)) pe_int) (pe_op op_add (pe_op op_mod (pe_ix ix_list (pv 0) pe_int (fun _ _ => rfl)) pe_int) pe_int)) pe_int) pe_int) (pv 1))))), ?_⟩
    refine ⟨_, rfl, b, _, _, _, rfl, rfl, SqL.of hb, rfl, _, _, rfl, rfl, _, rfl, ?_⟩
    refine ite2 (fun hc => ?_) (fun hc => ?_)
    · refine ⟨_, rfl, b, _, _, _, rfl, rfl, SqL.of hb, rfl, _, rfl, _, _, rfl, rfl, h0, ?_⟩
      refine ⟨_, rfl, b, _, _, _, rfl, rfl, SqL.of hb, rfl, _, rfl, _, _, rfl, rfl, ⟨h0, h1⟩, ?_⟩
      refine ⟨_, rfl, b, _, _, 0, rfl, rfl, hb, rfl, ?_⟩
      refine ⟨_, rfl, k _ _ (Int.emod_nonneg _ (by omega)) (Int.emod_lt_of_pos _ h0) ⟨_, _, upd_same⟩ (Kp.refl b H).bag⟩
    · refine ⟨_, rfl, b, _, _, _, rfl, rfl, SqL.of hb, rfl, _, _, rfl, rfl, .inr ⟨by decide, by decide⟩, _, _, rfl, rfl, (by show (0 : Int) < 2147483647; decide), ?_⟩
      refine ⟨_, rfl, b, _, _, 1, rfl, rfl, hb, rfl, ?_⟩
      have hb2 : (upd H b (.lst [V.int c, V.int (d * 48271 % 2147483647)])) b = some (.lst [V.int c, V.int (d * 48271 % 2147483647)]) := upd_same
      refine ⟨_, rfl, b, _, _, _, rfl, rfl, SqL.of hb2, rfl, _, _, rfl, rfl, ⟨by decide, by decide⟩, ?_⟩
      refine ⟨_, rfl, b, _, _, _, rfl, rfl, SqL.of hb2, rfl, _, _, rfl, rfl, (by show (0 : Int) < 32749; decide), _, _, rfl, rfl, ?_⟩
      refine ⟨_, _, rfl, rfl, .inr ⟨?_, ?_⟩, ?_⟩
      · have := Int.emod_nonneg (d * 48271 % 2147483647) (show (32749 : Int) ≠ 0 by decide); omega
      · have := Int.emod_lt_of_pos (d * 48271 % 2147483647) (show (0 : Int) < 32749 by decide); omega
      refine ⟨_, _, rfl, rfl, (by show (0 : Int) < 2147483629; decide), _, _, rfl, rfl, ⟨by decide, by decide⟩, _, rfl, _, _, rfl, rfl, h0, ?_⟩
      exact k _ _ (Int.emod_nonneg _ (by omega)) (Int.emod_lt_of_pos _ h0) ⟨_, _, upd_same⟩ (Kp.refl b H).bag
theorem scBag : FnScope ["script", "k", "cell", "seed"] ["script", "k"] (defScope (top 19)) := ⟨rfl, rfl, rfl, by decide +kernel, rfl, by decide +kernel, by decide +kernel⟩
theorem ok_bag {f : Addr} {fd : FuncData} (F : Fun K "_law_bag" "_law_bag" (top 19) f fd) (B : Nm mg) : FnOk P w K mg base CX0 1 f fd ["script", "k"] (spBag K) := by
  refine F.ok scBag (fun vs H Q E h => ?_) (fun cdv A outer s H vs Q E hr h => ?_)
  · obtain ⟨a, ns, k, rfl, _⟩ := h; rfl
  · obtain ⟨a, ns, k, rfl, hS, h0, h1, q⟩ := h
    refine ⟨_, pss_cons (ps_set (i := 2) scBag.nd rfl (Or.inl rfl) pe_int)
      (pss_cons (ps_if (pt_cmpR op_lt (pv 1) (pe_callB call_len_seq (by rfl) B.len PySem.boot_len (pa_cons (pv 0) pa_nil)) (nomark _))
        (pss_one (ps_set (i := 2) scBag.nd rfl (Or.inl rfl) (pe_op op_mod (pe_ix ix_list (pv 0) (pv 1) (fun _ _ => rfl)) (pe_op op_pow pe_int pe_int)))) pss_nil)
      (pss_cons (ps_set (i := 3) scBag.nd rfl (Or.inl rfl) (pe_op op_add pe_int (pe_op op_mod (pe_op op_add (pe_op op_add (pe_op op_add (pe_op op_mul (pe_op op_mod (pv 2) pe_int) pe_int) (pe_op op_mul (pe_op op_mul pe_int (pv 1)) (pv 1))) (pe_op op_mul pe_int (pv 1))) pe_int) pe_int)))
      (pss_cons (ps_if (pt_cmpR op_lt (pv 2) (pe_op op_pow pe_int pe_int) (nomark _)) (pss_one (ps_ret (pe_lst (pa_cons pe_int (pa_cons (pv 3) pa_nil))))) pss_nil)
      (pss_one (ps_ret (pe_lst (pa_cons (pv 2) (pa_cons (pv 3) pa_nil)))))))), ?_⟩
    refine ⟨_, rfl, _, rfl, a, _, rfl, .inl hS, _, _, rfl, rfl, _, rfl, ?_⟩
    refine ite2 (fun hc => ?wayA) (fun hc => ?wayB)
    case' wayA =>
      have hk : k < (ns.length : Int) := by simpa using of_decide_eq_true hc
      have hat : atI (ns.map V.int) k = some (V.int (ns.getD k.toNat 0)) := by
        have e : (ns.map V.int)[k.toNat]? = some (V.int (ns.getD k.toNat 0)) := by
          have hl : k.toNat < ns.length := by omega
          rw [List.getElem?_map, List.getElem?_eq_getElem hl]
          simp [List.getD, List.getElem?_eq_getElem hl]
        have := atI_nat e
        rw [Int.toNat_of_nonneg h0] at this
        exact this
      refine ⟨_, rfl, _, rfl, a, _, _, _, rfl, rfl, hS, hat, _, _, rfl, rfl, ⟨by decide, by decide, by decide⟩, _, _, rfl, rfl, (by show (0 : Int) < 10 ^ 60; decide), ?_⟩
    all_goals
      refine ⟨_, rfl, _, _, rfl, rfl, (by show (0 : Int) < 2147483629; decide), _, _, rfl, rfl, .inr ⟨by decide, by decide⟩, ?_⟩
      refine ⟨_, rfl, _, _, rfl, rfl, .inl ⟨by decide, by decide⟩, _, rfl, _, _, rfl, rfl, .inr ⟨by omega, by omega⟩, _, _, rfl, rfl, ?_⟩
      refine ⟨_, rfl, _, _, rfl, rfl, .inl ⟨by decide, by decide⟩, _, _, rfl, rfl, _, _, rfl, rfl, _, _, rfl, rfl, (by show (0 : Int) < 2147483645; decide), _, _, rfl, rfl, ?_⟩
      refine ⟨_, rfl, _, _, rfl, rfl, ⟨by decide, by decide, by decide⟩, _, _, rfl, rfl, _, rfl, ?_⟩
      refine ite2 (fun hc => ?_) (fun hc => ?_)
      · exact ⟨_, rfl, by show 2 ≤ sizeLine; decide, fun p hp => q p _ _ hp⟩
      · exact ⟨_, rfl, _, rfl, by show 2 ≤ sizeLine; decide, fun p hp => q p _ _ hp⟩
theorem scLFrac : FnScope ["top", "bottom", "one", "other", "by"] ["top", "bottom"] (defScope (top 21)) := ⟨rfl, rfl, rfl, by decide +kernel, rfl, by decide +kernel, by decide +kernel⟩
theorem ok_frac {f : Addr} {fd : FuncData} (F : Fun K "_law_frac" "_law_frac" (top 21) f fd) (B : Nm mg) : FnOk P w K mg base CX0 1 f fd ["top", "bottom"] spFrac := by
  refine F.ok scLFrac (fun vs H Q E h => ?_) (fun cdv A outer s H vs Q E hr h => ?_)
  · obtain ⟨t, u, rfl, _⟩ := h; rfl
  · obtain ⟨t, u, rfl, u0, u1, k⟩ := h
    refine ⟨_, pss_cons (ps_par (i := 2) (j := 3) rfl scLFrac.nd rfl rfl (by decide) rfl rfl (pa_cons (pv 0) (pa_cons (pv 1) pa_nil)) (by rfl))
      (pss_cons (ps_while PassesOwn.never (pt_cmpR op_ne (pv 3) pe_int (nomark _)) (pss_one (ps_par (i := 2) (j := 3) rfl scLFrac.nd rfl rfl (by decide) rfl rfl (pa_cons (pv 3) (pa_cons (pe_op op_mod (pv 2) (pv 3)) pa_nil)) (by rfl))))
      (pss_cons (ps_set (i := 4) scLFrac.nd rfl (Or.inl rfl) (pe_op op_mul (pe_callB call_abs (by rfl) B.abs boot_abs (pa_cons (pv 2) pa_nil)) (pe_op op_sub pe_int (pe_op op_mul pe_int (pe_callTy call_int1 (by rfl) B.int boot_int (pa_cons (pe_cmpR op_lt (pv 1) pe_int (nomark _)) pa_nil))))))
      (pss_one (ps_ret (pe_tup (pa_cons (pe_op op_fdiv (pv 0) (pv 4)) (pa_cons (pe_op op_fdiv (pv 1) (pv 4)) pa_nil))))))), ?_⟩
    refine ⟨_, rfl, _, rfl, _, _, rfl, ?_⟩
    refine while_by (fun σ H' => H' = H ∧ ∃ a c : Int, σ = [some (.int t), some (.int u), some (.int a), some (.int c), none] ∧ 0 ≤ c ∧ Int.gcd a c = Int.gcd t u)
      (fun σ _ => match σ with | [_, _, _, some (.int c), _] => c.toNat | _ => 0) ⟨rfl, t, u, rfl, by omega, rfl⟩ ?_ ?_
    · rintro σ H' ⟨rfl, a, c, rfl, c0, e⟩
      refine ⟨_, rfl, rfl, _, rfl, ?_⟩
      by_cases hc : c = 0
      · subst hc
        refine iteF ?_
        refine ⟨_, rfl, _, rfl, _, rfl, _, _, rfl, rfl, .inr ⟨_, rfl, _, _, rfl, rfl, .inl ⟨by decide, by decide⟩, _, _, rfl, rfl, ?_⟩⟩
        have e2 : decide (u < 0) = false := decide_eq_false (by omega)
        rw [abs_gcd, e, e2]
        obtain ⟨g0, g1⟩ := gcd_pos (t := t) u0
        have e3 : (Int.gcd t u : Int) * (1 - 2 * (if false = true then (1 : Int) else 0)) = (Int.gcd t u : Int) := by simp
        refine ⟨_, _, rfl, rfl, .inl ⟨by omega, by omega⟩, ?_⟩
        show gName 4 (V.int ((Int.gcd t u : Int) * (1 - 2 * (if false = true then (1 : Int) else 0)))) _ _ _
        rw [e3]
        exact ⟨_, rfl, _, rfl, _, _, rfl, rfl, ⟨g0, by omega⟩, _, rfl, _, rfl, _, _, rfl, rfl, ⟨g0, by omega⟩, by show 2 ≤ sizeLine; decide, fun p hp => k p hp⟩
      · have e1 : (!decide (V.int c = V.int 0)) = true := by simp [hc]
        rw [e1]
        refine iteT ?_
        have cp : 0 < c := by omega
        refine ⟨_, rfl, _, rfl, _, rfl, _, _, rfl, rfl, cp, _, _, rfl, ⟨rfl, c, a % c, rfl, Int.emod_nonneg _ hc, gcd_emod.trans e⟩, ?_⟩
        have h1 := Int.emod_lt_of_pos a cp
        have h2 := Int.emod_nonneg a hc
        show (a % c).toNat < c.toNat
        omega
    · rintro σ H' Q1 Q2 himp ⟨v, e, sc, kk, ek, q⟩
      exact ⟨v, e, sc, kk, ek, himp _ _ q⟩
theorem scLPurse : FnScope ["bag", "way"] ["bag"] (defScope (top 28)) := ⟨rfl, rfl, rfl, by decide +kernel, rfl, by decide +kernel, by decide +kernel⟩
theorem ok_lpurse {f fT fF : Addr} {fd dT dF : FuncData} (F : Fun K "_law_purse" "_law_purse" (top 28) f fd) (T : Cal K mg P w base "_law_take" 1 ["bag", "many"] spTake fT dT) (R : Cal K mg P w base "_law_frac" 1 ["top", "bottom"] spFrac fF dF) : FnOk P w K mg base CX0 2 f fd ["bag"] spPu := by
  refine F.ok scLPurse (fun vs H Q E h => ?_) (fun cdv A outer s H vs Q E hr h => ?_)
  · obtain ⟨b, rfl, _⟩ := h; rfl
  · obtain ⟨b, rfl, hb, k⟩ := h
    refine ⟨_, pss_cons (ps_set (i := 1) scLPurse.nd rfl (Or.inl rfl) (pe_call T.ok hr rfl T.mg T.kp T.bd .nil pass0 (pa_cons (pv 0) (pa_cons pe_int pa_nil))))
      (pss_cons (ps_if (pt_cmpR op_eq (pv 1) pe_int (nomark _)) (pss_one (ps_ret (pe_tup (pa_cons (pe_op op_add pe_int (pe_call T.ok hr rfl T.mg T.kp T.bd .nil pass0 (pa_cons (pv 0) (pa_cons pe_int pa_nil)))) (pa_cons pe_int pa_nil))))) pss_nil)
      (pss_cons (ps_if (pt_cmpR op_eq (pv 1) pe_int (nomark _)) (pss_one (ps_ret (pe_tup (pa_cons (pe_op op_add pe_int (pe_call T.ok hr rfl T.mg T.kp T.bd .nil pass0 (pa_cons (pv 0) (pa_cons (pe_op op_pow pe_int pe_int) pa_nil)))) (pa_cons pe_int pa_nil))))) pss_nil)
      (pss_cons (ps_if (pt_cmpR op_eq (pv 1) pe_int (nomark _)) (pss_one (ps_ret (pe_call R.ok hr rfl R.mg R.kp R.bd .nil pass0 (pa_cons (pe_op op_add pe_int (pe_call T.ok hr rfl T.mg T.kp T.bd .nil pass0 (pa_cons (pv 0) (pa_cons (pe_op op_pow pe_int pe_int) pa_nil)))) (pa_cons (pe_op op_add pe_int (pe_call T.ok hr rfl T.mg T.kp T.bd .nil pass0 (pa_cons (pv 0) (pa_cons (pe_op op_pow pe_int pe_int) pa_nil)))) pa_nil))))) pss_nil)
      (pss_one (ps_ret (pe_call R.ok hr rfl R.mg R.kp R.bd .nil pass0 (pa_cons (pe_op op_add pe_int (pe_call T.ok hr rfl T.mg T.kp T.bd .nil pass0 (pa_cons (pv 0) (pa_cons pe_int pa_nil)))) (pa_cons (pe_op op_add pe_int (pe_call T.ok hr rfl T.mg T.kp T.bd .nil pass0 (pa_cons (pv 0) (pa_cons pe_int pa_nil)))) pa_nil)))))))), ?_⟩
    refine ⟨_, rfl, b, _, rfl, hb, by decide, by decide, fun r H1 r0 r1 hb1 kp1 => ?_⟩
    refine ⟨_, rfl, rfl, _, rfl, ite2 (fun _ => ?_) (fun _ => ?_)⟩
    · refine ⟨_, rfl, b, _, rfl, hb1, by decide, by decide, fun r2 H2 p0 p1 hb2 kp2 => ⟨_, _, rfl, rfl, by show 2 ≤ sizeLine; decide, fun p hp => k _ _ _ (hb2.new hp) ((kp1.trans kp2).new hp) trI2 (purse_one (by omega) (by omega))⟩⟩
    refine ⟨_, rfl, rfl, _, rfl, ite2 (fun _ => ?_) (fun _ => ?_)⟩
    · refine ⟨_, rfl, _, _, rfl, rfl, ⟨by decide, by decide, by decide⟩, b, _, rfl, hb1, by decide, by decide, fun r2 H2 p0 p1 hb2 kp2 => ⟨_, _, rfl, rfl, by show 2 ≤ sizeLine; decide, fun p hp => ?_⟩⟩
      have p1' : r2 < 1000000 := p1
      exact k _ _ _ (hb2.new hp) ((kp1.trans kp2).new hp) trI2 (purse_one (by omega) (by omega))
    refine ⟨_, rfl, rfl, _, rfl, ite2 (fun _ => ?_) (fun _ => ?_)⟩
    · refine ⟨_, rfl, _, _, rfl, rfl, ⟨by decide, by decide, by decide⟩, b, _, rfl, hb1, by decide, by decide, fun r2 H2 p0 p1 hb2 kp2 => ⟨_, _, rfl, rfl, ?_⟩⟩
      refine ⟨_, rfl, _, _, rfl, rfl, ⟨by decide, by decide, by decide⟩, b, _, rfl, hb2, by decide, by decide, fun r3 H3 q0 q1 hb3 kp3 => ⟨_, _, rfl, rfl, ?_⟩⟩
      have p1' : r2 < 1000000 := p1
      have q1' : r3 < 1000000 := q1
      exact ⟨_, _, rfl, by omega, by omega, fun p hp => k _ _ _ (hb3.new hp) (((kp1.trans kp2).trans kp3).new hp) trI2 (purse_low (by omega) (by omega) (by omega) (by omega))⟩
    · refine ⟨_, rfl, b, _, rfl, hb1, by decide, by decide, fun r2 H2 p0 p1 hb2 kp2 => ⟨_, _, rfl, rfl, ?_⟩⟩
      refine ⟨_, rfl, b, _, rfl, hb2, by decide, by decide, fun r3 H3 q0 q1 hb3 kp3 => ⟨_, _, rfl, rfl, ?_⟩⟩
      exact ⟨_, _, rfl, by omega, by omega, fun p hp => k _ _ _ (hb3.new hp) (((kp1.trans kp2).trans kp3).new hp) trI2 (purse_low (by omega) (by omega) (by omega) (by omega))⟩
theorem scWishes : FnScope ["bag", "goods", "most", "row", "at"] ["bag", "goods"] (defScope (top 29)) := ⟨rfl, rfl, rfl, by decide +kernel, rfl, by decide +kernel, by decide +kernel⟩
theorem ok_wishes {f fT : Addr} {fd dT : FuncData} (F : Fun K "_law_wishes" "_law_wishes" (top 29) f fd) (B : Nm mg) (T : Cal K mg P w base "_law_take" 1 ["bag", "many"] spTake fT dT) : FnOk P w K mg base CX0 2 f fd ["bag", "goods"] spWi := by
  refine F.ok scWishes (fun vs H Q E h => ?_) (fun cdv A outer s H vs Q E hr h => ?_)
  · obtain ⟨b, g, rfl, _⟩ := h; rfl
  · obtain ⟨b, g, rfl, hb, g0, g1, k⟩ := h
    refine ⟨_, pss_cons (ps_set (i := 2) scWishes.nd rfl (Or.inr rfl) (pe_ix ix_list (pe_lst (pa_cons pe_int (pa_cons pe_int (pa_cons pe_int (pa_cons pe_int (pa_cons pe_int pa_nil)))))) (pe_call T.ok hr rfl T.mg T.kp T.bd .nil pass0 (pa_cons (pv 0) (pa_cons pe_int pa_nil))) (fun _ _ => rfl)))
      (pss_cons (ps_setC (i := 3) (own := ["k"]) (cap := ["bag", "most"]) (ix := [0, 2]) scWishes.nd rfl rfl (BlkOk.of (defScope (top 29)).names ["bag", "goods", "most", "row", "at"]) rfl (pi_range1 rfl B.range (pa_cons (pv 1) pa_nil))
        (fun C fp s H => ⟨pg_name (i := 0) (show List.Nodup (["k", "bag", "most"] : List Str) by decide +kernel) rfl (Or.inl rfl), pifs_nil, pe_call T.ok hr rfl T.mg T.kp T.bd .nil pass0 (pa_cons (pv 1) (pa_cons (pv 2) pa_nil))⟩))
      (pss_cons (ps_set (i := 4) scWishes.nd rfl (Or.inl rfl) (pe_call T.ok hr rfl T.mg T.kp T.bd .nil pass0 (pa_cons (pv 0) (pa_cons (pv 1) pa_nil))))
      (pss_cons (ps_asg (pe_callB (call_max2 rfl) (by rfl) B.max boot_max (pa_cons pe_int (pa_cons (pe_ix ix_list (pv 3) (pv 4) (fun _ _ => rfl)) pa_nil))) (pg_sub (pv 3) (pv 4) set_list))
      (pss_one (ps_ret (pe_callTy call_tuple_of (by rfl) B.tuple boot_tuple (pa_cons (pv 3) pa_nil))))))), ?_⟩
    refine ⟨by show 5 ≤ sizeLine; decide, fun p hp => ⟨_, rfl, b, _, rfl, hb.new hp, by decide, by decide, fun r H1 r0 r1 hb1 kp1 => ?_⟩⟩
    have np := hb.ne hp
    obtain ⟨m, em, m0, m1⟩ := menu5b r0 r1
    refine ⟨p, _, _, _, rfl, rfl, SqL.of (kp1 p _ np.symm upd_same), em, ?_⟩
    have kp1' : Kp b H H1 := ((Kp.refl b H).new hp).trans kp1
    refine ⟨_, rfl, g, rfl, by omega, by omega, fun acc hacc => ?_⟩
    have nacc := hb1.ne hacc
    refine comp_range (fun i ys H' => Bag H' b ∧ Kp b H1 H' ∧ ∃ ns : List Int, ys = ns.map V.int ∧ ns.length = i ∧ ∀ n ∈ ns, 0 ≤ n ∧ n ≤ 100) ⟨hb1.new hacc, (Kp.refl b H1).new hacc, [], rfl, rfl, fun n hn => nomatch hn⟩ ?_ ?_
    · rintro i ys H' hi hy ⟨hb', kp', ns, rfl, hl, hnn⟩
      refine yes_i ?_
      refine ⟨_, rfl, _, rfl, b, m, rfl, hb', m0, by omega, fun r2 H5 p0 p1 hb5 kp5 => ⟨_, kp5 acc _ nacc.symm hy, ?_, Cn.of upd_same ⟨?_, (kp'.trans kp5).acc hacc, ns ++ [r2], ?_, ?_, ?_⟩⟩⟩
      · rw [List.length_map, sz]; omega
      · obtain ⟨c, d, e⟩ := hb5
        exact ⟨c, d, by rw [upd_ne nacc]; exact e⟩
      · rw [List.map_append]; rfl
      · rw [List.length_append, hl]; rfl
      · intro n hn
        rcases List.mem_append.mp hn with z | z
        · exact hnn n z
        · obtain rfl : n = r2 := by simpa using z
          exact ⟨p0, by omega⟩
    · rintro ys H' hy ⟨hb', kp', ns, rfl, hl, hnn⟩
      refine ⟨_, rfl, _, rfl, b, g, rfl, hb', g0, by omega, fun r2 H5 p0 p1 hb5 kp5 => ?_⟩
      have hy5 := kp5 acc _ nacc.symm hy
      obtain ⟨ea, ex, em2⟩ := atI_ints (ns := ns) p0 (by omega)
      refine ⟨_, rfl, _, rfl, acc, _, _, _, rfl, rfl, SqL.of hy5, ea, _, _, rfl, ?_⟩
      refine ⟨_, rfl, _, rfl, acc, _, _, r2.toNat, rfl, rfl, hy5, ex, ?_⟩
      have es : (ns.map V.int).set r2.toNat (V.int (if ns.getD r2.toNat 0 > 1 then ns.getD r2.toNat 0 else 1)) = (ns.set r2.toNat (if ns.getD r2.toNat 0 > 1 then ns.getD r2.toNat 0 else 1)).map V.int := by rw [List.map_set]
      refine ⟨_, rfl, acc, _, rfl, .inl ⟨SqL.of upd_same, fun l hl2 => ?_⟩⟩
      have kk : Kp b H H5 := (kp1'.trans kp').trans kp5
      have hHacc : H acc = none := kp1'.free hb hacc hb1
      have hb6 : Bag (upd H5 acc (.lst ((ns.map V.int).set r2.toNat (V.int (if ns.getD r2.toNat 0 > 1 then ns.getD r2.toNat 0 else 1))))) b := by
        obtain ⟨c, d, e⟩ := hb5
        exact ⟨c, d, by rw [upd_ne nacc]; exact e⟩
      refine k l (ns.set r2.toNat (if ns.getD r2.toNat 0 > 1 then ns.getD r2.toNat 0 else 1)) _ (hb6.new hl2) ((kk.acc hHacc).new hl2) ?_ ?_ ?_ ⟨(if ns.getD r2.toNat 0 > 1 then ns.getD r2.toNat 0 else 1), List.mem_of_getElem? (i := r2.toNat) (List.getElem?_set_self (by omega)), by split <;> omega⟩
      · rw [upd_same, es]
      · rw [List.length_set, hl]; omega
      · intro n hn
        rcases List.mem_or_eq_of_mem_set hn with z | z
        · exact hnn n z
        · rw [z]; have := hnn _ em2; split <;> omega
theorem scMarket : FnScope ["bag", "goods", "buyers", "most", "amounts", "purses", "wishes"] ["bag"] (defScope (top 30)) := ⟨rfl, rfl, rfl, by decide +kernel, rfl, by decide +kernel, by decide +kernel⟩
theorem ok_market {f fT fP fW : Addr} {fd dT dP dW : FuncData} (F : Fun K "_law_market" "_law_market" (top 30) f fd) (B : Nm mg) (T : Cal K mg P w base "_law_take" 1 ["bag", "many"] spTake fT dT)
    (R : Cal K mg P w base "_law_purse" 2 ["bag"] spPu fP dP) (W : Cal K mg P w base "_law_wishes" 2 ["bag", "goods"] spWi fW dW) : FnOk P w K mg base CX0 3 f fd ["bag"] spMk := by
  refine F.ok scMarket (fun vs H Q E h => ?_) (fun cdv A outer s H vs Q E hr h => ?_)
  · obtain ⟨b, rfl, _⟩ := h; rfl
  · obtain ⟨b, rfl, hb, k⟩ := h
    have hr1 : Room 1 _ := hr.mono (by decide)
    refine ⟨_, pss_cons (ps_set (i := 1) scMarket.nd rfl (Or.inr rfl) (pe_op op_add pe_int (pe_call T.ok hr1 rfl T.mg T.kp T.bd .nil pass0 (pa_cons (pv 0) (pa_cons (pe_ix ix_list (pe_lst (pa_cons pe_int (pa_cons pe_int pa_nil))) (pe_call T.ok hr1 rfl T.mg T.kp T.bd .nil pass0 (pa_cons (pv 0) (pa_cons pe_int pa_nil))) (fun _ _ => rfl)) pa_nil)))))
      (pss_cons (ps_set (i := 2) scMarket.nd rfl (Or.inl rfl) (pe_op op_add pe_int (pe_call T.ok hr1 rfl T.mg T.kp T.bd .nil pass0 (pa_cons (pv 0) (pa_cons (pe_ix ix_list (pe_lst (pa_cons pe_int (pa_cons pe_int pa_nil))) (pe_call T.ok hr1 rfl T.mg T.kp T.bd .nil pass0 (pa_cons (pv 0) (pa_cons pe_int pa_nil))) (fun _ _ => rfl)) pa_nil)))))
      (pss_cons (ps_set (i := 3) scMarket.nd rfl (Or.inr rfl) (pe_ix ix_list (pe_lst (pa_cons pe_int (pa_cons pe_int (pa_cons pe_int pa_nil)))) (pe_call T.ok hr1 rfl T.mg T.kp T.bd .nil pass0 (pa_cons (pv 0) (pa_cons pe_int pa_nil))) (fun _ _ => rfl)))
      (pss_cons (ps_set (i := 4) scMarket.nd rfl (Or.inl rfl) (pe_callTy call_tuple_of (by rfl) B.tuple boot_tuple (pa_cons (pe_comp (own := ["k"]) (cap := ["bag", "most"]) (ix := [0, 3]) (BlkOk.of (defScope (top 30)).names ["bag", "goods", "buyers", "most", "amounts", "purses", "wishes"]) rfl (pi_range1 rfl B.range (pa_cons (pv 1) pa_nil))
        (fun C fp s H => ⟨pg_name (i := 0) (show List.Nodup (["k", "bag", "most"] : List Str) by decide +kernel) rfl (Or.inl rfl), pifs_nil, pe_op op_add pe_int (pe_call T.ok hr1 rfl T.mg T.kp T.bd .nil pass0 (pa_cons (pv 1) (pa_cons (pv 2) pa_nil)))⟩)) pa_nil)))
      (pss_cons (ps_set (i := 5) scMarket.nd rfl (Or.inl rfl) (pe_callTy call_tuple_of (by rfl) B.tuple boot_tuple (pa_cons (pe_comp (own := ["k"]) (cap := ["bag"]) (ix := [0]) (BlkOk.of (defScope (top 30)).names ["bag", "goods", "buyers", "most", "amounts", "purses", "wishes"]) rfl (pi_range1 rfl B.range (pa_cons (pv 2) pa_nil))
        (fun C fp s H => ⟨pg_name (i := 0) (show List.Nodup (["k", "bag"] : List Str) by decide +kernel) rfl (Or.inl rfl), pifs_nil, pe_call R.ok hr rfl R.mg R.kp R.bd .nil pass0 (pa_cons (pv 1) pa_nil)⟩)) pa_nil)))
      (pss_cons (ps_set (i := 6) scMarket.nd rfl (Or.inl rfl) (pe_callTy call_tuple_of (by rfl) B.tuple boot_tuple (pa_cons (pe_comp (own := ["k"]) (cap := ["bag", "goods"]) (ix := [0, 1]) (BlkOk.of (defScope (top 30)).names ["bag", "goods", "buyers", "most", "amounts", "purses", "wishes"]) rfl (pi_range1 rfl B.range (pa_cons (pv 2) pa_nil))
        (fun C fp s H => ⟨pg_name (i := 0) (show List.Nodup (["k", "bag", "goods"] : List Str) by decide +kernel) rfl (Or.inl rfl), pifs_nil, pe_call W.ok hr rfl W.mg W.kp W.bd .nil pass0 (pa_cons (pv 1) (pa_cons (pv 2) pa_nil))⟩)) pa_nil)))
      (pss_one (ps_ret (pe_tup (pa_cons (pv 4) (pa_cons (pv 5) (pa_cons (pv 6) pa_nil))))))))))), ?_⟩
    -- goods
    refine ⟨_, rfl, by show 2 ≤ sizeLine; decide, fun p1 hp1 => ⟨_, rfl, b, _, rfl, hb.new hp1, by decide, by decide, fun r1 H1 r1a r1b hb1 kp1 => ?_⟩⟩
    obtain ⟨m1, em1, m1a, m1b⟩ := menu2 r1a r1b
    refine ⟨p1, _, _, _, rfl, rfl, SqL.of (kp1 p1 _ (hb.ne hp1).symm upd_same), em1, b, m1, rfl, hb1, m1a, by omega, fun g H2 g0 g1 hb2 kp2 => ⟨_, _, rfl, rfl, ?_⟩⟩
    have k2 : Kp b H H2 := (((Kp.refl b H).new hp1).trans kp1).trans kp2
    -- buyers
    refine ⟨_, rfl, by show 2 ≤ sizeLine; decide, fun p3 hp3 => ⟨_, rfl, b, _, rfl, hb2.new hp3, by decide, by decide, fun r3 H3 r3a r3b hb3 kp3 => ?_⟩⟩
    obtain ⟨m3, em3, m3a, m3b⟩ := menu2 r3a r3b
    refine ⟨p3, _, _, _, rfl, rfl, SqL.of (kp3 p3 _ (hb2.ne hp3).symm upd_same), em3, b, m3, rfl, hb3, m3a, by omega, fun u H4 u0 u1 hb4 kp4 => ⟨_, _, rfl, rfl, ?_⟩⟩
    have k4 : Kp b H H4 := ((k2.new hp3).trans kp3).trans kp4
    -- most
    refine ⟨by show 3 ≤ sizeLine; decide, fun p5 hp5 => ⟨_, rfl, b, _, rfl, hb4.new hp5, by decide, by decide, fun r5 H5 r5a r5b hb5 kp5 => ?_⟩⟩
    obtain ⟨m5, em5, m5a, m5b⟩ := menu3c r5a r5b
    refine ⟨p5, _, _, _, rfl, rfl, SqL.of (kp5 p5 _ (hb4.ne hp5).symm upd_same), em5, ?_⟩
    have k5 : Kp b H H5 := (k4.new hp5).trans kp5
    -- amounts
    refine ⟨_, rfl, 1 + g, rfl, by omega, by omega, fun a6 ha6 => ?_⟩
    refine comp_bag hb5 ha6 (by omega) RA (fun _ _ _ _ h => h) (fun i H' hi hb' kp' Z hZ => ?_) (fun am H6 hb6 kp6 hl6 hr6 hy6 => ?_)
    · exact ⟨_, rfl, _, rfl, b, m5, rfl, hb', m5a, by omega, fun r H7 q0 q1 hb7 kp7 => ⟨_, _, rfl, rfl, hZ _ _ hb7 kp7 ⟨_, rfl, by omega, by omega⟩⟩⟩
    refine ⟨a6, am, rfl, .inl ⟨SqL.of hy6, fun pa hpa => ?_⟩⟩
    have k6 := (k5.trans kp6).new (o := .tup am) hpa
    have b6 := hb6.new (o := .tup am) hpa
    -- purses
    refine ⟨_, rfl, 1 + u, rfl, by omega, by omega, fun a7 ha7 => ?_⟩
    refine comp_bag b6 ha7 (by omega) RP (fun _ _ _ t h => by obtain ⟨a, t1, u1, e, h1, h2⟩ := h; exact ⟨a, t1, u1, e, t _ _ h1, h2⟩) (fun i H' hi hb' kp' Z hZ => ?_) (fun pu H7 hb7 kp7 hl7 hr7 hy7 => ?_)
    · exact ⟨_, rfl, b, rfl, hb', fun v d H8 hb8 kp8 tr pu => hZ _ _ hb8 kp8 (RP.of tr pu)⟩
    refine ⟨a7, pu, rfl, .inl ⟨SqL.of hy7, fun pp hpp => ?_⟩⟩
    have k7 := (k6.trans kp7).new (o := .tup pu) hpp
    have b7 := hb7.new (o := .tup pu) hpp
    -- wishes
    refine ⟨_, rfl, 1 + u, rfl, by omega, by omega, fun a8 ha8 => ?_⟩
    refine comp_bag b7 ha8 (by omega) (RW (1 + g)) (fun _ _ _ t h => by obtain ⟨a, ns, e, h1, h2⟩ := h; exact ⟨a, ns, e, t _ _ h1, h2⟩) (fun i H' hi hb' kp' Z hZ => ?_) (fun ws H8 hb8 kp8 hl8 hw8 hy8 => ?_)
    · exact ⟨_, rfl, _, rfl, b, 1 + g, rfl, hb', by omega, by omega, fun q ns H9 hb9 kp9 e1 e2 e3 e4 => hZ _ _ hb9 kp9 ⟨q, ns, rfl, e1, e2, e3, e4⟩⟩
    refine ⟨a8, ws, rfl, .inl ⟨SqL.of hy8, fun pw hpw => ?_⟩⟩
    have k8 := (k7.trans kp8).new (o := .tup ws) hpw
    have b8 := hb8.new (o := .tup ws) hpw
    refine ⟨_, rfl, _, rfl, _, rfl, by show 3 ≤ sizeLine; decide, fun p hp => ?_⟩
    have tB : Tm H7 (upd (upd H8 pw (.tup ws)) p (.tup [.ref pa, .ref pp, .ref pw])) := ((Tm.new hpp).trans ((kp8.tm b7).trans (Tm.new hpw))).trans (Tm.new hp)
    have tB2 : Tm (upd H7 pp (.tup pu)) (upd (upd H8 pw (.tup ws)) p (.tup [.ref pa, .ref pp, .ref pw])) := ((kp8.tm b7).trans (Tm.new hpw)).trans (Tm.new hp)
    have tA : Tm (upd H6 pa (.tup am)) (upd (upd H8 pw (.tup ws)) p (.tup [.ref pa, .ref pp, .ref pw])) := (kp7.tm b6).trans tB
    have tC : Tm H8 (upd (upd H8 pw (.tup ws)) p (.tup [.ref pa, .ref pp, .ref pw])) := (Tm.new hpw).trans (Tm.new hp)
    have hpa2 := tA pa _ upd_same
    have hpp2 := tB2 pp _ upd_same
    have hpw2 := (Tm.new (o := .tup [.ref pa, .ref pp, .ref pw]) hp) pw _ upd_same
    have hgn : ((1 + g).toNat : Int) = 1 + g := by omega
    obtain ⟨da, ta, sa⟩ := trAll (b := b) (ys := am) fun y hy => RA.tr (H := upd (upd H8 pw (.tup ws)) p (.tup [.ref pa, .ref pp, .ref pw])) (hr6 y hy)
    obtain ⟨dp, tp, sp⟩ := trAll (b := b) (ys := pu) fun y hy => RP.tr (H := upd (upd H8 pw (.tup ws)) p (.tup [.ref pa, .ref pp, .ref pw])) (by obtain ⟨a, t1, u1, e, h1, h2⟩ := hr7 y hy; exact ⟨a, t1, u1, e, tB _ _ h1, h2⟩)
    obtain ⟨dw, tw, sw⟩ := trAll (b := b) (ys := ws) fun y hy => RW.tr (g := (1 + g).toNat) (H := upd (upd H8 pw (.tup ws)) p (.tup [.ref pa, .ref pp, .ref pw])) (by obtain ⟨a, ns, e, h1, h2⟩ := hw8 y hy; exact ⟨a, ns, e, tC _ _ h1, by rw [hgn]; exact h2⟩)
    have la := ta.len
    have lp := tp.len
    have lw := tw.len
    have eg : (1 + g).toNat = da.length := by omega
    rw [eg] at sw
    obtain ⟨sw, spo⟩ := all_both sw
    refine k p da dp dw _ (b8.new hp) (k8.new hp) (.tup upd_same (.cons (.tup hpa2 ta) (.cons (.tup hpp2 tp) (.cons (.tup hpw2 tw) .nil)))) (isMk_of (by omega) (by omega) sa (by omega) (by omega) sp (by omega) sw) spo
end
end K11

set_option Elab.async false
set_option linter.all false
set_option maxRecDepth 100000
set_option maxHeartbeats 4000000
namespace K11
open PySem L2 KG EX KM
section
variable {P : Program} {w : World} {K : PySem.W.Frag} {mg : Str → Option Value} {base : Heap}
theorem scGcdN : FnScope ["one", "other"] ["one", "other"] (defScope (top 5)) := ⟨rfl, rfl, rfl, by decide +kernel, rfl, by decide +kernel, by decide +kernel⟩
theorem ok_gcdN {f : Addr} {fd : FuncData} (F : Fun K "common_divisor" "common_divisor" (top 5) f fd) (N : Nm mg) : FnOk P w K mg base CX0 1 f fd ["one", "other"] spGcdN := by
  refine F.ok scGcdN (fun vs H Q E h => ?_) (fun cdv A outer s H vs Q E hr h => ?_)
  · obtain ⟨t, u, rfl, _⟩ := h; rfl
  · obtain ⟨t, u, rfl, k⟩ := h
    refine ⟨_, pss_cons (ps_while PassesOwn.never (pt_cmpR op_ne (pv 1) pe_int (nomark _)) (pss_one (ps_par (i := 0) (j := 1) rfl scGcdN.nd rfl rfl (by decide) rfl rfl (pa_cons (pv 1) (pa_cons (pe_op op_modN (pv 0) (pv 1)) pa_nil)) (by rfl))))
      (pss_one (ps_ret (pe_callB call_abs (by rfl) N.abs boot_abs (pa_cons (pv 0) pa_nil)))), ?_⟩
    refine while_by (fun σ H' => H' = H ∧ ∃ a c : Int, σ = [some (.int a), some (.int c)] ∧ Int.gcd a c = Int.gcd t u)
      (fun σ _ => match σ with | [_, some (.int c)] => c.natAbs | _ => 0) ⟨rfl, t, u, rfl, rfl⟩ ?_ ?_
    · rintro σ H' ⟨rfl, a, c, rfl, e⟩
      refine ⟨_, rfl, rfl, _, rfl, ?_⟩
      by_cases hc : c = 0
      · subst hc
        refine iteF ?_
        refine ⟨_, rfl, _, rfl, ?_⟩
        rw [abs_gcd0, e]
        exact k
      · have e1 : (!decide (V.int c = V.int 0)) = true := by simp [hc]
        rw [e1]
        refine iteT ?_
        exact ⟨_, rfl, _, rfl, _, rfl, _, _, rfl, rfl, hc, _, _, rfl, ⟨rfl, c, a.fmod c, rfl, gcd_fmod.trans e⟩, fmod_lt hc⟩
    · rintro σ H' Q1 Q2 himp ⟨v, e, sc, kk, ek, q⟩
      exact ⟨v, e, sc, kk, ek, himp _ _ q⟩
theorem scFr : FnScope ["top", "bottom", "divisor"] ["top", "bottom"] (defScope (top 6)) := ⟨rfl, rfl, rfl, by decide +kernel, rfl, by decide +kernel, by decide +kernel⟩
theorem ok_fraction {f fG Nn : Addr} {fd dG : FuncData} (F : Fun K "fraction" "fraction" (top 6) f fd) (mgNn : mg "NoNumber" = some (.ref Nn)) (exN : PySem.W.excIn K Nn [.type "ValueError", .type "Exception", .type "BaseException", .type "object"] "ValueError.__new__" = true) (G : Cal K mg P w base "common_divisor" 1 ["one", "other"] spGcdN fG dG) : FnOk P w K mg base (CXF P w) 2 f fd ["top", "bottom"] (spFr Nn) := by
  refine F.okX scFr (fun vs H Q E h => ?_) (fun cdv A outer s H vs Q E hr h => ?_)
  · obtain ⟨t, u, rfl, _⟩ := h; rfl
  · obtain ⟨t, u, rfl, hb, k0, k1⟩ := h
    refine ⟨_, pss_cons (ps_if (pt_cmpR op_eq (pv 1) pe_int (nomark _)) (pss_one (ps_raise PySem.F.excBase_ValueError rfl mgNn exN (pa_cons pe_str pa_nil))) pss_nil)
      (pss_cons (ps_set (i := 2) scFr.nd rfl (Or.inl rfl) (pe_call G.ok hr rfl G.mg G.kp G.bd .nil pass0 (pa_cons (pv 0) (pa_cons (pv 1) pa_nil))))
      (pss_cons (ps_if (pt_cmpR op_lt (pv 1) pe_int (nomark _)) (pss_one (ps_set (i := 2) scFr.nd rfl (Or.inl rfl) (pe_un un_neg (pv 2)))) pss_nil)
      (pss_one (ps_ret (pe_tup (pa_cons (pe_op op_fdivBN (pv 0) (pv 2)) (pa_cons (pe_op op_fdivBN (pv 1) (pv 2)) pa_nil))))))), ?_⟩
    refine ⟨_, rfl, rfl, _, rfl, ?_⟩
    by_cases hu : u = 0
    · subst hu
      exact iteT ⟨by show 1 ≤ sizeLine; decide, k0 rfl⟩
    have e1 : decide (V.int u = V.int 0) = false := by simp [hu]
    rw [e1]
    refine iteF ?_
    refine ⟨_, rfl, _, rfl, t, u, rfl, ?_⟩
    refine ⟨_, rfl, _, _, rfl, rfl, _, rfl, ?_⟩
    have hs := (nf_spec (t := t) hu).2.2.2.1
    have hsb := sg_bd (t := t) hb hu
    obtain ⟨q1, q2⟩ := nf_rat (T := t) hu
    have k1' : ∀ p, H p = none → Q (.ref p) (upd H p (.tup [.int (nx t u), .int (ny t u)])) := fun p hp => by rw [q1, q2]; exact k1 hu p hp
    have fin : ∀ d : Int, d = sg t u → (tRet (tTup (tCons (tOp (rI (fun _ j => j ≠ 0 ∧ Bd 8000 j) fun i j => .int (i.fdiv j)) (tVar 0) (tVar 2)) (tCons (tOp (rI (fun _ j => j ≠ 0 ∧ Bd 8000 j) fun i j => .int (i.fdiv j)) (tVar 1) (tVar 2)) tNil)))) { nx := fun _ H' => Q .non H', rt := Q } [some (.int t), some (.int u), some (.int d)] H := fun d hd => by
      subst hd
      exact ⟨_, rfl, _, rfl, _, _, rfl, rfl, ⟨hs, hsb⟩, _, rfl, _, rfl, _, _, rfl, rfl, ⟨hs, hsb⟩, by show 2 ≤ sizeLine; decide, fun p hp => k1' p hp⟩
    by_cases hn : u < 0
    · rw [decide_eq_true hn]
      exact iteT ⟨_, rfl, _, rfl, fin _ (by unfold sg; rw [if_pos hn])⟩
    · rw [decide_eq_false hn]
      exact iteF (fin _ (by unfold sg; rw [if_neg hn]))
theorem scLf : FnScope ["top", "bottom", "one", "other", "by"] ["top", "bottom"] (defScope (top 21)) := ⟨rfl, rfl, rfl, by decide +kernel, rfl, by decide +kernel, by decide +kernel⟩
theorem ok_lf {f : Addr} {fd : FuncData} (F : Fun K "_law_frac" "_law_frac" (top 21) f fd) (B : Nm mg) : FnOk P w K mg base CX0 1 f fd ["top", "bottom"] spLf := by
  refine F.ok scLf (fun vs H Q E h => ?_) (fun cdv A outer s H vs Q E hr h => ?_)
  · obtain ⟨t, u, rfl, _⟩ := h; rfl
  · obtain ⟨t, u, rfl, u0, u1, k⟩ := h
    refine ⟨_, pss_cons (ps_par (i := 2) (j := 3) rfl scLf.nd rfl rfl (by decide) rfl rfl (pa_cons (pv 0) (pa_cons (pv 1) pa_nil)) (by rfl))
      (pss_cons (ps_while PassesOwn.never (pt_cmpR op_ne (pv 3) pe_int (nomark _)) (pss_one (ps_par (i := 2) (j := 3) rfl scLf.nd rfl rfl (by decide) rfl rfl (pa_cons (pv 3) (pa_cons (pe_op op_modN (pv 2) (pv 3)) pa_nil)) (by rfl))))
      (pss_cons (ps_set (i := 4) scLf.nd rfl (Or.inl rfl) (pe_op op_mul (pe_callB call_abs (by rfl) B.abs boot_abs (pa_cons (pv 2) pa_nil)) (pe_op op_sub pe_int (pe_op op_mul pe_int (pe_callTy call_int1 (by rfl) B.int boot_int (pa_cons (pe_cmpR op_lt (pv 1) pe_int (nomark _)) pa_nil))))))
      (pss_one (ps_ret (pe_tup (pa_cons (pe_op op_fdivBN (pv 0) (pv 4)) (pa_cons (pe_op op_fdivBN (pv 1) (pv 4)) pa_nil))))))), ?_⟩
    have hu : u ≠ 0 := by omega
    obtain ⟨q1, q2⟩ := nf_rat (T := t) hu
    have k' : ∀ p, H p = none → Q (.ref p) (upd H p (.tup [.int (nx t u), .int (ny t u)])) := fun p hp => by rw [q1, q2]; exact k p hp
    have hs := (nf_spec (t := t) hu).2.2.2.1
    have hsb := sg_bd (t := t) u1 hu
    have esg : (Int.gcd t u : Int) = sg t u := by unfold sg; rw [if_neg (by omega)]
    refine ⟨_, rfl, _, rfl, _, _, rfl, ?_⟩
    refine while_by (fun σ H' => H' = H ∧ ∃ a c : Int, σ = [some (.int t), some (.int u), some (.int a), some (.int c), none] ∧ Int.gcd a c = Int.gcd t u)
      (fun σ _ => match σ with | [_, _, _, some (.int c), _] => c.natAbs | _ => 0) ⟨rfl, t, u, rfl, rfl⟩ ?_ ?_
    · rintro σ H' ⟨rfl, a, c, rfl, e⟩
      refine ⟨_, rfl, rfl, _, rfl, ?_⟩
      by_cases hc : c = 0
      · subst hc
        refine iteF ?_
        refine ⟨_, rfl, _, rfl, _, rfl, _, _, rfl, rfl, .inr ⟨_, rfl, _, _, rfl, rfl, .inl ⟨by decide, by decide⟩, _, _, rfl, rfl, ?_⟩⟩
        have e2 : decide (u < 0) = false := decide_eq_false (by omega)
        rw [abs_gcd0, e, e2, esg]
        have e3 : sg t u * (1 - 2 * (if false = true then (1 : Int) else 0)) = sg t u := by simp
        refine ⟨_, _, rfl, rfl, .inr ⟨by decide, by decide⟩, ?_⟩
        show gName 4 (V.int (sg t u * (1 - 2 * (if false = true then (1 : Int) else 0)))) _ _ _
        rw [e3]
        exact ⟨_, rfl, _, rfl, _, _, rfl, rfl, ⟨hs, hsb⟩, _, rfl, _, rfl, _, _, rfl, rfl, ⟨hs, hsb⟩, by show 2 ≤ sizeLine; decide, fun p hp => k' p hp⟩
      · have e1 : (!decide (V.int c = V.int 0)) = true := by simp [hc]
        rw [e1]
        refine iteT ?_
        exact ⟨_, rfl, _, rfl, _, rfl, _, _, rfl, rfl, hc, _, _, rfl, ⟨rfl, c, a.fmod c, rfl, gcd_fmod.trans e⟩, fmod_lt hc⟩
    · rintro σ H' Q1 Q2 himp ⟨v, e, sc, kk, ek, q⟩
      exact ⟨v, e, sc, kk, ek, himp _ _ q⟩
theorem sc_times : FnScope ["one", "other"] ["one", "other"] (defScope (top 7)) := ⟨rfl, rfl, rfl, by decide +kernel, rfl, by decide +kernel, by decide +kernel⟩
theorem ok_times {f fF Nn : Addr} {fd dF : FuncData} (F : Fun K "times" "times" (top 7) f fd) (G : CalX K mg P w base "fraction" 2 ["top", "bottom"] (spFr Nn) fF dF) : FnOk P w K mg base (CXF P w) 3 f fd ["one", "other"] (sp2 qTi) := by
  refine F.okX sc_times (fun vs H Q E h => ?_) (fun cdv A outer s H vs Q E hr h => ?_)
  · obtain ⟨p, q, a, b, rfl, _⟩ := h; rfl
  · obtain ⟨p, q, a, b, rfl, hp, hq, ⟨ba, bb⟩, ⟨bc, bd⟩, k⟩ := h
    have hb := den_pos a
    have hd := den_pos b
    refine ⟨_, pss_one (ps_ret (pe_call G.ok hr rfl G.mg G.kp G.bd .nil passF (pa_cons (pe_op op_mulB (pe_ix (ixT K) (pv 0) pe_int (fun _ _ => rfl)) (pe_ix (ixT K) (pv 1) pe_int (fun _ _ => rfl))) (pa_cons (pe_op op_mulB (pe_ix (ixT K) (pv 0) pe_int (fun _ _ => rfl)) (pe_ix (ixT K) (pv 1) pe_int (fun _ _ => rfl))) pa_nil)))), ?_⟩
    refine ⟨_, rfl, p, _, _, _, rfl, rfl, SqT.of hp, rfl, _, rfl, q, _, _, _, rfl, rfl, SqT.of hq, rfl, _, _, rfl, rfl, ⟨b3 ba, b3 bc⟩, _, rfl, p, _, _, _, rfl, rfl, SqT.of hp, rfl, _, rfl, q, _, _, _, rfl, rfl, SqT.of hq, rfl, _, _, rfl, rfl, ⟨b3 bb, b3 bd⟩, ?_⟩
    exact ⟨_, _, rfl, b6 (bb.mul bd), fun h0 => absurd h0 (Int.ne_of_gt (Int.mul_pos hb hd)), fun _ r hr' => by rw [mul_rat]; exact k r hr'⟩
theorem sc_law_mul : FnScope ["one", "other"] ["one", "other"] (defScope (top 24)) := ⟨rfl, rfl, rfl, by decide +kernel, rfl, by decide +kernel, by decide +kernel⟩
theorem ok_law_mul {f fF : Addr} {fd dF : FuncData} (F : Fun K "_law_mul" "_law_mul" (top 24) f fd) (G : Cal K mg P w base "_law_frac" 1 ["top", "bottom"] spLf fF dF) : FnOk P w K mg base CX0 2 f fd ["one", "other"] (sp2 qTi) := by
  refine F.ok sc_law_mul (fun vs H Q E h => ?_) (fun cdv A outer s H vs Q E hr h => ?_)
  · obtain ⟨p, q, a, b, rfl, _⟩ := h; rfl
  · obtain ⟨p, q, a, b, rfl, hp, hq, ⟨ba, bb⟩, ⟨bc, bd⟩, k⟩ := h
    have hb := den_pos a
    have hd := den_pos b
    refine ⟨_, pss_one (ps_ret (pe_call G.ok hr rfl G.mg G.kp G.bd .nil pass0 (pa_cons (pe_op op_mulB (pe_ix (ixT K) (pv 0) pe_int (fun _ _ => rfl)) (pe_ix (ixT K) (pv 1) pe_int (fun _ _ => rfl))) (pa_cons (pe_op op_mulB (pe_ix (ixT K) (pv 0) pe_int (fun _ _ => rfl)) (pe_ix (ixT K) (pv 1) pe_int (fun _ _ => rfl))) pa_nil)))), ?_⟩
    refine ⟨_, rfl, p, _, _, _, rfl, rfl, SqT.of hp, rfl, _, rfl, q, _, _, _, rfl, rfl, SqT.of hq, rfl, _, _, rfl, rfl, ⟨b3 ba, b3 bc⟩, _, rfl, p, _, _, _, rfl, rfl, SqT.of hp, rfl, _, rfl, q, _, _, _, rfl, rfl, SqT.of hq, rfl, _, _, rfl, rfl, ⟨b3 bb, b3 bd⟩, ?_⟩
    exact ⟨_, _, rfl, Int.mul_pos hb hd, b6 (bb.mul bd), fun r hr' => by rw [mul_rat]; exact k r hr'⟩
theorem scok_less : FnScope ["one", "other"] ["one", "other"] (defScope (top 9)) := ⟨rfl, rfl, rfl, by decide +kernel, rfl, by decide +kernel, by decide +kernel⟩
theorem ok_less {f : Addr} {fd : FuncData} (F : Fun K "less" "less" (top 9) f fd) : FnOk P w K mg base CX0 1 f fd ["one", "other"] spLess := by
  refine F.ok scok_less (fun vs H Q E h => ?_) (fun cdv A outer s H vs Q E hr h => ?_)
  · obtain ⟨p, q, a, b, rfl, _⟩ := h; rfl
  · obtain ⟨p, q, a, b, rfl, hp, hq, ⟨ba, bb⟩, ⟨bc, bd⟩, k⟩ := h
    have hb := den_pos a
    have hd := den_pos b
    refine ⟨_, pss_one (ps_ret (pe_cmpR op_lt (pe_op op_mulB (pe_ix (ixT K) (pv 0) pe_int (fun _ _ => rfl)) (pe_ix (ixT K) (pv 1) pe_int (fun _ _ => rfl))) (pe_op op_mulB (pe_ix (ixT K) (pv 1) pe_int (fun _ _ => rfl)) (pe_ix (ixT K) (pv 0) pe_int (fun _ _ => rfl))) (nomark _))), ?_⟩
    exact ⟨_, rfl, p, _, _, _, rfl, rfl, SqT.of hp, rfl, _, rfl, q, _, _, _, rfl, rfl, SqT.of hq, rfl, _, _, rfl, rfl, ⟨b3 ba, b3 bd⟩, _, rfl, q, _, _, _, rfl, rfl, SqT.of hq, rfl, _, rfl, p, _, _, _, rfl, rfl, SqT.of hp, rfl, _, _, rfl, rfl, ⟨b3 bc, b3 bb⟩, _, _, rfl, rfl, by simp only [lt_rat]; exact k⟩
theorem scok_law_less : FnScope ["one", "other"] ["one", "other"] (defScope (top 25)) := ⟨rfl, rfl, rfl, by decide +kernel, rfl, by decide +kernel, by decide +kernel⟩
theorem ok_law_less {f : Addr} {fd : FuncData} (F : Fun K "_law_less" "_law_less" (top 25) f fd) : FnOk P w K mg base CX0 1 f fd ["one", "other"] spLess := by
  refine F.ok scok_law_less (fun vs H Q E h => ?_) (fun cdv A outer s H vs Q E hr h => ?_)
  · obtain ⟨p, q, a, b, rfl, _⟩ := h; rfl
  · obtain ⟨p, q, a, b, rfl, hp, hq, ⟨ba, bb⟩, ⟨bc, bd⟩, k⟩ := h
    have hb := den_pos a
    have hd := den_pos b
    refine ⟨_, pss_one (ps_ret (pe_cmpR op_lt (pe_op op_mulB (pe_ix (ixT K) (pv 0) pe_int (fun _ _ => rfl)) (pe_ix (ixT K) (pv 1) pe_int (fun _ _ => rfl))) (pe_op op_mulB (pe_ix (ixT K) (pv 1) pe_int (fun _ _ => rfl)) (pe_ix (ixT K) (pv 0) pe_int (fun _ _ => rfl))) (nomark _))), ?_⟩
    exact ⟨_, rfl, p, _, _, _, rfl, rfl, SqT.of hp, rfl, _, rfl, q, _, _, _, rfl, rfl, SqT.of hq, rfl, _, _, rfl, rfl, ⟨b3 ba, b3 bd⟩, _, rfl, q, _, _, _, rfl, rfl, SqT.of hq, rfl, _, rfl, p, _, _, _, rfl, rfl, SqT.of hp, rfl, _, _, rfl, rfl, ⟨b3 bc, b3 bb⟩, _, _, rfl, rfl, by simp only [lt_rat]; exact k⟩

theorem scOver : FnScope ["one", "other"] ["one", "other"] (defScope (top 8)) := ⟨rfl, rfl, rfl, by decide +kernel, rfl, by decide +kernel, by decide +kernel⟩
theorem ok_over {f fF Nn : Addr} {fd dF : FuncData} (F : Fun K "over" "over" (top 8) f fd) (G : CalX K mg P w base "fraction" 2 ["top", "bottom"] (spFr Nn) fF dF) : FnOk P w K mg base (CXF P w) 3 f fd ["one", "other"] (spOver Nn) := by
  refine F.okX scOver (fun vs H Q E h => ?_) (fun cdv A outer s H vs Q E hr h => ?_)
  · obtain ⟨p, q, a, b, rfl, _⟩ := h; rfl
  · obtain ⟨p, q, a, b, rfl, hp, hq, ⟨ba, bb⟩, ⟨bc, bd⟩, k0, k1⟩ := h
    have hb := den_pos a
    have hd := den_pos b
    refine ⟨_, pss_one (ps_ret (pe_call G.ok hr rfl G.mg G.kp G.bd .nil passF (pa_cons (pe_op op_mulB (pe_ix (ixT K) (pv 0) pe_int (fun _ _ => rfl)) (pe_ix (ixT K) (pv 1) pe_int (fun _ _ => rfl))) (pa_cons (pe_op op_mulB (pe_ix (ixT K) (pv 0) pe_int (fun _ _ => rfl)) (pe_ix (ixT K) (pv 1) pe_int (fun _ _ => rfl))) pa_nil)))), ?_⟩
    refine ⟨_, rfl, p, _, _, _, rfl, rfl, SqT.of hp, rfl, _, rfl, q, _, _, _, rfl, rfl, SqT.of hq, rfl, _, _, rfl, rfl, ⟨b3 ba, b3 bd⟩, ?_⟩
    refine ⟨_, rfl, p, _, _, _, rfl, rfl, SqT.of hp, rfl, _, rfl, q, _, _, _, rfl, rfl, SqT.of hq, rfl, _, _, rfl, rfl, ⟨b3 bb, b3 bc⟩, ?_⟩
    refine ⟨_, _, rfl, b6 (bb.mul bc), fun h0 => k0 ?_, fun h0 r hr' => ?_⟩
    · rcases Int.mul_eq_zero.mp h0 with z | z
      · omega
      · exact Rat.num_eq_zero.mp z
    · have hn : b.num ≠ 0 := fun z => h0 (by rw [z, Int.mul_zero])
      rw [div_rat hn]
      exact k1 (fun z => hn (by rw [z]; rfl)) r hr'
end
end K11

set_option Elab.async false
set_option linter.all false
set_option maxRecDepth 100000
set_option maxHeartbeats 4000000
namespace K11
open PySem L2 KG EX KM
section
variable {P : Program} {w : World} {K : PySem.W.Frag} {mg : Str → Option Value} {base : Heap}
theorem scLWished : FnScope ["market"] ["market"] (defScope (top 31)) := ⟨rfl, rfl, rfl, by decide +kernel, rfl, by decide +kernel, by decide +kernel⟩
theorem ok_lwished {f : Addr} {fd : FuncData} (F : Fun K "_law_wished" "_law_wished" (top 31) f fd) (B : Nm mg) : FnOk P w K mg base CX0 1 f fd ["market"] spLWished := by
  refine F.ok scLWished (fun vs H Q E h => ?_) (fun cdv A outer s H vs Q E hr h => ?_)
  · obtain ⟨p, pa, pw, z, am, ws, M, rfl, _⟩ := h; rfl
  · obtain ⟨p, pa, pw, z, am, ws, M, rfl, hp, ha, hw, hR, hne, hlen, l1, l2, k⟩ := h
    refine ⟨_, pss_one (ps_ret (pe_comp (own := ["good"]) (cap := ["market"]) (ix := [0]) (BlkOk.of (defScope (top 31)).names ["market"]) rfl
        (pi_range1 rfl B.range (pa_cons (pe_callB call_len_seq (by rfl) B.len PySem.boot_len (pa_cons (pe_ix (ixT K) (pv 0) pe_int (fun _ _ => rfl)) pa_nil)) pa_nil))
        (fun C fp s H => ⟨pg_name (i := 0) (show List.Nodup (["good", "market"] : List Str) by decide +kernel) rfl (Or.inr rfl),
          pifs_one (pt_cmpR op_gt (pe_callB (cMax K rfl) (by rfl) B.max boot_max (pa_cons (pe_comp (own := ["row"]) (cap := ["good"]) (ix := [0]) (BlkOk.of [(".0", .local), ("good", .cell), ("max", .globalImplicit), ("market", .cell)] ["good", "market"]) rfl (piT K (pe_ix (ixT K) (pv 1) pe_int (fun _ _ => rfl)))
            (fun C fp s H => ⟨pg_name (i := 0) (show List.Nodup (["row", "good"] : List Str) by decide +kernel) rfl (Or.inl rfl), pifs_nil, pe_ix (ixT K) (pv 0) (pv 1) (fun _ _ => rfl)⟩)) pa_nil)) pe_int (nomark _)),
          pv 0⟩))), ?_⟩
    refine ⟨_, rfl, p, _, _, _, rfl, rfl, SqT.of hp, rfl, pa, am, rfl, .inr (SqT.of ha), (am.length : Int), rfl, by omega, by omega, fun acc hacc => ?_⟩
    refine comp_range (fun i ys H' => Stay H H' ∧ ys = wishedL i M) ⟨(Stay.refl H).acc hacc, rfl⟩ ?_ ?_
    · rintro i ys H' hi hy ⟨st, rfl⟩
      have hi' : i < am.length := by simpa using hi
      refine ⟨_, rfl, p, _, _, _, rfl, rfl, SqT.of (st _ _ hp), rfl, pw, rfl, ⟨ws, SqT.of (st _ _ hw)⟩, fun acc2 hacc2 => ?_⟩
      refine comp_tup (xs := ws) (fun j zs H2 => Stay H' H2 ∧ zs = (M.take j).map fun r => V.int (r.getD i 0)) ⟨(Stay.refl H').acc hacc2, rfl⟩ (fun j ys H2 _ _ q => SqT.of (q.1 _ _ (st _ _ hw))) ?_ ?_
      · rintro j x zs H2 hx hz ⟨st2, rfl⟩
        refine yes_i ?_
        obtain ⟨ns, a, hM, rfl, hA⟩ := hR.at hx
        have hA2 := st2 _ _ (st _ _ hA)
        have hnl := hlen ns (List.mem_of_getElem? hM)
        obtain ⟨ea, _, _⟩ := atI_ints (ns := ns) (r := 0 + (i : Int)) (by omega) (by omega)
        have et : (0 + (i : Int)).toNat = i := by omega
        rw [et] at ea
        refine ⟨_, rfl, _, rfl, a, _, _, _, rfl, rfl, SqT.of hA2, ea, _, hz, ?_, Cn.of upd_same ⟨st2.acc hacc2, ?_⟩⟩
        · rw [List.length_map, List.length_take, sz]; have := hR.len; omega
        · rw [List.take_add_one, hM, List.map_append]
          rfl
      · rintro zs H2 hz ⟨st2, rfl⟩
        have hl := hR.len
        rw [hl, List.take_length] at hz
        have e2 : (M.map fun r => V.int (r.getD i 0)) = (M.map fun r => r.getD i 0).map V.int := by rw [List.map_map]; rfl
        rw [e2] at hz
        refine ⟨acc2, M.map fun r => r.getD i 0, rfl, .inl (SqL.of hz), by simpa using hne, fun m hm hmax => ⟨_, _, rfl, rfl, _, rfl, ?_⟩⟩
        have e : decide (0 < m) = has M i := by
          rw [Bool.eq_iff_iff, decide_eq_true_eq]
          unfold has
          simp only [List.any_eq_true, decide_eq_true_eq]
          constructor
          · intro h
            obtain ⟨r, hr, e⟩ := List.mem_map.mp hm
            exact ⟨r, hr, by rw [e]; exact h⟩
          · rintro ⟨r, hr, h⟩
            have := hmax _ (List.mem_map.mpr ⟨r, hr, rfl⟩)
            omega
        rw [e]
        have hy2 := st2 _ _ hy
        cases hh : has M i with
        | true =>
          refine iteT ⟨_, rfl, _, hy2, ?_, Cn.of upd_same ⟨(st.trans st2).acc hacc, ?_⟩⟩
          · have := wishedL_len i M; rw [sz]; omega
          · rw [wishedL_succ, hh]; rfl
        | false =>
          refine iteF (Cn.of hy2 ⟨st.trans st2, ?_⟩)
          rw [wishedL_succ, hh]; simp
    · rintro ys H' hy ⟨st, rfl⟩
      have e : ((am.length : Int)).toNat = am.length := by simp
      rw [e] at hy
      exact k acc _ st hacc hy
theorem scMul : FnScope ["one", "other"] ["one", "other"] (defScope (top 24)) := ⟨rfl, rfl, rfl, by decide +kernel, rfl, by decide +kernel, by decide +kernel⟩
theorem ok_mul {f fF : Addr} {fd dF : FuncData} (F : Fun K "_law_mul" "_law_mul" (top 24) f fd) (G : Cal K mg P w base "_law_frac" 1 ["top", "bottom"] spFrac fF dF) : FnOk P w K mg base CX0 2 f fd ["one", "other"] spMulS := by
  refine F.ok scMul (fun vs H Q E h => ?_) (fun cdv A outer s H vs Q E hr h => ?_)
  · obtain ⟨p, q, a, b, c, d, rfl, _⟩ := h; rfl
  · obtain ⟨p, q, a, b, c, d, rfl, hp, hq, a0, a1, b0, b1, d0, bd, k⟩ := h
    refine ⟨_, pss_one (ps_ret (pe_call G.ok hr rfl G.mg G.kp G.bd .nil pass0 (pa_cons (pe_op op_mul (pe_ix (ixT K) (pv 0) pe_int (fun _ _ => rfl)) (pe_ix (ixT K) (pv 1) pe_int (fun _ _ => rfl))) (pa_cons (pe_op op_mul (pe_ix (ixT K) (pv 0) pe_int (fun _ _ => rfl)) (pe_ix (ixT K) (pv 1) pe_int (fun _ _ => rfl))) pa_nil)))), ?_⟩
    refine ⟨_, rfl, p, _, _, _, rfl, rfl, SqT.of hp, rfl, _, rfl, q, _, _, _, rfl, rfl, SqT.of hq, rfl, _, _, rfl, rfl, .inl ⟨by omega, by omega⟩, ?_⟩
    refine ⟨_, rfl, p, _, _, _, rfl, rfl, SqT.of hp, rfl, _, rfl, q, _, _, _, rfl, rfl, SqT.of hq, rfl, _, _, rfl, rfl, .inl ⟨by omega, by omega⟩, ?_⟩
    exact ⟨_, _, rfl, Int.mul_pos b0 d0, bd, k⟩
end
end K11

set_option Elab.async false
set_option linter.all false
set_option maxRecDepth 100000
set_option maxHeartbeats 4000000
namespace K11
open PySem L2 KG EX KM
section
variable {P : Program} {w : World} {K : PySem.W.Frag} {mg : Str → Option Value} {base : Heap}
end
end K11

set_option Elab.async false
set_option linter.all false
set_option maxRecDepth 100000
set_option maxHeartbeats 4000000
namespace K11
open PySem L2 KG EX KM
theorem range_succ_any {f : Nat → Bool} {n : Nat} : (List.range (n + 1)).any f = ((List.range n).any f || f n) := by rw [List.range_succ, List.any_append]; simp
theorem natsV_snoc {f : Nat → Bool} {n : Nat} : natsV ((List.range (n + 1)).filter f) = natsV ((List.range n).filter f) ++ (if f n = true then [V.int (n : Int)] else []) := by
  unfold natsV
  rw [filter_succ, List.map_append]
  split <;> simp
def worstB (row : List Int) (qs : List Rat) (g n : Nat) : Bool := decide (row.getD g 0 = 0) || (List.range n).any (worse row qs g)
theorem best_worst {row : List Int} {qs : List Rat} {g : Nat} : bestB row qs g = !worstB row qs g row.length := by
  unfold bestB worstB
  rw [Bool.not_or, List.not_any_eq_all_not]
  simp
theorem worse_b {row : List Int} {qs : List Rat} {g o : Nat} : worse row qs g o = (decide (0 < row.getD o 0) && decide (row.getD g 0 * (qs.getD o 0).num * ((qs.getD g 0).den : Int) < row.getD o 0 * (qs.getD g 0).num * ((qs.getD o 0).den : Int))) := by
  unfold worse
  congr 1
  exact decide_eq_decide.mpr worse_int
section
variable {P : Program} {w : World} {K : PySem.W.Frag} {mg : Str → Option Value} {base : Heap}
abbrev NB : List Str := ["market", "prices", "found", "row", "best", "good", "top", "bottom", "worse", "other", "there"]
theorem scBest : FnScope NB ["market", "prices"] (defScope (top 32)) := ⟨rfl, rfl, rfl, by decide +kernel, rfl, by decide +kernel, by decide +kernel⟩
theorem ok_lbest {f : Addr} {fd : FuncData} (F : Fun K "_law_best" "_law_best" (top 32) f fd) (N : Nm mg) : FnOk P w K mg base CX0 1 f fd ["market", "prices"] spLBest := by
  refine F.ok scBest (fun vs H Q E h => ?_) (fun cdv A' outer s H vs Q E hr h => ?_)
  · obtain ⟨b, p, pa, pp, pw, q, xa, xp, xw, ys, am, pu, wi, qs, rfl, _⟩ := h; rfl
  · obtain ⟨b, p, pa, pp, pw, q, xa, xp, xw, ys, am, pu, wi, qs, rfl, m, pr, hql, k⟩ := h
    obtain ⟨rw0, rne, rlen, rbd, a1, a6, w1, w6, _⟩ := m.lw
    have hfr := Frs.of pr.tr
    refine ⟨_, pss_cons (ps_set (i := 2) scBest.nd rfl (Or.inl rfl) (pe_lst pa_nil))
      (pss_cons (ps_for PassesOwn.never rfl (piT K (pe_ix (ixT K) (pv 0) pe_int (fun _ _ => rfl))) (pg_name (i := 3) scBest.nd rfl (Or.inl rfl))
        (pss_cons (ps_set (i := 4) scBest.nd rfl (Or.inl rfl) (pe_lst pa_nil))
        (pss_cons (ps_for PassesOwn.never rfl (pi_range1 rfl N.range (pa_cons (pe_callB (cLen K) (by rfl) N.len PySem.boot_len (pa_cons (pv 3) pa_nil)) pa_nil)) (pg_name (i := 5) scBest.nd rfl (Or.inl rfl))
          (pss_cons (ps_asg (pe_ix (ixT K) (pv 1) (pv 5) (fun _ _ => rfl)) (pg_tup rfl (pgs_cons (pg_name (i := 6) scBest.nd rfl (Or.inl rfl)) (pgs_cons (pg_name (i := 7) scBest.nd rfl (Or.inl rfl)) pgs_nil))))
          (pss_cons (ps_set (i := 8) scBest.nd rfl (Or.inl rfl) (pe_cmpR op_eq (pe_ix (ixT K) (pv 3) (pv 5) (fun _ _ => rfl)) pe_int (nomark _)))
          (pss_cons (ps_for PassesOwn.never rfl (pi_range1 rfl N.range (pa_cons (pe_callB (cLen K) (by rfl) N.len PySem.boot_len (pa_cons (pv 3) pa_nil)) pa_nil)) (pg_name (i := 9) scBest.nd rfl (Or.inl rfl))
            (pss_cons (ps_set (i := 10) scBest.nd rfl (Or.inl rfl) (pe_op op_mulB (pe_op op_mulB (pe_ix (ixT K) (pv 3) (pv 9) (fun _ _ => rfl)) (pv 6)) (pe_ix (ixT K) (pe_ix (ixT K) (pv 1) (pv 9) (fun _ _ => rfl)) pe_int (fun _ _ => rfl))))
            (pss_one (ps_if (PW.pt (pw_and (pt_cmpR op_gt (pe_ix (ixT K) (pv 3) (pv 9) (fun _ _ => rfl)) pe_int (nomark _)) (pw_and1 (pt_cmpR op_lt (pe_op op_mulB (pe_op op_mulB (pe_ix (ixT K) (pv 3) (pv 5) (fun _ _ => rfl)) (pe_ix (ixT K) (pe_ix (ixT K) (pv 1) (pv 9) (fun _ _ => rfl)) pe_int (fun _ _ => rfl))) (pv 7)) (pv 10) (nomark _)))))
              (pss_one (ps_set (i := 8) scBest.nd rfl (Or.inl rfl) pe_bl)) pss_nil))))
          (pss_one (ps_if (pt_not (pt_val (pv 8))) (pss_one (ps_expr (pe_bm PySem.F.plainAttrs_list PySem.F.slot_list_append PySem.F.type_list_append mt_append (pv 4) (pa_cons (pv 5) pa_nil)))) pss_nil))))))
        (pss_one (ps_expr (pe_bm PySem.F.plainAttrs_list PySem.F.slot_list_append PySem.F.type_list_append mt_append (pv 2) (pa_cons (pv 4) pa_nil)))))))
      (pss_one (ps_ret (pv 2)))), ?_⟩
    refine ⟨by show 0 ≤ sizeLine; decide, fun pf hpf => ?_⟩
    have s0 := (Stay.refl H).new (o := .lst []) hpf
    have m0 := m.stay s0
    refine ⟨_, rfl, p, _, _, _, rfl, rfl, SqT.of m0.hp, rfl, pw, rfl, ⟨xw, SqT.of m0.hw⟩, ?_⟩
    refine for_tup (xs := xw) (fun i σ H' => (∃ y3 y4 y5 y6 y7 y8 y9 y10, σ = [some (.ref p), some (.ref q), some (.ref pf), y3, y4, y5, y6, y7, y8, y9, y10]) ∧ Stay H H' ∧ ∃ xs, H' pf = some (.lst xs) ∧ xs.length = i ∧ ∀ (j : Nat) x, xs[j]? = some x → ∃ a, x = .ref a ∧ a ≠ pf ∧ H' a = some (.lst (((bestM (rowsOf wi) qs).getD j []).map V.int)))
      ⟨⟨_, _, _, _, _, _, _, _, rfl⟩, s0, [], upd_same, rfl, fun j x hx => by simp at hx⟩ (fun j σ H' _ z => SqT.of (z.2.1 _ _ m.hw)) ?_ ?_
    · rintro i x σ H1 hx ⟨⟨y3, y4, y5, y6, y7, y8, y9, y10, rfl⟩, s1, xs, hxs, hxl, hxp⟩
      obtain ⟨row, ar, hrow, rfl, har⟩ := rw0.at hx
      have hmr := List.mem_of_getElem? hrow
      have rl := rlen row hmr
      have rb := rbd row hmr
      refine ⟨by show 0 ≤ sizeLine; decide, fun pb hpb => ?_⟩
      have npf : pf ≠ pb := fun z => by rw [z, hpb] at hxs; cases hxs
      have s2 := (Stay.refl H1).new (o := .lst []) hpb
      have eb2 : (upd H1 pb (.lst [])) pb = some (.lst []) := upd_same
      generalize upd H1 pb (.lst []) = H2 at s2 eb2 ⊢
      have har2 := s2 _ _ (s1 _ _ har)
      refine ⟨_, rfl, ar, _, rfl, .inr (SqT.of har2), (row.length : Int), by rw [List.length_map], by omega, by omega, ?_⟩
      have exl : ((row.length : Int)).toNat = row.length := by simp
      rw [exl]
      refine for_range (fun g σ H' => (∃ y5 y6 y7 y8 y9 y10, σ = [some (.ref p), some (.ref q), some (.ref pf), some (.ref ar), some (.ref pb), y5, y6, y7, y8, y9, y10]) ∧ Stay H1 H' ∧ H' pb = some (.lst (natsV ((List.range g).filter (bestB row qs)))))
        ⟨⟨_, _, _, _, _, _, rfl⟩, s2, eb2⟩ ?_ ?_
      · rintro g σ H3 hg ⟨⟨y5, y6, y7, y8, y9, y10, rfl⟩, s3, eb3⟩
        have e0 : (0 + (g : Int)) = (g : Int) := by omega
        have s03 := s1.trans s3
        have hq3 := s03 _ _ pr.hq
        have har3 := s03 _ _ har
        obtain ⟨a, ea, ha⟩ := (hfr.stay s03).at (g := g) (by omega)
        rw [← e0] at ea
        refine ⟨_, rfl, _, rfl, q, _, _, _, rfl, rfl, SqT.of hq3, ea, a, _, rfl, SqT.of ha, rfl, _, _, rfl, _, _, rfl, rfl, ?_⟩
        obtain ⟨er, _, em⟩ := atI_ints (ns := row) (r := 0 + (g : Int)) (by omega) (by omega)
        have eg : (0 + (g : Int)).toNat = g := by omega
        rw [eg] at er em
        refine ⟨_, rfl, _, rfl, ar, _, _, _, rfl, rfl, SqT.of har3, er, rfl, ?_⟩
        refine ⟨_, rfl, ar, _, rfl, .inr (SqT.of har3), (row.length : Int), by rw [List.length_map], by omega, by omega, ?_⟩
        rw [exl]
        have bW7 : ∀ o, Bd 7 (row.getD o 0) := fun o => by
          by_cases ho : o < row.length
          · have : row.getD o 0 ∈ row := by simp [List.getD, List.getElem?_eq_getElem ho]
            have := rb _ this
            unfold Bd; omega
          · have : row.getD o 0 = 0 := by simp [List.getD, List.getElem?_eq_none (Nat.le_of_not_lt ho)]
            rw [this]; unfold Bd; decide
        have bW : ∀ o, Bd 8000 (row.getD o 0) := fun o => (bW7 o).mono (by decide)
        have bg := pr.rb g
        refine for_range (fun o σ H' => (∃ y9 y10, σ = [some (.ref p), some (.ref q), some (.ref pf), some (.ref ar), some (.ref pb), some (.int (0 + (g : Int))), some (.int (qs.getD g 0).num), some (.int ((qs.getD g 0).den : Int)), some (.bl (worstB row qs g o)), y9, y10]) ∧ H' = H3)
          ⟨⟨_, _, by
            have e1 : decide (V.int (row.getD g 0) = V.int 0) = worstB row qs g 0 := by unfold worstB; simp
            rw [e1]; rfl⟩, rfl⟩ ?_ ?_
        · rintro o σ H4 ho ⟨⟨y9, y10, rfl⟩, rfl⟩
          have e0' : (0 + (o : Int)) = (o : Int) := by omega
          obtain ⟨ero, _, _⟩ := atI_ints (ns := row) (r := 0 + (o : Int)) (by omega) (by omega)
          have ego : (0 + (o : Int)).toNat = o := by omega
          rw [ego] at ero
          obtain ⟨ao, eao, hao⟩ := (hfr.stay s03).at (g := o) (by omega)
          rw [← e0'] at eao
          have bo := pr.rb o
          have m1 : Bd 8000 (row.getD o 0 * (qs.getD g 0).num) := ((bW7 o).mul bg.1).mono (by decide)
          have m2 : Bd 8000 (row.getD g 0 * (qs.getD o 0).num) := ((bW7 g).mul bo.1).mono (by decide)
          refine ⟨_, rfl, _, rfl, ar, _, _, _, rfl, rfl, SqT.of har3, ero, _, rfl, _, _, rfl, rfl, ⟨bW o, bg.1.mono (by decide)⟩, _, rfl, _, rfl, q, _, _, _, rfl, rfl, SqT.of hq3, eao, ao, _, _, _, rfl, rfl, SqT.of hao, rfl, _, _, rfl, rfl, ⟨m1, bo.2.mono (by decide)⟩, ?_⟩
          refine ⟨_, rfl, _, rfl, ar, _, _, _, rfl, rfl, SqT.of har3, ero, _, _, rfl, rfl, _, rfl, ?_⟩
          have ew : worstB row qs g (o + 1) = (worstB row qs g o || worse row qs g o) := by unfold worstB; rw [range_succ_any, Bool.or_assoc]
          by_cases hpos : row.getD o 0 > 0
          · rw [decide_eq_true hpos]
            refine iteT ⟨_, rfl, _, rfl, ar, _, _, _, rfl, rfl, SqT.of har3, er, _, rfl, _, rfl, q, _, _, _, rfl, rfl, SqT.of hq3, eao, ao, _, _, _, rfl, rfl, SqT.of hao, rfl, _, _, rfl, rfl, ⟨bW g, bo.1.mono (by decide)⟩, _, rfl, _, _, rfl, rfl, ⟨m2, bg.2.mono (by decide)⟩, _, rfl, _, _, rfl, rfl, _, rfl, ?_⟩
            have ewo := worse_b (row := row) (qs := qs) (g := g) (o := o)
            rw [decide_eq_true (show 0 < row.getD o 0 from hpos), Bool.true_and] at ewo
            rw [← ewo]
            cases hc : worse row qs g o with
            | true =>
              refine iteT ⟨⟨_, _, by rw [ew, hc, Bool.or_true]; rfl⟩, rfl⟩
            | false =>
              refine iteF ⟨⟨_, _, by rw [ew, hc, Bool.or_false]; rfl⟩, rfl⟩
          · rw [decide_eq_false hpos]
            have hc : worse row qs g o = false := by rw [worse_b, decide_eq_false (show ¬ 0 < row.getD o 0 from hpos)]; rfl
            refine iteF (iteF ⟨⟨_, _, by rw [ew, hc, Bool.or_false]; rfl⟩, rfl⟩)
        · rintro σ H4 ⟨⟨y9, y10, rfl⟩, rfl⟩
          have hbw : bestB row qs g = !worstB row qs g row.length := best_worst
          generalize hwv : worstB row qs g row.length = wv at hbw ⊢
          cases wv with
          | false =>
            have hb : bestB row qs g = true := hbw
            refine ⟨_, rfl, _, rfl, iteT ⟨_, rfl, .inl ⟨rfl, _, SqL.of eb3⟩, _, rfl, pb, _, _, rfl, rfl, eb3, ?_, ⟨_, _, _, _, _, _, rfl⟩, s3.acc hpb, ?_⟩⟩
            · unfold natsV; rw [List.length_map, sz]
              have := List.length_filter_le (bestB row qs) (List.range g)
              simp at this; omega
            · rw [natsV_snoc, hb, if_pos rfl, e0]; exact upd_same
          | true =>
            have hb : bestB row qs g = false := hbw
            refine ⟨_, rfl, _, rfl, iteF ⟨⟨_, _, _, _, _, _, rfl⟩, s3, ?_⟩⟩
            rw [natsV_snoc, hb, if_neg (by decide), List.append_nil]; exact eb3
      · rintro σ H3 ⟨⟨y5, y6, y7, y8, y9, y10, rfl⟩, s3, eb3⟩
        have hxs3 := s3 _ _ hxs
        refine ⟨_, rfl, .inl ⟨rfl, _, SqL.of hxs3⟩, _, rfl, pf, xs, .ref pb, rfl, rfl, hxs3, by rw [hxl, sz]; have := (List.getElem?_eq_some_iff.mp hx).1; omega, ⟨_, _, _, _, _, _, _, _, rfl⟩, (s1.trans s3).acc hpf, xs ++ [.ref pb], upd_same, by rw [List.length_append, hxl]; rfl, fun j y hy => ?_⟩
        rcases Nat.lt_or_ge j xs.length with z | z
        · rw [List.getElem?_append_left z] at hy
          obtain ⟨a, e, na, ha⟩ := hxp j y hy
          exact ⟨a, e, na, by rw [upd_ne na]; exact s3 _ _ ha⟩
        · have ej : j = xs.length := by
            have := (List.getElem?_eq_some_iff.mp hy).1
            simp at this; omega
          subst ej
          simp at hy
          subst hy
          refine ⟨pb, rfl, npf.symm, ?_⟩
          rw [upd_ne npf.symm, eb3]
          have e1 : (bestM (rowsOf wi) qs).getD xs.length [] = (bestR row qs).map fun g : Nat => (g : Int) := by
            unfold bestM
            rw [hxl]
            simp [List.getD, List.getElem?_map, hrow]
          rw [e1]
          unfold bestR natsV
          rw [List.map_map]; rfl
    · rintro σ H1 ⟨⟨y3, y4, y5, y6, y7, y8, y9, y10, rfl⟩, s1, xs, hxs, hxl, hxp⟩
      refine ⟨_, rfl, k pf xs H1 s1 hxs ⟨?_, fun j x hx => ?_⟩⟩
      · rw [hxl, rw0.len]; unfold bestM; rw [List.length_map]
      · obtain ⟨a, e, _, ha⟩ := hxp j x hx
        exact ⟨a, e, ha⟩
end
end K11

set_option Elab.async false
set_option linter.all false
set_option maxRecDepth 100000
set_option maxHeartbeats 4000000
namespace K11
open PySem L2 KG EX KM
section
variable {P : Program} {w : World} {K : PySem.W.Frag} {mg : Str → Option Value} {base : Heap}
abbrev NT : List Str := ["best", "goods", "found", "buyer"]
theorem scTak : FnScope NT ["best", "goods"] (defScope (top 34)) := ⟨rfl, rfl, rfl, by decide +kernel, rfl, by decide +kernel, by decide +kernel⟩
theorem ok_ltakers {f : Addr} {fd : FuncData} (F : Fun K "_law_takers" "_law_takers" (top 34) f fd) (N : Nm mg) : FnOk P w K mg base CX0 1 f fd ["best", "goods"] spLTakers := by
  refine F.ok scTak (fun vs H Q E h => ?_) (fun cdv A' outer s H vs Q E hr h => ?_)
  · obtain ⟨pb, pg, xs, M, qs, gs, rfl, _⟩ := h; rfl
  · obtain ⟨pb, pg, xs, M, qs, gs, rfl, hpb, hls, hpg, hgl, hM6, hr6, k⟩ := h
    have hu := hr.units
    refine ⟨_, pss_cons (ps_set (i := 2) scTak.nd rfl (Or.inl rfl) (pe_lst pa_nil))
      (pss_cons (ps_for PassesOwn.never rfl (pi_range1 rfl N.range (pa_cons (pe_callB (cLen K) (by rfl) N.len PySem.boot_len (pa_cons (pv 0) pa_nil)) pa_nil)) (pg_name (i := 3) scTak.nd rfl (Or.inl rfl))
        (pss_one (ps_if (pt_cmpR (opNeD K hu) (pe_comp (own := ["good"]) (cap := ["goods"]) (ix := [1]) (BlkOk.of (defScope (top 34)).names NT) rfl (piL K (pe_ix (ixL K) (pv 0) (pv 3) (fun _ _ => rfl)))
          (fun C fp s H => ⟨pg_name (i := 0) (show List.Nodup (["good", "goods"] : List Str) by decide +kernel) rfl (Or.inl rfl), pifs_one (pt_cmpR (opInK K) (pv 0) (pv 1) (by with_unfolding_all rfl)), pv 0⟩)) (pe_lst pa_nil) (nomark _))
          (pss_one (ps_expr (pe_bm PySem.F.plainAttrs_list PySem.F.slot_list_append PySem.F.type_list_append mt_append (pv 2) (pa_cons (pv 3) pa_nil)))) pss_nil)))
      (pss_one (ps_ret (pv 2)))), ?_⟩
    refine ⟨by show 0 ≤ sizeLine; decide, fun pf hpf => ?_⟩
    have s0 := (Stay.refl H).new (o := .lst []) hpf
    have hlx : xs.length = M.length := by rw [hls.1]; unfold bestM; rw [List.length_map]
    refine ⟨_, rfl, pb, xs, rfl, .inl (SqL.of (s0 _ _ hpb)), (xs.length : Int), rfl, by omega, by omega, ?_⟩
    have exl : ((xs.length : Int)).toNat = M.length := by omega
    rw [exl]
    refine for_range (fun i σ H' => (∃ y3, σ = [some (.ref pb), some (.ref pg), some (.ref pf), y3]) ∧ Stay H H' ∧ H' pf = some (.lst (natsV ((List.range i).filter fun i => takesB gs ((bestM M qs).getD i [])))))
      ⟨⟨_, rfl⟩, s0, upd_same⟩ ?_ ?_
    · rintro i σ H1 hi ⟨⟨y3, rfl⟩, s1, hf1⟩
      have e0 : (0 + (i : Int)) = (i : Int) := by omega
      have hix : i < xs.length := by omega
      obtain ⟨a, ex, ha⟩ := hls.2 i _ (List.getElem?_eq_getElem hix)
      have eat : atI xs (0 + (i : Int)) = some (.ref a) := by rw [e0, ← ex]; exact atI_nat (List.getElem?_eq_getElem hix)
      generalize hrow : (bestM M qs).getD i [] = row at ha
      have hr6' : row.length ≤ 6 := by
        have hiM : i < M.length := hi
        have e1 : (bestM M qs).getD i [] = (bestR (M[i]) qs).map fun g : Nat => (g : Int) := by
          unfold bestM; simp [List.getD, List.getElem?_map, List.getElem?_eq_getElem hiM]
        rw [← hrow, e1, List.length_map]
        unfold bestR
        have h1 := List.length_filter_le (bestB M[i] qs) (List.range M[i].length)
        have h2 := hr6 M[i] (List.getElem_mem hiM)
        simp at h1; omega
      refine ⟨_, rfl, _, rfl, pb, _, _, _, rfl, rfl, SqL.of (s1 _ _ hpb), eat, a, rfl, ⟨_, SqL.of (s1 _ _ ha)⟩, fun acc hacc => ?_⟩
      refine comp_list (xs := row.map V.int) (fun j ys H' => Stay H1 H' ∧ ys = ((row.take j).filter (inG gs)).map V.int) ⟨(Stay.refl H1).acc hacc, rfl⟩ (fun j ys H' _ _ z => SqL.of (z.1 _ _ (s1 _ _ ha))) ?_ ?_
      · rintro j x ys H' hx hy ⟨st, rfl⟩
        obtain ⟨n, hn, rfl⟩ : ∃ n : Int, row[j]? = some n ∧ x = V.int n := by
          rw [List.getElem?_map] at hx
          cases e : row[j]? with
          | none => rw [e] at hx; cases hx
          | some n => rw [e] at hx; exact ⟨n, rfl, by simpa using hx.symm⟩
        refine ⟨_, rfl, _, rfl, pg, _, rfl, .inl (SqL.of (st _ _ (s1 _ _ hpg))), rfl, flat_nats gs, _, rfl, ?_⟩
        have ein : (if false = true then !inV (V.int n) (natsV gs) else inV (V.int n) (natsV gs)) = inG gs n := by rw [if_neg (by decide)]; exact in_nats gs n
        rw [ein]
        have ef : (row.take (j + 1)).filter (inG gs) = (row.take j).filter (inG gs) ++ (if inG gs n = true then [n] else []) := by
          rw [take_snoc hn, List.filter_append]
          congr 1
          simp only [List.filter]
          split <;> simp_all
        cases hc : inG gs n with
        | true =>
          refine iteT ⟨_, rfl, _, hy, ?_, Cn.of upd_same ⟨st.acc hacc, ?_⟩⟩
          · have h1 := List.length_filter_le (inG gs) (row.take j)
            have h2 := List.length_take_le j row
            have h3 : (row.take j).length ≤ row.length := by rw [List.length_take]; omega
            rw [List.length_map, sz]; omega
          · rw [ef, hc, if_pos rfl, List.map_append]; rfl
        | false =>
          refine iteF (Cn.of hy ⟨st, ?_⟩)
          rw [ef, hc, if_neg (by decide), List.append_nil]
      · rintro ys H' hy ⟨st, rfl⟩
        rw [List.length_map, List.take_of_length_le (Nat.le_refl _)] at hy
        refine ⟨by show 0 ≤ sizeLine; decide, fun q hq => ?_⟩
        have s2 := (Stay.refl H').new (o := .lst []) hq
        refine ⟨.list ((row.filter (inG gs)).map PyData.int), .list [], .lst (SqL.of (s2 _ _ hy)) (ints_tr (b := q) _).dt, .lst (SqL.of upd_same) .nil, by show min _ 1 ≤ 60; omega, _, rfl, ?_⟩
        rw [eqv_nil, filt_empty, Bool.not_not]
        have htk : takesB gs ((bestM M qs).getD i []) = row.any (inG gs) := by rw [hrow]; rfl
        have s3 := st.trans s2
        cases hc : row.any (inG gs) with
        | true =>
          refine iteT ⟨_, rfl, .inl ⟨rfl, _, SqL.of (s3 _ _ hf1)⟩, _, rfl, pf, _, _, rfl, rfl, s3 _ _ hf1, ?_, ⟨_, rfl⟩, (s1.trans s3).acc hpf, ?_⟩
          · unfold natsV
            have h1 := List.length_filter_le (fun i => takesB gs ((bestM M qs).getD i [])) (List.range i)
            rw [List.length_range] at h1
            rw [List.length_map, sz]; omega
          · rw [natsV_snoc, htk, hc, if_pos rfl, e0]; exact upd_same
        | false =>
          refine iteF ⟨⟨_, rfl⟩, s1.trans s3, ?_⟩
          rw [natsV_snoc, htk, hc, if_neg (by decide), List.append_nil]; exact s3 _ _ hf1
    · rintro σ H1 ⟨⟨y3, rfl⟩, s1, hf1⟩
      exact ⟨_, rfl, k pf H1 s1 hf1⟩
end
end K11

set_option Elab.async false
set_option linter.all false
set_option maxRecDepth 100000
set_option maxHeartbeats 4000000
namespace K11
open PySem L2 KG EX KM
theorem and_one (m : Nat) : Builtin.bitAnd (m : Int) 1 = ((m % 2 : Nat) : Int) := by
  unfold Builtin.bitAnd
  rw [decide_eq_true (show (0 : Int) ≤ (m : Int) by omega), decide_eq_true (show (0 : Int) ≤ 1 by decide)]
  show (((m : Int).toNat &&& (1 : Int).toNat : Nat) : Int) = _
  rw [Int.toNat_natCast]
  show ((m &&& 1 : Nat) : Int) = _
  rw [Nat.and_one_is_mod]
section
variable {P : Program} {w : World} {K : PySem.W.Frag} {mg : Str → Option Value} {base : Heap}
theorem sc_law_div : FnScope ["one", "other"] ["one", "other"] (defScope (top 27)) := ⟨rfl, rfl, rfl, by decide +kernel, rfl, by decide +kernel, by decide +kernel⟩
theorem ok_law_div {f fF : Addr} {fd dF : FuncData} (F : Fun K "_law_div" "_law_div" (top 27) f fd) (G : Cal K mg P w base "_law_frac" 1 ["top", "bottom"] spLf fF dF) : FnOk P w K mg base CX0 2 f fd ["one", "other"] spDiv := by
  refine F.ok sc_law_div (fun vs H Q E h => ?_) (fun cdv A outer s H vs Q E hr h => ?_)
  · obtain ⟨p, q, a, b, rfl, _⟩ := h; rfl
  · obtain ⟨p, q, a, b, rfl, hp, hq, ⟨ba, bb⟩, ⟨bc, bd⟩, hb0, k⟩ := h
    have hb := den_pos a
    have hn := rat_pos.mp hb0
    refine ⟨_, pss_one (ps_ret (pe_call G.ok hr rfl G.mg G.kp G.bd .nil pass0 (pa_cons (pe_op op_mulB (pe_ix (ixT K) (pv 0) pe_int (fun _ _ => rfl)) (pe_ix (ixT K) (pv 1) pe_int (fun _ _ => rfl))) (pa_cons (pe_op op_mulB (pe_ix (ixT K) (pv 0) pe_int (fun _ _ => rfl)) (pe_ix (ixT K) (pv 1) pe_int (fun _ _ => rfl))) pa_nil)))), ?_⟩
    refine ⟨_, rfl, p, _, _, _, rfl, rfl, SqT.of hp, rfl, _, rfl, q, _, _, _, rfl, rfl, SqT.of hq, rfl, _, _, rfl, rfl, ⟨b3 ba, b3 bd⟩, _, rfl, p, _, _, _, rfl, rfl, SqT.of hp, rfl, _, rfl, q, _, _, _, rfl, rfl, SqT.of hq, rfl, _, _, rfl, rfl, ⟨b3 bb, b3 bc⟩, ?_⟩
    exact ⟨_, _, rfl, Int.mul_pos hb hn, b6 (bb.mul bc), fun r hr' => by rw [div_rat (by omega)]; exact k r hr'⟩
theorem scSets : FnScope ["some", "found", "mask"] ["some"] (defScope (top 36)) := ⟨rfl, rfl, rfl, by decide +kernel, rfl, by decide +kernel, by decide +kernel⟩
theorem ok_sets {f : Addr} {fd : FuncData} (F : Fun K "_law_sets" "_law_sets" (top 36) f fd) (N : Nm mg) : FnOk P w K mg base CX0 1 f fd ["some"] spSets := by
  refine F.ok scSets (fun vs H Q E h => ?_) (fun cdv A' outer s H vs Q E hr h => ?_)
  · obtain ⟨l, ns, rfl, _⟩ := h; rfl
  · obtain ⟨l, ns, rfl, hl, hn, k⟩ := h
    refine ⟨_, pss_cons (ps_set (i := 1) scSets.nd rfl (Or.inl rfl) (pe_lst pa_nil))
      (pss_cons (ps_for PassesOwn.never rfl (pi_range1 rfl N.range (pa_cons (pe_op op_shl pe_int (pe_callB (cLen K) (by rfl) N.len PySem.boot_len (pa_cons (pv 0) pa_nil))) pa_nil)) (pg_name (i := 2) scSets.nd rfl (Or.inr rfl))
        (pss_one (ps_expr (pe_bm PySem.F.plainAttrs_list PySem.F.slot_list_append PySem.F.type_list_append mt_append (pv 1) (pa_cons (pe_comp (own := ["k"]) (cap := ["some", "mask"]) (ix := [0, 2]) (BlkOk.of (defScope (top 36)).names ["some", "found", "mask"]) rfl (pi_range1 rfl N.range (pa_cons (pe_callB (cLen K) (by rfl) N.len PySem.boot_len (pa_cons (pv 0) pa_nil)) pa_nil))
          (fun C fp s H => ⟨pg_name (i := 0) (show List.Nodup (["k", "some", "mask"] : List Str) by decide +kernel) rfl (Or.inl rfl), pifs_one (pt_cmpR op_eq (pe_op op_and (pe_op op_shr (pv 2) (pv 0)) pe_int) pe_int (nomark _)), pe_ix (ixL K) (pv 1) (pv 0) (fun _ _ => rfl)⟩)) pa_nil)))))
      (pss_one (ps_ret (pv 1)))), ?_⟩
    refine ⟨by show 0 ≤ sizeLine; decide, fun pf hpf => ?_⟩
    have s0 := (Stay.refl H).new (o := .lst []) hpf
    have hnl : (ns.map V.int).length = ns.length := List.length_map _
    have h2 : (2 : Nat) ^ ns.length ≤ 64 := Nat.le_trans (Nat.pow_le_pow_right (by decide) hn) (by decide)
    have etn : (((ns.map V.int).length : Nat) : Int).toNat = ns.length := by rw [hnl]; omega
    have epow : (1 : Int) * 2 ^ (((ns.map V.int).length : Nat) : Int).toNat = ((2 ^ ns.length : Nat) : Int) := by rw [etn, Int.one_mul]; exact (Int.natCast_pow 2 _).symm
    refine ⟨_, rfl, l, _, rfl, .inl (SqL.of (s0 _ _ hl)), _, _, rfl, rfl, ⟨by omega, by omega, by decide⟩, ((2 ^ ns.length : Nat) : Int), by show [V.int ((1 : Int) * 2 ^ (((ns.map V.int).length : Nat) : Int).toNat)] = _; rw [epow], ?_, ?_, ?_⟩
    · generalize 2 ^ ns.length = z at h2; omega
    · generalize 2 ^ ns.length = z at h2; omega
    rw [Int.toNat_natCast]
    refine for_range (fun i σ H' => (∃ y2, σ = [some (.ref l), some (.ref pf), y2]) ∧ Stay H H' ∧ ∃ xs, H' pf = some (.lst xs) ∧ xs.length = i ∧ ∀ (j : Nat) x, xs[j]? = some x → ∃ a, x = .ref a ∧ a ≠ pf ∧ H a = none ∧ H' a = some (.lst ((pickL ns j).map V.int)))
      ⟨⟨_, rfl⟩, s0, [], upd_same, rfl, fun j x hx => by simp at hx⟩ ?_ ?_
    · rintro i σ H1 hi ⟨⟨y2, rfl⟩, s1, xs, hxs, hxl, hxp⟩
      have e0 : (0 + (i : Int)) = (i : Int) := by omega
      refine ⟨_, rfl, .inl ⟨rfl, _, SqL.of hxs⟩, _, rfl, l, _, rfl, .inl (SqL.of (s1 _ _ hl)), (ns.length : Int), by rw [hnl], by omega, by omega, fun acc hacc => ?_⟩
      rw [Int.toNat_natCast]
      have npf : pf ≠ acc := fun z => by rw [z, hacc] at hxs; cases hxs
      refine comp_range (fun j ys H' => Stay H1 H' ∧ ys = (((List.range j).filter fun k => decide (i / 2 ^ k % 2 = 1)).map fun k => V.int (ns.getD k 0))) ⟨(Stay.refl H1).acc hacc, rfl⟩ ?_ ?_
      · rintro j ys H' hj hy ⟨st, rfl⟩
        obtain ⟨er, _, _⟩ := atI_ints (ns := ns) (r := 0 + (j : Int)) (by omega) (by omega)
        have ej : (0 + (j : Int)).toNat = j := by omega
        rw [ej] at er
        refine ⟨_, rfl, _, rfl, _, _, rfl, rfl, by omega, _, _, rfl, rfl, rfl, _, rfl, ?_⟩
        have ev : decide (V.int (Builtin.bitAnd ((0 + (i : Int)) / 2 ^ (0 + (j : Int)).toNat) 1) = V.int 1) = decide (i / 2 ^ j % 2 = 1) := by
          rw [ej, e0]
          have : ((i : Int) / 2 ^ j) = ((i / 2 ^ j : Nat) : Int) := by rw [Int.natCast_ediv, Int.natCast_pow]; rfl
          rw [this, and_one]
          simp
          omega
        rw [ev]
        have hf : ((List.range (j + 1)).filter fun k => decide (i / 2 ^ k % 2 = 1)).map (fun k => V.int (ns.getD k 0)) = ((List.range j).filter fun k => decide (i / 2 ^ k % 2 = 1)).map (fun k => V.int (ns.getD k 0)) ++ (if decide (i / 2 ^ j % 2 = 1) = true then [V.int (ns.getD j 0)] else []) := by
          rw [filter_succ, List.map_append]
          congr 1
          split <;> simp_all
        cases hc : decide (i / 2 ^ j % 2 = 1) with
        | true =>
          refine iteT ⟨_, rfl, _, rfl, l, _, _, _, rfl, rfl, SqL.of (st _ _ (s1 _ _ hl)), er, _, hy, ?_, Cn.of upd_same ⟨st.acc hacc, ?_⟩⟩
          · have h1 := List.length_filter_le (fun k => decide (i / 2 ^ k % 2 = 1)) (List.range j)
            rw [List.length_range] at h1
            rw [List.length_map, sz]; omega
          · rw [hf, hc, if_pos rfl]
        | false =>
          refine iteF (Cn.of hy ⟨st, ?_⟩)
          rw [hf, hc, if_neg (by decide), List.append_nil]
      · rintro ys H2 hy ⟨st, rfl⟩
        have hxs2 := st _ _ hxs
        have el : xs.length = i := hxl
        refine ⟨pf, xs, .ref acc, rfl, rfl, hxs2, by rw [hxl, sz]; omega, ⟨_, rfl⟩, (s1.trans st).acc hpf, xs ++ [.ref acc], upd_same, by rw [List.length_append, hxl]; rfl, fun j y hyy => ?_⟩
        rcases Nat.lt_or_ge j xs.length with z | z
        · rw [List.getElem?_append_left z] at hyy
          obtain ⟨a, e, na, nh, ha⟩ := hxp j y hyy
          exact ⟨a, e, na, nh, by rw [upd_ne na]; exact st _ _ ha⟩
        · have ej : j = xs.length := by
            have := (List.getElem?_eq_some_iff.mp hyy).1
            simp at this; omega
          subst ej
          simp at hyy
          subst hyy
          refine ⟨acc, rfl, npf.symm, s1.free hacc, ?_⟩
          rw [upd_ne npf.symm, hy, hxl]
          unfold pickL
          rw [List.map_map]; rfl
    · rintro σ H1 ⟨⟨y2, rfl⟩, s1, xs, hxs, hxl, hxp⟩
      refine ⟨_, rfl, k pf xs H1 s1 hxs ⟨by unfold setsL; rw [hxl, List.length_map, List.length_range], fun j x hx => ?_⟩ fun a ham => ?_⟩
      case refine_2 =>
        obtain ⟨j, hj, ej⟩ := List.getElem_of_mem ham
        obtain ⟨a', e', _, nh, _⟩ := hxp j _ (List.getElem?_eq_getElem hj)
        rw [ej] at e'
        injection e' with e'
        rw [e']; exact nh
      obtain ⟨a, e, _, _, ha⟩ := hxp j x hx
      have hj : j < 2 ^ ns.length := by have := (List.getElem?_eq_some_iff.mp hx).1; omega
      have eg : (setsL ns).getD j [] = pickL ns j := by
        unfold setsL
        simp [List.getD, List.getElem?_map, List.getElem?_range hj]
      exact ⟨a, e, by rw [eg]; exact ha⟩
end
end K11

set_option Elab.async false
set_option linter.all false
set_option maxRecDepth 100000
set_option maxHeartbeats 4000000
namespace K11
open PySem L2 KG EX KM
theorem Frs.cat {H : Hp} {xs ys : List V} {ps qs : List Rat} (h1 : Frs H xs ps) (h2 : Frs H ys qs) : Frs H (xs ++ ys) (ps ++ qs) := by
  refine ⟨by simp [h1.1, h2.1], fun j y hy => ?_⟩
  rcases Nat.lt_or_ge j xs.length with z | z
  · rw [List.getElem?_append_left z] at hy
    obtain ⟨c, e, hc⟩ := h1.2 j y hy
    refine ⟨c, e, ?_⟩
    have : (ps ++ qs).getD j 0 = ps.getD j 0 := by simp [List.getD, List.getElem?_append_left (h1.1 ▸ z)]
    rw [this]; exact hc
  · rw [List.getElem?_append_right z] at hy
    obtain ⟨c, e, hc⟩ := h2.2 _ y hy
    refine ⟨c, e, ?_⟩
    have : (ps ++ qs).getD j 0 = qs.getD (j - xs.length) 0 := by
      rw [h1.1] at z ⊢
      simp [List.getD, List.getElem?_append_right z]
    rw [this]; exact hc
def numOf (c : Int) (q : Rat) : Int := q.num * (c / (q.den : Int))
theorem num_of {c : Int} {q : Rat} (h : (q.den : Int) ∣ c) : ((numOf c q : Int) : Rat) = (c : Rat) * q := by
  obtain ⟨x, rfl⟩ := h
  have hd := den_pos q
  unfold numOf
  rw [Int.mul_ediv_cancel_left _ (by omega), Rat.intCast_mul, Rat.intCast_mul, ← mul_den q]
  grind
theorem ints_of {c : Int} {qs : List Rat} (h : ∀ q ∈ qs, (q.den : Int) ∣ c) : IntsOf c (qs.map (numOf c)) qs := by
  refine ⟨List.length_map _, fun j hj => ?_⟩
  have e1 : (qs.map (numOf c)).getD j 0 = numOf c (qs.getD j 0) := by simp [List.getD, List.getElem?_map, List.getElem?_eq_getElem hj]
  have e2 : qs.getD j 0 ∈ qs := by simp [List.getD, List.getElem?_eq_getElem hj]
  rw [e1]
  exact num_of (h _ e2)
/-- by times what is left of a bottom -/
theorem step_div {c : Int} {q : Rat} (hc : 0 < c) : 0 < c * ((Rat.divInt c (q.den : Int)).den : Int) ∧ (q.den : Int) ∣ c * ((Rat.divInt c (q.den : Int)).den : Int) ∧ ((Rat.divInt c (q.den : Int)).den : Int).natAbs ≤ (q.den : Int).natAbs := by
  have hd := den_pos q
  obtain ⟨_, e2⟩ := nf_rat (T := c) (U := (q.den : Int)) (by omega)
  obtain ⟨_, n2, _, _, _, n6⟩ := nf_spec (t := c) (u := (q.den : Int)) (by omega)
  obtain ⟨_, p2⟩ := nf_pos (t := c) hd
  refine ⟨Int.mul_pos hc (den_pos _), ?_, by rw [← e2]; exact n6⟩
  rw [← e2, p2]
  obtain ⟨x, hx⟩ := Int.gcd_dvd_left (a := c) (b := (q.den : Int))
  obtain ⟨y, hy⟩ := Int.gcd_dvd_right (a := c) (b := (q.den : Int))
  have hg : (Int.gcd c (q.den : Int) : Int) ≠ 0 := by intro z; rw [z, Int.zero_mul] at hx; omega
  have ey : (q.den : Int) / (Int.gcd c (q.den : Int) : Int) = y := Int.ediv_eq_of_eq_mul_right hg hy
  rw [ey]
  generalize (Int.gcd c (q.den : Int) : Int) = g at hx hy
  refine ⟨x, ?_⟩
  rw [hx, hy]
  grind
theorem flat_ints (ns : List Int) : (ns.map V.int).all flatV = true := by
  rw [List.all_map]; simp [Function.comp_def, flatV]
section
variable {P : Program} {w : World} {K : PySem.W.Frag} {mg : Str → Option Value} {base : Heap}
abbrev NI : List Str := ["market", "prices", "some", "by", "one", "numbers"]
theorem scInts : FnScope NI ["market", "prices"] (defScope (top 37)) := ⟨rfl, rfl, rfl, by decide +kernel, rfl, by decide +kernel, by decide +kernel⟩
theorem ok_ints {f fM fF : Addr} {fd dM dF : FuncData} (F : Fun K "_law_ints" "_law_ints" (top 37) f fd) (N : Nm mg) (M : Cal K mg P w base "_law_mul" 2 ["one", "other"] (sp2 qTi) fM dM) (R : Cal K mg P w base "_law_frac" 1 ["top", "bottom"] spLf fF dF) : FnOk P w K mg base CX0 3 f fd ["market", "prices"] spInts := by
  refine F.ok scInts (fun vs H Q E h => ?_) (fun cdv A' outer s H vs Q E hr h => ?_)
  · obtain ⟨b, p, pa, pp, pw, q, xa, xp, xw, ys, am, pu, wi, qs, rfl, _⟩ := h; rfl
  · obtain ⟨b, p, pa, pp, pw, q, xa, xp, xw, ys, am, pu, wi, qs, rfl, m, pr, hql, k⟩ := h
    have hr1 : Room 1 _ := hr.mono (by decide)
    refine ⟨_, pss_cons (ps_setC (i := 2) (own := ["good"]) (cap := ["market", "prices"]) (ix := [0, 1]) scInts.nd rfl rfl (BlkOk.of (defScope (top 37)).names NI) rfl (pi_range1 rfl N.range (pa_cons (pe_callB (cLen K) (by rfl) N.len PySem.boot_len (pa_cons (pv 1) pa_nil)) pa_nil))
        (fun C fp s H => ⟨pg_name (i := 0) (show List.Nodup (["good", "market", "prices"] : List Str) by decide +kernel) rfl (Or.inl rfl), pifs_nil,
          pe_call M.ok hr rfl M.mg M.kp M.bd .nil pass0 (pa_cons (pe_ix (ixT K) (pv 2) (pv 0) (fun _ _ => rfl)) (pa_cons (pe_tup (pa_cons (pe_ix (ixT K) (pe_ix (ixT K) (pv 1) pe_int (fun _ _ => rfl)) (pv 0) (fun _ _ => rfl)) (pa_cons pe_int pa_nil))) pa_nil))⟩))
      (pss_cons (ps_set (i := 2) scInts.nd rfl (Or.inl rfl) (pe_op op_cat (pv 2) (pe_callTy (cLst K) (by rfl) N.list boot_list (pa_cons (pe_ix (ixT K) (pv 0) pe_int (fun _ _ => rfl)) pa_nil))))
      (pss_cons (ps_set (i := 3) scInts.nd rfl (Or.inr rfl) pe_int)
      (pss_cons (ps_for PassesOwn.never rfl (piL K (pv 2)) (pg_name (i := 4) scInts.nd rfl (Or.inl rfl)) (pss_one (ps_set (i := 3) scInts.nd rfl (Or.inr rfl) (pe_op op_mulB (pv 3) (pe_ix (ixT K) (pe_call R.ok hr1 rfl R.mg R.kp R.bd .nil pass0 (pa_cons (pv 3) (pa_cons (pe_ix (ixT K) (pv 4) pe_int (fun _ _ => rfl)) pa_nil))) pe_int (fun _ _ => rfl))))))
      (pss_cons (ps_setC (i := 5) (own := ["one"]) (cap := ["by"]) (ix := [3]) scInts.nd rfl rfl (BlkOk.of (defScope (top 37)).names NI) rfl (piL K (pv 2))
        (fun C fp s H => ⟨pg_name (i := 0) (show List.Nodup (["one", "by"] : List Str) by decide +kernel) rfl (Or.inl rfl), pifs_nil, pe_op op_mulB (pe_ix (ixT K) (pv 0) pe_int (fun _ _ => rfl)) (pe_op op_fdivB (pv 1) (pe_ix (ixT K) (pv 0) pe_int (fun _ _ => rfl)))⟩))
      (pss_one (ps_ret (pe_lst (pa_cons (pe_slice sl_list (pv 5) po_none (po_some (pe_callB (cLen K) (by rfl) N.len PySem.boot_len (pa_cons (pv 1) pa_nil)))) (pa_cons (pe_slice sl_list (pv 5) (po_some (pe_callB (cLen K) (by rfl) N.len PySem.boot_len (pa_cons (pv 1) pa_nil))) po_none) pa_nil))))))))), ?_⟩
    obtain ⟨exa, ham⟩ := m.am
    obtain ⟨_, _, _, _, a1, a6, w1, w6, wp⟩ := m.lw
    have hfr := Frs.of pr.tr
    have hyl : ys.length = qs.length := hfr.1
    -- the moneys
    refine ⟨_, rfl, q, ys, rfl, .inr (SqT.of pr.hq), (ys.length : Int), rfl, by omega, by omega, fun acc hacc => ?_⟩
    rw [Int.toNat_natCast]
    refine comp_range (fun i zs H' => Stay H H' ∧ Frs H' zs ((List.range i).map fun g => qs.getD g 0 * (((am.map intOf).getD g 0 : Int) : Rat))) ⟨(Stay.refl H).acc hacc, rfl, fun j y hy => by simp at hy⟩ ?_ ?_
    · rintro g zs H' hg hy ⟨st, fr⟩
      have e0 : (0 + (g : Int)) = (g : Int) := by omega
      rw [e0]
      obtain ⟨a, ea, ha⟩ := (hfr.stay st).at (g := g) (by omega)
      have hamg : g < (am.map intOf).length := by have := congrArg List.length exa; rw [List.length_map] at this; omega
      obtain ⟨ea2, _, em2⟩ := atI_ints (ns := am.map intOf) (r := (g : Int)) (by omega) (by omega)
      rw [← exa] at ea2
      have eg : ((g : Int)).toNat = g := by omega
      rw [eg] at ea2 em2
      have m' := m.stay st
      refine yes_i ?_
      refine ⟨_, rfl, _, rfl, q, _, _, _, rfl, rfl, SqT.of (st _ _ pr.hq), ea, _, rfl, p, _, _, _, rfl, rfl, SqT.of m'.hp, rfl, _, rfl, pa, _, _, _, rfl, rfl, SqT.of m'.ha, ea2, by show 2 ≤ sizeLine; decide, fun t ht => ?_⟩
      have st1 := (Stay.refl H').new (o := .tup [.int ((am.map intOf).getD g 0), .int 1]) ht
      have bam : Rb 7 (((am.map intOf).getD g 0 : Int) : Rat) := rb_int (by have := ham _ em2; unfold Bd; omega) (by decide)
      refine ⟨a, t, qs.getD g 0, (((am.map intOf).getD g 0 : Int) : Rat), rfl, st1 _ _ ha, upd_same, (pr.rb g).mono (by decide), bam.mono (by decide), fun r hr' => ?_⟩
      have st2 := st1.new (o := qO (qTi (qs.getD g 0) (((am.map intOf).getD g 0 : Int) : Rat))) hr'
      have hy2 := st2 _ _ hy
      refine ⟨_, hy2, ?_, Cn.of upd_same ⟨(st.trans st2).acc hacc, ?_⟩⟩
      · rw [fr.1, List.length_map, List.length_range, sz]; omega
      · rw [List.range_succ, List.map_append]
        exact ((fr.stay st2).app (a := r) upd_same).tm (Tm.lst hy2)
    rintro zs H1 hy1 ⟨s1, fr1⟩
    rw [hyl] at fr1
    have fr1' : Frs H1 zs (moneysQ (am.map intOf) qs) := fr1
    have hzl : zs.length = qs.length := by rw [fr1'.1]; unfold moneysQ; simp
    have m1 := m.stay s1
    refine ⟨_, rfl, _, rfl, p, _, _, _, rfl, rfl, SqT.of m1.hp, rfl, pp, xp, rfl, .inr (SqT.of m1.hpp), fun l1 hl1 => ?_⟩
    have s12 := (Stay.refl H1).new (o := .lst xp) hl1
    refine ⟨acc, l1, zs, xp, rfl, rfl, s12 _ _ hy1, upd_same, by rw [sz]; omega, fun l2 hl2 => ?_⟩
    have s13 := s12.new (o := .lst (zs ++ xp)) hl2
    have el2 : (upd (upd H1 l1 (.lst xp)) l2 (.lst (zs ++ xp))) l2 = some (.lst (zs ++ xp)) := upd_same
    have fr3 : Frs (upd (upd H1 l1 (.lst xp)) l2 (.lst (zs ++ xp))) (zs ++ xp) (moneysQ (am.map intOf) qs ++ pursesQ pu) := Frs.cat (fr1'.stay s13) ((m1.stay s13).fp)
    have s03 := s1.trans s13
    generalize upd (upd H1 l1 (.lst xp)) l2 (.lst (zs ++ xp)) = H3 at s13 el2 fr3 s03 ⊢
    have hml : (moneysQ (am.map intOf) qs).length = qs.length := by unfold moneysQ; simp
    have hpl : xp.length = (pursesQ pu).length := m.fp.1
    generalize hall : moneysQ (am.map intOf) qs ++ pursesQ pu = all at fr3
    have hal : all.length = qs.length + (pursesQ pu).length := by rw [← hall, List.length_append, hml]
    have hbd : ∀ z ∈ all, Rb 300 z := fun z hz => by
      rw [← hall] at hz
      rcases List.mem_append.mp hz with y | y
      · unfold moneysQ at y
        obtain ⟨g, hg, rfl⟩ := List.mem_map.mp y
        have hgx : g < qs.length := by simpa using hg
        have hamg : g < (am.map intOf).length := by have := congrArg List.length exa; rw [List.length_map] at this; omega
        have em : (am.map intOf).getD g 0 ∈ am.map intOf := by
          have e3 := List.getElem?_eq_getElem hamg
          have : (am.map intOf).getD g 0 = (am.map intOf)[g] := by simp only [List.getD, e3, Option.getD_some]
          rw [this]; exact List.getElem_mem hamg
        have bam : Rb 7 (((am.map intOf).getD g 0 : Int) : Rat) := rb_int (by have := ham _ em; unfold Bd; omega) (by decide)
        exact (rb_mul (pr.rb g) bam).mono (by decide)
      · exact ((m.pu.2 z y).2).mono (by decide)
    -- by
    refine ⟨_, rfl, l2, rfl, ⟨_, SqL.of el2⟩, ?_⟩
    refine for_list (xs := zs ++ xp) (fun i σ H' => (∃ c y4, σ = [some (.ref p), some (.ref q), some (.ref l2), some (.int c), y4, none] ∧ 0 < c ∧ Bd (1 + 300 * i) c ∧ ∀ z ∈ all.take i, (z.den : Int) ∣ c) ∧ Stay H3 H') ⟨⟨1, _, rfl, by decide, by unfold Bd; decide, fun z hz => by simp at hz⟩, Stay.refl H3⟩ (fun j σ H' _ z => SqL.of (z.2 _ _ el2)) ?_ ?_
    · rintro i y σ H4 hy ⟨⟨c, y4, rfl, hc0, hcb, hcd⟩, s4⟩
      obtain ⟨a, rfl, ha⟩ := (fr3.stay s4).2 i y hy
      have hi : i < all.length := by have := (List.getElem?_eq_some_iff.mp hy).1; rw [fr3.1] at this; exact this
      have eq : all[i]? = some (all.getD i 0) := by simp [List.getD, List.getElem?_eq_getElem hi]
      have bq := hbd _ (List.mem_of_getElem? eq)
      have hi12 : i ≤ 12 := by omega
      obtain ⟨d1, d2, d3⟩ := step_div (c := c) (q := all.getD i 0) hc0
      refine ⟨_, rfl, _, rfl, _, rfl, a, _, _, _, rfl, rfl, SqT.of ha, rfl, c, _, rfl, den_pos _, bq.2.mono (by decide), fun r hr' => ?_⟩
      have bden : Bd 300 ((Rat.divInt c ((all.getD i 0).den : Int)).den : Int) := bq.2.le d3
      refine ⟨r, _, _, _, rfl, rfl, SqT.of upd_same, rfl, _, _, rfl, rfl, ⟨hcb.mono (by omega), bden.mono (by decide)⟩, ?_⟩
      refine ⟨⟨_, _, rfl, d1, (hcb.mul bden).mono (by omega), fun z hz => ?_⟩, s4.new hr'⟩
      rw [take_snoc eq] at hz
      rcases List.mem_append.mp hz with y | y
      · exact Int.dvd_trans (hcd z y) ⟨_, rfl⟩
      · have : z = all.getD i 0 := by simpa using y
        rw [this]; exact d2
    rintro σ H4 ⟨⟨c, y4, rfl, hc0, hcb, hcd⟩, s4⟩
    have hlen : (zs ++ xp).length = all.length := fr3.1
    rw [hlen, List.take_of_length_le (Nat.le_refl _)] at hcd
    rw [hlen] at hcb
    -- numbers
    refine ⟨_, rfl, l2, rfl, ⟨_, SqL.of (s4 _ _ el2)⟩, fun acc2 hacc2 => ?_⟩
    refine comp_list (xs := zs ++ xp) (fun i vs H' => Stay H4 H' ∧ vs = ((all.take i).map (numOf c)).map V.int) ⟨(Stay.refl H4).acc hacc2, rfl⟩ (fun j vs H' _ _ z => SqL.of (z.1 _ _ (s4 _ _ el2))) ?_ ?_
    · rintro i x vs H' hx hy ⟨st, rfl⟩
      obtain ⟨a, rfl, ha⟩ := ((fr3.stay s4).stay st).2 i x hx
      have hi : i < all.length := by have := (List.getElem?_eq_some_iff.mp hx).1; rw [fr3.1] at this; exact this
      have eq : all[i]? = some (all.getD i 0) := by simp [List.getD, List.getElem?_eq_getElem hi]
      have bq := hbd _ (List.mem_of_getElem? eq)
      have hd := den_pos (all.getD i 0)
      have bdv : Bd 8000 (c / ((all.getD i 0).den : Int)) := (hcb.le (by
        have h1 : 0 ≤ c / ((all.getD i 0).den : Int) := Int.ediv_nonneg (by omega) (by omega)
        have h2 : c / ((all.getD i 0).den : Int) ≤ c := Int.ediv_le_self _ (by omega)
        omega)).mono (by omega)
      refine yes_i ⟨_, rfl, a, _, _, _, rfl, rfl, SqT.of ha, rfl, _, rfl, _, rfl, a, _, _, _, rfl, rfl, SqT.of ha, rfl, _, _, rfl, rfl, ⟨hd, bq.2.mono (by decide)⟩, _, _, rfl, rfl, ⟨bq.1.mono (by decide), bdv⟩, _, hy, ?_, Cn.of upd_same ⟨st.acc hacc2, ?_⟩⟩
      · rw [List.length_map, List.length_map, List.length_take, sz]; omega
      · rw [take_snoc eq, List.map_append, List.map_append]; rfl
    rintro vs H5 hy5 ⟨s5, rfl⟩
    rw [hlen, List.take_of_length_le (Nat.le_refl _)] at hy5
    have hq5 := s5 _ _ (s4 _ _ (s03 _ _ pr.hq))
    refine ⟨_, rfl, _, rfl, q, ys, rfl, .inr (SqT.of hq5), _, rfl, acc2, _, rfl, SqL.of hy5, fun r1 hr1 => ?_⟩
    have s6 := (Stay.refl H5).new (o := .lst (cutV ((all.map (numOf c)).map V.int) none (some (ys.length : Int)))) hr1
    refine ⟨_, rfl, _, rfl, q, ys, rfl, .inr (SqT.of (s6 _ _ hq5)), _, rfl, acc2, _, rfl, SqL.of (s6 _ _ hy5), fun r2 hr2 => ?_⟩
    have hxl : ((all.map (numOf c)).map V.int).length = all.length := by rw [List.length_map, List.length_map]
    have c1 := cut_to (xs := (all.map (numOf c)).map V.int) (r := (ys.length : Int)) (by omega) (by omega)
    have c2 := cut_from (xs := (all.map (numOf c)).map V.int) (r := (ys.length : Int)) (by omega) (by omega)
    rw [Int.toNat_natCast] at c1 c2
    have t1 : ((all.map (numOf c)).map V.int).take ys.length = ((moneysQ (am.map intOf) qs).map (numOf c)).map V.int := by
      rw [← hall, List.map_append, List.map_append, List.take_left' (by rw [List.length_map, List.length_map]; omega)]
    have t2 : ((all.map (numOf c)).map V.int).drop ys.length = ((pursesQ pu).map (numOf c)).map V.int := by
      rw [← hall, List.map_append, List.map_append, List.drop_left' (by rw [List.length_map, List.length_map]; omega)]
    have s7 := (Stay.refl (upd H5 r1 (.lst (cutV ((all.map (numOf c)).map V.int) none (some (ys.length : Int)))))).new (o := .lst (cutV ((all.map (numOf c)).map V.int) (some (ys.length : Int)) none)) hr2
    have e1 : (upd H5 r1 (.lst (cutV ((all.map (numOf c)).map V.int) none (some (ys.length : Int))))) r1 = some (.lst (((moneysQ (am.map intOf) qs).map (numOf c)).map V.int)) := by rw [upd_same, c1, t1]
    refine ⟨by show 2 ≤ sizeLine; decide, fun r hr' => ?_⟩
    have s8 := (Stay.refl (upd (upd H5 r1 (.lst (cutV ((all.map (numOf c)).map V.int) none (some (ys.length : Int))))) r2 (.lst (cutV ((all.map (numOf c)).map V.int) (some (ys.length : Int)) none)))).new (o := .lst [.ref r1, .ref r2]) hr'
    have e2 : (upd (upd H5 r1 (.lst (cutV ((all.map (numOf c)).map V.int) none (some (ys.length : Int))))) r2 (.lst (cutV ((all.map (numOf c)).map V.int) (some (ys.length : Int)) none))) r2 = some (.lst (((pursesQ pu).map (numOf c)).map V.int)) := by rw [upd_same, c2, t2]
    exact k r r1 r2 c _ _ _ (s03.trans (s4.trans (s5.trans (s6.trans (s7.trans s8))))) hc0 (ints_of fun z hz => hcd z (by rw [← hall]; exact List.mem_append_left _ hz)) (ints_of fun z hz => hcd z (by rw [← hall]; exact List.mem_append_right _ hz)) upd_same (s8 _ _ (s7 _ _ e1)) (s8 _ _ e2)
end
end K11

set_option Elab.async false
set_option linter.all false
set_option maxRecDepth 100000
set_option maxHeartbeats 4000000
namespace K11
open PySem L2 KG EX KM
section
variable {P : Program} {w : World} {K : PySem.W.Frag} {mg : Str → Option Value} {base : Heap}
abbrev NLe : List Str := ["rows", "most", "sets", "found", "one"]
theorem scLeast : FnScope NLe ["rows"] (defScope (top 38)) := ⟨rfl, rfl, rfl, by decide +kernel, rfl, by decide +kernel, by decide +kernel⟩
theorem ok_lleast {f : Addr} {fd : FuncData} (F : Fun K "_law_least" "_law_least" (top 38) f fd) (N : Nm mg) : FnOk P w K mg base CX0 1 f fd ["rows"] spLeast := by
  refine F.ok scLeast (fun vs H Q E h => ?_) (fun cdv A' outer s H vs Q E hr h => ?_)
  · obtain ⟨l, xs, rows, rfl, _⟩ := h; rfl
  · obtain ⟨l, xs, rows, rfl, hl, hrow, hne, h64, h6, k⟩ := h
    have hu := hr.units
    refine ⟨_, pss_cons (ps_set (i := 1) scLeast.nd rfl (Or.inr rfl) (pe_callB (cMax K rfl) (by rfl) N.max boot_max (pa_cons (pe_comp (own := ["row"]) (cap := []) (ix := []) (BlkOk.of (defScope (top 38)).names NLe) rfl (piL K (pv 0))
        (fun C fp s H => ⟨pg_name (i := 0) (show List.Nodup (["row"] : List Str) by decide +kernel) rfl (Or.inl rfl), pifs_nil, pe_ix (ixL K) (pv 0) pe_int (fun _ _ => rfl)⟩)) pa_nil)))
      (pss_cons (ps_setC (i := 2) (own := ["row"]) (cap := ["most"]) (ix := [1]) scLeast.nd rfl rfl (BlkOk.of (defScope (top 38)).names NLe) rfl (piL K (pv 0))
        (fun C fp s H => ⟨pg_name (i := 0) (show List.Nodup (["row", "most"] : List Str) by decide +kernel) rfl (Or.inl rfl), pifs_one (pt_cmpR op_eq (pe_ix (ixL K) (pv 0) pe_int (fun _ _ => rfl)) (pv 1) (nomark _)), pe_ix (ixL K) (pv 0) pe_int (fun _ _ => rfl)⟩))
      (pss_cons (ps_set (i := 3) scLeast.nd rfl (Or.inl rfl) (pe_lst pa_nil))
      (pss_cons (ps_for PassesOwn.never rfl (piL K (pe_ix (ixL K) (pv 2) pe_int (fun _ _ => rfl))) (pg_name (i := 4) scLeast.nd rfl (Or.inr rfl))
        (pss_one (ps_if (pt_cmpR (opEqD K hu) (pe_comp (own := ["some"]) (cap := ["one"]) (ix := [4]) (BlkOk.of (defScope (top 38)).names NLe) rfl (piL K (pv 2))
          (fun C fp s H => ⟨pg_name (i := 0) (show List.Nodup (["some", "one"] : List Str) by decide +kernel) rfl (Or.inl rfl), pifs_one (pt_cmpR (opNinK K) (pv 1) (pv 0) (by with_unfolding_all rfl)), pv 0⟩)) (pe_lst pa_nil) (nomark _))
          (pss_one (ps_expr (pe_bm PySem.F.plainAttrs_list PySem.F.slot_list_append PySem.F.type_list_append mt_append (pv 3) (pa_cons (pv 4) pa_nil)))) pss_nil)))
      (pss_one (ps_ret (pe_callTy (cTup K) (by rfl) N.tuple boot_tuple (pa_cons (pv 3) pa_nil))))))), ?_⟩
    have rowAt : ∀ (i : Nat) x, xs[i]? = some x → ∃ (a c : Addr) (r : Int × List Int), rows[i]? = some r ∧ x = .ref a ∧ H a = some (.lst [.int r.1, .ref c]) ∧ H c = some (.lst (r.2.map V.int)) := fun i x hx => by
      obtain ⟨a, c, e, z, y⟩ := hrow.2 i x hx
      have hi : i < rows.length := by rw [← hrow.1]; exact (List.getElem?_eq_some_iff.mp hx).1
      have eg : rows.getD i (0, []) = rows[i] := by simp [List.getD, List.getElem?_eq_getElem hi]
      rw [eg] at z y
      exact ⟨a, c, rows[i], List.getElem?_eq_getElem hi, e, z, y⟩
    -- the greatest number
    refine ⟨_, rfl, l, rfl, ⟨_, SqL.of hl⟩, fun acc hacc => ?_⟩
    refine comp_list (xs := xs) (fun i ys H' => Stay H H' ∧ ys = ((rows.take i).map (·.1)).map V.int) ⟨(Stay.refl H).acc hacc, rfl⟩ (fun i ys H' _ _ z => SqL.of (z.1 _ _ hl)) ?_ ?_
    · rintro i x ys H1 hx hy ⟨s1, rfl⟩
      obtain ⟨a, c, r, hri, rfl, ha, hc⟩ := rowAt i x hx
      refine yes_i ⟨_, rfl, a, _, _, _, rfl, rfl, SqL.of (s1 _ _ ha), rfl, _, hy, ?_, Cn.of upd_same ⟨s1.acc hacc, ?_⟩⟩
      · rw [List.length_map, List.length_map, List.length_take, sz]; omega
      · rw [take_snoc hri, List.map_append, List.map_append]; rfl
    rintro ys H1 hy ⟨s1, rfl⟩
    rw [hrow.1, List.take_length] at hy
    refine ⟨acc, rows.map (·.1), rfl, .inl (SqL.of hy), by simpa using hne, fun m hm hmax => ?_⟩
    -- the sets
    refine ⟨_, rfl, l, rfl, ⟨_, SqL.of (s1 _ _ hl)⟩, fun acc2 hacc2 => ?_⟩
    refine comp_list (xs := xs) (fun i ys H' => Stay H1 H' ∧ LsR H1 ys (topsL (rows.take i) m) ∧ ys.length ≤ i) ⟨(Stay.refl H1).acc hacc2, ⟨rfl, fun j x z => by simp at z⟩, Nat.le_refl _⟩ (fun i ys H' _ _ z => SqL.of (z.1 _ _ (s1 _ _ hl))) ?_ ?_
    · rintro i x ys H2 hx hy2 ⟨s2, ls, hyl⟩
      obtain ⟨a, c, r, hri, rfl, ha, hc⟩ := rowAt i x hx
      have s12 := s1.trans s2
      have hi : i < rows.length := (List.getElem?_eq_some_iff.mp hri).1
      refine ⟨_, rfl, a, _, _, _, rfl, rfl, SqL.of (s12 _ _ ha), rfl, _, rfl, rfl, _, rfl, ?_⟩
      have et : topsL (rows.take (i + 1)) m = topsL (rows.take i) m ++ if r.1 = m then [r.2] else [] := by
        unfold topsL
        rw [take_snoc hri, List.filter_append, List.map_append]
        congr 1
        by_cases h : r.1 = m
        · rw [if_pos h]; simp only [List.filter, h, decide_true, List.map_cons, List.map_nil]
        · rw [if_neg h]; simp only [List.filter, h, decide_false, List.map_nil]
      by_cases h : r.1 = m
      · rw [show decide (V.int r.1 = V.int m) = true by simp [h]]
        refine iteT ⟨_, rfl, a, _, _, _, rfl, rfl, SqL.of (s12 _ _ ha), rfl, ys, hy2, ?_, Cn.of upd_same ⟨s2.acc hacc2, ?_, ?_⟩⟩
        · rw [sz]; omega
        · rw [et, if_pos h]; exact ls.app (s1 _ _ hc)
        · rw [List.length_append]; show ys.length + 1 ≤ i + 1; omega
      · rw [show decide (V.int r.1 = V.int m) = false by simp [h]]
        refine iteF (Cn.of hy2 ⟨s2, ?_, by omega⟩)
        rw [et, if_neg h, List.append_nil]; exact ls
    rintro ys H2 hy2 ⟨s2, ls, hyl⟩
    rw [hrow.1, List.take_length] at ls
    have s12 := s1.trans s2
    -- found
    refine ⟨by show 0 ≤ sizeLine; decide, fun pf hpf => ?_⟩
    have s3 := (Stay.refl H2).new (o := .lst []) hpf
    have hf3 : (upd H2 pf (.lst [])) pf = some (.lst []) := upd_same
    generalize upd H2 pf (.lst []) = H3 at s3 hf3 ⊢
    have tne : topsL rows m ≠ [] := by
      obtain ⟨r, hr1, hr2⟩ := List.mem_map.mp hm
      intro z
      have : r.2 ∈ topsL rows m := by
        unfold topsL
        exact List.mem_map.mpr ⟨r, List.mem_filter.mpr ⟨hr1, by simp [hr2]⟩, rfl⟩
      rw [z] at this; cases this
    have tl6 : ∀ t ∈ topsL rows m, t.length ≤ 6 := fun t ht => by
      unfold topsL at ht
      obtain ⟨r, hr1, rfl⟩ := List.mem_map.mp ht
      exact h6 r (List.mem_filter.mp hr1).1
    have tlen : (topsL rows m).length ≤ 64 := by
      unfold topsL
      rw [List.length_map]
      exact Nat.le_trans (List.length_filter_le _ _) h64
    generalize htops : topsL rows m = tops at ls tne tl6 tlen
    have hpos : 0 < tops.length := List.length_pos_iff.mpr tne
    have hpy : 0 < ys.length := by rw [ls.1]; exact hpos
    obtain ⟨c0, ec0, hc0⟩ := ls.2 0 _ (List.getElem?_eq_getElem hpy)
    have e0 : atI ys ((0 : Nat) : Int) = some (.ref c0) := by rw [← ec0]; exact atI_nat (List.getElem?_eq_getElem hpy)
    have s23 := s2.trans s3
    have s13 := s1.trans s23
    have hHpf : H2 pf = none := hpf
    generalize hT0 : tops.getD 0 [] = T0 at hc0
    refine ⟨_, rfl, acc2, _, _, _, rfl, rfl, SqL.of (s3 _ _ hy2), e0, c0, rfl, ⟨_, SqL.of (s23 _ _ hc0)⟩, ?_⟩
    have h1pf : H1 pf = none := s2.free hpf
    have hHpf0 : H pf = none := s1.free h1pf
    have T06 : T0.length ≤ 6 := by
      rw [← hT0]
      refine tl6 _ ?_
      simp only [List.getD, List.getElem?_eq_getElem hpos, Option.getD_some]
      exact List.getElem_mem hpos
    refine for_list (xs := T0.map V.int) (fun i σ H' => (∃ y4, σ = [some (.ref l), some (.int m), some (.ref acc2), some (.ref pf), y4]) ∧ Stay H2 H' ∧ H' pf = some (.lst ((((T0.take i).filter fun x => tops.all fun s => s.contains x)).map V.int)))
      ⟨⟨_, rfl⟩, s3, hf3⟩ (fun i σ H' _ z => SqL.of (z.2.1 _ _ (s2 _ _ hc0))) ?_ ?_
    · rintro i x σ H4 hx ⟨⟨y4, rfl⟩, s4, hf4⟩
      obtain ⟨n, hn, rfl⟩ : ∃ n : Int, T0[i]? = some n ∧ x = V.int n := by
        rw [List.getElem?_map] at hx
        cases e : T0[i]? with
        | none => rw [e] at hx; cases hx
        | some n => rw [e] at hx; exact ⟨n, rfl, by simpa using hx.symm⟩
      have hi : i < T0.length := (List.getElem?_eq_some_iff.mp hn).1
      refine ⟨_, rfl, acc2, rfl, ⟨_, SqL.of (s4 _ _ hy2)⟩, fun acc5 hacc5 => ?_⟩
      refine comp_list (xs := ys) (fun j zs H' => Stay H4 H' ∧ LsR H1 zs ((tops.take j).filter fun s => !s.contains n) ∧ zs.length ≤ j) ⟨(Stay.refl H4).acc hacc5, ⟨rfl, fun j x z => by simp at z⟩, Nat.le_refl _⟩ (fun j zs H' _ _ z => SqL.of (z.1 _ _ (s4 _ _ hy2))) ?_ ?_
      · rintro j x zs H5 hx5 hz ⟨s5, lz, hzl⟩
        obtain ⟨c, rfl, hc⟩ := ls.2 j x hx5
        have hj : j < tops.length := by rw [← ls.1]; exact (List.getElem?_eq_some_iff.mp hx5).1
        have eg : tops.getD j [] = tops[j] := by simp [List.getD, List.getElem?_eq_getElem hj]
        rw [eg] at hc
        have s25 := s4.trans s5
        refine ⟨_, rfl, _, rfl, c, _, rfl, .inl (SqL.of (s25 _ _ (s2 _ _ hc))), rfl, flat_ints _, _, rfl, ?_⟩
        have ein : (if true = true then !inV (V.int n) (tops[j].map V.int) else inV (V.int n) (tops[j].map V.int)) = !tops[j].contains n := by rw [if_pos rfl, inv_ints]
        rw [ein]
        have ef : (tops.take (j + 1)).filter (fun s => !s.contains n) = (tops.take j).filter (fun s => !s.contains n) ++ if (!tops[j].contains n) = true then [tops[j]] else [] := by
          rw [take_snoc (List.getElem?_eq_getElem hj), List.filter_append]
          congr 1
          exact filt1 _ _
        cases hc5 : (!tops[j].contains n) with
        | true =>
          refine iteT ⟨_, rfl, zs, hz, by rw [sz]; omega, Cn.of upd_same ⟨s5.acc hacc5, ?_, ?_⟩⟩
          · rw [ef, hc5, if_pos rfl]; exact lz.app hc
          · rw [List.length_append]; show zs.length + 1 ≤ j + 1; omega
        | false =>
          refine iteF (Cn.of hz ⟨s5, ?_, by omega⟩)
          rw [ef, hc5, if_neg (by decide), List.append_nil]; exact lz
      · rintro zs H5 hz ⟨s5, lz, hzl⟩
        rw [ls.1, List.take_length] at lz
        refine ⟨by show 0 ≤ sizeLine; decide, fun q hq => ?_⟩
        have s6 := (Stay.refl H5).new (o := .lst []) hq
        have s46 := s5.trans s6
        have lz6 : LsR (upd H5 q (.lst [])) zs (tops.filter fun s => !s.contains n) := lz.stay (s2.trans (s4.trans s46))
        refine ⟨.list ((tops.filter fun s => !s.contains n).map fun r => .list (r.map PyData.int)), .list [], .lst (SqL.of (s6 _ _ hz)) (lsr_dt lz6), .lst (SqL.of upd_same) .nil, by show min _ 1 ≤ 60; omega, _, rfl, ?_⟩
        rw [eqv_nil]
        have eall : ((tops.filter fun s => !s.contains n).map fun r => PyData.list (r.map PyData.int)).isEmpty = tops.all fun s => s.contains n := by
          rw [List.isEmpty_map, filt_all]
        rw [eall]
        have hf6 := s46 _ _ hf4
        generalize upd H5 q (.lst []) = H6 at s46 hf6 ⊢
        have ef : (T0.take (i + 1)).filter (fun x => tops.all fun s => s.contains x) = (T0.take i).filter (fun x => tops.all fun s => s.contains x) ++ if (tops.all fun s => s.contains n) = true then [n] else [] := by
          rw [take_snoc hn, List.filter_append]
          congr 1
          exact filt1 _ _
        have lf : ((T0.take i).filter (fun x => tops.all fun s => s.contains x)).length ≤ 6 := by
          have h1 := List.length_filter_le (fun x => tops.all fun s => s.contains x) (T0.take i)
          have h3 : (T0.take i).length ≤ i := List.length_take_le _ _
          omega
        cases hc6 : tops.all fun s => s.contains n with
        | true =>
          refine iteT ⟨_, rfl, .inl ⟨rfl, _, SqL.of hf6⟩, _, rfl, pf, _, _, rfl, rfl, hf6, ?_, ⟨_, rfl⟩, (s4.trans s46).acc hpf, ?_⟩
          · rw [List.length_map, sz]; omega
          · rw [ef, hc6, if_pos rfl, List.map_append]; exact upd_same
        | false =>
          refine iteF ⟨⟨_, rfl⟩, s4.trans s46, ?_⟩
          rw [ef, hc6, if_neg (by decide), List.append_nil]; exact hf6
    · rintro σ H4 ⟨⟨y4, rfl⟩, s4, hf4⟩
      rw [List.length_map, List.take_length] at hf4
      refine ⟨_, rfl, pf, _, rfl, .inl ⟨SqL.of hf4, fun r hr' => ?_⟩⟩
      refine k m r _ hm hmax ((s12.trans s4).new hr') ?_
      unfold leastOf
      rw [htops, hT0]; exact upd_same
end
end K11

set_option Elab.async false
set_option linter.all false
set_option maxRecDepth 100000
set_option maxHeartbeats 4000000
namespace K11
open PySem L2 KG EX KM
section
variable {P : Program} {w : World} {K : PySem.W.Frag} {mg : Str → Option Value} {base : Heap}
abbrev ND : List Str := ["market", "prices", "best", "money", "purses", "rows", "goods", "spare"]
theorem scDear : FnScope ND ["market", "prices"] (defScope (top 39)) := ⟨rfl, rfl, rfl, by decide +kernel, rfl, by decide +kernel, by decide +kernel⟩
theorem ok_ldear {f fB fI fS fW fT fL : Addr} {fd dB dI dS dW dT dL : FuncData} (F : Fun K "_law_dear" "_law_dear" (top 39) f fd) (N : Nm mg) (Be : Cal K mg P w base "_law_best" 1 ["market", "prices"] spLBest fB dB) (In : Cal K mg P w base "_law_ints" 3 ["market", "prices"] spInts fI dI)
    (Se : Cal K mg P w base "_law_sets" 1 ["some"] spSets fS dS) (Wi : Cal K mg P w base "_law_wished" 1 ["market"] spLWished fW dW) (Ta : Cal K mg P w base "_law_takers" 1 ["best", "goods"] spLTakers fT dT) (Le : Cal K mg P w base "_law_least" 1 ["rows"] spLeast fL dL) : FnOk P w K mg base CX0 4 f fd ["market", "prices"] spLDear := by
  refine F.ok scDear (fun vs H Q E h => ?_) (fun cdv A' outer s H vs Q E hr h => ?_)
  · obtain ⟨b, p, pa, pp, pw, q, xa, xp, xw, ys, am, pu, wi, qs, rfl, _⟩ := h; rfl
  · obtain ⟨b, p, pa, pp, pw, q, xa, xp, xw, ys, am, pu, wi, qs, rfl, m, pr, hql, k⟩ := h
    have hr1 : Room 1 _ := hr.mono (by decide)
    obtain ⟨rw0, rne, rlen, rbd, a1, a6, w1, w6, wp⟩ := m.lw
    refine ⟨_, pss_cons (ps_set (i := 2) scDear.nd rfl (Or.inl rfl) (pe_call Be.ok hr1 rfl Be.mg Be.kp Be.bd .nil pass0 (pa_cons (pv 0) (pa_cons (pv 1) pa_nil))))
      (pss_cons (ps_asg (pe_call In.ok hr rfl In.mg In.kp In.bd .nil pass0 (pa_cons (pv 0) (pa_cons (pv 1) pa_nil))) (pg_lst rfl (pgs_cons (pg_name (i := 3) scDear.nd rfl (Or.inr rfl)) (pgs_cons (pg_name (i := 4) scDear.nd rfl (Or.inr rfl)) pgs_nil))))
      (pss_cons (ps_set (i := 5) scDear.nd rfl (Or.inl rfl) (pe_lst pa_nil))
      (pss_cons (ps_for PassesOwn.never rfl (piL K (pe_call Se.ok hr1 rfl Se.mg Se.kp Se.bd .nil pass0 (pa_cons (pe_call Wi.ok hr1 rfl Wi.mg Wi.kp Wi.bd .nil pass0 (pa_cons (pv 0) pa_nil)) pa_nil))) (pg_name (i := 6) scDear.nd rfl (Or.inl rfl))
        (pss_cons (ps_set (i := 7) scDear.nd rfl (Or.inl rfl) (pe_callB (cSum K rfl) (by rfl) N.sum boot_sum (pa_cons (pe_comp (own := ["buyer"]) (cap := ["purses"]) (ix := [4]) (BlkOk.of (defScope (top 39)).names ND) rfl (piL K (pe_call Ta.ok hr1 rfl Ta.mg Ta.kp Ta.bd .nil pass0 (pa_cons (pv 2) (pa_cons (pv 6) pa_nil))))
            (fun C fp s H => ⟨pg_name (i := 0) (show List.Nodup (["buyer", "purses"] : List Str) by decide +kernel) rfl (Or.inl rfl), pifs_nil, pe_ix (ixL K) (pv 1) (pv 0) (fun _ _ => rfl)⟩)) pa_nil)))
        (pss_one (ps_expr (pe_bm PySem.F.plainAttrs_list PySem.F.slot_list_append PySem.F.type_list_append mt_append (pv 5) (pa_cons (pe_lst (pa_cons (pe_op op_sub (pe_callB (cSum K rfl) (by rfl) N.sum boot_sum (pa_cons (pe_comp (own := ["good"]) (cap := ["money"]) (ix := [3]) (BlkOk.of (defScope (top 39)).names ND) rfl (piL K (pv 6))
            (fun C fp s H => ⟨pg_name (i := 0) (show List.Nodup (["good", "money"] : List Str) by decide +kernel) rfl (Or.inl rfl), pifs_nil, pe_ix (ixL K) (pv 1) (pv 0) (fun _ _ => rfl)⟩)) pa_nil)) (pv 7)) (pa_cons (pv 6) pa_nil))) pa_nil))))))
      (pss_one (ps_ret (pe_call Le.ok hr1 rfl Le.mg Le.kp Le.bd .nil pass0 (pa_cons (pv 5) pa_nil))))))), ?_⟩
    have hM6 : (rowsOf wi).length ≤ 6 := by rw [← rw0.len]; exact w6
    have hr6 : ∀ r ∈ rowsOf wi, r.length ≤ 6 := fun r hr' => by rw [rlen r hr']; exact a6
    refine ⟨_, rfl, _, rfl, b, p, pa, pp, pw, q, xa, xp, xw, ys, am, pu, wi, qs, rfl, m, pr, hql, fun rb xb H1 s1 hb1 ls1 => ?_⟩
    refine ⟨_, rfl, _, rfl, b, p, pa, pp, pw, q, xa, xp, xw, ys, am, pu, wi, qs, rfl, m.stay s1, pr.stay s1, hql, fun r2 rm rp c ms ps H2 s2 hc hms hps hr2 hrm hrp => ?_⟩
    refine ⟨r2, _, rfl, SqL.of hr2, rfl, _, _, rfl, _, _, rfl, rfl, ?_⟩
    refine ⟨by show 0 ≤ sizeLine; decide, fun pf hpf => ?_⟩
    have s3 := (Stay.refl H2).new (o := .lst []) hpf
    have hf3 : (upd H2 pf (.lst [])) pf = some (.lst []) := upd_same
    have s12 := s1.trans s2
    generalize upd H2 pf (.lst []) = H3 at s3 hf3 ⊢
    have s13 := s12.trans s3
    have m3 := m.stay s13
    obtain ⟨rw3, _, _, _, _, _, _, _, _⟩ := m3.lw
    refine ⟨_, rfl, p, pa, pw, _, xa, xw, rowsOf wi, rfl, m3.hp, m3.ha, m3.hw, rw3, rne, rlen, a6, w6, fun q4 H4 s4 _ e4 => ?_⟩
    rw [wishedL_Z] at e4
    have hwl : (wishZ xa.length (rowsOf wi)).length ≤ 6 := by
      unfold wishZ
      rw [List.length_map]
      exact Nat.le_trans (wishN_len _ _) a6
    have hwz : ∀ x ∈ wishZ xa.length (rowsOf wi), 0 ≤ x ∧ x.toNat < xa.length := fun x hx => by
      unfold wishZ at hx
      obtain ⟨j, hj, rfl⟩ := List.mem_map.mp hx
      have := (wishN_lt hj).1
      exact ⟨by omega, by omega⟩
    refine ⟨q4, wishZ xa.length (rowsOf wi), rfl, e4, hwl, fun qse xs5 H5 s5 e5 ls5 new5 => ?_⟩
    generalize hse : setsL (wishZ xa.length (rowsOf wi)) = sets at ls5
    have hset : ∀ S ∈ sets, (∀ x ∈ S, 0 ≤ x ∧ x.toNat < xa.length) ∧ S.length ≤ 6 := fun S hS => by
      rw [← hse] at hS
      obtain ⟨h1, h2⟩ := setsL_mem hS
      exact ⟨fun x hx => hwz x (h1 x hx), by omega⟩
    have hs64 : sets.length ≤ 64 := by
      rw [← hse]; unfold setsL
      rw [List.length_map, List.length_range]
      exact Nat.le_trans (Nat.pow_le_pow_right (by decide) hwl) (by decide)
    have hsne : sets ≠ [] := by
      intro z
      have := congrArg List.length z
      rw [← hse] at this; unfold setsL at this
      rw [List.length_map, List.length_range, List.length_nil] at this
      exact absurd this (Nat.ne_of_gt (Nat.pow_pos (by decide)))
    have s35 := s4.trans s5
    have s25 := s3.trans s35
    have hHpf : H2 pf = none := hpf
    have h0pf : H pf = none := s12.free hpf
    refine ⟨qse, rfl, ⟨_, SqL.of e5⟩, ?_⟩
    have hqse : qse ≠ pf := fun z => by
      have h1 := s35 _ _ hf3
      rw [← z, e5] at h1
      injection h1 with h1; injection h1 with h1
      have h2 := ls5.1
      rw [h1, List.length_nil] at h2
      exact hsne (List.length_eq_zero_iff.mp h2.symm)
    have hsn : ∀ (j : Nat) x, xs5[j]? = some x → ∃ (d : Addr) (S : List Int), sets[j]? = some S ∧ x = .ref d ∧ H5 d = some (.lst (S.map V.int)) := fun j x hx => by
      obtain ⟨d, e, hd⟩ := ls5.2 j x hx
      have hj : j < sets.length := by rw [← ls5.1]; exact (List.getElem?_eq_some_iff.mp hx).1
      have eg : sets.getD j [] = sets[j] := by simp [List.getD, List.getElem?_eq_getElem hj]
      rw [eg] at hd
      exact ⟨d, sets[j], List.getElem?_eq_getElem hj, e, hd⟩
    have hdn : ∀ d, V.ref d ∈ xs5 → d ≠ pf := fun d hd z => by
      have h1 := new5 d hd
      rw [z, s4 _ _ hf3] at h1; cases h1
    have hMl : (bestM (rowsOf wi) qs).length = (rowsOf wi).length := by unfold bestM; rw [List.length_map]
    have hxp : xp.length = (rowsOf wi).length := by rw [← rw0.len]; exact wp
    have hpl : (pursesQ pu).length = (rowsOf wi).length := by
      have := (m.fp).1
      omega
    have hml : (moneysQ (am.map intOf) qs).length = xa.length := by unfold moneysQ; rw [List.length_map, List.length_range, hql]
    have s15 := s12.trans s25
    refine for_list (xs := xs5) (fun i σ H' => (∃ y6 y7, σ = [some (.ref p), some (.ref q), some (.ref rb), some (.ref rm), some (.ref rp), some (.ref pf), y6, y7]) ∧ (∀ a o, a ≠ pf → H5 a = some o → H' a = some o) ∧ ∃ xr rows, H' pf = some (.lst xr) ∧ RowsN pf H' xr rows ∧ rows.map (·.2) = sets.take i ∧ ∀ x ∈ rows, ((x.1 : Int) : Rat) = (c : Rat) * aboveQ (am.map intOf) (pursesQ pu) qs (rowsOf wi) (nats x.2))
      ⟨⟨_, _, rfl⟩, fun a o _ h => h, [], [], s35 _ _ hf3, ⟨rfl, fun j x z => by simp at z⟩, rfl, fun x hx => nomatch hx⟩ (fun i σ H' _ z => SqL.of (z.2.1 _ _ hqse e5)) ?_ ?_
    · rintro i x σ H6 hx ⟨⟨y6, y7, rfl⟩, kp, xr, rows, hxr, hrows, hmap, hval⟩
      obtain ⟨d, S, hSi, rfl, hd⟩ := hsn i x hx
      have hdp := hdn d (List.mem_of_getElem? hx)
      have hSm := List.mem_of_getElem? hSi
      obtain ⟨hS1, hS6⟩ := hset S hSm
      have hnn : ∀ x ∈ S, 0 ≤ x := fun x hx => (hS1 x hx).1
      have st6 : Stay H H6 := fun a o h => kp a o (ne_of_none h h0pf) (s15 _ _ h)
      have st26 : ∀ a o, H2 a = some o → H6 a = some o := fun a o h => kp a o (ne_of_none h hpf) (s25 _ _ h)
      have hd6 := kp d _ hdp hd
      have hi : i < sets.length := (List.getElem?_eq_some_iff.mp hSi).1
      have hbl : H6 rb = some (.lst xb) := st26 _ _ (s2 _ _ hb1)
      have ls6 : LsR H6 xb (bestM (rowsOf wi) qs) := ⟨ls1.1, fun j x hx => by obtain ⟨a, e, z⟩ := ls1.2 j x hx; exact ⟨a, e, st26 _ _ (s2 _ _ z)⟩⟩
      -- the takers
      refine ⟨_, rfl, _, rfl, rb, d, xb, rowsOf wi, qs, nats S, rfl, hbl, ls6, by rw [hd6, nats_V hnn], by unfold nats; rw [List.length_map]; exact hS6, hM6, hr6, fun rt H7 s7 ht7 => ?_⟩
      refine ⟨rt, rfl, ⟨_, SqL.of ht7⟩, fun acc hacc => ?_⟩
      generalize htk : takersL (rowsOf wi) qs (nats S) = tk at ht7
      have htl : ∀ i ∈ tk, i < (rowsOf wi).length := fun i hi => by rw [← htk] at hi; exact takersL_lt hi
      have htn : tk.length ≤ 6 := by rw [← htk]; exact Nat.le_trans (takersL_len _ _ _) hM6
      have hrp7 : H7 rp = some (.lst (ps.map V.int)) := s7 _ _ (st26 _ _ hrp)
      have hrm7 : H7 rm = some (.lst (ms.map V.int)) := s7 _ _ (st26 _ _ hrm)
      refine comp_list (xs := natsV tk) (fun j zs H' => Stay H7 H' ∧ zs = ((tk.take j).map fun i => ps.getD i 0).map V.int) ⟨(Stay.refl H7).acc hacc, rfl⟩ (fun j zs H' _ _ z => SqL.of (z.1 _ _ ht7)) ?_ ?_
      · rintro j x zs H8 hx8 hz ⟨s8, rfl⟩
        obtain ⟨t, ht, rfl⟩ := nat_at hx8
        have htl' := htl t (List.mem_of_getElem? ht)
        obtain ⟨ea, _, _⟩ := atI_ints (ns := ps) (r := (t : Int)) (by omega) (by rw [hps.1]; omega)
        rw [Int.toNat_natCast] at ea
        have hj : j < tk.length := (List.getElem?_eq_some_iff.mp ht).1
        refine yes_i ⟨_, rfl, _, rfl, rp, _, _, _, rfl, rfl, SqL.of (s8 _ _ hrp7), ea, _, hz, ?_, Cn.of upd_same ⟨s8.acc hacc, ?_⟩⟩
        · rw [List.length_map, List.length_map, List.length_take, sz]; omega
        · rw [take_snoc ht, List.map_append, List.map_append]; rfl
      rintro zs H8 hz ⟨s8, rfl⟩
      rw [nats_len, List.take_length] at hz
      refine ⟨acc, _, rfl, .inl (SqL.of hz), ?_⟩
      have s78 := s7.trans s8
      -- the row
      refine ⟨_, rfl, .inl ⟨rfl, _, SqL.of (s78 _ _ hxr)⟩, _, rfl, d, rfl, ⟨_, SqL.of (s78 _ _ hd6)⟩, fun acc9 hacc9 => ?_⟩
      refine comp_list (xs := S.map V.int) (fun j zs H' => Stay H8 H' ∧ zs = (((nats S).take j).map fun g => ms.getD g 0).map V.int) ⟨(Stay.refl H8).acc hacc9, rfl⟩ (fun j zs H' _ _ z => SqL.of (z.1 _ _ (s78 _ _ hd6))) ?_ ?_
      · rintro j x zs H9 hx9 hz9 ⟨s9, rfl⟩
        rw [nats_V hnn] at hx9
        obtain ⟨t, ht, rfl⟩ := nat_at hx9
        have htx : t < xa.length := by
          have htm := List.mem_of_getElem? ht
          unfold nats at htm
          obtain ⟨x, hx, rfl⟩ := List.mem_map.mp htm
          exact (hS1 x hx).2
        obtain ⟨ea, _, _⟩ := atI_ints (ns := ms) (r := (t : Int)) (by omega) (by rw [hms.1, hml]; omega)
        rw [Int.toNat_natCast] at ea
        have hj : j < (nats S).length := (List.getElem?_eq_some_iff.mp ht).1
        have hnl : (nats S).length = S.length := by unfold nats; rw [List.length_map]
        refine yes_i ⟨_, rfl, _, rfl, rm, _, _, _, rfl, rfl, SqL.of (s9 _ _ (s8 _ _ hrm7)), ea, _, hz9, ?_, Cn.of upd_same ⟨s9.acc hacc9, ?_⟩⟩
        · rw [List.length_map, List.length_map, List.length_take, sz]; omega
        · rw [take_snoc ht, List.map_append, List.map_append]; rfl
      rintro zs H9 hz9 ⟨s9, rfl⟩
      have hnl : (nats S).length = S.length := by unfold nats; rw [List.length_map]
      rw [List.length_map, ← hnl, List.take_length] at hz9
      refine ⟨acc9, _, rfl, .inl (SqL.of hz9), _, rfl, _, _, rfl, rfl, _, rfl, by show 2 ≤ sizeLine; decide, fun a10 ha10 => ?_⟩
      have s69 := s78.trans s9
      have s10 := s69.new (o := .lst [.int (((nats S).map fun g => ms.getD g 0).sum - (tk.map fun i => ps.getD i 0).sum), .ref d]) ha10
      have e10 : (upd H9 a10 (.lst [.int (((nats S).map fun g => ms.getD g 0).sum - (tk.map fun i => ps.getD i 0).sum), .ref d])) a10 = some (.lst [.int (((nats S).map fun g => ms.getD g 0).sum - (tk.map fun i => ps.getD i 0).sum), .ref d]) := upd_same
      have n10 : a10 ≠ pf := fun z => by rw [z, s69 _ _ hxr] at ha10; cases ha10
      generalize upd H9 a10 (.lst [.int (((nats S).map fun g => ms.getD g 0).sum - (tk.map fun i => ps.getD i 0).sum), .ref d]) = H10 at s10 e10 ⊢
      have hlr : xr.length = i := by
        rw [hrows.1]
        have := congrArg List.length hmap
        rw [List.length_map, List.length_take] at this
        omega
      refine ⟨pf, xr, .ref a10, rfl, rfl, s10 _ _ hxr, by rw [hlr, sz]; omega, ?_⟩
      refine ⟨⟨_, _, rfl⟩, fun a o na h => by rw [upd_ne na]; exact s10 _ _ (kp a o na h), xr ++ [.ref a10], rows ++ [(((nats S).map fun g => ms.getD g 0).sum - (tk.map fun i => ps.getD i 0).sum, S)], upd_same, ?_, ?_, ?_⟩
      · exact ((hrows.stay s10).app n10 hdp e10 (s10 _ _ hd6)).upd
      · rw [List.map_append, hmap, take_snoc hSi]; rfl
      · intro x hx
        rcases List.mem_append.mp hx with h | h
        · exact hval x h
        · rw [List.mem_singleton.mp h]
          show (((((nats S).map fun g => ms.getD g 0).sum - (tk.map fun i => ps.getD i 0).sum : Int)) : Rat) = _
          have h1 := ints_sum hms (ix := nats S) (fun g hg => by
            unfold nats at hg
            obtain ⟨x, hx, rfl⟩ := List.mem_map.mp hg
            rw [hml]; exact (hS1 x hx).2)
          have h2 := ints_sum hps (ix := tk) (fun i hi => by rw [hpl]; exact htl i hi)
          rw [Rat.intCast_sub, h1, h2]
          unfold aboveQ moneyOf pickQ
          rw [htk, Rat.sub_eq_add_neg, Rat.sub_eq_add_neg, Rat.mul_add, Rat.mul_neg]
    · rintro σ H6 ⟨⟨y6, y7, rfl⟩, kp, xr, rows, hxr, hrows, hmap, hval⟩
      rw [ls5.1, List.take_length] at hmap
      have hrl : rows.length = sets.length := by rw [← hmap, List.length_map]
      refine ⟨_, rfl, pf, xr, rows, rfl, hxr, hrows.at, ?_, by rw [hrl]; exact hs64, ?_, fun mm r H7 hm hmax s7 e7 => ?_⟩
      · intro z
        rw [z, List.length_nil] at hrl
        exact hsne (List.length_eq_zero_iff.mp hrl.symm)
      · intro r hr'
        have : r.2 ∈ sets := by rw [← hmap]; exact List.mem_map.mpr ⟨r, hr', rfl⟩
        exact (hset _ this).2
      · have st6 : Stay H H6 := fun a o h => kp a o (ne_of_none h h0pf) (s15 _ _ h)
        exact k c rows mm r H7 hc (by rw [hmap, hse]) hval hm hmax (st6.trans s7) e7
end
end K11

set_option Elab.async false
set_option linter.all false
set_option maxRecDepth 100000
set_option maxHeartbeats 4000000
namespace K11
open PySem L2 KG EX KM
section
variable {P : Program} {w : World} {K : PySem.W.Frag} {mg : Str → Option Value} {base : Heap}
abbrev NFi : List Str := ["market", "least_v", "purse", "good", "many", "base", "made", "price", "row", "mine"]
theorem scFi : FnScope NFi ["market"] (defScope (top 40)) := ⟨rfl, rfl, rfl, by decide +kernel, rfl, by decide +kernel, by decide +kernel⟩
theorem ok_lfirst {f fL fW fD fM fF : Addr} {fd dL dW dD dM dF : FuncData} (F : Fun K "_law_first" "_law_first" (top 40) f fd) (N : Nm mg) (Ls : Cal K mg P w base "_law_less" 1 ["one", "other"] spLess fL dL) (W : Cal K mg P w base "_law_wished" 1 ["market"] spLWished fW dW)
    (D : Cal K mg P w base "_law_div" 2 ["one", "other"] spDiv fD dD) (Mu : Cal K mg P w base "_law_mul" 2 ["one", "other"] (sp2 qTi) fM dM) (Fr : Cal K mg P w base "_law_frac" 1 ["top", "bottom"] spLf fF dF) : FnOk P w K mg base CX0 3 f fd ["market"] spLFirst := by
  refine F.ok scFi (fun vs H Q E h => ?_) (fun cdv A' outer s H vs Q E hr h => ?_)
  · obtain ⟨b, p, pa, pp, pw, xa, xp, xw, am, pu, wi, rfl, _⟩ := h; rfl
  · obtain ⟨b, p, pa, pp, pw, xa, xp, xw, am, pu, wi, rfl, m, hgood, k⟩ := h
    have hr1 : Room 1 _ := hr.mono (by decide)
    obtain ⟨rw0, rne, rlen, rbd, a1, a6, w1, w6, wp⟩ := m.lw
    obtain ⟨exa, amb⟩ := m.am
    obtain ⟨epu, pub⟩ := m.pu
    have hal : (am.map intOf).length = xa.length := by have := congrArg List.length exa; rw [List.length_map] at this; exact this.symm
    refine ⟨_, pss_cons (ps_set (i := 1) scFi.nd rfl (Or.inl rfl) (pe_ix (ixT K) (pe_ix (ixT K) (pv 0) pe_int (fun _ _ => rfl)) pe_int (fun _ _ => rfl)))
      (pss_cons (ps_for PassesOwn.never rfl (piT K (pe_ix (ixT K) (pv 0) pe_int (fun _ _ => rfl))) (pg_name (i := 2) scFi.nd rfl (Or.inl rfl))
        (pss_one (ps_if (pt_val (pe_call Ls.ok hr1 rfl Ls.mg Ls.kp Ls.bd .nil pass0 (pa_cons (pv 2) (pa_cons (pv 1) pa_nil)))) (pss_one (ps_set (i := 1) scFi.nd rfl (Or.inl rfl) (pv 2))) pss_nil)))
      (pss_cons (ps_set (i := 4) scFi.nd rfl (Or.inl rfl) (pe_callB (cSum K rfl) (by rfl) N.sum boot_sum (pa_cons (pe_comp (own := ["good"]) (cap := ["market"]) (ix := [0]) (BlkOk.of (defScope (top 40)).names NFi) rfl (piL K (pe_call W.ok hr1 rfl W.mg W.kp W.bd .nil pass0 (pa_cons (pv 0) pa_nil)))
          (fun C fp s H => ⟨pg_name (i := 0) (show List.Nodup (["good", "market"] : List Str) by decide +kernel) rfl (Or.inl rfl), pifs_nil, pe_ix (ixT K) (pe_ix (ixT K) (pv 1) pe_int (fun _ _ => rfl)) (pv 0) (fun _ _ => rfl)⟩)) pa_nil)))
      (pss_cons (ps_set (i := 5) scFi.nd rfl (Or.inl rfl) (pe_call D.ok hr rfl D.mg D.kp D.bd .nil pass0 (pa_cons (pv 1) (pa_cons (pe_tup (pa_cons (pv 4) (pa_cons pe_int pa_nil))) pa_nil))))
      (pss_cons (ps_set (i := 6) scFi.nd rfl (Or.inl rfl) (pe_lst pa_nil))
      (pss_cons (ps_for PassesOwn.never rfl (pi_range1 rfl N.range (pa_cons (pe_callB (cLen K) (by rfl) N.len PySem.boot_len (pa_cons (pe_ix (ixT K) (pv 0) pe_int (fun _ _ => rfl)) pa_nil)) pa_nil)) (pg_name (i := 3) scFi.nd rfl (Or.inl rfl))
        (pss_cons (ps_set (i := 7) scFi.nd rfl (Or.inl rfl) (pe_tup (pa_cons pe_int (pa_cons pe_int pa_nil))))
        (pss_cons (ps_for PassesOwn.never rfl (piT K (pe_ix (ixT K) (pv 0) pe_int (fun _ _ => rfl))) (pg_name (i := 8) scFi.nd rfl (Or.inl rfl))
          (pss_cons (ps_set (i := 9) scFi.nd rfl (Or.inl rfl) (pe_call Mu.ok hr rfl Mu.mg Mu.kp Mu.bd .nil pass0 (pa_cons (pv 5) (pa_cons (pe_call Fr.ok hr1 rfl Fr.mg Fr.kp Fr.bd .nil pass0 (pa_cons (pe_ix (ixT K) (pv 8) (pv 3) (fun _ _ => rfl)) (pa_cons (pe_callB (cMax K rfl) (by rfl) N.max boot_max (pa_cons (pv 8) pa_nil)) pa_nil))) pa_nil))))
          (pss_one (ps_if (pt_val (pe_call Ls.ok hr1 rfl Ls.mg Ls.kp Ls.bd .nil pass0 (pa_cons (pv 7) (pa_cons (pv 9) pa_nil)))) (pss_one (ps_set (i := 7) scFi.nd rfl (Or.inl rfl) (pv 9))) pss_nil))))
        (pss_one (ps_expr (pe_bm PySem.F.plainAttrs_list PySem.F.slot_list_append PySem.F.type_list_append mt_append (pv 6) (pa_cons (pv 7) pa_nil)))))))
      (pss_one (ps_ret (pe_callTy (cTup K) (by rfl) N.tuple boot_tuple (pa_cons (pv 6) pa_nil))))))))), ?_⟩
    -- the least purse
    have fp := m.fp
    have hxl : xp.length = (pursesQ pu).length := fp.1
    have pne : 0 < (pursesQ pu).length := by omega
    obtain ⟨al, eal, hal0⟩ := fp.at (g := 0) pne
    have mem0 : (pursesQ pu).getD 0 0 ∈ pursesQ pu := by simp [List.getD, List.getElem?_eq_getElem pne]
    refine ⟨_, rfl, p, _, _, _, rfl, rfl, SqT.of m.hp, rfl, pp, _, _, _, rfl, rfl, SqT.of m.hpp, eal, ?_⟩
    refine ⟨_, rfl, p, _, _, _, rfl, rfl, SqT.of m.hp, rfl, pp, rfl, ⟨_, SqT.of m.hpp⟩, ?_⟩
    refine for_tup (xs := xp) (fun i σ H' => H' = H ∧ ∃ a q y2, σ = [some (.ref p), some (.ref a), y2, none, none, none, none, none, none, none] ∧ H a = some (qO q) ∧ q ∈ pursesQ pu ∧ ∀ z ∈ (pursesQ pu).take i, q ≤ z) ⟨rfl, al, _, _, rfl, hal0, mem0, fun z hz => by simp at hz⟩ (fun i σ H' _ z => by obtain ⟨rfl, _⟩ := z; exact SqT.of m.hpp) ?_ ?_
    · rintro i x σ H1 hx ⟨rfl, a, q, y2, rfl, ha, hq, hmin⟩
      obtain ⟨c, z, rfl, hc, hz⟩ := frs_get fp hx
      have hzm := List.mem_of_getElem? hz
      refine ⟨_, rfl, _, rfl, c, a, z, q, rfl, hc, ha, (pub z hzm).2.mono (by decide), (pub q hq).2.mono (by decide), _, rfl, ?_⟩
      by_cases hlt : z < q
      · rw [decide_eq_true hlt]
        refine iteT ⟨_, rfl, rfl, c, z, _, rfl, hc, hzm, fun y hy => ?_⟩
        rw [take_snoc hz] at hy
        rcases List.mem_append.mp hy with h | h
        · exact Rat.le_trans (Rat.le_of_lt hlt) (hmin y h)
        · rw [List.mem_singleton.mp h]; exact Rat.le_refl
      · rw [decide_eq_false hlt]
        refine iteF ⟨rfl, a, q, _, rfl, ha, hq, fun y hy => ?_⟩
        rw [take_snoc hz] at hy
        rcases List.mem_append.mp hy with h | h
        · exact hmin y h
        · rw [List.mem_singleton.mp h]; exact Rat.not_lt.mp hlt
    rintro σ H1 ⟨rfl, alm, mn, y2, rfl, halm, hmn, hmin⟩
    rw [hxl, List.take_length] at hmin
    -- the pieces
    refine ⟨_, rfl, p, pa, pw, _, xa, xw, rowsOf wi, rfl, m.hp, m.ha, m.hw, rw0, rne, rlen, a6, w6, fun q2 H2 s2 _ e2 => ?_⟩
    rw [wishedL_N] at e2
    refine ⟨q2, rfl, ⟨_, SqL.of e2⟩, fun acc hacc => ?_⟩
    refine comp_list (xs := natsV (wishN xa.length (rowsOf wi))) (fun i zs H' => Stay H2 H' ∧ zs = (((wishN xa.length (rowsOf wi)).take i).map fun g => (am.map intOf).getD g 0).map V.int) ⟨(Stay.refl H2).acc hacc, rfl⟩ (fun i zs H' _ _ z => SqL.of (z.1 _ _ e2)) ?_ ?_
    · rintro i x zs H3 hx hz ⟨s3, rfl⟩
      obtain ⟨g, hg, rfl⟩ := nat_at hx
      have hgx := (wishN_lt (List.mem_of_getElem? hg)).1
      obtain ⟨ea, _, _⟩ := atI_ints (ns := am.map intOf) (r := (g : Int)) (by omega) (by omega)
      rw [Int.toNat_natCast, ← exa] at ea
      have hi : i < (wishN xa.length (rowsOf wi)).length := (List.getElem?_eq_some_iff.mp hg).1
      have hwl := wishN_len xa.length (rowsOf wi)
      have m3 := m.stay (s2.trans s3)
      refine yes_i ⟨_, rfl, p, _, _, _, rfl, rfl, SqT.of m3.hp, rfl, _, rfl, pa, _, _, _, rfl, rfl, SqT.of m3.ha, ea, _, hz, ?_, Cn.of upd_same ⟨s3.acc hacc, ?_⟩⟩
      · rw [List.length_map, List.length_map, List.length_take, sz]; omega
      · rw [take_snoc hg, List.map_append, List.map_append]; rfl
    rintro zs H3 hz ⟨s3, rfl⟩
    rw [nats_len, List.take_length] at hz
    refine ⟨acc, _, rfl, .inl (SqL.of hz), ?_⟩
    have epc : ((wishN xa.length (rowsOf wi)).map fun g => (am.map intOf).getD g 0).sum = piecesI (am.map intOf) (wishN xa.length (rowsOf wi)) := rfl
    rw [epc]
    have s13 := s2.trans s3
    have hpc := pieces_pos (am := am.map intOf) hgood rne hal (fun a ha => (amb a ha).1)
    have hpcu : piecesI (am.map intOf) (wishN xa.length (rowsOf wi)) ≤ 360 := pieces_le hal a6 (fun a ha => (amb a ha).2)
    have hpp0 := cast_pos (z := piecesI (am.map intOf) (wishN xa.length (rowsOf wi))) (by omega)
    have bpc : Rb 9 ((piecesI (am.map intOf) (wishN xa.length (rowsOf wi)) : Int) : Rat) := rb_int (by unfold Bd; omega) (by decide)
    have hne0 : ((piecesI (am.map intOf) (wishN xa.length (rowsOf wi)) : Int) : Rat) ≠ 0 := fun z => by rw [z] at hpp0; exact absurd hpp0 (by decide)
    have hmnb := pub mn hmn
    -- the base
    refine ⟨_, rfl, _, rfl, by show 2 ≤ sizeLine; decide, fun p4 hp4 => ?_⟩
    have s34 := (Stay.refl H3).new (o := .tup [.int (piecesI (am.map intOf) (wishN xa.length (rowsOf wi))), .int 1]) hp4
    refine ⟨alm, p4, mn, _, rfl, s34 _ _ (s13 _ _ halm), upd_same, hmnb.2.mono (by decide), bpc.mono (by decide), hpp0, fun r5 hr5 => ?_⟩
    have s5 := (s13.trans s34).new (o := qO (mn / ((piecesI (am.map intOf) (wishN xa.length (rowsOf wi)) : Int) : Rat))) hr5
    have e5 : (upd (upd H3 p4 (.tup [.int (piecesI (am.map intOf) (wishN xa.length (rowsOf wi))), .int 1])) r5 (qO (mn / ((piecesI (am.map intOf) (wishN xa.length (rowsOf wi)) : Int) : Rat)))) r5 = some (qO (mn / ((piecesI (am.map intOf) (wishN xa.length (rowsOf wi)) : Int) : Rat))) := upd_same
    have beven : Rb 29 (mn / ((piecesI (am.map intOf) (wishN xa.length (rowsOf wi)) : Int) : Rat)) := rb_divq hmnb.2 bpc hne0
    have hb0 : 0 < mn / ((piecesI (am.map intOf) (wishN xa.length (rowsOf wi)) : Int) : Rat) := div_pos hmnb.1 hpp0
    generalize upd (upd H3 p4 (.tup [.int (piecesI (am.map intOf) (wishN xa.length (rowsOf wi))), .int 1])) r5 (qO (mn / ((piecesI (am.map intOf) (wishN xa.length (rowsOf wi)) : Int) : Rat))) = H5 at s5 e5 ⊢
    have hF : ∀ qs : List Rat, qs.length = xa.length → (∀ g, g < xa.length → ∃ sh, IsMax ((rowsOf wi).map (shareR g)) sh ∧ qs.getD g 0 = mn / ((piecesI (am.map intOf) (wishN xa.length (rowsOf wi)) : Int) : Rat) * sh) → First (am.map intOf) (pursesQ pu) (rowsOf wi) xa.length qs := fun qs h1 h2 => ⟨h1, mn, ⟨hmn, hmin⟩, h2⟩
    generalize mn / ((piecesI (am.map intOf) (wishN xa.length (rowsOf wi)) : Int) : Rat) = bq at e5 beven hb0 hF
    refine ⟨by show 0 ≤ sizeLine; decide, fun pf hpf => ?_⟩
    have s6 := s5.new (o := .lst []) hpf
    have e6 := ((Stay.refl H5).new (o := .lst []) hpf) _ _ e5
    have f6 : (upd H5 pf (.lst [])) pf = some (.lst []) := upd_same
    have h0pf : H1 pf = none := s5.free hpf
    have n5 : r5 ≠ pf := fun z => by rw [z, hpf] at e5; cases e5
    generalize upd H5 pf (.lst []) = H6 at s6 e6 f6 ⊢
    have m6 := m.stay s6
    refine ⟨_, rfl, p, _, _, _, rfl, rfl, SqT.of m6.hp, rfl, pa, xa, rfl, .inr (SqT.of m6.ha), (xa.length : Int), rfl, by omega, by omega, ?_⟩
    have exl : ((xa.length : Int)).toNat = xa.length := by simp
    rw [exl]
    refine for_range (fun i σ H' => (∃ y1 y2 y3 y4 y7 y8 y9, σ = [some (.ref p), y1, y2, y3, y4, some (.ref r5), some (.ref pf), y7, y8, y9]) ∧ Stay H1 H' ∧ H' r5 = some (qO bq) ∧ ∃ zs qs, H' pf = some (.lst zs) ∧ qs.length = i ∧ Frs H' zs qs ∧ ∀ g, g < i → ∃ sh, IsMax ((rowsOf wi).map (shareR g)) sh ∧ qs.getD g 0 = bq * sh)
      ⟨⟨_, _, _, _, _, _, _, rfl⟩, s6, e6, [], [], f6, rfl, ⟨rfl, fun j y z => by simp at z⟩, fun g hg => absurd hg (by omega)⟩ ?_ ?_
    · rintro i σ H7 hi ⟨⟨y1, y2, y3, y4, y7, y8, y9, rfl⟩, s7, e7, zs, qs, hzs, hql, fr, hqs⟩
      have hii : (0 + (i : Int)) = (i : Int) := by omega
      refine ⟨by show 2 ≤ sizeLine; decide, fun p0 hp0 => ?_⟩
      have s8 := (Stay.refl H7).new (o := .tup [.int 0, .int 1]) hp0
      have e80 : (upd H7 p0 (.tup [.int 0, .int 1])) p0 = some (qO 0) := upd_same
      generalize upd H7 p0 (.tup [.int 0, .int 1]) = H8 at s8 e80 ⊢
      have m8 := m.stay (s7.trans s8)
      obtain ⟨rw8, _⟩ := m8.lw
      refine ⟨_, rfl, p, _, _, _, rfl, rfl, SqT.of m8.hp, rfl, pw, rfl, ⟨_, SqT.of m8.hw⟩, ?_⟩
      refine for_tup (xs := xw) (fun j σ H' => (∃ ap y8 y9 z, σ = [some (.ref p), y1, y2, some (.int (0 + (i : Int))), y4, some (.ref r5), some (.ref pf), some (.ref ap), y8, y9] ∧ H' ap = some (qO z) ∧ Rb 40 z ∧ (z = 0 ∨ ∃ r ∈ (rowsOf wi).take j, z = bq * shareR i r) ∧ ∀ r ∈ (rowsOf wi).take j, bq * shareR i r ≤ z) ∧ Stay H8 H')
        ⟨⟨p0, _, _, 0, rfl, e80, rb_zero.mono (by decide), .inl rfl, fun r hr' => by simp at hr'⟩, Stay.refl H8⟩ (fun j σ H' _ z => SqT.of (z.2 _ _ m8.hw)) ?_ ?_
      · rintro j x σ H9 hx ⟨⟨ap, y8', y9', z, rfl, hap, bz, hz, hmx⟩, s9⟩
        obtain ⟨ns, a, hMj, rfl, hA⟩ := rw8.at hx
        have gr := hgood ns (List.mem_of_getElem? hMj)
        have hA9 := s9 _ _ hA
        obtain ⟨ea, _, _⟩ := atI_ints (ns := ns) (r := 0 + (i : Int)) (by omega) (by have := gr.len; omega)
        rw [show (0 + (i : Int)).toNat = i by omega] at ea
        refine ⟨_, rfl, _, rfl, _, rfl, a, _, _, _, rfl, rfl, SqT.of hA9, ea, _, rfl, a, ns, rfl, .inr (SqT.of hA9), ?_, fun mm hm hmax => ?_⟩
        · intro z
          obtain ⟨k1, hk1, _⟩ := gr.pos
          rw [z] at hk1; cases hk1
        have em := maxI_eq hm hmax fun n hn => (gr.bd n hn).1
        subst em
        have mx := gr.mx
        refine ⟨_, _, rfl, by omega, Bd.mono (j := 7) (by unfold Bd; omega) (by decide), fun r10 hr10 => ?_⟩
        rw [share_div]
        have s10 := (Stay.refl H9).new (o := qO (shareR i ns)) hr10
        have bsh := rb_share gr (g := i)
        refine ⟨r5, r10, bq, shareR i ns, rfl, s10 _ _ (s9 _ _ (s8 _ _ e7)), upd_same, beven.mono (by decide), bsh.mono (by decide), fun r11 hr11 => ?_⟩
        have s11 := s10.new (o := qO (qTi bq (shareR i ns))) hr11
        have e11 : (upd (upd H9 r10 (qO (shareR i ns))) r11 (qO (qTi bq (shareR i ns)))) r11 = some (qO (bq * shareR i ns)) := upd_same
        generalize upd (upd H9 r10 (qO (shareR i ns))) r11 (qO (qTi bq (shareR i ns))) = H11 at s11 e11 ⊢
        have bm : Rb 40 (bq * shareR i ns) := (rb_mul beven bsh).mono (by decide)
        refine ⟨_, rfl, _, rfl, ap, r11, z, bq * shareR i ns, rfl, s11 _ _ hap, e11, bz.mono (by decide), bm.mono (by decide), _, rfl, ?_⟩
        by_cases hlt : z < bq * shareR i ns
        · rw [decide_eq_true hlt]
          refine iteT ⟨_, rfl, ⟨r11, _, _, _, rfl, e11, bm, .inr ⟨ns, by rw [take_snoc hMj]; simp, rfl⟩, fun r hr' => ?_⟩, s9.trans s11⟩
          rw [take_snoc hMj] at hr'
          rcases List.mem_append.mp hr' with h | h
          · exact Rat.le_trans (hmx r h) (Rat.le_of_lt hlt)
          · rw [List.mem_singleton.mp h]; exact Rat.le_refl
        · rw [decide_eq_false hlt]
          refine iteF ⟨⟨ap, _, _, z, rfl, s11 _ _ hap, bz, ?_, fun r hr' => ?_⟩, s9.trans s11⟩
          · rcases hz with h | ⟨r, hr', h⟩
            · exact .inl h
            · exact .inr ⟨r, by rw [take_snoc hMj]; exact List.mem_append_left _ hr', h⟩
          · rw [take_snoc hMj] at hr'
            rcases List.mem_append.mp hr' with h | h
            · exact hmx r h
            · rw [List.mem_singleton.mp h]; exact Rat.not_lt.mp hlt
      · rintro σ H9 ⟨⟨ap, y8', y9', z, rfl, hap, bz, hz, hmx⟩, s9⟩
        rw [rw0.len, List.take_length] at hz hmx
        obtain ⟨sh, hsh, ez⟩ := run_max hb0 hgood rne hz hmx
        have s79 := s8.trans s9
        have hz9 := s79 _ _ hzs
        have tl : Tm H9 (upd H9 pf (.lst (zs ++ [.ref ap]))) := Tm.lst hz9
        refine ⟨_, rfl, .inl ⟨rfl, _, SqL.of hz9⟩, _, rfl, pf, zs, .ref ap, rfl, rfl, hz9, by rw [fr.1, hql, sz]; omega, ?_⟩
        refine ⟨⟨_, _, _, _, _, _, _, rfl⟩, (s7.trans s79).acc h0pf, by rw [upd_ne n5]; exact s79 _ _ e7, zs ++ [.ref ap], qs ++ [z], upd_same, by rw [List.length_append, hql]; rfl, ((fr.stay s79).app hap).tm tl, fun g hg => ?_⟩
        rcases Nat.lt_or_ge g i with y | y
        · obtain ⟨sh', h1, h2⟩ := hqs g y
          refine ⟨sh', h1, ?_⟩
          have : (qs ++ [z]).getD g 0 = qs.getD g 0 := by simp [List.getD, List.getElem?_append_left (show g < qs.length by omega)]
          rw [this]; exact h2
        · obtain rfl : g = i := by omega
          refine ⟨sh, hsh, ?_⟩
          have : (qs ++ [z]).getD g 0 = z := by rw [← hql]; simp [List.getD]
          rw [this]; exact ez
    · rintro σ H7 ⟨⟨y1, y2, y3, y4, y7, y8, y9, rfl⟩, s7, e7, zs, qs, hzs, hql, fr, hqs⟩
      refine ⟨_, rfl, pf, zs, rfl, .inl ⟨SqL.of hzs, fun l hl => ?_⟩⟩
      have s8 := (Stay.refl H7).new (o := .tup zs) hl
      exact k l zs qs _ (s7.trans s8) upd_same (fr.stay s8) (hF qs hql hqs)
end
end K11

set_option Elab.async false
set_option linter.all false
set_option maxRecDepth 100000
set_option maxHeartbeats 4000000
namespace K11
open PySem L2 KG EX KM
section
variable {P : Program} {w : World} {K : PySem.W.Frag} {mg : Str → Option Value} {base : Heap}
abbrev NWi : List Str := ["market", "amounts", "purses", "wishes"]
theorem scWished : FnScope NWi ["market"] (defScope (top 13)) := ⟨rfl, rfl, rfl, by decide +kernel, rfl, by decide +kernel, by decide +kernel⟩
theorem ok_wished {f : Addr} {fd : FuncData} (F : Fun K "wished" "wished" (top 13) f fd) (N : Nm mg) : FnOk P w K mg base CX0 1 f fd ["market"] spWis := by
  refine F.ok scWished (fun vs H Q E h => ?_) (fun cdv A outer s H vs Q E hr h => ?_)
  · obtain ⟨b, p, pa, pp, pw, xa, xp, xw, am, pu, wi, rfl, _⟩ := h; rfl
  · obtain ⟨b, p, pa, pp, pw, xa, xp, xw, am, pu, wi, rfl, m, k⟩ := h
    obtain ⟨rw0, rne, rlen, rbd, a1, a6, w1, w6, _⟩ := m.lw
    refine ⟨_, pss_cons (ps_asg (pv 0) (pg_tup rfl (pgs_cons (pg_name (i := 1) scWished.nd rfl (Or.inl rfl)) (pgs_cons (pg_name (i := 2) scWished.nd rfl (Or.inl rfl)) (pgs_cons (pg_name (i := 3) scWished.nd rfl (Or.inr rfl)) pgs_nil)))))
      (pss_one (ps_ret (pe_callTy (cTup K) (by rfl) N.tuple boot_tuple (pa_cons (pe_comp (own := ["good"]) (cap := ["wishes"]) (ix := [3]) (BlkOk.of (defScope (top 13)).names NWi) rfl
        (pi_range1 rfl N.range (pa_cons (pe_callB (cLen K) (by rfl) N.len PySem.boot_len (pa_cons (pv 1) pa_nil)) pa_nil))
        (fun C fp s H => ⟨pg_name (i := 0) (show List.Nodup (["good", "wishes"] : List Str) by decide +kernel) rfl (Or.inr rfl),
          pifs_one (pt_val (pe_callB (cAny K rfl) (by rfl) N.any boot_any (pa_cons (pe_comp (own := ["row"]) (cap := ["good"]) (ix := [0]) (BlkOk.of [(".0", .local), ("good", .cell), ("any", .globalImplicit), ("wishes", .cell)] ["good", "wishes"]) rfl (piT K (pv 1))
            (fun C fp s H => ⟨pg_name (i := 0) (show List.Nodup (["row", "good"] : List Str) by decide +kernel) rfl (Or.inl rfl), pifs_nil, pe_cmpR op_gt (pe_ix (ixT K) (pv 0) (pv 1) (fun _ _ => rfl)) pe_int (nomark _)⟩)) pa_nil))),
          pv 0⟩)) pa_nil)))), ?_⟩
    refine ⟨_, rfl, p, _, rfl, SqT.of m.hp, rfl, _, _, rfl, _, _, rfl, _, _, rfl, rfl, ?_⟩
    refine ⟨_, rfl, pa, xa, rfl, .inr (SqT.of m.ha), (xa.length : Int), rfl, by omega, by omega, fun acc hacc => ?_⟩
    have exl : ((xa.length : Int)).toNat = xa.length := by simp
    rw [exl]
    refine comp_range (fun i ys H' => Stay H H' ∧ ys = wishedL i (rowsOf wi)) ⟨(Stay.refl H).acc hacc, rfl⟩ ?_ ?_
    · rintro i ys H' hi hy ⟨st, rfl⟩
      refine ⟨_, rfl, pw, rfl, ⟨xw, SqT.of (st _ _ m.hw)⟩, fun acc2 hacc2 => ?_⟩
      refine comp_tup (xs := xw) (fun j zs H2 => Stay H' H2 ∧ zs = ((rowsOf wi).take j).map fun r => V.bl (decide (0 < r.getD i 0))) ⟨(Stay.refl H').acc hacc2, rfl⟩ (fun j ys H2 _ _ q => SqT.of (q.1 _ _ (st _ _ m.hw))) ?_ ?_
      · rintro j x zs H2 hx hz ⟨st2, rfl⟩
        refine yes_i ?_
        obtain ⟨ns, a, hM, rfl, hA⟩ := rw0.at hx
        have hA2 := st2 _ _ (st _ _ hA)
        have hnl := rlen ns (List.mem_of_getElem? hM)
        obtain ⟨ea, _, _⟩ := atI_ints (ns := ns) (r := 0 + (i : Int)) (by omega) (by omega)
        have et : (0 + (i : Int)).toNat = i := by omega
        rw [et] at ea
        refine ⟨_, rfl, _, rfl, a, _, _, _, rfl, rfl, SqT.of hA2, ea, _, _, rfl, rfl, _, hz, ?_, Cn.of upd_same ⟨st2.acc hacc2, ?_⟩⟩
        · rw [List.length_map, List.length_take, sz]; have := rw0.len; omega
        · rw [List.take_add_one, hM, List.map_append]
          rfl
      · rintro zs H2 hz ⟨st2, rfl⟩
        have hl := rw0.len
        rw [hl, List.take_length] at hz
        refine ⟨acc2, _, rfl, .inl (SqL.of hz), ?_, _, rfl, ?_⟩
        · rw [List.all_map]; simp [Function.comp_def, plainB]
        · have e : ((rowsOf wi).map fun r => V.bl (decide (0 < r.getD i 0))).any tv = has (rowsOf wi) i := by
            rw [List.any_map]; rfl
          rw [e]
          have hy2 := st2 _ _ hy
          cases hh : has (rowsOf wi) i with
          | true =>
            refine iteT ⟨_, rfl, _, hy2, ?_, Cn.of upd_same ⟨(st.trans st2).acc hacc, ?_⟩⟩
            · have := wishedL_len i (rowsOf wi); rw [sz]; omega
            · rw [wishedL_succ, hh]; rfl
          | false =>
            refine iteF (Cn.of hy2 ⟨st.trans st2, ?_⟩)
            rw [wishedL_succ, hh]; simp
    · rintro ys H' hy ⟨st, rfl⟩
      refine ⟨acc, _, rfl, .inl ⟨SqL.of hy, fun l hl => ?_⟩⟩
      exact k l _ (st.new hl) upd_same
theorem scGre : FnScope ["parts", "found", "part"] ["parts"] (defScope (top 11)) := ⟨rfl, rfl, rfl, by decide +kernel, rfl, by decide +kernel, by decide +kernel⟩
theorem ok_greatest {f fA : Addr} {fd dA : FuncData} (F : Fun K "greatest" "greatest" (top 11) f fd) (A : Cal K mg P w base "less" 1 ["one", "other"] spLess fA dA) : FnOk P w K mg base CX0 2 f fd ["parts"] spGre := by
  refine F.ok scGre (fun vs H Q E h => ?_) (fun cdv A' outer s H vs Q E hr h => ?_)
  · obtain ⟨l, ys, qs, rfl, _⟩ := h; rfl
  · obtain ⟨l, ys, qs, rfl, hl, hf, hne, hb, k⟩ := h
    refine ⟨_, pss_cons (ps_set (i := 1) scGre.nd rfl (Or.inl rfl) (pe_ix (ixL K) (pv 0) pe_int (fun _ _ => rfl)))
      (pss_cons (ps_for PassesOwn.never rfl (pi_list (pv 0)) (pg_name (i := 2) scGre.nd rfl (Or.inl rfl))
        (pss_one (ps_if (pt_val (pe_call A.ok hr rfl A.mg A.kp A.bd .nil pass0 (pa_cons (pv 1) (pa_cons (pv 2) pa_nil)))) (pss_one (ps_set (i := 1) scGre.nd rfl (Or.inl rfl) (pv 2))) pss_nil)))
      (pss_one (ps_ret (pv 1)))), ?_⟩
    have hpos : 0 < qs.length := List.length_pos_iff.mpr hne
    obtain ⟨a0, ea0, ha0⟩ := hf.at (g := 0) hpos
    have m0 : qs.getD 0 0 ∈ qs := by simp [List.getD, List.getElem?_eq_getElem hpos]
    refine ⟨_, rfl, l, _, _, _, rfl, rfl, SqL.of hl, ea0, ?_⟩
    refine ⟨_, rfl, l, rfl, ⟨_, SqL.of hl⟩, ?_⟩
    refine for_list (xs := ys) (fun i σ H' => H' = H ∧ ∃ a q y2, σ = [some (.ref l), some (.ref a), y2] ∧ H a = some (qO q) ∧ q ∈ qs ∧ ∀ z ∈ qs.take i, z ≤ q) ⟨rfl, a0, _, _, rfl, ha0, m0, fun z hz => by simp at hz⟩ (fun i σ H' _ z => by obtain ⟨rfl, _⟩ := z; exact SqL.of hl) ?_ ?_
    · rintro i x σ H1 hx ⟨rfl, a, q, y2, rfl, ha, hq, hmax⟩
      obtain ⟨c, z, rfl, hc, hz⟩ := frs_get hf hx
      have hzm := List.mem_of_getElem? hz
      refine ⟨_, rfl, _, rfl, a, c, q, z, rfl, ha, hc, hb q hq, hb z hzm, _, rfl, ?_⟩
      by_cases hlt : q < z
      · rw [decide_eq_true hlt]
        refine iteT ⟨_, rfl, rfl, c, z, _, rfl, hc, hzm, fun y hy => ?_⟩
        rw [take_snoc hz] at hy
        rcases List.mem_append.mp hy with h | h
        · exact Rat.le_trans (hmax y h) (Rat.le_of_lt hlt)
        · rw [List.mem_singleton.mp h]; exact Rat.le_refl
      · rw [decide_eq_false hlt]
        refine iteF ⟨rfl, a, q, _, rfl, ha, hq, fun y hy => ?_⟩
        rw [take_snoc hz] at hy
        rcases List.mem_append.mp hy with h | h
        · exact hmax y h
        · rw [List.mem_singleton.mp h]; exact Rat.not_lt.mp hlt
    · rintro σ H1 ⟨rfl, a, q, y2, rfl, ha, hq, hmax⟩
      rw [hf.1, List.take_length] at hmax
      exact ⟨_, rfl, k a q ha hq hmax⟩
end
end K11

set_option Elab.async false
set_option linter.all false
set_option maxRecDepth 100000
set_option maxHeartbeats 4000000
namespace K11
open PySem L2 KG EX KM
section
variable {P : Program} {w : World} {K : PySem.W.Frag} {mg : Str → Option Value} {base : Heap}
theorem scWl : FnScope ["market", "buyer", "row"] ["market"] (defScope (top 14)) := ⟨rfl, rfl, rfl, by decide +kernel, rfl, by decide +kernel, by decide +kernel⟩
theorem ok_wl {f : Addr} {fd : FuncData} (F : Fun K "wishless" "wishless" (top 14) f fd) (N : Nm mg) : FnOk P w K mg base CX0 1 f fd ["market"] spWl := by
  refine F.ok scWl (fun vs H Q E h => ?_) (fun cdv A outer s H vs Q E hr h => ?_)
  · obtain ⟨b, p, pa, pp, pw, xa, xp, xw, am, pu, wi, rfl, _⟩ := h; rfl
  · obtain ⟨b, p, pa, pp, pw, xa, xp, xw, am, pu, wi, rfl, m, hgood, k⟩ := h
    obtain ⟨rw0, _⟩ := m.lw
    refine ⟨_, pss_cons (ps_for PassesOwn.never rfl (piEnum K rfl N.enumerate boot_enumerate (pa_cons (pe_ix (ixT K) (pv 0) pe_int (fun _ _ => rfl)) pa_nil))
        (pgTup K (n := 2) rfl (pgs_cons (pg_name (i := 1) scWl.nd rfl (Or.inl rfl)) (pgs_cons (pg_name (i := 2) scWl.nd rfl (Or.inl rfl)) pgs_nil)))
        (pss_one (ps_if (pt_not (pt_val (pe_callB (cAny K rfl) (by rfl) N.any boot_any (pa_cons (pv 2) pa_nil)))) (pss_one (ps_ret (pv 1))) pss_nil)))
      (pss_one (ps_ret pe_non)), ?_⟩
    refine ⟨_, rfl, p, _, _, _, rfl, rfl, SqT.of m.hp, rfl, pw, rfl, ⟨xw, SqT.of m.hw⟩, ?_⟩
    refine for_enum (xs := xw) (fun i σ H' => Stay H H' ∧ (∃ a c, σ = [some (.ref p), a, c])) ⟨Stay.refl H, ⟨none, none, rfl⟩⟩ (fun i σ H' _ q => q.1 _ _ m.hw) ?_ ?_
    · rintro i x q σ H' hx hq ⟨st, ⟨a, c, rfl⟩⟩
      obtain ⟨ns, aa, hM, rfl, hA⟩ := rw0.at hx
      have st2 : Stay H (upd H' q (.tup [.int i, .ref aa])) := st.new hq
      refine ⟨q, _, rfl, SqT.of upd_same, rfl, _, _, rfl, _, _, rfl, rfl, ?_⟩
      refine ⟨_, rfl, aa, _, rfl, .inr (SqT.of (st2 _ _ hA)), ?_, _, rfl, ?_⟩
      · rw [List.all_map]; simp [Function.comp_def, plainB]
      · have e : (List.map V.int ns).any tv = true := by
          rw [List.any_map]
          obtain ⟨k1, hk1, hp1⟩ := (hgood ns (List.mem_of_getElem? hM)).pos
          refine List.any_eq_true.mpr ⟨k1, hk1, ?_⟩
          show (k1 != 0) = true
          have : k1 ≠ 0 := by omega
          simpa using this
        rw [e]
        exact iteF ⟨st2, ⟨_, _, rfl⟩⟩
    · rintro σ H' ⟨st, _⟩
      exact k _ st
theorem scLeaT : FnScope ["parts", "found", "part"] ["parts"] (defScope (top 10)) := ⟨rfl, rfl, rfl, by decide +kernel, rfl, by decide +kernel, by decide +kernel⟩
theorem ok_leaT {f fA : Addr} {fd dA : FuncData} (F : Fun K "least" "least" (top 10) f fd) (A : Cal K mg P w base "less" 1 ["one", "other"] spLess fA dA) : FnOk P w K mg base CX0 2 f fd ["parts"] spLeaT := by
  refine F.ok scLeaT (fun vs H Q E h => ?_) (fun cdv A' outer s H vs Q E hr h => ?_)
  · obtain ⟨l, ys, qs, rfl, _⟩ := h; rfl
  · obtain ⟨l, ys, qs, rfl, hl, hf, hne, hb, k⟩ := h
    refine ⟨_, pss_cons (ps_set (i := 1) scLeaT.nd rfl (Or.inl rfl) (pe_ix (ixT K) (pv 0) pe_int (fun _ _ => rfl)))
      (pss_cons (ps_for PassesOwn.never rfl (piT K (pv 0)) (pg_name (i := 2) scLeaT.nd rfl (Or.inl rfl))
        (pss_one (ps_if (pt_val (pe_call A.ok hr rfl A.mg A.kp A.bd .nil pass0 (pa_cons (pv 2) (pa_cons (pv 1) pa_nil)))) (pss_one (ps_set (i := 1) scLeaT.nd rfl (Or.inl rfl) (pv 2))) pss_nil)))
      (pss_one (ps_ret (pv 1)))), ?_⟩
    have hpos : 0 < qs.length := List.length_pos_iff.mpr hne
    obtain ⟨a0, ea0, ha0⟩ := hf.at (g := 0) hpos
    have m0 : qs.getD 0 0 ∈ qs := by simp [List.getD, List.getElem?_eq_getElem hpos]
    refine ⟨_, rfl, l, _, _, _, rfl, rfl, SqT.of hl, ea0, ?_⟩
    refine ⟨_, rfl, l, rfl, ⟨_, SqT.of hl⟩, ?_⟩
    refine for_tup (xs := ys) (fun i σ H' => H' = H ∧ ∃ a q y2, σ = [some (.ref l), some (.ref a), y2] ∧ H a = some (qO q) ∧ q ∈ qs ∧ ∀ z ∈ qs.take i, q ≤ z) ⟨rfl, a0, _, _, rfl, ha0, m0, fun z hz => by simp at hz⟩ (fun i σ H' _ z => by obtain ⟨rfl, _⟩ := z; exact SqT.of hl) ?_ ?_
    · rintro i x σ H1 hx ⟨rfl, a, q, y2, rfl, ha, hq, hmax⟩
      obtain ⟨c, z, rfl, hc, hz⟩ := frs_get hf hx
      have hzm := List.mem_of_getElem? hz
      refine ⟨_, rfl, _, rfl, c, a, z, q, rfl, hc, ha, hb z hzm, hb q hq, _, rfl, ?_⟩
      by_cases hlt : z < q
      · rw [decide_eq_true hlt]
        refine iteT ⟨_, rfl, rfl, c, z, _, rfl, hc, hzm, fun y hy => ?_⟩
        rw [take_snoc hz] at hy
        rcases List.mem_append.mp hy with h | h
        · exact Rat.le_trans (Rat.le_of_lt hlt) (hmax y h)
        · rw [List.mem_singleton.mp h]; exact Rat.le_refl
      · rw [decide_eq_false hlt]
        refine iteF ⟨rfl, a, q, _, rfl, ha, hq, fun y hy => ?_⟩
        rw [take_snoc hz] at hy
        rcases List.mem_append.mp hy with h | h
        · exact hmax y h
        · rw [List.mem_singleton.mp h]; exact Rat.not_lt.mp hlt
    · rintro σ H1 ⟨rfl, a, q, y2, rfl, ha, hq, hmax⟩
      rw [hf.1, List.take_length] at hmax
      exact ⟨_, rfl, k a q ha ⟨hq, hmax⟩⟩
theorem scGS : FnScope ["wishes", "good"] ["wishes", "good"] (defScope (top 17)) := ⟨rfl, rfl, rfl, by decide +kernel, rfl, by decide +kernel, by decide +kernel⟩
theorem ok_gs {f fF fG Nn : Addr} {fd dF dG : FuncData} (F : Fun K "greatest_share" "greatest_share" (top 17) f fd) (N : Nm mg) (Fr : CalX K mg P w base "fraction" 2 ["top", "bottom"] (spFr Nn) fF dF) (G : Cal K mg P w base "greatest" 2 ["parts"] spGre fG dG) : FnOk P w K mg base CX0 3 f fd ["wishes", "good"] spGS := by
  refine F.ok scGS (fun vs H Q E h => ?_) (fun cdv A' outer s H vs Q E hr h => ?_)
  · obtain ⟨pw, xw, M, n, g, rfl, _⟩ := h; rfl
  · obtain ⟨pw, xw, M, n, g, rfl, hw, hR, hgn, hgood, hne, h6, k⟩ := h
    refine ⟨_, pss_one (ps_ret (pe_call G.ok hr rfl G.mg G.kp G.bd .nil pass0 (pa_cons (pe_comp (own := ["row"]) (cap := ["good"]) (ix := [1]) (BlkOk.of (defScope (top 17)).names ["wishes", "good"]) rfl (piT K (pv 0))
        (fun C fp s H => ⟨pg_name (i := 0) (show List.Nodup (["row", "good"] : List Str) by decide +kernel) rfl (Or.inl rfl), pifs_nil, pe_call Fr.ok hr rfl Fr.mg Fr.kp Fr.bd .nil passE0 (pa_cons (pe_ix (ixT K) (pv 0) (pv 1) (fun _ _ => rfl)) (pa_cons (pe_callB (cMax K rfl) (by rfl) N.max boot_max (pa_cons (pv 0) pa_nil)) pa_nil))⟩)) pa_nil))), ?_⟩
    refine ⟨_, rfl, pw, rfl, ⟨_, SqT.of hw⟩, fun acc hacc => ?_⟩
    refine comp_tup (xs := xw) (fun i zs H' => Stay H H' ∧ Frs H' zs ((M.take i).map (shareR g))) ⟨(Stay.refl H).acc hacc, ⟨rfl, fun j y z => by simp at z⟩⟩ (fun i zs H' _ _ z => SqT.of (z.1 _ _ hw)) ?_ ?_
    · rintro i x zs H1 hx hz ⟨s1, fr⟩
      obtain ⟨ns, a, hM, rfl, hA⟩ := hR.at hx
      have gr := hgood ns (List.mem_of_getElem? hM)
      obtain ⟨ea, _, _⟩ := atI_ints (ns := ns) (r := (g : Int)) (by omega) (by have := gr.len; omega)
      rw [Int.toNat_natCast] at ea
      have hi : i < M.length := (List.getElem?_eq_some_iff.mp hM).1
      refine yes_i ⟨_, rfl, _, rfl, a, _, _, _, rfl, rfl, SqT.of (s1 _ _ hA), ea, _, rfl, a, ns, rfl, .inr (SqT.of (s1 _ _ hA)), ?_, fun m hm hmax => ?_⟩
      · intro z
        obtain ⟨k1, hk1, _⟩ := gr.pos
        rw [z] at hk1; cases hk1
      have em := maxI_eq hm hmax fun n hn => (gr.bd n hn).1
      subst em
      have mx := gr.mx
      refine ⟨_, _, rfl, Bd.mono (j := 7) (by unfold Bd; omega) (by decide), fun z => absurd z (by omega), fun _ r hr' => ?_⟩
      rw [share_div]
      have s2 := (Stay.refl H1).new (o := qO (shareR g ns)) hr'
      have hz2 := s2 _ _ hz
      have er : (upd H1 r (qO (shareR g ns))) r = some (qO (shareR g ns)) := upd_same
      have fr2 := fr.stay s2
      generalize upd H1 r (qO (shareR g ns)) = H2 at s2 hz2 er fr2 ⊢
      have tl : Tm H2 (upd H2 acc (.lst (zs ++ [.ref r]))) := Tm.lst hz2
      refine ⟨zs, hz2, ?_, Cn.of upd_same ⟨(s1.trans s2).acc hacc, ?_⟩⟩
      · rw [fr.1, List.length_map, List.length_take, sz]; omega
      · rw [take_snoc hM, List.map_append]
        exact (fr2.app er).tm tl
    · rintro zs H1 hz ⟨s1, fr⟩
      rw [hR.len, List.take_length] at fr
      refine ⟨acc, zs, _, rfl, hz, fr, by simpa using hne, fun q hq => ?_, fun a q ha hq hmax => k a q H1 s1 ha ⟨hq, hmax⟩⟩
      obtain ⟨r, hr', rfl⟩ := List.mem_map.mp hq
      exact (rb_share (hgood r hr')).mono (by decide)
abbrev NFP : List Str := ["market", "amounts", "purses", "wishes", "pieces", "even"]
theorem scFP : FnScope NFP ["market"] (defScope (top 16)) := ⟨rfl, rfl, rfl, by decide +kernel, rfl, by decide +kernel, by decide +kernel⟩
theorem ok_fp {f fW fWl fL fO fT fG Nn Un : Addr} {fd dW dWl dL dO dT dG : FuncData} (F : Fun K "first_prices" "first_prices" (top 16) f fd) (N : Nm mg) (mgU : mg "Unwished" = some (.ref Un)) (exU : PySem.W.excIn K Un [.type "ValueError", .type "Exception", .type "BaseException", .type "object"] "ValueError.__new__" = true)
    (W : Cal K mg P w base "wished" 1 ["market"] spWis fW dW) (Wl : Cal K mg P w base "wishless" 1 ["market"] spWl fWl dWl) (L : Cal K mg P w base "least" 2 ["parts"] spLeaT fL dL) (O : CalX K mg P w base "over" 3 ["one", "other"] (spOver Nn) fO dO) (T : CalX K mg P w base "times" 3 ["one", "other"] (sp2 qTi) fT dT) (G : Cal K mg P w base "greatest_share" 3 ["wishes", "good"] spGS fG dG) :
    FnOk P w K mg base (CXF P w) 4 f fd ["market"] spFP := by
  refine F.okX scFP (fun vs H Q E h => ?_) (fun cdv A' outer s H vs Q E hr h => ?_)
  · obtain ⟨b, p, pa, pp, pw, xa, xp, xw, am, pu, wi, rfl, _⟩ := h; rfl
  · obtain ⟨b, p, pa, pp, pw, xa, xp, xw, am, pu, wi, rfl, m, hgood, k⟩ := h
    have hr1 : Room 1 _ := hr.mono (by decide)
    have hr2 : Room 2 _ := hr.mono (by decide)
    obtain ⟨rw0, rne, rlen, rbd, a1, a6, w1, w6, wp⟩ := m.lw
    obtain ⟨exa, amb⟩ := m.am
    obtain ⟨epu, pub⟩ := m.pu
    have hal : (am.map intOf).length = xa.length := by have := congrArg List.length exa; rw [List.length_map] at this; exact this.symm
    refine ⟨_, pss_cons (ps_if (pt_cmpR op_notN (pe_call Wl.ok hr1 rfl Wl.mg Wl.kp Wl.bd .nil pass0 (pa_cons (pv 0) pa_nil)) pe_non (nomark _)) (pss_one (ps_raise PySem.F.excBase_ValueError rfl mgU exU (pa_cons pe_str pa_nil))) pss_nil)
      (pss_cons (ps_asg (pv 0) (pg_tup rfl (pgs_cons (pg_name (i := 1) scFP.nd rfl (Or.inr rfl)) (pgs_cons (pg_name (i := 2) scFP.nd rfl (Or.inl rfl)) (pgs_cons (pg_name (i := 3) scFP.nd rfl (Or.inr rfl)) pgs_nil)))))
      (pss_cons (ps_set (i := 4) scFP.nd rfl (Or.inl rfl) (pe_callB (cSum K rfl) (by rfl) N.sum boot_sum (pa_cons (pe_comp (own := ["good"]) (cap := ["amounts"]) (ix := [1]) (BlkOk.of (defScope (top 16)).names NFP) rfl (piT K (pe_call W.ok hr1 rfl W.mg W.kp W.bd .nil pass0 (pa_cons (pv 0) pa_nil)))
          (fun C fp s H => ⟨pg_name (i := 0) (show List.Nodup (["good", "amounts"] : List Str) by decide +kernel) rfl (Or.inl rfl), pifs_nil, pe_ix (ixT K) (pv 1) (pv 0) (fun _ _ => rfl)⟩)) pa_nil)))
      (pss_cons (ps_set (i := 5) scFP.nd rfl (Or.inr rfl) (pe_call O.ok hr rfl O.mg O.kp O.bd .nil passE0 (pa_cons (pe_call L.ok hr2 rfl L.mg L.kp L.bd .nil pass0 (pa_cons (pv 2) pa_nil)) (pa_cons (pe_tup (pa_cons (pv 4) (pa_cons pe_int pa_nil))) pa_nil))))
      (pss_one (ps_ret (pe_callTy (cTup K) (by rfl) N.tuple boot_tuple (pa_cons (pe_comp (own := ["good"]) (cap := ["even", "wishes"]) (ix := [5, 3]) (BlkOk.of (defScope (top 16)).names NFP) rfl (pi_range1 rfl N.range (pa_cons (pe_callB (cLen K) (by rfl) N.len PySem.boot_len (pa_cons (pv 1) pa_nil)) pa_nil))
          (fun C fp s H => ⟨pg_name (i := 0) (show List.Nodup (["good", "even", "wishes"] : List Str) by decide +kernel) rfl (Or.inl rfl), pifs_nil, pe_call T.ok hr rfl T.mg T.kp T.bd .nil passE0 (pa_cons (pv 1) (pa_cons (pe_call G.ok hr rfl G.mg G.kp G.bd .nil pass0 (pa_cons (pv 2) (pa_cons (pv 0) pa_nil))) pa_nil))⟩)) pa_nil))))))), ?_⟩
    refine ⟨_, rfl, b, p, pa, pp, pw, xa, xp, xw, am, pu, wi, rfl, m, hgood, fun H1 s1 => ?_⟩
    refine ⟨rfl, _, rfl, iteF ?_⟩
    have m1 := m.stay s1
    refine ⟨_, rfl, p, _, rfl, SqT.of m1.hp, rfl, _, _, rfl, _, _, rfl, _, _, rfl, rfl, ?_⟩
    refine ⟨_, rfl, b, p, pa, pp, pw, xa, xp, xw, am, pu, wi, rfl, m1, fun q2 H2 s2 e2 => ?_⟩
    rw [wishedL_N] at e2
    refine ⟨q2, rfl, ⟨_, SqT.of e2⟩, fun acc hacc => ?_⟩
    have s12 := s1.trans s2
    refine comp_tup (xs := natsV (wishN xa.length (rowsOf wi))) (fun i zs H' => Stay H2 H' ∧ zs = (((wishN xa.length (rowsOf wi)).take i).map fun g => (am.map intOf).getD g 0).map V.int) ⟨(Stay.refl H2).acc hacc, rfl⟩ (fun i zs H' _ _ z => SqT.of (z.1 _ _ e2)) ?_ ?_
    · rintro i x zs H3 hx hz ⟨s3, rfl⟩
      obtain ⟨g, hg, rfl⟩ := nat_at hx
      have hgx := (wishN_lt (List.mem_of_getElem? hg)).1
      obtain ⟨ea, _, _⟩ := atI_ints (ns := am.map intOf) (r := (g : Int)) (by omega) (by omega)
      rw [Int.toNat_natCast, ← exa] at ea
      have hi : i < (wishN xa.length (rowsOf wi)).length := (List.getElem?_eq_some_iff.mp hg).1
      have hwl := wishN_len xa.length (rowsOf wi)
      refine yes_i ⟨_, rfl, _, rfl, pa, _, _, _, rfl, rfl, SqT.of (s3 _ _ (s12 _ _ m.ha)), ea, _, hz, ?_, Cn.of upd_same ⟨s3.acc hacc, ?_⟩⟩
      · rw [List.length_map, List.length_map, List.length_take, sz]; omega
      · rw [take_snoc hg, List.map_append, List.map_append]; rfl
    rintro zs H3 hz ⟨s3, rfl⟩
    rw [nats_len, List.take_length] at hz
    refine ⟨acc, _, rfl, .inl (SqL.of hz), ?_⟩
    have epc : ((wishN xa.length (rowsOf wi)).map fun g => (am.map intOf).getD g 0).sum = piecesI (am.map intOf) (wishN xa.length (rowsOf wi)) := rfl
    rw [epc]
    have s13 := s12.trans s3
    have hpc := pieces_pos (am := am.map intOf) hgood rne hal (fun a ha => (amb a ha).1)
    have hpcu : piecesI (am.map intOf) (wishN xa.length (rowsOf wi)) ≤ 360 := pieces_le hal a6 (fun a ha => (amb a ha).2)
    -- the even price
    have m3 := m.stay s13
    have fp3 := m3.fp
    have pne : pursesQ pu ≠ [] := fun z => by
      have h1 := fp3.1
      rw [z, List.length_nil] at h1
      omega
    refine ⟨_, rfl, pp, xp, pursesQ pu, rfl, m3.hpp, fp3, pne, fun z hz => (pub z hz).2.mono (by decide), fun al mn hal' hmn => ?_⟩
    refine ⟨_, rfl, by show 2 ≤ sizeLine; decide, fun p4 hp4 => ?_⟩
    have s4 := s13.new (o := .tup [.int (piecesI (am.map intOf) (wishN xa.length (rowsOf wi))), .int 1]) hp4
    have s34 := (Stay.refl H3).new (o := .tup [.int (piecesI (am.map intOf) (wishN xa.length (rowsOf wi))), .int 1]) hp4
    have hpp0 := cast_pos (z := piecesI (am.map intOf) (wishN xa.length (rowsOf wi))) (by omega)
    have bpc : Rb 9 ((piecesI (am.map intOf) (wishN xa.length (rowsOf wi)) : Int) : Rat) := rb_int (by unfold Bd; omega) (by decide)
    have hmnb := (pub mn hmn.1)
    have hne0 : ((piecesI (am.map intOf) (wishN xa.length (rowsOf wi)) : Int) : Rat) ≠ 0 := fun z => by rw [z] at hpp0; exact absurd hpp0 (by decide)
    refine ⟨al, p4, mn, _, rfl, s34 _ _ hal', upd_same, hmnb.2.mono (by decide), bpc.mono (by decide), fun z => absurd z hne0, fun _ r5 hr5 => ?_⟩
    have s5 := s4.new (o := qO (mn / ((piecesI (am.map intOf) (wishN xa.length (rowsOf wi)) : Int) : Rat))) hr5
    have e5 : (upd (upd H3 p4 (.tup [.int (piecesI (am.map intOf) (wishN xa.length (rowsOf wi))), .int 1])) r5 (qO (mn / ((piecesI (am.map intOf) (wishN xa.length (rowsOf wi)) : Int) : Rat)))) r5 = some (qO (mn / ((piecesI (am.map intOf) (wishN xa.length (rowsOf wi)) : Int) : Rat))) := upd_same
    have beven : Rb 29 (mn / ((piecesI (am.map intOf) (wishN xa.length (rowsOf wi)) : Int) : Rat)) := rb_divq hmnb.2 bpc hne0
    generalize upd (upd H3 p4 (.tup [.int (piecesI (am.map intOf) (wishN xa.length (rowsOf wi))), .int 1])) r5 (qO (mn / ((piecesI (am.map intOf) (wishN xa.length (rowsOf wi)) : Int) : Rat))) = H5 at s5 e5 ⊢
    refine ⟨_, rfl, pa, xa, rfl, .inr (SqT.of (s5 _ _ m.ha)), (xa.length : Int), rfl, by omega, by omega, fun acc6 hacc6 => ?_⟩
    have exl : ((xa.length : Int)).toNat = xa.length := by simp
    rw [exl]
    refine comp_range (fun i zs H' => Stay H5 H' ∧ ∃ qs : List Rat, qs.length = i ∧ Frs H' zs qs ∧ ∀ g, g < i → ∃ sh, IsMax ((rowsOf wi).map (shareR g)) sh ∧ qs.getD g 0 = mn / ((piecesI (am.map intOf) (wishN xa.length (rowsOf wi)) : Int) : Rat) * sh) ⟨(Stay.refl H5).acc hacc6, [], rfl, ⟨rfl, fun j y z => by simp at z⟩, fun g hg => absurd hg (by omega)⟩ ?_ ?_
    · rintro i zs H6 hi hz6 ⟨s6, qs, hql, fr, hqs⟩
      have hii : (0 + (i : Int)) = (i : Int) := by omega
      have s56 := s5.trans s6
      have m6 := m.stay s56
      obtain ⟨rw6, _⟩ := m6.lw
      refine yes_i ⟨_, rfl, _, rfl, _, rfl, pw, xw, rowsOf wi, xa.length, i, by show [V.ref pw, V.int (0 + (i : Int))] = _; rw [hii], m6.hw, rw6, hi, hgood, rne, by rw [← rw0.len]; exact w6, fun a7 sh H7 s7 ha7 hsh => ?_⟩
      have bsh : Rb 7 sh := by
        obtain ⟨r, hr', rfl⟩ := List.mem_map.mp hsh.1
        exact rb_share (hgood r hr')
      refine ⟨r5, a7, _, sh, rfl, s7 _ _ (s6 _ _ e5), ha7, beven.mono (by decide), bsh.mono (by decide), fun r8 hr8 => ?_⟩
      have s8 := (Stay.refl H7).new (o := qO (qTi (mn / ((piecesI (am.map intOf) (wishN xa.length (rowsOf wi)) : Int) : Rat)) sh)) hr8
      have hz8 := s8 _ _ (s7 _ _ hz6)
      have e8 : (upd H7 r8 (qO (qTi (mn / ((piecesI (am.map intOf) (wishN xa.length (rowsOf wi)) : Int) : Rat)) sh))) r8 = some (qO (qTi (mn / ((piecesI (am.map intOf) (wishN xa.length (rowsOf wi)) : Int) : Rat)) sh)) := upd_same
      have fr8 := (fr.stay s7).stay s8
      generalize upd H7 r8 (qO (qTi (mn / ((piecesI (am.map intOf) (wishN xa.length (rowsOf wi)) : Int) : Rat)) sh)) = H8 at s8 hz8 e8 fr8 ⊢
      have tl : Tm H8 (upd H8 acc6 (.lst (zs ++ [.ref r8]))) := Tm.lst hz8
      refine ⟨zs, hz8, ?_, Cn.of upd_same ⟨(s6.trans (s7.trans s8)).acc hacc6, qs ++ [_], by rw [List.length_append, hql]; rfl, (fr8.app e8).tm tl, fun g hg => ?_⟩⟩
      · rw [fr.1, sz]; omega
      · rcases Nat.lt_or_ge g i with z | z
        · obtain ⟨sh', h1, h2⟩ := hqs g z
          refine ⟨sh', h1, ?_⟩
          have : (qs ++ [qTi (mn / ((piecesI (am.map intOf) (wishN xa.length (rowsOf wi)) : Int) : Rat)) sh]).getD g 0 = qs.getD g 0 := by simp [List.getD, List.getElem?_append_left (show g < qs.length by omega)]
          rw [this]; exact h2
        · obtain rfl : g = i := by omega
          refine ⟨sh, hsh, ?_⟩
          have : (qs ++ [qTi (mn / ((piecesI (am.map intOf) (wishN xa.length (rowsOf wi)) : Int) : Rat)) sh]).getD g 0 = qTi (mn / ((piecesI (am.map intOf) (wishN xa.length (rowsOf wi)) : Int) : Rat)) sh := by rw [← hql]; simp [List.getD]
          rw [this]; rfl
    · rintro zs H6 hz6 ⟨s6, qs, hql, fr, hqs⟩
      refine ⟨acc6, zs, rfl, .inl ⟨SqL.of hz6, fun l hl => ?_⟩⟩
      have s7 := (Stay.refl H6).new (o := .tup zs) hl
      exact k l zs qs _ (s5.trans (s6.trans s7)) upd_same (fr.stay s7) ⟨hql, mn, hmn, hqs⟩
end
end K11

set_option Elab.async false
set_option linter.all false
set_option maxRecDepth 100000
set_option maxHeartbeats 4000000
namespace K11
open PySem L2 KG EX KM
section
variable {P : Program} {w : World} {K : PySem.W.Frag} {mg : Str → Option Value} {base : Heap}
abbrev NL : List Str := ["script", "k", "bag", "market", "prices", "best", "good"]
theorem scLaw : FnScope NL ["script"] (defScope (top 41)) := ⟨rfl, rfl, rfl, by decide +kernel, rfl, by decide +kernel, by decide +kernel⟩
theorem ok_law {f fB fM fP fF fD fE fW : Addr} {fd dB dM dP dF dD dE dW : FuncData} (F : Fun K "law" "law" (top 41) f fd) (N : Nm mg) (Z : IsK K)
    (Bg : Cal K mg P w base "_law_bag" 1 ["script", "k"] (spBag K) fB dB) (Mk : Cal K mg P w base "_law_market" 3 ["bag"] spMk fM dM) (Fp : CalX K mg P w base "first_prices" 4 ["market"] spFP fP dP) (Lf : Cal K mg P w base "_law_first" 3 ["market"] spLFirst fF dF)
    (De : Cal K mg P w base "_law_dear" 4 ["market", "prices"] spLDear fD dD) (Be : Cal K mg P w base "_law_best" 1 ["market", "prices"] spLBest fE dE) (Wi : Cal K mg P w base "_law_wished" 1 ["market"] spLWished fW dW) : FnOk P w K mg base CX0 5 f fd ["script"] (spLaw K) := by
  refine F.ok scLaw (fun vs H Q E h => ?_) (fun cdv A outer s H vs Q E hr h => ?_)
  · obtain ⟨a, ns, rfl, _⟩ := h; rfl
  · obtain ⟨a, ns, rfl, hS, hlen, k⟩ := h
    have hu := hr.units
    have hr1 : Room 1 _ := hr.mono (by decide)
    have hr3 : Room 3 _ := hr.mono (by decide)
    refine ⟨_, pss_cons (ps_for PassesOwn.never rfl (pi_range1 rfl N.range (pa_cons (pe_op op_add (pe_callB (call_min2 rfl) (by rfl) N.min boot_min (pa_cons (pe_callB (cLen K) (by rfl) N.len PySem.boot_len (pa_cons (pv 0) pa_nil)) (pa_cons pe_int pa_nil))) pe_int) pa_nil)) (pg_name (i := 1) scLaw.nd rfl (Or.inl rfl))
      (pss_cons (ps_set (i := 2) scLaw.nd rfl (Or.inl rfl) (pe_call Bg.ok hr1 rfl Bg.mg Bg.kp Bg.bd .nil pass0 (pa_cons (pv 0) (pa_cons (pv 1) pa_nil))))
      (pss_cons (ps_set (i := 3) scLaw.nd rfl (Or.inl rfl) (pe_call Mk.ok hr3 rfl Mk.mg Mk.kp Mk.bd .nil pass0 (pa_cons (pv 2) pa_nil)))
      (pss_cons (ps_set (i := 4) scLaw.nd rfl (Or.inl rfl) (pe_call Fp.ok hr rfl Fp.mg Fp.kp Fp.bd .nil passE0 (pa_cons (pv 3) pa_nil)))
      (pss_cons (ps_if (PW.pt (pw_or (pt_not (pt_val (pIsi K (pv 4) rfl N.isinstance rfl N.tuple boot_tuple boot_isinstance))) (pw_or (pt_cmpR (opNeD K hu) (pv 4) (pe_call Lf.ok hr3 rfl Lf.mg Lf.kp Lf.bd .nil pass0 (pa_cons (pv 3) pa_nil)) (nomark _))
          (pw_or1 (pt_cmpR (opNeD K hu) (pe_call De.ok hr rfl De.mg De.kp De.bd .nil pass0 (pa_cons (pv 3) (pa_cons (pv 4) pa_nil))) (pe_tup pa_nil) (nomark _)))))) (pss_one (ps_ret pe_bl)) pss_nil)
      (pss_cons (ps_set (i := 5) scLaw.nd rfl (Or.inl rfl) (pe_call Be.ok hr1 rfl Be.mg Be.kp Be.bd .nil pass0 (pa_cons (pv 3) (pa_cons (pv 4) pa_nil))))
      (pss_one (ps_for PassesOwn.never rfl (piL K (pe_call Wi.ok hr1 rfl Wi.mg Wi.kp Wi.bd .nil pass0 (pa_cons (pv 3) pa_nil))) (pg_name (i := 6) scLaw.nd rfl (Or.inr rfl))
        (pss_one (ps_if (pt_cmpR (opEqD K hu) (pe_comp (own := ["row"]) (cap := ["good"]) (ix := [6]) (BlkOk.of (defScope (top 41)).names NL) rfl (piL K (pv 5))
          (fun C fp s H => ⟨pg_name (i := 0) (show List.Nodup (["row", "good"] : List Str) by decide +kernel) rfl (Or.inl rfl), pifs_one (pt_cmpR (opInK K) (pv 1) (pv 0) (by with_unfolding_all rfl)), pv 0⟩)) (pe_lst pa_nil) (nomark _)) (pss_one (ps_ret pe_bl)) pss_nil))))))))))
      (pss_one (ps_ret pe_bl)), ?_⟩
    refine ⟨_, rfl, a, _, rfl, .inl hS, _, _, rfl, _, _, rfl, rfl, _, rfl, ?_, ?_, ?_⟩
    · rw [List.length_map]; split <;> omega
    · rw [List.length_map]; split <;> omega
    have hN : ((if (40 : Int) < ((ns.map V.int).length : Int) then (40 : Int) else ((ns.map V.int).length : Int)) + 2).toNat ≤ 65 := by
      rw [List.length_map]; split <;> omega
    refine for_range (fun i σ H' => Stay H H' ∧ ∃ x1 x2 x3 x4 x5 x6, σ = [some (.ref a), x1, x2, x3, x4, x5, x6]) ⟨Stay.refl H, _, _, _, _, _, _, rfl⟩ ?_ (fun σ H' _ => k H')
    rintro i σ H0 hi ⟨st0, x1, x2, x3, x4, x5, x6, rfl⟩
    have hS0 := SqL.stay hS st0
    refine ⟨_, rfl, _, rfl, a, ns, _, rfl, hS0, by omega, by omega, fun b c d hb0 => ?_⟩
    have hb1 : Bag (upd H0 b (.lst [.int c, .int d])) b := ⟨c, d, upd_same⟩
    have s1 : Stay H0 (upd H0 b (.lst [.int c, .int d])) := (Stay.refl H0).new hb0
    refine ⟨_, rfl, b, rfl, hb1, fun p am pu wi H1 hbag kp1 hT hM hpos => ?_⟩
    have s2 : Stay H0 H1 := s1.kp kp1 hb0
    obtain ⟨pa, pp, pw, xa, xp, xw, m1⟩ := MkAt.of hT hM
    obtain ⟨rw0, rne, rlen, rbd, a1, a6, w1, w6, wp⟩ := m1.lw
    obtain ⟨exa, amb⟩ := m1.am
    obtain ⟨epu, pub⟩ := m1.pu
    have hal : (am.map intOf).length = xa.length := by have := congrArg List.length exa; rw [List.length_map] at this; exact this.symm
    have hgood : ∀ r ∈ rowsOf wi, GoodRow xa.length r := fun r hr' => ⟨rlen r hr', rbd r hr', pos_row m1.ok hpos hr'⟩
    have hpc := pieces_pos (am := am.map intOf) hgood rne hal (fun a ha => (amb a ha).1)
    have hpl : (pursesQ pu).length = (rowsOf wi).length := by
      have h1 := m1.fp.1
      have h2 := rw0.len
      omega
    -- the first prices
    refine ⟨_, rfl, b, p, pa, pp, pw, xa, xp, xw, am, pu, wi, rfl, m1, hgood, fun q ys qs H2 s2' hq fr hF => ?_⟩
    have m2 := m1.stay s2'
    have tq : TrV b H2 (.ref q) (.tuple (qs.map qD)) := .tup hq (frs_tr fr)
    obtain ⟨t1, ty1, e1⟩ := ist Z tq
    refine ⟨_, rfl, t1, _, ty1, e1, _, rfl, iteF ?_⟩
    refine ⟨_, rfl, _, rfl, b, p, pa, pp, pw, xa, xp, xw, am, pu, wi, rfl, m2, hgood, fun q3 ys3 qs3 H3 s3 hq3 fr3 hF3 => ?_⟩
    have eq3 := hF3.uniq hF
    subst eq3
    have tq3 : TrV b H3 (.ref q3) (.tuple (qs3.map qD)) := .tup hq3 (frs_tr fr3)
    refine ⟨_, _, (tq.stay s3).dt, tq3.dt, Nat.le_trans (Nat.min_le_left _ _) (Nat.le_trans (dep_qt _) (by decide)), _, rfl, ?_⟩
    rw [eqv_qt]
    refine iteF ?_
    have m3 := m2.stay s3
    have bq : ∀ z ∈ qs3, Rb 293 z := first_rb hF hgood (fun z hz => (pub z hz).2) hpc (pieces_le hal a6 (fun a ha => (amb a ha).2))
    have pr3 : PrAt b H3 q ys qs3 := ⟨s3 _ _ hq, frs_tr (fr.stay s3), bq⟩
    refine ⟨_, rfl, _, rfl, b, p, pa, pp, pw, q, xa, xp, xw, ys, am, pu, wi, qs3, rfl, m3, pr3, hF.len, fun c' rows mm r H4 hc hrows hval hm hmax s4 e4 => ?_⟩
    have hnil : leastOf rows mm = [] := by
      refine least_nil (f := fun S => aboveQ (am.map intOf) (pursesQ pu) qs3 (rowsOf wi) (nats S)) hc hval above_nil (fun x hx => ?_) (by rw [hrows]; exact nil_sets _) hm hmax
      have hx2 : x.2 ∈ setsL (wishZ xa.length (rowsOf wi)) := by rw [← hrows]; exact List.mem_map.mpr ⟨x, hx, rfl⟩
      refine first_above hgood hF (fun z hz => (pub z hz).1) hpl hal (fun a ha => (amb a ha).1) hpc ?_
      have h1 := List.Sublist.map Int.toNat (setsL_sub hx2)
      have h2 := nats_wishZ xa.length (rowsOf wi)
      unfold nats at h2 ⊢
      rw [h2] at h1; exact h1
    rw [hnil] at e4
    refine ⟨by show 0 ≤ sizeLine; decide, fun p5 hp5 => ?_⟩
    have s5 := (Stay.refl H4).new (o := .tup []) hp5
    refine ⟨.tuple [], .tuple [], (TrV.tup (b := b) (s5 _ _ e4) .nil).dt, (TrV.tup (b := b) upd_same .nil).dt, by decide, _, rfl, iteF ?_⟩
    have s35 := s4.trans s5
    have m5 := m3.stay s35
    have pr5 := pr3.stay s35
    generalize upd H4 p5 (.tup []) = H5 at s5 s35 m5 pr5 ⊢
    refine ⟨_, rfl, _, rfl, b, p, pa, pp, pw, q, xa, xp, xw, ys, am, pu, wi, qs3, rfl, m5, pr5, hF.len, fun rb xb H6 s6 hb6 ls6 => ?_⟩
    have m6 := m5.stay s6
    obtain ⟨rw6, _⟩ := m6.lw
    refine ⟨_, rfl, p, pa, pw, _, xa, xw, rowsOf wi, rfl, m6.hp, m6.ha, m6.hw, rw6, rne, rlen, a6, w6, fun q7 H7 s7 _ e7 => ?_⟩
    rw [wishedL_N] at e7
    have sAll : Stay H H7 := st0.trans (s2.trans (s2'.trans (s3.trans (s35.trans (s6.trans s7)))))
    refine ⟨q7, rfl, ⟨_, SqL.of e7⟩, ?_⟩
    refine for_list (xs := natsV (wishN xa.length (rowsOf wi))) (fun j σ H' => Stay H7 H' ∧ ∃ y6, σ = [some (.ref a), some (.int (0 + (i : Int))), some (.ref b), some (.ref p), some (.ref q), some (.ref rb), y6]) ⟨Stay.refl H7, _, rfl⟩ (fun j σ H' _ z => SqL.of (z.1 _ _ e7)) ?_ (fun σ H' z => ⟨sAll.trans z.1, by obtain ⟨y6, rfl⟩ := z.2; exact ⟨_, _, _, _, _, _, rfl⟩⟩)
    rintro j x σ H8 hx ⟨s8, y6, rfl⟩
    obtain ⟨g, hg, rfl⟩ := nat_at hx
    have hgm := List.mem_of_getElem? hg
    refine ⟨_, rfl, rb, rfl, ⟨_, SqL.of (s8 _ _ (s7 _ _ hb6))⟩, fun acc hacc => ?_⟩
    have ls8 : LsR H8 xb (bestM (rowsOf wi) qs3) := ls6.stay (s7.trans s8)
    have hMl : (bestM (rowsOf wi) qs3).length = (rowsOf wi).length := by unfold bestM; rw [List.length_map]
    have hM6 : (rowsOf wi).length ≤ 6 := by rw [← rw0.len]; exact w6
    refine comp_list (xs := xb) (fun t zs H' => Stay H8 H' ∧ LsR H8 zs (((bestM (rowsOf wi) qs3).take t).filter fun r => r.contains (g : Int)) ∧ zs.length ≤ t) ⟨(Stay.refl H8).acc hacc, ⟨rfl, fun j x z => by simp at z⟩, Nat.le_refl _⟩ (fun t zs H' _ _ z => SqL.of (z.1 _ _ (s8 _ _ (s7 _ _ hb6)))) ?_ ?_
    · rintro t x zs H9 hx9 hz ⟨s9, lz, hzl⟩
      obtain ⟨cc, rfl, hcc⟩ := ls8.2 t x hx9
      have ht : t < (bestM (rowsOf wi) qs3).length := by rw [← ls8.1]; exact (List.getElem?_eq_some_iff.mp hx9).1
      have eg : (bestM (rowsOf wi) qs3).getD t [] = (bestM (rowsOf wi) qs3)[t] := by simp [List.getD, List.getElem?_eq_getElem ht]
      rw [eg] at hcc
      refine ⟨_, rfl, _, rfl, cc, _, rfl, .inl (SqL.of (s9 _ _ hcc)), rfl, flat_ints _, _, rfl, ?_⟩
      have ein : (if false = true then !inV (V.int (g : Int)) ((bestM (rowsOf wi) qs3)[t].map V.int) else inV (V.int (g : Int)) ((bestM (rowsOf wi) qs3)[t].map V.int)) = (bestM (rowsOf wi) qs3)[t].contains (g : Int) := by rw [if_neg (by decide), inv_ints]
      rw [ein]
      have ef : ((bestM (rowsOf wi) qs3).take (t + 1)).filter (fun r => r.contains (g : Int)) = ((bestM (rowsOf wi) qs3).take t).filter (fun r => r.contains (g : Int)) ++ if (bestM (rowsOf wi) qs3)[t].contains (g : Int) = true then [(bestM (rowsOf wi) qs3)[t]] else [] := by
        rw [take_snoc (List.getElem?_eq_getElem ht), List.filter_append]
        congr 1
        exact filt1 _ _
      cases hc9 : (bestM (rowsOf wi) qs3)[t].contains (g : Int) with
      | true =>
        refine iteT ⟨_, rfl, zs, hz, by rw [sz]; omega, Cn.of upd_same ⟨s9.acc hacc, ?_, ?_⟩⟩
        · rw [ef, hc9, if_pos rfl]; exact lz.app hcc
        · rw [List.length_append]; show zs.length + 1 ≤ t + 1; omega
      | false =>
        refine iteF (Cn.of hz ⟨s9, ?_, by omega⟩)
        rw [ef, hc9, if_neg (by decide), List.append_nil]; exact lz
    · rintro zs H9 hz ⟨s9, lz, hzl⟩
      rw [ls8.1, List.take_length] at lz
      refine ⟨by show 0 ≤ sizeLine; decide, fun q10 hq10 => ?_⟩
      have s10 := (Stay.refl H9).new (o := .lst []) hq10
      have lz10 : LsR (upd H9 q10 (.lst [])) zs ((bestM (rowsOf wi) qs3).filter fun r => r.contains (g : Int)) := lz.stay (s9.trans s10)
      refine ⟨.list (((bestM (rowsOf wi) qs3).filter fun r => r.contains (g : Int)).map fun r => .list (r.map PyData.int)), .list [], .lst (SqL.of (s10 _ _ hz)) (lsr_dt lz10), .lst (SqL.of upd_same) .nil, by show min _ 1 ≤ 60; omega, _, rfl, ?_⟩
      rw [eqv_nil]
      have hne : (((bestM (rowsOf wi) qs3).filter fun r => r.contains (g : Int)).map fun r => PyData.list (r.map PyData.int)).isEmpty = false := by
        obtain ⟨i', row, hMi, hbest⟩ := first_best hgood hF (fun z hz => (pub z hz).1) hpc hgm
        have hmem : (bestR row qs3).map (fun g : Nat => (g : Int)) ∈ (bestM (rowsOf wi) qs3).filter fun r => r.contains (g : Int) := by
          refine List.mem_filter.mpr ⟨?_, ?_⟩
          · unfold bestM; exact List.mem_map.mpr ⟨row, List.mem_of_getElem? hMi, rfl⟩
          · rw [List.contains_iff_mem]; exact List.mem_map.mpr ⟨g, hbest, rfl⟩
        rw [List.isEmpty_map]
        cases e : (bestM (rowsOf wi) qs3).filter fun r => r.contains (g : Int) with
        | nil => rw [e] at hmem; cases hmem
        | cons _ _ => rfl
      rw [hne]
      exact iteF ⟨s8.trans (s9.trans s10), _, rfl⟩
end
end K11

set_option Elab.async false
set_option linter.all false
set_option maxRecDepth 100000
set_option maxHeartbeats 8000000
namespace K11
open PySem L2 KG EX KM
theorem all_mk {l : PySem.W.OpenLaw} {w : World} {K : PySem.W.Frag} {h : Heap} {mg : Str → Option Value} {fa : Addr} (X : K.In h) (G : h.Ns mainGlobals mg) (hfa : mg "law" = some (.ref fa))
    {f0 f1 f2 f3 f4 f5 f6 f7 f8 f9 f10 f11 f12 f13 f14 f15 f16 f17 f18 f19 f20 f21 f22 f23 f24 f25 f26 f27 f28 M Nn Un : Addr}
    {od0 an0 od1 an1 od2 an2 od3 an3 od4 an4 od5 an5 od6 an6 od7 an7 od8 an8 od9 an9 od10 an10 od11 an11 od12 an12 od13 an13 od14 an14 od15 an15 od16 an16 od17 an17 od18 an18 od19 an19 od20 an20 od21 an21 od22 an22 od23 an23 od24 an24 od25 an25 od26 an26 od27 an27 od28 an28 : Option Addr} {sl0 sl1 sl2 sl3 sl4 sl5 sl6 sl7 sl8 sl9 sl10 sl11 sl12 sl13 sl14 sl15 sl16 sl17 sl18 sl19 sl20 sl21 sl22 sl23 sl24 sl25 sl26 sl27 sl28 : Array (Option Value)} {oc0 kV0 dc0 pm0 cd0 ct0 oc1 kV1 dc1 pm1 cd1 ct1 oc2 kV2 dc2 pm2 cd2 ct2 oc3 kV3 dc3 pm3 cd3 ct3 oc4 kV4 dc4 pm4 cd4 ct4 oc5 kV5 dc5 pm5 cd5 ct5 oc6 kV6 dc6 pm6 cd6 ct6 oc7 kV7 dc7 pm7 cd7 ct7 oc8 kV8 dc8 pm8 cd8 ct8 oc9 kV9 dc9 pm9 cd9 ct9 oc10 kV10 dc10 pm10 cd10 ct10 oc11 kV11 dc11 pm11 cd11 ct11 oc12 kV12 dc12 pm12 cd12 ct12 oc13 kV13 dc13 pm13 cd13 ct13 oc14 kV14 dc14 pm14 cd14 ct14 oc15 kV15 dc15 pm15 cd15 ct15 oc16 kV16 dc16 pm16 cd16 ct16 oc17 kV17 dc17 pm17 cd17 ct17 oc18 kV18 dc18 pm18 cd18 ct18 oc19 kV19 dc19 pm19 cd19 ct19 oc20 kV20 dc20 pm20 cd20 ct20 oc21 kV21 dc21 pm21 cd21 ct21 oc22 kV22 dc22 pm22 cd22 ct22 oc23 kV23 dc23 pm23 cd23 ct23 oc24 kV24 dc24 pm24 cd24 ct24 oc25 kV25 dc25 pm25 cd25 ct25 oc26 kV26 dc26 pm26 cd26 ct26 oc27 kV27 dc27 pm27 cd27 ct27 oc28 kV28 dc28 pm28 cd28 ct28 : Value}
    (a0 : PySem.W.nsIn K mainGlobals "common_divisor" = some (some (.ref f0))) (l0 : K.lookup f0 = some ⟨oc0, od0, .func (PySem.W.fnOf "common_divisor" "common_divisor" (defArgs (top 5)) (defBody (top 5)) (defScope (top 5)) .none kV0 dc0 pm0 an0 cd0 ct0), sl0⟩) (c0 : PySem.W.codeIn K cd0 "common_divisor" = true) (k0 : PySem.W.keepIn K (.ref f0) = true)
    (a1 : PySem.W.nsIn K mainGlobals "fraction" = some (some (.ref f1))) (l1 : K.lookup f1 = some ⟨oc1, od1, .func (PySem.W.fnOf "fraction" "fraction" (defArgs (top 6)) (defBody (top 6)) (defScope (top 6)) .none kV1 dc1 pm1 an1 cd1 ct1), sl1⟩) (c1 : PySem.W.codeIn K cd1 "fraction" = true) (k1 : PySem.W.keepIn K (.ref f1) = true)
    (a2 : PySem.W.nsIn K mainGlobals "times" = some (some (.ref f2))) (l2 : K.lookup f2 = some ⟨oc2, od2, .func (PySem.W.fnOf "times" "times" (defArgs (top 7)) (defBody (top 7)) (defScope (top 7)) .none kV2 dc2 pm2 an2 cd2 ct2), sl2⟩) (c2 : PySem.W.codeIn K cd2 "times" = true) (k2 : PySem.W.keepIn K (.ref f2) = true)
    (a3 : PySem.W.nsIn K mainGlobals "over" = some (some (.ref f3))) (l3 : K.lookup f3 = some ⟨oc3, od3, .func (PySem.W.fnOf "over" "over" (defArgs (top 8)) (defBody (top 8)) (defScope (top 8)) .none kV3 dc3 pm3 an3 cd3 ct3), sl3⟩) (c3 : PySem.W.codeIn K cd3 "over" = true) (k3 : PySem.W.keepIn K (.ref f3) = true)
    (a4 : PySem.W.nsIn K mainGlobals "less" = some (some (.ref f4))) (l4 : K.lookup f4 = some ⟨oc4, od4, .func (PySem.W.fnOf "less" "less" (defArgs (top 9)) (defBody (top 9)) (defScope (top 9)) .none kV4 dc4 pm4 an4 cd4 ct4), sl4⟩) (c4 : PySem.W.codeIn K cd4 "less" = true) (k4 : PySem.W.keepIn K (.ref f4) = true)
    (a5 : PySem.W.nsIn K mainGlobals "least" = some (some (.ref f5))) (l5 : K.lookup f5 = some ⟨oc5, od5, .func (PySem.W.fnOf "least" "least" (defArgs (top 10)) (defBody (top 10)) (defScope (top 10)) .none kV5 dc5 pm5 an5 cd5 ct5), sl5⟩) (c5 : PySem.W.codeIn K cd5 "least" = true) (k5 : PySem.W.keepIn K (.ref f5) = true)
    (a6 : PySem.W.nsIn K mainGlobals "greatest" = some (some (.ref f6))) (l6 : K.lookup f6 = some ⟨oc6, od6, .func (PySem.W.fnOf "greatest" "greatest" (defArgs (top 11)) (defBody (top 11)) (defScope (top 11)) .none kV6 dc6 pm6 an6 cd6 ct6), sl6⟩) (c6 : PySem.W.codeIn K cd6 "greatest" = true) (k6 : PySem.W.keepIn K (.ref f6) = true)
    (a7 : PySem.W.nsIn K mainGlobals "wished" = some (some (.ref f7))) (l7 : K.lookup f7 = some ⟨oc7, od7, .func (PySem.W.fnOf "wished" "wished" (defArgs (top 13)) (defBody (top 13)) (defScope (top 13)) .none kV7 dc7 pm7 an7 cd7 ct7), sl7⟩) (c7 : PySem.W.codeIn K cd7 "wished" = true) (k7 : PySem.W.keepIn K (.ref f7) = true)
    (a8 : PySem.W.nsIn K mainGlobals "wishless" = some (some (.ref f8))) (l8 : K.lookup f8 = some ⟨oc8, od8, .func (PySem.W.fnOf "wishless" "wishless" (defArgs (top 14)) (defBody (top 14)) (defScope (top 14)) .none kV8 dc8 pm8 an8 cd8 ct8), sl8⟩) (c8 : PySem.W.codeIn K cd8 "wishless" = true) (k8 : PySem.W.keepIn K (.ref f8) = true)
    (a9 : PySem.W.nsIn K mainGlobals "first_prices" = some (some (.ref f9))) (l9 : K.lookup f9 = some ⟨oc9, od9, .func (PySem.W.fnOf "first_prices" "first_prices" (defArgs (top 16)) (defBody (top 16)) (defScope (top 16)) .none kV9 dc9 pm9 an9 cd9 ct9), sl9⟩) (c9 : PySem.W.codeIn K cd9 "first_prices" = true) (k9 : PySem.W.keepIn K (.ref f9) = true)
    (a10 : PySem.W.nsIn K mainGlobals "greatest_share" = some (some (.ref f10))) (l10 : K.lookup f10 = some ⟨oc10, od10, .func (PySem.W.fnOf "greatest_share" "greatest_share" (defArgs (top 17)) (defBody (top 17)) (defScope (top 17)) .none kV10 dc10 pm10 an10 cd10 ct10), sl10⟩) (c10 : PySem.W.codeIn K cd10 "greatest_share" = true) (k10 : PySem.W.keepIn K (.ref f10) = true)
    (a11 : PySem.W.nsIn K mainGlobals "_law_bag" = some (some (.ref f11))) (l11 : K.lookup f11 = some ⟨oc11, od11, .func (PySem.W.fnOf "_law_bag" "_law_bag" (defArgs (top 19)) (defBody (top 19)) (defScope (top 19)) .none kV11 dc11 pm11 an11 cd11 ct11), sl11⟩) (c11 : PySem.W.codeIn K cd11 "_law_bag" = true) (k11 : PySem.W.keepIn K (.ref f11) = true)
    (a12 : PySem.W.nsIn K mainGlobals "_law_take" = some (some (.ref f12))) (l12 : K.lookup f12 = some ⟨oc12, od12, .func (PySem.W.fnOf "_law_take" "_law_take" (defArgs (top 20)) (defBody (top 20)) (defScope (top 20)) .none kV12 dc12 pm12 an12 cd12 ct12), sl12⟩) (c12 : PySem.W.codeIn K cd12 "_law_take" = true) (k12 : PySem.W.keepIn K (.ref f12) = true)
    (a13 : PySem.W.nsIn K mainGlobals "_law_frac" = some (some (.ref f13))) (l13 : K.lookup f13 = some ⟨oc13, od13, .func (PySem.W.fnOf "_law_frac" "_law_frac" (defArgs (top 21)) (defBody (top 21)) (defScope (top 21)) .none kV13 dc13 pm13 an13 cd13 ct13), sl13⟩) (c13 : PySem.W.codeIn K cd13 "_law_frac" = true) (k13 : PySem.W.keepIn K (.ref f13) = true)
    (a14 : PySem.W.nsIn K mainGlobals "_law_mul" = some (some (.ref f14))) (l14 : K.lookup f14 = some ⟨oc14, od14, .func (PySem.W.fnOf "_law_mul" "_law_mul" (defArgs (top 24)) (defBody (top 24)) (defScope (top 24)) .none kV14 dc14 pm14 an14 cd14 ct14), sl14⟩) (c14 : PySem.W.codeIn K cd14 "_law_mul" = true) (k14 : PySem.W.keepIn K (.ref f14) = true)
    (a15 : PySem.W.nsIn K mainGlobals "_law_less" = some (some (.ref f15))) (l15 : K.lookup f15 = some ⟨oc15, od15, .func (PySem.W.fnOf "_law_less" "_law_less" (defArgs (top 25)) (defBody (top 25)) (defScope (top 25)) .none kV15 dc15 pm15 an15 cd15 ct15), sl15⟩) (c15 : PySem.W.codeIn K cd15 "_law_less" = true) (k15 : PySem.W.keepIn K (.ref f15) = true)
    (a16 : PySem.W.nsIn K mainGlobals "_law_div" = some (some (.ref f16))) (l16 : K.lookup f16 = some ⟨oc16, od16, .func (PySem.W.fnOf "_law_div" "_law_div" (defArgs (top 27)) (defBody (top 27)) (defScope (top 27)) .none kV16 dc16 pm16 an16 cd16 ct16), sl16⟩) (c16 : PySem.W.codeIn K cd16 "_law_div" = true) (k16 : PySem.W.keepIn K (.ref f16) = true)
    (a17 : PySem.W.nsIn K mainGlobals "_law_purse" = some (some (.ref f17))) (l17 : K.lookup f17 = some ⟨oc17, od17, .func (PySem.W.fnOf "_law_purse" "_law_purse" (defArgs (top 28)) (defBody (top 28)) (defScope (top 28)) .none kV17 dc17 pm17 an17 cd17 ct17), sl17⟩) (c17 : PySem.W.codeIn K cd17 "_law_purse" = true) (k17 : PySem.W.keepIn K (.ref f17) = true)
    (a18 : PySem.W.nsIn K mainGlobals "_law_wishes" = some (some (.ref f18))) (l18 : K.lookup f18 = some ⟨oc18, od18, .func (PySem.W.fnOf "_law_wishes" "_law_wishes" (defArgs (top 29)) (defBody (top 29)) (defScope (top 29)) .none kV18 dc18 pm18 an18 cd18 ct18), sl18⟩) (c18 : PySem.W.codeIn K cd18 "_law_wishes" = true) (k18 : PySem.W.keepIn K (.ref f18) = true)
    (a19 : PySem.W.nsIn K mainGlobals "_law_market" = some (some (.ref f19))) (l19 : K.lookup f19 = some ⟨oc19, od19, .func (PySem.W.fnOf "_law_market" "_law_market" (defArgs (top 30)) (defBody (top 30)) (defScope (top 30)) .none kV19 dc19 pm19 an19 cd19 ct19), sl19⟩) (c19 : PySem.W.codeIn K cd19 "_law_market" = true) (k19 : PySem.W.keepIn K (.ref f19) = true)
    (a20 : PySem.W.nsIn K mainGlobals "_law_wished" = some (some (.ref f20))) (l20 : K.lookup f20 = some ⟨oc20, od20, .func (PySem.W.fnOf "_law_wished" "_law_wished" (defArgs (top 31)) (defBody (top 31)) (defScope (top 31)) .none kV20 dc20 pm20 an20 cd20 ct20), sl20⟩) (c20 : PySem.W.codeIn K cd20 "_law_wished" = true) (k20 : PySem.W.keepIn K (.ref f20) = true)
    (a21 : PySem.W.nsIn K mainGlobals "_law_best" = some (some (.ref f21))) (l21 : K.lookup f21 = some ⟨oc21, od21, .func (PySem.W.fnOf "_law_best" "_law_best" (defArgs (top 32)) (defBody (top 32)) (defScope (top 32)) .none kV21 dc21 pm21 an21 cd21 ct21), sl21⟩) (c21 : PySem.W.codeIn K cd21 "_law_best" = true) (k21 : PySem.W.keepIn K (.ref f21) = true)
    (a22 : PySem.W.nsIn K mainGlobals "_law_takers" = some (some (.ref f22))) (l22 : K.lookup f22 = some ⟨oc22, od22, .func (PySem.W.fnOf "_law_takers" "_law_takers" (defArgs (top 34)) (defBody (top 34)) (defScope (top 34)) .none kV22 dc22 pm22 an22 cd22 ct22), sl22⟩) (c22 : PySem.W.codeIn K cd22 "_law_takers" = true) (k22 : PySem.W.keepIn K (.ref f22) = true)
    (a23 : PySem.W.nsIn K mainGlobals "_law_sets" = some (some (.ref f23))) (l23 : K.lookup f23 = some ⟨oc23, od23, .func (PySem.W.fnOf "_law_sets" "_law_sets" (defArgs (top 36)) (defBody (top 36)) (defScope (top 36)) .none kV23 dc23 pm23 an23 cd23 ct23), sl23⟩) (c23 : PySem.W.codeIn K cd23 "_law_sets" = true) (k23 : PySem.W.keepIn K (.ref f23) = true)
    (a24 : PySem.W.nsIn K mainGlobals "_law_ints" = some (some (.ref f24))) (l24 : K.lookup f24 = some ⟨oc24, od24, .func (PySem.W.fnOf "_law_ints" "_law_ints" (defArgs (top 37)) (defBody (top 37)) (defScope (top 37)) .none kV24 dc24 pm24 an24 cd24 ct24), sl24⟩) (c24 : PySem.W.codeIn K cd24 "_law_ints" = true) (k24 : PySem.W.keepIn K (.ref f24) = true)
    (a25 : PySem.W.nsIn K mainGlobals "_law_least" = some (some (.ref f25))) (l25 : K.lookup f25 = some ⟨oc25, od25, .func (PySem.W.fnOf "_law_least" "_law_least" (defArgs (top 38)) (defBody (top 38)) (defScope (top 38)) .none kV25 dc25 pm25 an25 cd25 ct25), sl25⟩) (c25 : PySem.W.codeIn K cd25 "_law_least" = true) (k25 : PySem.W.keepIn K (.ref f25) = true)
    (a26 : PySem.W.nsIn K mainGlobals "_law_dear" = some (some (.ref f26))) (l26 : K.lookup f26 = some ⟨oc26, od26, .func (PySem.W.fnOf "_law_dear" "_law_dear" (defArgs (top 39)) (defBody (top 39)) (defScope (top 39)) .none kV26 dc26 pm26 an26 cd26 ct26), sl26⟩) (c26 : PySem.W.codeIn K cd26 "_law_dear" = true) (k26 : PySem.W.keepIn K (.ref f26) = true)
    (a27 : PySem.W.nsIn K mainGlobals "_law_first" = some (some (.ref f27))) (l27 : K.lookup f27 = some ⟨oc27, od27, .func (PySem.W.fnOf "_law_first" "_law_first" (defArgs (top 40)) (defBody (top 40)) (defScope (top 40)) .none kV27 dc27 pm27 an27 cd27 ct27), sl27⟩) (c27 : PySem.W.codeIn K cd27 "_law_first" = true) (k27 : PySem.W.keepIn K (.ref f27) = true)
    (a28 : PySem.W.nsIn K mainGlobals "law" = some (some (.ref f28))) (l28 : K.lookup f28 = some ⟨oc28, od28, .func (PySem.W.fnOf "law" "law" (defArgs (top 41)) (defBody (top 41)) (defScope (top 41)) .none kV28 dc28 pm28 an28 cd28 ct28), sl28⟩) (c28 : PySem.W.codeIn K cd28 "law" = true) (k28 : PySem.W.keepIn K (.ref f28) = true)
    (z0 : PySem.W.nsIn K mainGlobals "len" = some none)
    (z1 : PySem.W.nsIn K mainGlobals "range" = some none)
    (z2 : PySem.W.nsIn K mainGlobals "tuple" = some none)
    (z3 : PySem.W.nsIn K mainGlobals "list" = some none)
    (z4 : PySem.W.nsIn K mainGlobals "all" = some none)
    (z5 : PySem.W.nsIn K mainGlobals "any" = some none)
    (z6 : PySem.W.nsIn K mainGlobals "max" = some none)
    (z7 : PySem.W.nsIn K mainGlobals "min" = some none)
    (z8 : PySem.W.nsIn K mainGlobals "sum" = some none)
    (z9 : PySem.W.nsIn K mainGlobals "abs" = some none)
    (z10 : PySem.W.nsIn K mainGlobals "int" = some none)
    (z11 : PySem.W.nsIn K mainGlobals "isinstance" = some none)
    (z12 : PySem.W.nsIn K mainGlobals "bool" = some none)
    (z13 : PySem.W.nsIn K mainGlobals "enumerate" = some none)
    (z14 : PySem.W.nsIn K mainGlobals "ValueError" = some none)
    (yzip : PySem.W.nsIn K mainGlobals "zip" = some none)
    (gM : PySem.W.nsIn K mainGlobals "MartError" = some (some (.ref M)))
    (gNn : PySem.W.nsIn K mainGlobals "NoNumber" = some (some (.ref Nn)))
    (gUn : PySem.W.nsIn K mainGlobals "Unwished" = some (some (.ref Un)))
    (ti1 : PySem.W.kitOne K (.type "NoneType") (.type "int") = some false)
    (ti2 : PySem.W.kitOne K (.type "bool") (.type "int") = some true)
    (ti3 : PySem.W.kitOne K (.type "int") (.type "int") = some true)
    (ti4 : PySem.W.kitOne K (.type "str") (.type "int") = some false)
    (ti5 : PySem.W.kitOne K (.type "list") (.type "int") = some false)
    (ti6 : PySem.W.kitOne K (.type "tuple") (.type "int") = some false)
    (tb1 : PySem.W.kitOne K (.type "NoneType") (.type "bool") = some false)
    (tb2 : PySem.W.kitOne K (.type "bool") (.type "bool") = some true)
    (tb3 : PySem.W.kitOne K (.type "int") (.type "bool") = some false)
    (tb4 : PySem.W.kitOne K (.type "str") (.type "bool") = some false)
    (tb5 : PySem.W.kitOne K (.type "list") (.type "bool") = some false)
    (tb6 : PySem.W.kitOne K (.type "tuple") (.type "bool") = some false)
    (tt1 : PySem.W.kitOne K (.type "NoneType") (.type "tuple") = some false)
    (tt2 : PySem.W.kitOne K (.type "bool") (.type "tuple") = some false)
    (tt3 : PySem.W.kitOne K (.type "int") (.type "tuple") = some false)
    (tt4 : PySem.W.kitOne K (.type "str") (.type "tuple") = some false)
    (tt5 : PySem.W.kitOne K (.type "list") (.type "tuple") = some false)
    (tt6 : PySem.W.kitOne K (.type "tuple") (.type "tuple") = some true)
    (eXNn : PySem.W.excIn K Nn [.type "ValueError", .type "Exception", .type "BaseException", .type "object"] "ValueError.__new__" = true)
    (eXUn : PySem.W.excIn K Un [.type "ValueError", .type "Exception", .type "BaseException", .type "object"] "ValueError.__new__" = true) :
    ∃ fd : FuncData, (∀ (s : Shared) (v : Value), BindsTo s fd ⟨[v], []⟩ [("script", v)]) ∧ ∀ base : Heap, K.In base → base.Ns mainGlobals mg → FnOk l.prog w K mg base CX0 5 fa fd ["script"] (spLaw K) := by
  have e := hfa.symm.trans (PySem.W.mg_of X G a28)
  cases e
  have N : Nm mg := ⟨PySem.W.mg_none_of X G z0, PySem.W.mg_none_of X G z1, PySem.W.mg_none_of X G z2, PySem.W.mg_none_of X G z3, PySem.W.mg_none_of X G z4, PySem.W.mg_none_of X G z5, PySem.W.mg_none_of X G z6, PySem.W.mg_none_of X G z7, PySem.W.mg_none_of X G z8, PySem.W.mg_none_of X G z9, PySem.W.mg_none_of X G z10, PySem.W.mg_none_of X G z11, PySem.W.mg_none_of X G z12, PySem.W.mg_none_of X G z13, PySem.W.mg_none_of X G z14⟩
  have mZip := PySem.W.mg_none_of X G yzip
  have Z : IsK K := ⟨ti1, ti2, ti3, ti4, ti5, ti6, tb1, tb2, tb3, tb4, tb5, tb6, tt1, tt2, tt3, tt4, tt5, tt6⟩
  have mgM := PySem.W.mg_of X G gM
  have mgNn := PySem.W.mg_of X G gNn
  have mgUn := PySem.W.mg_of X G gUn
  have F0 := fun_mk (st := top 5) l0 c0 k0
  have b0 := F0.binds (ps := ["one", "other"]) fun _ _ _ _ _ _ us hl => match us, hl with | [_, _], _ => rfl
  have F1 := fun_mk (st := top 6) l1 c1 k1
  have b1 := F1.binds (ps := ["top", "bottom"]) fun _ _ _ _ _ _ us hl => match us, hl with | [_, _], _ => rfl
  have F2 := fun_mk (st := top 7) l2 c2 k2
  have b2 := F2.binds (ps := ["one", "other"]) fun _ _ _ _ _ _ us hl => match us, hl with | [_, _], _ => rfl
  have F3 := fun_mk (st := top 8) l3 c3 k3
  have b3 := F3.binds (ps := ["one", "other"]) fun _ _ _ _ _ _ us hl => match us, hl with | [_, _], _ => rfl
  have F4 := fun_mk (st := top 9) l4 c4 k4
  have b4 := F4.binds (ps := ["one", "other"]) fun _ _ _ _ _ _ us hl => match us, hl with | [_, _], _ => rfl
  have F5 := fun_mk (st := top 10) l5 c5 k5
  have b5 := F5.binds (ps := ["parts"]) fun _ _ _ _ _ _ us hl => match us, hl with | [_], _ => rfl
  have F6 := fun_mk (st := top 11) l6 c6 k6
  have b6 := F6.binds (ps := ["parts"]) fun _ _ _ _ _ _ us hl => match us, hl with | [_], _ => rfl
  have F7 := fun_mk (st := top 13) l7 c7 k7
  have b7 := F7.binds (ps := ["market"]) fun _ _ _ _ _ _ us hl => match us, hl with | [_], _ => rfl
  have F8 := fun_mk (st := top 14) l8 c8 k8
  have b8 := F8.binds (ps := ["market"]) fun _ _ _ _ _ _ us hl => match us, hl with | [_], _ => rfl
  have F9 := fun_mk (st := top 16) l9 c9 k9
  have b9 := F9.binds (ps := ["market"]) fun _ _ _ _ _ _ us hl => match us, hl with | [_], _ => rfl
  have F10 := fun_mk (st := top 17) l10 c10 k10
  have b10 := F10.binds (ps := ["wishes", "good"]) fun _ _ _ _ _ _ us hl => match us, hl with | [_, _], _ => rfl
  have F11 := fun_mk (st := top 19) l11 c11 k11
  have b11 := F11.binds (ps := ["script", "k"]) fun _ _ _ _ _ _ us hl => match us, hl with | [_, _], _ => rfl
  have F12 := fun_mk (st := top 20) l12 c12 k12
  have b12 := F12.binds (ps := ["bag", "many"]) fun _ _ _ _ _ _ us hl => match us, hl with | [_, _], _ => rfl
  have F13 := fun_mk (st := top 21) l13 c13 k13
  have b13 := F13.binds (ps := ["top", "bottom"]) fun _ _ _ _ _ _ us hl => match us, hl with | [_, _], _ => rfl
  have F14 := fun_mk (st := top 24) l14 c14 k14
  have b14 := F14.binds (ps := ["one", "other"]) fun _ _ _ _ _ _ us hl => match us, hl with | [_, _], _ => rfl
  have F15 := fun_mk (st := top 25) l15 c15 k15
  have b15 := F15.binds (ps := ["one", "other"]) fun _ _ _ _ _ _ us hl => match us, hl with | [_, _], _ => rfl
  have F16 := fun_mk (st := top 27) l16 c16 k16
  have b16 := F16.binds (ps := ["one", "other"]) fun _ _ _ _ _ _ us hl => match us, hl with | [_, _], _ => rfl
  have F17 := fun_mk (st := top 28) l17 c17 k17
  have b17 := F17.binds (ps := ["bag"]) fun _ _ _ _ _ _ us hl => match us, hl with | [_], _ => rfl
  have F18 := fun_mk (st := top 29) l18 c18 k18
  have b18 := F18.binds (ps := ["bag", "goods"]) fun _ _ _ _ _ _ us hl => match us, hl with | [_, _], _ => rfl
  have F19 := fun_mk (st := top 30) l19 c19 k19
  have b19 := F19.binds (ps := ["bag"]) fun _ _ _ _ _ _ us hl => match us, hl with | [_], _ => rfl
  have F20 := fun_mk (st := top 31) l20 c20 k20
  have b20 := F20.binds (ps := ["market"]) fun _ _ _ _ _ _ us hl => match us, hl with | [_], _ => rfl
  have F21 := fun_mk (st := top 32) l21 c21 k21
  have b21 := F21.binds (ps := ["market", "prices"]) fun _ _ _ _ _ _ us hl => match us, hl with | [_, _], _ => rfl
  have F22 := fun_mk (st := top 34) l22 c22 k22
  have b22 := F22.binds (ps := ["best", "goods"]) fun _ _ _ _ _ _ us hl => match us, hl with | [_, _], _ => rfl
  have F23 := fun_mk (st := top 36) l23 c23 k23
  have b23 := F23.binds (ps := ["some"]) fun _ _ _ _ _ _ us hl => match us, hl with | [_], _ => rfl
  have F24 := fun_mk (st := top 37) l24 c24 k24
  have b24 := F24.binds (ps := ["market", "prices"]) fun _ _ _ _ _ _ us hl => match us, hl with | [_, _], _ => rfl
  have F25 := fun_mk (st := top 38) l25 c25 k25
  have b25 := F25.binds (ps := ["rows"]) fun _ _ _ _ _ _ us hl => match us, hl with | [_], _ => rfl
  have F26 := fun_mk (st := top 39) l26 c26 k26
  have b26 := F26.binds (ps := ["market", "prices"]) fun _ _ _ _ _ _ us hl => match us, hl with | [_, _], _ => rfl
  have F27 := fun_mk (st := top 40) l27 c27 k27
  have b27 := F27.binds (ps := ["market"]) fun _ _ _ _ _ _ us hl => match us, hl with | [_], _ => rfl
  have F28 := fun_mk (st := top 41) l28 c28 k28
  refine ⟨PySem.W.fnOf "law" "law" (defArgs (top 41)) (defBody (top 41)) (defScope (top 41)) .none kV28 dc28 pm28 an28 cd28 ct28, fun s v => .of_eq rfl, fun base _ _ => ?_⟩
  have Gn : Cal K mg l.prog w base "common_divisor" 1 ["one", "other"] spGcdN f0 _ := ⟨ok_gcdN F0 N, PySem.W.mg_of X G a0, k0, b0⟩
  have Fr : CalX K mg l.prog w base "fraction" 2 ["top", "bottom"] (spFr Nn) f1 _ := ⟨ok_fraction F1 mgNn eXNn Gn, PySem.W.mg_of X G a1, k1, b1⟩
  have Ti : CalX K mg l.prog w base "times" 3 ["one", "other"] (sp2 qTi) f2 _ := ⟨ok_times F2 Fr, PySem.W.mg_of X G a2, k2, b2⟩
  have Ov : CalX K mg l.prog w base "over" 3 ["one", "other"] (spOver Nn) f3 _ := ⟨ok_over F3 Fr, PySem.W.mg_of X G a3, k3, b3⟩
  have Ls : Cal K mg l.prog w base "less" 1 ["one", "other"] spLess f4 _ := ⟨ok_less F4, PySem.W.mg_of X G a4, k4, b4⟩
  have Gr : Cal K mg l.prog w base "greatest" 2 ["parts"] spGre f6 _ := ⟨ok_greatest F6 Ls, PySem.W.mg_of X G a6, k6, b6⟩
  have Wi : Cal K mg l.prog w base "wished" 1 ["market"] spWis f7 _ := ⟨ok_wished F7 N, PySem.W.mg_of X G a7, k7, b7⟩
  have Wl : Cal K mg l.prog w base "wishless" 1 ["market"] spWl f8 _ := ⟨ok_wl F8 N, PySem.W.mg_of X G a8, k8, b8⟩
  have Le : Cal K mg l.prog w base "least" 2 ["parts"] spLeaT f5 _ := ⟨ok_leaT F5 Ls, PySem.W.mg_of X G a5, k5, b5⟩
  have GS : Cal K mg l.prog w base "greatest_share" 3 ["wishes", "good"] spGS f10 _ := ⟨ok_gs F10 N Fr Gr, PySem.W.mg_of X G a10, k10, b10⟩
  have FP : CalX K mg l.prog w base "first_prices" 4 ["market"] spFP f9 _ := ⟨ok_fp F9 N mgUn eXUn Wi Wl Le Ov Ti GS, PySem.W.mg_of X G a9, k9, b9⟩
  have Bg : Cal K mg l.prog w base "_law_bag" 1 ["script", "k"] (spBag K) f11 _ := ⟨ok_bag F11 N, PySem.W.mg_of X G a11, k11, b11⟩
  have T : Cal K mg l.prog w base "_law_take" 1 ["bag", "many"] spTake f12 _ := ⟨ok_take F12, PySem.W.mg_of X G a12, k12, b12⟩
  have Lf : Cal K mg l.prog w base "_law_frac" 1 ["top", "bottom"] spFrac f13 _ := ⟨ok_frac F13 N, PySem.W.mg_of X G a13, k13, b13⟩
  have LfQ : Cal K mg l.prog w base "_law_frac" 1 ["top", "bottom"] spLf f13 _ := ⟨ok_lf F13 N, PySem.W.mg_of X G a13, k13, b13⟩
  have Lu : Cal K mg l.prog w base "_law_purse" 2 ["bag"] spPu f17 _ := ⟨ok_lpurse F17 T Lf, PySem.W.mg_of X G a17, k17, b17⟩
  have Lw : Cal K mg l.prog w base "_law_wishes" 2 ["bag", "goods"] spWi f18 _ := ⟨ok_wishes F18 N T, PySem.W.mg_of X G a18, k18, b18⟩
  have MkL : Cal K mg l.prog w base "_law_market" 3 ["bag"] spMk f19 _ := ⟨ok_market F19 N T Lu Lw, PySem.W.mg_of X G a19, k19, b19⟩
  have Lws : Cal K mg l.prog w base "_law_wished" 1 ["market"] spLWished f20 _ := ⟨ok_lwished F20 N, PySem.W.mg_of X G a20, k20, b20⟩
  have Lm : Cal K mg l.prog w base "_law_mul" 2 ["one", "other"] spMulS f14 _ := ⟨ok_mul F14 Lf, PySem.W.mg_of X G a14, k14, b14⟩
  have LmQ : Cal K mg l.prog w base "_law_mul" 2 ["one", "other"] (sp2 qTi) f14 _ := ⟨ok_law_mul F14 LfQ, PySem.W.mg_of X G a14, k14, b14⟩
  have Ll : Cal K mg l.prog w base "_law_less" 1 ["one", "other"] spLess f15 _ := ⟨ok_law_less F15, PySem.W.mg_of X G a15, k15, b15⟩
  have Ld : Cal K mg l.prog w base "_law_div" 2 ["one", "other"] spDiv f16 _ := ⟨ok_law_div F16 LfQ, PySem.W.mg_of X G a16, k16, b16⟩
  have LB : Cal K mg l.prog w base "_law_best" 1 ["market", "prices"] spLBest f21 _ := ⟨ok_lbest F21 N, PySem.W.mg_of X G a21, k21, b21⟩
  have LT : Cal K mg l.prog w base "_law_takers" 1 ["best", "goods"] spLTakers f22 _ := ⟨ok_ltakers F22 N, PySem.W.mg_of X G a22, k22, b22⟩
  have Se : Cal K mg l.prog w base "_law_sets" 1 ["some"] spSets f23 _ := ⟨ok_sets F23 N, PySem.W.mg_of X G a23, k23, b23⟩
  have In : Cal K mg l.prog w base "_law_ints" 3 ["market", "prices"] spInts f24 _ := ⟨ok_ints F24 N LmQ LfQ, PySem.W.mg_of X G a24, k24, b24⟩
  have Lle : Cal K mg l.prog w base "_law_least" 1 ["rows"] spLeast f25 _ := ⟨ok_lleast F25 N, PySem.W.mg_of X G a25, k25, b25⟩
  have LD : Cal K mg l.prog w base "_law_dear" 4 ["market", "prices"] spLDear f26 _ := ⟨ok_ldear F26 N LB In Se Lws LT Lle, PySem.W.mg_of X G a26, k26, b26⟩
  have LF : Cal K mg l.prog w base "_law_first" 3 ["market"] spLFirst f27 _ := ⟨ok_lfirst F27 N Ll Lws Ld LmQ LfQ, PySem.W.mg_of X G a27, k27, b27⟩
  exact ok_law F28 N Z Bg MkL FP LF LD LB Lws
theorem walk {l : PySem.W.OpenLaw} {q : Program} {loose : List Str} {XP : (Str → Option Value) → Heap → Prop} {YP : World → Heap → Prop} {d : DefRec} {K : Params → PySem.W.Frag} (hn : l.most = some 63) (hdf : d.params.defaults = [])
    (hY : ∀ (w : World) (h : Heap), YP w h → (K w.params).In h)
    (F : ∀ (w : World) (mg : Str → Option Value) (fa : Addr) (h : Heap), (K w.params).In h → h.Ns mainGlobals mg → mg d.name = some (.ref fa) →
      ∃ fd : FuncData, (∀ (s : Shared) (u : Value), BindsTo s fd ⟨[u], []⟩ [("script", u)]) ∧ ∀ base : Heap, (K w.params).In base → base.Ns mainGlobals mg → FnOk l.prog w (K w.params) mg base CX0 5 fa fd ["script"] (spLaw (K w.params))) :
    PySem.W.WalkO q loose XP YP l.row.toRowW d [] (fun f vs => PySem.call f vs) :=
  L2.walk_of (n := 63) (k := 5) (x := "script") (CX := fun _ => CX0) (sp := fun w => spLaw (K w.params)) hn (by decide) hdf ⟨rfl, by decide, by decide⟩ hY F (fun _ _ a ns hl _ hS => ⟨a, ns, rfl, hS, hl, fun _ => rfl⟩) fun _ _ _ _ _ z => z
end K11
open PySem PySem.W PyProof.Rows
set_option maxRecDepth 100000 in
set_option maxHeartbeats 0 in
theorem PySem.Challenge.cw_wishmart_k11_first_prices_holds : PySem.Challenge.rw_wishmart_k11_first_prices.Holds := by
  w_on; o_law; k_head; (case hw => w_witness2)
  k_fill
  refine K11.walk (l := PySem.Challenge.rw_wishmart_k11_first_prices) rfl rfl (fun w h Y => PySem.W.kIn_of Y) ?F
  case F =>
    intro w mg fa h KX G hmg
    refine' K11.all_mk KX G hmg ?a0 ?l0 ?c0 ?k0 ?a1 ?l1 ?c1 ?k1 ?a2 ?l2 ?c2 ?k2 ?a3 ?l3 ?c3 ?k3 ?a4 ?l4 ?c4 ?k4 ?a5 ?l5 ?c5 ?k5 ?a6 ?l6 ?c6 ?k6 ?a7 ?l7 ?c7 ?k7 ?a8 ?l8 ?c8 ?k8 ?a9 ?l9 ?c9 ?k9 ?a10 ?l10 ?c10 ?k10 ?a11 ?l11 ?c11 ?k11 ?a12 ?l12 ?c12 ?k12 ?a13 ?l13 ?c13 ?k13 ?a14 ?l14 ?c14 ?k14 ?a15 ?l15 ?c15 ?k15 ?a16 ?l16 ?c16 ?k16 ?a17 ?l17 ?c17 ?k17 ?a18 ?l18 ?c18 ?k18 ?a19 ?l19 ?c19 ?k19 ?a20 ?l20 ?c20 ?k20 ?a21 ?l21 ?c21 ?k21 ?a22 ?l22 ?c22 ?k22 ?a23 ?l23 ?c23 ?k23 ?a24 ?l24 ?c24 ?k24 ?a25 ?l25 ?c25 ?k25 ?a26 ?l26 ?c26 ?k26 ?a27 ?l27 ?c27 ?k27 ?a28 ?l28 ?c28 ?k28 ?z0 ?z1 ?z2 ?z3 ?z4 ?z5 ?z6 ?z7 ?z8 ?z9 ?z10 ?z11 ?z12 ?z13 ?z14 ?yzip ?gM ?gNn ?gUn ?ti1 ?ti2 ?ti3 ?ti4 ?ti5 ?ti6 ?tb1 ?tb2 ?tb3 ?tb4 ?tb5 ?tb6 ?tt1 ?tt2 ?tt3 ?tt4 ?tt5 ?tt6 ?eXNn ?eXUn
    (case a0 => k_is)
    (case l0 => k_is)
    (case c0 => k_is)
    (case k0 => k_is)
    (case a1 => k_is)
    (case l1 => k_is)
    (case c1 => k_is)
    (case k1 => k_is)
    (case a2 => k_is)
    (case l2 => k_is)
    (case c2 => k_is)
    (case k2 => k_is)
    (case a3 => k_is)
    (case l3 => k_is)
    (case c3 => k_is)
    (case k3 => k_is)
    (case a4 => k_is)
    (case l4 => k_is)
    (case c4 => k_is)
    (case k4 => k_is)
    (case a5 => k_is)
    (case l5 => k_is)
    (case c5 => k_is)
    (case k5 => k_is)
    (case a6 => k_is)
    (case l6 => k_is)
    (case c6 => k_is)
    (case k6 => k_is)
    (case a7 => k_is)
    (case l7 => k_is)
    (case c7 => k_is)
    (case k7 => k_is)
    (case a8 => k_is)
    (case l8 => k_is)
    (case c8 => k_is)
    (case k8 => k_is)
    (case a9 => k_is)
    (case l9 => k_is)
    (case c9 => k_is)
    (case k9 => k_is)
    (case a10 => k_is)
    (case l10 => k_is)
    (case c10 => k_is)
    (case k10 => k_is)
    (case a11 => k_is)
    (case l11 => k_is)
    (case c11 => k_is)
    (case k11 => k_is)
    (case a12 => k_is)
    (case l12 => k_is)
    (case c12 => k_is)
    (case k12 => k_is)
    (case a13 => k_is)
    (case l13 => k_is)
    (case c13 => k_is)
    (case k13 => k_is)
    (case a14 => k_is)
    (case l14 => k_is)
    (case c14 => k_is)
    (case k14 => k_is)
    (case a15 => k_is)
    (case l15 => k_is)
    (case c15 => k_is)
    (case k15 => k_is)
    (case a16 => k_is)
    (case l16 => k_is)
    (case c16 => k_is)
    (case k16 => k_is)
    (case a17 => k_is)
    (case l17 => k_is)
    (case c17 => k_is)
    (case k17 => k_is)
    (case a18 => k_is)
    (case l18 => k_is)
    (case c18 => k_is)
    (case k18 => k_is)
    (case a19 => k_is)
    (case l19 => k_is)
    (case c19 => k_is)
    (case k19 => k_is)
    (case a20 => k_is)
    (case l20 => k_is)
    (case c20 => k_is)
    (case k20 => k_is)
    (case a21 => k_is)
    (case l21 => k_is)
    (case c21 => k_is)
    (case k21 => k_is)
    (case a22 => k_is)
    (case l22 => k_is)
    (case c22 => k_is)
    (case k22 => k_is)
    (case a23 => k_is)
    (case l23 => k_is)
    (case c23 => k_is)
    (case k23 => k_is)
    (case a24 => k_is)
    (case l24 => k_is)
    (case c24 => k_is)
    (case k24 => k_is)
    (case a25 => k_is)
    (case l25 => k_is)
    (case c25 => k_is)
    (case k25 => k_is)
    (case a26 => k_is)
    (case l26 => k_is)
    (case c26 => k_is)
    (case k26 => k_is)
    (case a27 => k_is)
    (case l27 => k_is)
    (case c27 => k_is)
    (case k27 => k_is)
    (case a28 => k_is)
    (case l28 => k_is)
    (case c28 => k_is)
    (case k28 => k_is)
    (case z0 => k_is)
    (case z1 => k_is)
    (case z2 => k_is)
    (case z3 => k_is)
    (case z4 => k_is)
    (case z5 => k_is)
    (case z6 => k_is)
    (case z7 => k_is)
    (case z8 => k_is)
    (case z9 => k_is)
    (case z10 => k_is)
    (case z11 => k_is)
    (case z12 => k_is)
    (case z13 => k_is)
    (case z14 => k_is)
    (case yzip => k_is)
    (case gM => k_is)
    (case gNn => k_is)
    (case gUn => k_is)
    (case ti1 => first | rfl | kit_is | k_is)
    (case ti2 => first | rfl | kit_is | k_is)
    (case ti3 => first | rfl | kit_is | k_is)
    (case ti4 => first | rfl | kit_is | k_is)
    (case ti5 => first | rfl | kit_is | k_is)
    (case ti6 => first | rfl | kit_is | k_is)
    (case tb1 => first | rfl | kit_is | k_is)
    (case tb2 => first | rfl | kit_is | k_is)
    (case tb3 => first | rfl | kit_is | k_is)
    (case tb4 => first | rfl | kit_is | k_is)
    (case tb5 => first | rfl | kit_is | k_is)
    (case tb6 => first | rfl | kit_is | k_is)
    (case tt1 => first | rfl | kit_is | k_is)
    (case tt2 => first | rfl | kit_is | k_is)
    (case tt3 => first | rfl | kit_is | k_is)
    (case tt4 => first | rfl | kit_is | k_is)
    (case tt5 => first | rfl | kit_is | k_is)
    (case tt6 => first | rfl | kit_is | k_is)
    (case eXNn => first | k_is | kit_is | rfl | kernel_rfl | decide +kernel)
    (case eXUn => first | k_is | kit_is | rfl | kernel_rfl | decide +kernel)
