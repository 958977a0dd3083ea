import PyProof.Rows.All
import Wide.All
import OpenK.AllK
import Wide.FinOn
import Lean
import PyProof.EqAt
import PyProof.EqKinds
import PyProof.TupleCall
import KE.KMinKey
import PyProof.Rows.CallKwBuiltin
import PyProof.ListRange
import PyProof.Rows.SortWalk
import PySem.Challenge.RW_wishmart_k32_fractions_as_texts

set_option Elab.async false
set_option linter.all false
set_option maxRecDepth 100000
/-! THE HAND LAYER, for ints, bools, texts, own classes, LISTS and tuples (index, slices, in, append, pop ..), calls, loops. Paste it whole ahead of your own text; what your proof does not reach may be deleted. -/
namespace L2
open PySem PySem.Spec PyProof.Rows

/-- a key: an int or a str -/
abbrev Key := Sum Int Str
def keyIs : Key → Value → Bool
  | .inl k, v => Value.isInt k v
  | .inr x, v => Value.isStrOf x v
def keyH (w : World) : Key → Int
  | .inl k => hashInt k
  | .inr x => hashStr w x
theorem keyIs_shape : ∀ {k : Key} {v : Value}, keyIs k v = true → (∃ i t, k = Sum.inl i ∧ v = Value.int i t) ∨ (∃ x t, k = Sum.inr x ∧ v = Value.str x t)
  | .inl i, v, h => by
    obtain ⟨t, e⟩ := Value.isInt_shape (k := i) (v := v) h
    exact .inl ⟨i, t, rfl, e⟩
  | .inr x, v, h => by
    obtain ⟨t, e⟩ := Value.isStrOf_shape (x := x) (v := v) h
    exact .inr ⟨x, t, rfl, e⟩
theorem key_ll (a b : Int) : decide ((Sum.inl a : Key) = Sum.inl b) = (a == b) := by
  by_cases e : a = b
  · subst e; simp
  · have h : ¬ (Sum.inl a : Key) = Sum.inl b := fun q => e (Sum.inl.inj q)
    rw [decide_eq_false h]
    exact (beq_eq_false_iff_ne.mpr e).symm
theorem key_rr (a b : Str) : decide ((Sum.inr a : Key) = Sum.inr b) = decide (a = b) := by
  by_cases e : a = b
  · subst e; simp
  · have h : ¬ (Sum.inr a : Key) = Sum.inr b := fun q => e (Sum.inr.inj q)
    rw [decide_eq_false h, decide_eq_false e]
theorem key_lr (a : Int) (b : Str) : decide ((Sum.inl a : Key) = Sum.inr b) = false := decide_eq_false (fun q => nomatch q)
theorem key_rl (a : Str) (b : Int) : decide ((Sum.inr a : Key) = Sum.inl b) = false := decide_eq_false (fun q => nomatch q)

def mixKind (prog : Program) (w : World) : PySem.KeyKind prog w Key where
  is := keyIs
  hash := keyH w
  inj := fun v a b ha hb => by
    rcases keyIs_shape ha with ⟨i, t, rfl, rfl⟩ | ⟨x, t, rfl, rfl⟩
    · rcases keyIs_shape hb with ⟨j, u, rfl, e⟩ | ⟨y, u, rfl, e⟩
      · injection e with e1 _; rw [e1]
      · exact nomatch e
    · rcases keyIs_shape hb with ⟨j, u, rfl, e⟩ | ⟨y, u, rfl, e⟩
      · exact nomatch e
      · injection e with e1 _; rw [e1]
  byValue := fun k v h => by
    rcases keyIs_shape h with ⟨i, t, rfl, rfl⟩ | ⟨x, t, rfl, rfl⟩ <;> rfl
  pyHash := fun hv h => by
    rcases keyIs_shape hv with ⟨i, t, rfl, rfl⟩ | ⟨x, t, rfl, rfl⟩
    · exact wpAny_pyHash_int h
    · exact wpAny_pyHash_str h
  eqBool := fun hu hv h => by
    rcases keyIs_shape hu with ⟨i, t, rfl, rfl⟩ | ⟨x, t, rfl, rfl⟩
    · rcases keyIs_shape hv with ⟨j, u, rfl, rfl⟩ | ⟨y, u, rfl, rfl⟩
      · rw [key_ll] at h; exact wpAny_eqBool_int h
      · rw [key_lr] at h; exact SeqAt.EqAt.int_str i t y u _ _ _ _ h
    · rcases keyIs_shape hv with ⟨j, u, rfl, rfl⟩ | ⟨y, u, rfl, rfl⟩
      · rw [key_rl] at h; exact SeqAt.EqAt.str_int x t j u _ _ _ _ h
      · rw [key_rr] at h; exact wpAny_eqBool_str h
  «strs» := fun k x t v h => by
    rcases keyIs_shape h with ⟨i, u, rfl, e⟩ | ⟨y, u, rfl, e⟩
    · exact nomatch e
    · injection e with e1 _
      subst e1
      cases v <;> rfl

end L2

namespace L2
open PySem PySem.Spec PyProof.Rows

/-- a value, without the heap -/
inductive V where
  | non | bl (b : Bool) | int (i : Int) | str (x : Str) | byt (b : Array UInt8) | flt (b : UInt64) | ref (a : Addr) | ty (n : String)
  deriving DecidableEq

def RelV : V → Value → Prop
  | .non, u => u = Value.none
  | .bl b, u => u = Value.bool b
  | .int i, u => ∃ t, u = Value.int i t
  | .str x, u => ∃ t, u = Value.str x t
  | .byt b, u => ∃ t, u = Value.bytes b t
  | .flt b, u => ∃ t, u = Value.float b t
  | .ref a, u => u = Value.ref a
  | .ty n, u => u = Value.type n

abbrev Vals : List V → List Value → Prop := Paired RelV
theorem Vals.length {xs : List V} {us : List Value} (r : Vals xs us) : xs.length = us.length := Paired.length r
theorem Vals.get : ∀ {xs : List V} {us : List Value} {i : Nat} {x : V}, Vals xs us → xs[i]? = some x → ∃ u, us[i]? = some u ∧ RelV x u
  | _, _, _, _, .nil, e => by simp at e
  | _, _, 0, _, .cons r _, e => by simp at e; subst e; exact ⟨_, rfl, r⟩
  | _, _, i + 1, x, .cons _ t, e => by
    obtain ⟨u, h1, h2⟩ := Vals.get (i := i) (x := x) t (by simpa using e)
    exact ⟨u, by simpa using h1, h2⟩
theorem Vals.set {x : V} {u : Value} (r : RelV x u) : ∀ {xs : List V} {us : List Value} (i : Nat), Vals xs us → Vals (xs.set i x) (us.set i u)
  | _, _, _, .nil => .nil
  | _, _, 0, .cons _ t => .cons r t
  | _, _, i + 1, .cons q t => .cons q (Vals.set r i t)
theorem Vals.append : ∀ {xs ys : List V} {us ws : List Value}, Vals xs us → Vals ys ws → Vals (xs ++ ys) (us ++ ws)
  | _, _, _, _, .nil, s => s
  | _, _, _, _, .cons r t, s => .cons r (Vals.append t s)
def RelO : Option V → Option Value → Prop
  | some v, some u => RelV v u
  | none, none => True
  | _, _ => False
def KV {κ : Type} : List (κ × V) → List (κ × Value) → Prop := Paired fun (p : κ × V) (q : κ × Value) => p.1 = q.1 ∧ RelV p.2 q.2

/-- a key of a dict (00_mix): an int or a text -/
def kV : Key → V
  | .inl i => .int i
  | .inr x => .str x

/-- what stands at a tracked address -/
inductive HO where
  /-- a list -/
  | lst (xs : List V)
  /-- a tuple (never changes) -/
  | tup (xs : List V)
  /-- a dict whose keys are ints and texts; one whose keys are tuples of ints and texts (the empty one is both) -/
  | dK (kvs : List (Key × V)) | dT (kvs : List (List Key × V))
  /-- a set of ints: its members, its size -/
  | set (S : Int → Bool) (n : Nat)
  /-- an instance of the class at C, its dict at dx, its attributes -/
  | ins (C dx : Addr) (fs : List (Str × V))
  /-- the dict of the instance at x -/
  | own (x : Addr)
  /-- the dict of an exception -/
  | xd (fs : List (Str × V))
  /-- a bound method, f of x -/
  | met (f x : Addr)
  /-- a range object lo, lo + 1, .. below hi -/
  | rng (lo hi : Int)
  /-- a thing that is known to the object (the script; a dict while a loop walks it): read, never written while it is so -/
  | frz (o : Obj) (u : HO)
  /-- a code object's table -/
  | tbl (ps : Array Value)
  /-- any other thing, by what is true of its one object (a def of one's own: SetO a S n := HO.ext fun h => ..) -/
  | ext (φ : Heap → Prop)

abbrev Hp := Addr → Option HO
def upd (H : Hp) (a : Addr) (o : HO) : Hp := fun b => if b = a then some o else H b
theorem upd_same {H : Hp} {a : Addr} {o : HO} : upd H a o a = some o := by unfold upd; rw [if_pos rfl]
theorem upd_ne {H : Hp} {a b : Addr} {o : HO} (h : b ≠ a) : upd H a o b = H b := by unfold upd; rw [if_neg h]
theorem ne_of_none {H : Hp} {a b : Addr} {o : HO} (h : H a = some o) (h' : H b = none) : a ≠ b := by
  intro e; subst e; rw [h] at h'; cases h'

section
variable (P : Program) (w : World)
def ObjOk (H : Hp) (h : Heap) (a : Addr) : HO → Prop
  | .lst xs => xs.length ≤ sizeLine ∧ ∃ (its : List Value) (n : Nat), Vals xs its ∧ h.get? a = some { cls := .type "list", data := .seq its.toArray n }
  | .tup xs => xs.length ≤ sizeLine ∧ ∃ its : List Value, Vals xs its ∧ IsTup h a its.toArray
  | .dK kvs => kvs.length ≤ sizeLine ∧ (a == sysModules) = false ∧ ∃ vs, KV kvs vs ∧ h.DictOf (mixKind P w) a vs
  | .dT kvs => kvs.length ≤ sizeLine ∧ (a == sysModules) = false ∧ ∃ xs : List (List Key × Addr × Value),
      Paired (fun (p : List Key × V) (q : List Key × Addr × Value) => p.1 = q.1 ∧ H q.2.1 = some (.tup (p.1.map kV)) ∧ RelV p.2 q.2.2) kvs xs ∧
      ∃ o es ep, h.get? a = some o ∧ o.ExactDict ∧ o.data = .dict es ep ∧ es.toList = xs.map (entryOfKey (tupleKind (mixKind P w))) ∧ (xs.map (·.1)).Nodup
  | .set S n => h.SetOf (intKind P w) a S n
  | .ins C dx fs => H dx = some (.own a) ∧ fs.length ≤ 1000 ∧ dx ≠ a ∧ h.get? a = some (PySem.W.instObj C dx) ∧
      ∃ mA, h.Ns1 dx mA ∧ (∀ f, RelO (fs.lookup f) (mA f)) ∧ PySem.Within mA (fs.map (·.1))
  | .own _ => ∃ o, h.get? a = some o
  | .xd fs => ∃ mA, h.Ns1 a mA ∧ ∀ f, RelO (fs.lookup f) (mA f)
  | .rng lo hi => ∃ t u v, h.get? a = some { cls := .type "range", data := .fields #[.int lo t, .int hi u, .int 1 v] }
  | .frz o u => h.get? a = some o ∧ ObjOk H h a u
  | .tbl ps => h.get? a = some { cls := .none, data := .fields ps }
  | .met f x => h.get? a = some (PySem.W.methodObj (.ref f) (.ref x))
  | .ext φ => φ h ∧ (∃ o, h.get? a = some o) ∧ ∀ h1 h2 : Heap, φ h1 → (∀ o, h1.get? a = some o → h2.get? a = some o) → φ h2
/-- the abstract heap is held -/
def HOk (H : Hp) (h : Heap) : Prop := ∀ a o, H a = some o → ObjOk P w H h a o
end

section
variable {P : Program} {w : World} {H H' : Hp} {h h' : Heap} {a : Addr} {o : HO}
theorem ObjOk.lt (x : ObjOk P w H h a o) : a < h.objs.size := by
  cases o with
  | lst xs => obtain ⟨_, _, _, _, e⟩ := x; exact Heap.lt_size e
  | tup xs => obtain ⟨_, _, _, p⟩ := x; exact p.lt
  | dK kvs => obtain ⟨_, _, _, _, o, _, _, e, _⟩ := x; exact Heap.lt_size e
  | dT kvs => obtain ⟨_, _, _, _, o, _, _, e, _⟩ := x; exact Heap.lt_size e
  | set S n => obtain ⟨o, _, _, _, e, _⟩ := x; exact Heap.lt_size e
  | ins C dx fs => obtain ⟨_, _, _, e, _⟩ := x; exact Heap.lt_size e
  | own y => obtain ⟨_, e⟩ := x; exact Heap.lt_size e
  | xd fs => obtain ⟨_, ⟨_, _, _, e, _⟩, _⟩ := x; exact Heap.lt_size e
  | rng lo hi => obtain ⟨_, _, _, e⟩ := x; exact Heap.lt_size e
  | frz ob u => obtain ⟨e, _⟩ := x; exact Heap.lt_size e
  | tbl ps => exact Heap.lt_size (show h.get? a = some _ from x)
  | met f y => exact Heap.lt_size (show h.get? a = some _ from x)
  | ext φ => obtain ⟨_, ⟨_, e⟩, _⟩ := x; exact Heap.lt_size e
theorem Paired.mapP {α β : Type} {F G : α → β → Prop} : ∀ {l₁ : List α} {l₂ : List β}, Paired F l₁ l₂ → (∀ a b, F a b → G a b) → Paired G l₁ l₂
  | _, _, .nil, _ => .nil
  | _, _, .cons r t, f => .cons (f _ _ r) (Paired.mapP t f)
/-- what an object's description leans on: its own object, its own dict, the tuples -/
theorem ObjOk.stay (x : ObjOk P w H h a o) (k : ∀ b u, (b = a ∨ H b = some (.own a)) → h.get? b = some u → h'.get? b = some u)
    (ho : ∀ b, H b = some (.own a) → H' b = some (.own a)) (ht : ∀ b xs, H b = some (.tup xs) → H' b = some (.tup xs)) : ObjOk P w H' h' a o := by
  induction o with
  | lst xs => obtain ⟨z, its, n, r, e⟩ := x; exact ⟨z, its, n, r, k _ _ (.inl rfl) e⟩
  | tup xs => obtain ⟨z, its, r, ob, e, c⟩ := x; exact ⟨z, its, r, ob, k _ _ (.inl rfl) e, c⟩
  | dK kvs => obtain ⟨z, y, vs, r, ob, es, ep, e, c⟩ := x; exact ⟨z, y, vs, r, ob, es, ep, k _ _ (.inl rfl) e, c⟩
  | dT kvs =>
    obtain ⟨z, y, xs, r, ob, es, ep, e, c⟩ := x
    exact ⟨z, y, xs, Paired.mapP r fun p q z => ⟨z.1, ht _ _ z.2.1, z.2.2⟩, ob, es, ep, k _ _ (.inl rfl) e, c⟩
  | set S n => obtain ⟨ob, es, ep, t, e, c⟩ := x; exact ⟨ob, es, ep, t, k _ _ (.inl rfl) e, c⟩
  | ins C dx fs =>
    obtain ⟨d, z, ne, e, mA, ⟨od, es, ep, e2, c⟩, r⟩ := x
    exact ⟨ho _ d, z, ne, k _ _ (.inl rfl) e, mA, ⟨od, es, ep, k _ _ (.inr d) e2, c⟩, r⟩
  | own y => obtain ⟨ob, e⟩ := x; exact ⟨ob, k _ _ (.inl rfl) e⟩
  | xd fs => obtain ⟨mA, ⟨od, es, ep, e, c⟩, r⟩ := x; exact ⟨mA, ⟨od, es, ep, k _ _ (.inl rfl) e, c⟩, r⟩
  | rng lo hi => obtain ⟨t, u, v, e⟩ := x; exact ⟨t, u, v, k _ _ (.inl rfl) e⟩
  | frz ob u ih => obtain ⟨e, q⟩ := x; exact ⟨k _ _ (.inl rfl) e, ih q⟩
  | tbl ps =>
    have e : h.get? a = some { cls := .none, data := .fields ps } := x
    show h'.get? a = some { cls := .none, data := .fields ps }
    exact k a _ (.inl rfl) e
  | met f y =>
    have e : h.get? a = some (PySem.W.methodObj (.ref f) (.ref y)) := x
    show h'.get? a = some (PySem.W.methodObj (.ref f) (.ref y))
    exact k a _ (.inl rfl) e
  | ext φ => obtain ⟨p, ⟨o, e⟩, st⟩ := x; exact ⟨st _ _ p fun o q => k _ _ (.inl rfl) q, ⟨o, k _ _ (.inl rfl) e⟩, st⟩
theorem HOk.lt (x : HOk P w H h) (e : H a = some o) : a < h.objs.size := (x a o e).lt
theorem HOk.fresh (x : HOk P w H h) (e : h.objs.size ≤ a) : H a = none := by
  cases q : H a with
  | none => rfl
  | some u => exact absurd (Nat.lt_of_lt_of_le (x.lt q) e) (Nat.lt_irrefl _)
/-- every object of the heap is kept -/
theorem HOk.kept (x : HOk P w H h) (k : ∀ b u, h.get? b = some u → h'.get? b = some u) : HOk P w H h' := fun a o e =>
  (x a o e).stay (fun b u _ q => k b u q) (fun _ q => q) fun _ _ q => q
/-- a new object is laid and tracked -/
theorem HOk.laid (x : HOk P w H h) (k : ∀ b u, h.get? b = some u → h'.get? b = some u) (hp : h.objs.size ≤ a) (new : ObjOk P w (upd H a o) h' a o) : HOk P w (upd H a o) h' := fun b u e => by
  have hn := x.fresh hp
  by_cases hb : b = a
  · subst hb; rw [upd_same] at e; cases e; exact new
  · rw [upd_ne hb] at e
    exact (x b u e).stay (fun c v _ q => k c v q) (fun c q => by rw [upd_ne (ne_of_none q hn)]; exact q) fun c xs q => by rw [upd_ne (ne_of_none q hn)]; exact q
end

/-- what may be read as u: it is u, or a known u -/
def Rd (H : Hp) (a : Addr) (u : HO) : Prop := H a = some u ∨ ∃ o, H a = some (.frz o u)
theorem Rd.ok {P : Program} {w : World} {H : Hp} {h : Heap} {a : Addr} {u : HO} (r : Rd H a u) (x : HOk P w H h) : ObjOk P w H h a u := by
  rcases r with r | ⟨o, r⟩
  · exact x a u r
  · obtain ⟨_, q⟩ := x a _ r
    exact q
/-- what may be written -/
def Mut : Option HO → Prop
  | some (.lst _) => True
  | some (.dK _) => True
  | some (.dT _) => True
  | some (.set _ _) => True
  | some (.ins _ _ _) => True
  | some (.ext _) => True
  | _ => False
section
variable {P : Program} {w : World} {H : Hp} {h h' : Heap} {x e : Addr} {o' : HO}
/-- the object at e is changed: x itself, or the dict of the instance x -/
theorem HOk.write (ok : HOk P w H h) (mu : Mut (H x)) (he : e = x ∨ H e = some (.own x)) (k : ∀ b u, b ≠ e → h.get? b = some u → h'.get? b = some u) (heo : ∃ u, h'.get? e = some u)
    (new : ObjOk P w (upd H x o') h' x o') : HOk P w (upd H x o') h' := fun b u q => by
  have nown : ∀ c y, H c = some (.own y) → c ≠ x := fun c y r z => by subst z; rw [r] at mu; exact mu
  have ntup : ∀ c xs, H c = some (.tup xs) → c ≠ x := fun c xs r z => by subst z; rw [r] at mu; exact mu
  by_cases hb : b = x
  · subst hb; rw [upd_same] at q; cases q; exact new
  · rw [upd_ne hb] at q
    by_cases hbe : b = e
    · have q' : H b = some (.own x) := by
        rcases he with z | z
        · exact absurd (hbe.trans z) hb
        · rw [hbe]; exact z
      rw [q] at q'; cases q'
      obtain ⟨v, hv⟩ := heo
      exact ⟨v, by rw [hbe]; exact hv⟩
    · refine (ok b u q).stay (fun c v hc r => k c v ?_ r) (fun c r => by rw [upd_ne (nown c b r)]; exact r) fun c xs r => by rw [upd_ne (ntup c xs r)]; exact r
      rcases hc with rfl | hc
      · exact hbe
      · rintro rfl
        rcases he with z | z
        · exact nown c b hc z
        · rw [hc] at z; cases z; exact hb rfl
end

/-! ### kept unless tracked; of the frames at fs (the callers') the slots may change (an exception that passes writes there); of the records at ex (iterators) nothing is said -/
structure Un (fs ex : List Addr) (H H' : Hp) (h h' : Heap) : Prop where
  keep : ∀ b o, h.get? b = some o → H b = none → b ∉ fs → b ∉ ex → h'.get? b = some o
  slot : ∀ b o, h.get? b = some o → H b = none → b ∈ fs → b ∉ ex → ∃ sl, h'.get? b = some { o with slots := sl }
  free : ∀ b o, h.get? b = some o → H b = none → b ∉ ex → H' b = none
  there : ∀ b o, h.get? b = some o → b ∉ ex → ∃ o', h'.get? b = some o'
  tups : ∀ b xs, H b = some (.tup xs) → H' b = some (.tup xs)
  frzs : ∀ b o u, H b = some (.frz o u) → H' b = some (.frz o u)
  tbls : ∀ b ps, H b = some (.tbl ps) → ∃ more, H' b = some (.tbl (ps ++ more))
section
variable {fs fs' ex ex' : List Addr} {H H1 H2 : Hp} {h h1 h2 h' : Heap} {a x e : Addr} {o : HO}
theorem Un.any (u : Un fs ex H H1 h h1) {b : Addr} {ob : Obj} (q : h.get? b = some ob) (n : H b = none) (hx : b ∉ ex) : ∃ sl, h1.get? b = some { ob with slots := sl } := by
  by_cases hb : b ∈ fs
  · exact u.slot b ob q n hb hx
  · exact ⟨ob.slots, u.keep b ob q n hb hx⟩
theorem Un.kept (k : ∀ b u, h.get? b = some u → h'.get? b = some u) : Un fs ex H H h h' :=
  ⟨fun b ob q _ _ _ => k b ob q, fun b ob q _ _ _ => ⟨ob.slots, k b ob q⟩, fun _ _ _ n _ => n, fun b ob q _ => ⟨ob, k b ob q⟩, fun _ _ q => q, fun _ _ _ q => q, fun _ ps q => ⟨#[], by rw [q]; simp⟩⟩
theorem Un.refl : Un fs ex H H h h := Un.kept fun _ _ q => q
theorem Un.laid (k : ∀ b u, h.get? b = some u → h'.get? b = some u) (hp : h.objs.size ≤ a) (hn : H a = none) : Un fs ex H (upd H a o) h h' where
  keep := fun b u q _ _ _ => k b u q
  slot := fun b u q _ _ _ => ⟨u.slots, k b u q⟩
  free := fun b u q n _ => by rw [upd_ne (Nat.ne_of_lt (Nat.lt_of_lt_of_le (Heap.lt_size q) hp))]; exact n
  there := fun b u q _ => ⟨u, k b u q⟩
  tups := fun b xs q => by rw [upd_ne (ne_of_none q hn)]; exact q
  frzs := fun b u xs q => by rw [upd_ne (ne_of_none q hn)]; exact q
  tbls := fun b ps q => ⟨#[], by rw [upd_ne (ne_of_none q hn), q]; simp⟩
theorem Un.write (mu : Mut (H x)) (he : e = x ∨ H e = some (.own x)) (k : ∀ b u, b ≠ e → h.get? b = some u → h'.get? b = some u) (heo : ∃ u, h'.get? e = some u) : Un fs ex H (upd H x o) h h' := by
  have hx : ∀ b, H b = none → b ≠ x := fun b n z => by subst z; rw [n] at mu; exact mu
  have hb : ∀ b, H b = none → b ≠ e := fun b n z => by
    subst z
    rcases he with r | r
    · exact hx b n r
    · rw [n] at r; cases r
  have hm : ∀ b u, H b = some u → ¬ Mut (some u) → b ≠ x := fun b u q nm z => by subst z; rw [q] at mu; exact nm mu
  refine ⟨fun b u q n _ _ => k b u (hb b n) q, fun b u q n _ _ => ⟨u.slots, k b u (hb b n) q⟩, fun b u q n _ => by rw [upd_ne (hx b n)]; exact n, fun b u q _ => ?_,
    fun b xs q => by rw [upd_ne (hm b _ q fun z => z)]; exact q, fun b u xs q => by rw [upd_ne (hm b _ q fun z => z)]; exact q, fun b ps q => ⟨#[], by rw [upd_ne (hm b _ q fun z => z), q]; simp⟩⟩
  by_cases hbe : b = e
  · subst hbe; exact heo
  · exact ⟨u, k b u hbe q⟩
end

/-! ### the heap without what is tracked -/
def trk (h : Heap) (H : Hp) : List Addr := (List.range h.objs.size).filter fun a => (H a).isSome
def hidT (h : Heap) (H : Hp) : Heap := PySem.W.hideAll h (trk h H)
theorem hidT_size (h : Heap) (H : Hp) : (hidT h H).objs.size = h.objs.size := PySem.W.hideAll_size _ _
theorem hidT_get {h : Heap} {H : Hp} {b : Addr} {o : Obj} (e : h.get? b = some o) (n : H b = none) : (hidT h H).get? b = some o :=
  PySem.W.hideAll_get _ e fun hm => by
    have q : (H b).isSome = true := (List.mem_filter.mp hm).2
    rw [n] at q; simp at q
theorem of_hidT {h : Heap} {H : Hp} {b : Addr} {o : Obj} (e : (hidT h H).get? b = some o) : h.get? b = some o ∧ H b = none := by
  have e' : h.get? b = some o := PySem.W.of_hideAll (trk h H) e
  refine ⟨e', ?_⟩
  cases q : H b with
  | none => rfl
  | some x =>
    have hm : b ∈ trk h H := List.mem_filter.mpr ⟨List.mem_range.mpr (Heap.lt_size e'), by simp [q]⟩
    have z : (hidT h H).get? b = none := PySem.W.hideAll_none (trk h H) hm
    rw [z] at e; cases e

/-! ### OpenK's ledger, filled with every new object but one -/
end L2

namespace L2
open PySem PySem.Spec PyProof.Rows

/-- the module's facts, over the base: the heap at the law's entry without what is tracked there -/
structure Mod (K : PySem.W.Frag) (mg : Str → Option Value) (base : Heap) : Prop where
  kin : K.In base
  glob : base.Ns mainGlobals mg
  blt : ∃ mb, base.Ns builtinsNs mb ∧ ∀ x : Str, x ≠ "__name__" → mb x = bootBuiltins x
  nolimit : base.NoLimit

/-- the context: a def's body (or a comprehension's block) running. base: fixed through the whole law; s₀, H₀: the entry; outer: the frames whose slots others may change (a def's callers); stack: all frames that run;
   ex: iterators that were made ahead of the entry and are walked here (a comprehension's); fn: the names whose cells were made at the entry (a def: all; a comprehension's block: its own); calm: not within an except suite; pn: pins that every state bears; xe: what is wanted of an exception that leaves the code -/
structure Cx where
  prog : Program
  w : World
  K : PySem.W.Frag
  mg : Str → Option Value
  base : Heap
  A : Around
  N : List Str
  s₀ : Shared
  H₀ : Hp
  env : Env
  outer : List Env
  stack : List Env
  ex : List Addr
  fn : Str → Bool
  calm : Bool
  pn : List (Addr × Obj)
  xe : Value → Shared → Prop
/-- the callers' frames -/
def frs (l : List Env) : List Addr := l.filterMap (·.frame)
abbrev Cx.fs (X : Cx) : List Addr := frs X.outer

def Vis (sc : Scope) (x : Str) : Prop := sc.names.lookup x = some .local ∨ sc.names.lookup x = some .cell ∨ sc.names.lookup x = some .free
def Loc (sc : Scope) (x : Str) : Prop := sc.names.lookup x = some .local ∨ sc.names.lookup x = some .cell
def Look (env : Env) (h : Heap) (m : Str → Option Value) (x : Str) (u : Value) : Prop :=
  (env.kindOf x = some .local ∧ m x = some u) ∨ ((env.kindOf x = some .cell ∨ env.kindOf x = some .free) ∧ ∃ c, env.cells.lookup x = some c ∧ h.IsCell c (some u))

structure Cx.Ok (X : Cx) : Prop where
  mod : Mod X.K X.mg X.base
  kind : X.env.scope.kind = .function
  glob : X.env.globals = mainGlobals
  blt : X.env.builtins = builtinsNs
  above : X.s₀.heap.objs.size ≤ X.env.locals
  inj : ∀ x y c, X.env.cells.lookup x = some c → X.env.cells.lookup y = some c → x = y
  has : ∀ x, (X.env.kindOf x = some .cell ∨ X.env.kindOf x = some .free) → ∃ c, X.env.cells.lookup x = some c
  cab : ∀ x c, X.fn x = true → X.env.cells.lookup x = some c → X.s₀.heap.objs.size ≤ c
  hd : X.calm = true → X.A.handled = none
  frames : X.A.frames = some X.stack
  stk : X.stack = X.outer ∨ (X.stack = X.env :: X.outer ∧ X.env.frame = some X.env.locals)
  exf : ∀ b ∈ X.ex, b ≠ X.env.locals ∧ ∀ x c, X.env.cells.lookup x = some c → c ≠ b
  bs : ∀ b o, X.base.get? b = some o → X.s₀.heap.get? b = some o ∧ X.H₀ b = none
  bsz : X.base.objs.size ≤ X.s₀.heap.objs.size
  noex : ∀ b o, X.base.get? b = some o → b ∉ X.ex
  exfs : ∀ b ∈ X.ex, b ∉ X.fs
  funs : X.s₀.heap.FunFrames X.base X.outer
  frf : ∀ b ∈ X.fs, X.H₀ b = none

structure Inv (X : Cx) (pins : List (Addr × Obj)) (σ : List (Option V)) (H : Hp) (s : Shared) : Prop where
  ok : X.Ok
  os : s.os = X.s₀.os
  bare : AllBare s.gens
  base : Un X.fs X.ex X.H₀ H X.s₀.heap s.heap
  loc : ∃ m, s.heap.Ns X.env.locals m ∧ ∀ (i : Nat) (x : Str) (v : V), X.N[i]? = some x → σ[i]? = some (some v) → Vis X.env.scope x → ∃ u, RelV v u ∧ Look X.env s.heap m x u
  cell : ∀ x c, X.env.cells.lookup x = some c → ∃ v, s.heap.IsCell c v
  free : H X.env.locals = none
  freeC : ∀ x c, X.env.cells.lookup x = some c → H c = none
  pin : ∀ p ∈ X.pn ++ pins, s.heap.get? p.1 = some p.2 ∧ H p.1 = none ∧ p.1 ≠ X.env.locals ∧ p.1 ∉ X.fs ∧ ∀ v, p.2.data ≠ .cell v
  hok : HOk X.prog X.w H s.heap
  len : σ.length = X.N.length

section
variable {X : Cx} {pins : List (Addr × Obj)} {σ : List (Option V)} {H H' : Hp} {s : Shared} {h' : Heap}

theorem Cx.Ok.nofr (ok : X.Ok) {b : Addr} {o : Obj} (e : X.base.get? b = some o) : b ∉ X.fs := fun hb => by
  have := (ok.funs.mem hb).1
  rw [e] at this; cases this
theorem Inv.bs (I : Inv X pins σ H s) : ∀ b o, X.base.get? b = some o → s.heap.get? b = some o ∧ H b = none := fun b o e =>
  ⟨I.base.keep b o (I.ok.bs b o e).1 (I.ok.bs b o e).2 (I.ok.nofr e) (I.ok.noex b o e), I.base.free b o (I.ok.bs b o e).1 (I.ok.bs b o e).2 (I.ok.noex b o e)⟩
theorem Inv.bk (I : Inv X pins σ H s) : ∀ b o, X.base.get? b = some o → s.heap.get? b = some o := fun b o e => (I.bs b o e).1
theorem Inv.mod (I : Inv X pins σ H s) : Mod X.K X.mg X.base := I.ok.mod
theorem Inv.kIn (I : Inv X pins σ H s) : X.K.In s.heap := I.ok.mod.kin.keeps I.bk
theorem Inv.lt (I : Inv X pins σ H s) : X.env.locals < s.heap.objs.size := let ⟨_, hn, _⟩ := I.loc; hn.lt
theorem Inv.sz (I : Inv X pins σ H s) : X.s₀.heap.objs.size ≤ s.heap.objs.size := Nat.le_trans I.ok.above (Nat.le_of_lt I.lt)
theorem Inv.nofs (I : Inv X pins σ H s) {a : Addr} (h : s.heap.objs.size ≤ a) : a ∉ X.fs := fun hb => by
  obtain ⟨_, o, ho, _⟩ := I.ok.funs.mem hb
  exact absurd (Nat.lt_of_lt_of_le (Heap.lt_size ho) (Nat.le_trans I.sz h)) (Nat.lt_irrefl _)
theorem Inv.cne (I : Inv X pins σ H s) : ∀ x c, X.env.cells.lookup x = some c → c ≠ X.env.locals := fun x c e z => by
  obtain ⟨v, o, ho, hd⟩ := I.cell x c e
  obtain ⟨m, ⟨o', es, ep, ho', hd', _⟩, _⟩ := I.loc
  rw [z, ho'] at ho; cases ho; rw [hd'] at hd; cases hd
theorem Inv.funs (I : Inv X pins σ H s) : s.heap.FunFrames X.base X.outer := by
  have all : ∀ (l : List Env), (∀ b ∈ frs l, b ∈ X.fs) → X.s₀.heap.FunFrames X.base l → s.heap.FunFrames X.base l := by
    intro l
    induction l with
    | nil => intro _ _; trivial
    | cons env r ih =>
      intro hs hl
      obtain ⟨hk, ⟨L, o, hf, hn, ho, hd⟩, hr⟩ := hl
      have hL : L ∈ X.fs := hs L (by unfold frs; rw [List.filterMap_cons, hf]; exact List.mem_cons_self)
      obtain ⟨sl, e⟩ := I.base.slot L o ho (I.ok.frf L hL) hL fun z => I.ok.exfs L z hL
      exact ⟨hk, ⟨L, _, hf, hn, e, hd⟩, ih (fun b hb => hs b (by unfold frs; rw [List.filterMap_cons, hf]; exact List.mem_cons_of_mem _ hb)) hr⟩
  exact all X.outer (fun _ hb => hb) I.ok.funs

/-- the frames that run, for a call -/
theorem Inv.stack (I : Inv X pins σ H s) : s.heap.FunFrames X.base X.stack := by
  rcases I.ok.stk with e | ⟨e, hf⟩
  · rw [e]; exact I.funs
  · rw [e]
    obtain ⟨m, hn, _⟩ := I.loc
    refine .cons (by rw [I.ok.kind]; decide) hf hn ?_ I.funs
    exact Heap.get?_none_of_le (Nat.le_trans I.ok.bsz I.ok.above)
theorem Inv.stkSub (I : Inv X pins σ H s) : ∀ b ∈ frs X.stack, b ∈ X.env.locals :: X.fs := fun b hb => by
  rcases I.ok.stk with e | ⟨e, hf⟩
  · rw [e] at hb; exact List.mem_cons_of_mem _ hb
  · rw [e] at hb
    unfold frs at hb
    rw [List.filterMap_cons, hf] at hb
    exact hb
theorem Inv.stkFree (I : Inv X pins σ H s) : ∀ b ∈ frs X.stack, H b = none := fun b hb => by
  rcases List.mem_cons.mp (I.stkSub b hb) with e | hb
  · rw [e]; exact I.free
  · obtain ⟨_, o, ho, _⟩ := I.ok.funs.mem hb
    exact I.base.free b o ho (I.ok.frf b hb) fun z => I.ok.exfs b z hb

/-- THE STEP: the untracked objects but the frame and the records at ch are kept (the callers' frames up to slots), the frame's map is kept, the new abstract heap is held -/
theorem Inv.step {g' : Array GenState} {t' : Nat} {d' : Drawn} {ch : List Addr} (I : Inv X pins σ H s)
    (hch : ∀ b ∈ ch, (b ∈ X.ex ∨ X.s₀.heap.objs.size ≤ b) ∧ b ≠ X.env.locals ∧ (∀ x c, X.env.cells.lookup x = some c → c ≠ b) ∧ ∀ p ∈ X.pn ++ pins, p.1 ≠ b)
    (keep : ∀ b o, b ≠ X.env.locals → b ∉ X.fs → b ∉ ch → s.heap.get? b = some o → H b = none → h'.get? b = some o)
    (slot : ∀ b o, b ≠ X.env.locals → b ∈ X.fs → b ∉ ch → s.heap.get? b = some o → H b = none → ∃ sl, h'.get? b = some { o with slots := sl }) (free : ∀ b o, b ∉ ch → s.heap.get? b = some o → H b = none → H' b = none)
    (there : ∀ b o, b ∉ ch → s.heap.get? b = some o → ∃ o', h'.get? b = some o')
    (tups : ∀ b xs, H b = some (.tup xs) → H' b = some (.tup xs)) (frzs : ∀ b o u, H b = some (.frz o u) → H' b = some (.frz o u)) (tbls : ∀ b ps, H b = some (.tbl ps) → ∃ more, H' b = some (.tbl (ps ++ more)))
    (ns : ∀ m, s.heap.Ns X.env.locals m → h'.Ns X.env.locals m) (hok : HOk X.prog X.w H' h') (hg : AllBare g') :
    Inv X pins σ H' { s with heap := h', gens := g', drawn := d', toks := t' } := by
  have neL : ∀ b o, X.s₀.heap.get? b = some o → b ≠ X.env.locals := fun b o e => Nat.ne_of_lt (Nat.lt_of_lt_of_le (Heap.lt_size e) I.ok.above)
  have neC : ∀ b o, X.s₀.heap.get? b = some o → b ∉ X.ex → b ∉ ch := fun b o e hx hb => by
    rcases (hch b hb).1 with z | z
    · exact hx z
    · exact absurd (Nat.lt_of_lt_of_le (Heap.lt_size e) z) (Nat.lt_irrefl _)
  have cellK : ∀ x c, X.env.cells.lookup x = some c → ∀ v, s.heap.IsCell c v → h'.IsCell c v := fun x c e v ⟨o, ho, hd⟩ => by
    have nch : c ∉ ch := fun z => (hch c z).2.2.1 x c e rfl
    by_cases hc : c ∈ X.fs
    · obtain ⟨sl, q⟩ := slot c o (I.cne x c e) hc nch ho (I.freeC x c e)
      exact ⟨_, q, hd⟩
    · exact ⟨o, keep c o (I.cne x c e) hc nch ho (I.freeC x c e), hd⟩
  refine ⟨I.ok, I.os, hg, ⟨fun b o e n hb hx => ?_, fun b o e n hb hx => ?_, fun b o e n hx => ?_, fun b o e hx => ?_, fun b xs e => tups b xs (I.base.tups b xs e), fun b o xs e => frzs b o xs (I.base.frzs b o xs e), fun b ps e => ?_⟩, ?_, fun x c e => ?_, ?_, fun x c e => ?_, fun p hp => ?_, hok, I.len⟩
  · exact keep b o (neL b o e) hb (neC b o e hx) (I.base.keep b o e n hb hx) (I.base.free b o e n hx)
  · obtain ⟨sl, e1⟩ := I.base.slot b o e n hb hx
    obtain ⟨sl', e2⟩ := slot b _ (neL b o e) hb (neC b o e hx) e1 (I.base.free b o e n hx)
    exact ⟨sl', e2⟩
  · obtain ⟨o', e1⟩ := I.base.there b o e hx
    exact free b o' (neC b o e hx) e1 (I.base.free b o e n hx)
  · obtain ⟨o', e1⟩ := I.base.there b o e hx
    exact there b o' (neC b o e hx) e1
  · obtain ⟨m1, e1⟩ := I.base.tbls b ps e
    obtain ⟨m2, e2⟩ := tbls b _ e1
    exact ⟨m1 ++ m2, by rw [e2, Array.append_assoc]⟩
  · obtain ⟨m, hn, hl⟩ := I.loc
    refine ⟨m, ns m hn, fun i x v e1 e2 e3 => ?_⟩
    obtain ⟨u, r, l⟩ := hl i x v e1 e2 e3
    refine ⟨u, r, ?_⟩
    rcases l with l | ⟨k, c, e, z⟩
    · exact .inl l
    · exact .inr ⟨k, c, e, cellK x c e _ z⟩
  · obtain ⟨v, z⟩ := I.cell x c e
    exact ⟨v, cellK x c e v z⟩
  · obtain ⟨m, ⟨o, _, _, ho, _⟩, _⟩ := I.loc
    exact free _ o (fun z => (hch _ z).2.1 rfl) ho I.free
  · obtain ⟨v, o, ho, hd⟩ := I.cell x c e
    exact free c o (fun z => (hch c z).2.2.1 x c e rfl) ho (I.freeC x c e)
  · obtain ⟨e, n, ne, nf, d⟩ := I.pin p hp
    have nch : p.1 ∉ ch := fun z => (hch p.1 z).2.2.2 p hp rfl
    exact ⟨keep p.1 p.2 ne nf nch e n, free p.1 p.2 nch e n, ne, nf, d⟩
/-- .. where the frame's own object is kept too -/
theorem Inv.un {t' : Nat} (I : Inv X pins σ H s) (u : Un X.fs [] H H' s.heap h') (hok : HOk X.prog X.w H' h') : Inv X pins σ H' { s with heap := h', toks := t' } := by
  obtain ⟨m, ⟨o, es, ep, ho, r⟩, _⟩ := id I.loc
  obtain ⟨sl, hL⟩ := u.any ho I.free (by simp)
  exact I.step (g' := s.gens) (d' := s.drawn) (ch := []) (fun _ z => nomatch z) (fun b o _ hb _ e n => u.keep b o e n hb (by simp)) (fun b o _ hb _ e n => u.slot b o e n hb (by simp)) (fun b o _ e n => u.free b o e n (by simp)) (fun b o _ e => u.there b o e (by simp)) u.tups u.frzs u.tbls (fun m' hm => by
    obtain ⟨o', es', ep', ho', r'⟩ := hm
    rw [ho] at ho'; cases ho'
    exact ⟨_, es', ep', hL, r'⟩) hok I.bare
/-- behind a call (or a comprehension's block): the slots of this frame may have changed too, the records at ch may have turned -/
theorem Inv.call {g' : Array GenState} {t' : Nat} {d' : Drawn} {ch : List Addr} (I : Inv X pins σ H s) (u : Un (frs X.stack) ch H H' s.heap h') (hok : HOk X.prog X.w H' h') (hg : AllBare g')
    (hch : ∀ b ∈ ch, (b ∈ X.ex ∨ X.s₀.heap.objs.size ≤ b) ∧ b ≠ X.env.locals ∧ (∀ x c, X.env.cells.lookup x = some c → c ≠ b) ∧ ∀ p ∈ X.pn ++ pins, p.1 ≠ b) :
    Inv X pins σ H' { s with heap := h', gens := g', drawn := d', toks := t' } := by
  obtain ⟨m, ⟨o, es, ep, ho, r⟩, _⟩ := id I.loc
  obtain ⟨sl, hL⟩ := u.any ho I.free fun z => (hch _ z).2.1 rfl
  exact I.step (ch := ch) hch (fun b o hL hb hc e n => u.keep b o e n (fun z => (List.mem_cons.mp (I.stkSub b z)).elim hL hb) hc) (fun b o _ _ hc e n => u.any e n hc) (fun b o hc e n => u.free b o e n hc) (fun b o hc e => u.there b o e hc) u.tups u.frzs u.tbls (fun m' hm => by
    obtain ⟨o', es', ep', ho', r'⟩ := hm
    rw [ho] at ho'; cases ho'
    exact ⟨_, es', ep', hL, r'⟩) hok hg
/-- an untracked record of ours (an iterator) has turned -/
theorem Inv.turned {t' : Nat} {it : Addr} (I : Inv X pins σ H s) (k : ∀ b o, b ≠ it → s.heap.get? b = some o → h'.get? b = some o) (hn : H it = none) (hL : it ≠ X.env.locals)
    (h1 : it ∈ X.ex ∨ X.s₀.heap.objs.size ≤ it) (h2 : ∀ x c, X.env.cells.lookup x = some c → c ≠ it) (h3 : ∀ p ∈ X.pn ++ pins, p.1 ≠ it) : Inv X pins σ H { s with heap := h', toks := t' } := by
  have nit : ∀ b u, H b = some u → b ≠ it := fun b u e z => by rw [z, hn] at e; cases e
  refine I.step (g' := s.gens) (d' := s.drawn) (ch := [it]) (fun b hb => ?_) (fun b o _ _ hc e _ => k b o (fun z => hc (by simp [z])) e) (fun b o _ _ hc e _ => ⟨o.slots, k b o (fun z => hc (by simp [z])) e⟩) (fun _ _ _ _ n => n)
    (fun b o hc e => ⟨o, k b o (fun z => hc (by simp [z])) e⟩) (fun _ _ e => e) (fun _ _ _ e => e) (fun b ps e => ⟨#[], by rw [e]; simp⟩) (fun m hm => ?_) (fun b u e => ?_) I.bare
  · have e : b = it := by simpa using hb
    subst e
    exact ⟨h1, hL, h2, h3⟩
  · obtain ⟨o, es, ep, ho, r⟩ := hm
    exact ⟨o, es, ep, k _ o (Ne.symm hL) ho, r⟩
  · refine (I.hok b u e).stay (fun c v hc q => k c v ?_ q) (fun _ q => q) fun _ _ q => q
    rcases hc with z | z
    · rw [z]; exact nit b u e
    · exact nit c _ z
theorem Inv.tok (I : Inv X pins σ H s) (t : Nat) : Inv X pins σ H { s with toks := t } := I.un (h' := s.heap) (t' := t) Un.refl I.hok
/-- all objects kept -/
theorem Inv.kept {t' : Nat} (I : Inv X pins σ H s) (k : ∀ b u, s.heap.get? b = some u → h'.get? b = some u) : Inv X pins σ H { s with heap := h', toks := t' } := I.un (Un.kept k) (I.hok.kept k)
/-- a new object laid and tracked -/
theorem Inv.laid {a : Addr} {o : HO} {t' : Nat} (I : Inv X pins σ H s) (k : ∀ b u, s.heap.get? b = some u → h'.get? b = some u) (hp : s.heap.objs.size ≤ a) (new : ObjOk X.prog X.w (upd H a o) h' a o) :
    Inv X pins σ (upd H a o) { s with heap := h', toks := t' } := I.un (Un.laid k hp (I.hok.fresh hp)) (I.hok.laid k hp new)
/-- an object written -/
theorem Inv.write {x e : Addr} {o : HO} {t' : Nat} (I : Inv X pins σ H s) (mu : Mut (H x)) (he : e = x ∨ H e = some (.own x)) (k : ∀ b u, b ≠ e → s.heap.get? b = some u → h'.get? b = some u) (heo : ∃ u, h'.get? e = some u)
    (new : ObjOk X.prog X.w (upd H x o) h' x o) : Inv X pins σ (upd H x o) { s with heap := h', toks := t' } := I.un (Un.write mu he k heo) (I.hok.write mu he k heo new)
theorem Inv.pins_of {pins' : List (Addr × Obj)} (I : Inv X pins σ H s) (h : ∀ p ∈ pins', s.heap.get? p.1 = some p.2 ∧ H p.1 = none ∧ p.1 ≠ X.env.locals ∧ p.1 ∉ X.fs ∧ ∀ v, p.2.data ≠ .cell v) : Inv X pins' σ H s :=
  ⟨I.ok, I.os, I.bare, I.base, I.loc, I.cell, I.free, I.freeC, fun p hp => (List.mem_append.mp hp).elim (fun z => I.pin p (List.mem_append_left _ z)) (h p), I.hok, I.len⟩

theorem nodup_ix {N : List Str} (hN : N.Nodup) {i j : Nat} {x : Str} (a : N[i]? = some x) (b : N[j]? = some x) : i = j := by
  obtain ⟨h1, e1⟩ := List.getElem?_eq_some_iff.mp a
  obtain ⟨h2, e2⟩ := List.getElem?_eq_some_iff.mp b
  exact (List.getElem_inj hN).mp (e1.trans e2.symm)

/-- a name is stored; what changed -/
theorem store_ok2 {M : Model} {A : Around} {E : Value → Shared → Prop} {i : Nat} {x : Str} {v : V} {u : Value} {Q : Unit → Shared → Prop} (I : Inv X pins σ H s) (hN : X.N.Nodup) (hi : X.N[i]? = some x) (hx : Loc X.env.scope x) (r : RelV v u)
    (h : ∀ s', Inv X pins (σ.set i (some v)) H s' → (∃ a, Heap.SameBut a s.heap s'.heap ∧ (a = X.env.locals ∨ X.env.cells.lookup x = some a)) → Q () s') (hf : X.fn x = true ∨ X.env.scope.names.lookup x = some .local := by first | exact .inl rfl | exact .inr rfl | assumption) : wpAny M A (storeName X.env x u) Q E s := by
  obtain ⟨m, hn, hl⟩ := id I.loc
  have hcls : (X.env.scope.kind == .class || (X.env.scope.kind == .module && X.env.locals != X.env.globals)) = false := by rw [I.ok.kind]; rfl
  have hiσ : i < σ.length := by rw [I.len]; exact (List.getElem?_eq_some_iff.mp hi).1
  have cne := I.cne
  have tracked : ∀ {a : Addr} {h' : Heap}, (∃ o, s.heap.get? a = some o ∧ H a = none) → Heap.SameBut a s.heap h' → HOk X.prog X.w H h' := fun {a h'} ha hs b ob e => by
    obtain ⟨_, _, hfree⟩ := ha
    refine (I.hok b ob e).stay (fun c w' hc q => (hs.2 c ?_).trans q) (fun _ q => q) fun _ _ q => q
    rintro rfl
    rcases hc with rfl | hc
    · rw [hfree] at e; cases e
    · rw [hfree] at hc; cases hc
  rcases hx with hk | hk
  · refine wpAny_storeName_local hk hn (fun h' hn' hs => ?_) hcls
    obtain ⟨oL, _, _, hoL, _⟩ := id hn
    refine h _ ⟨I.ok, I.os, I.bare, ⟨fun b o e n hb hx => ?_, fun b o e n hb hx => ?_, I.base.free, fun b o e hx => ?_, I.base.tups, I.base.frzs, I.base.tbls⟩, ⟨_, hn', fun j y v' e1 e2 e3 => ?_⟩, fun y c e => ?_, I.free, I.freeC, fun p hp => ?_, tracked ⟨oL, hoL, I.free⟩ hs, by simpa using I.len⟩ ⟨_, hs, .inl rfl⟩
    · exact (hs.2 b (Nat.ne_of_lt (Nat.lt_of_lt_of_le (Heap.lt_size e) I.ok.above))).trans (I.base.keep b o e n hb hx)
    · obtain ⟨sl, e1⟩ := I.base.slot b o e n hb hx
      exact ⟨sl, (hs.2 b (Nat.ne_of_lt (Nat.lt_of_lt_of_le (Heap.lt_size e) I.ok.above))).trans e1⟩
    · obtain ⟨o', e1⟩ := I.base.there b o e hx
      exact ⟨o', (hs.2 b (Nat.ne_of_lt (Nat.lt_of_lt_of_le (Heap.lt_size e) I.ok.above))).trans e1⟩
    · by_cases hj : j = i
      · subst hj
        rw [hi] at e1; cases e1
        rw [List.getElem?_set_self hiσ] at e2
        cases e2
        exact ⟨u, r, .inl ⟨hk, by simp⟩⟩
      · rw [List.getElem?_set_ne (Ne.symm hj)] at e2
        obtain ⟨u', r', q⟩ := hl j y v' e1 e2 e3
        refine ⟨u', r', ?_⟩
        rcases q with ⟨k, e⟩ | ⟨k, c, e, z⟩
        · refine .inl ⟨k, ?_⟩
          have : y ≠ x := fun e => hj (nodup_ix hN e1 (e ▸ hi))
          simp [this, e]
        · exact .inr ⟨k, c, e, z.sameBut hs (cne y c e)⟩
    · obtain ⟨w', z⟩ := I.cell y c e
      exact ⟨w', z.sameBut hs (cne y c e)⟩
    · obtain ⟨e, n, ne, nf, d⟩ := I.pin p hp
      exact ⟨(hs.2 p.1 ne).trans e, n, ne, nf, d⟩
  · have hfn : X.fn x = true := by
      rcases hf with z | z
      · exact z
      · rw [z] at hk; cases hk
    obtain ⟨c, hc⟩ := I.ok.has x (.inl hk)
    obtain ⟨w', z⟩ := I.cell x c hc
    refine wpAny_storeName_cell I.ok.kind hk hc z (fun h' hc' hs => ?_)
    obtain ⟨oc, hoc, hocd⟩ := id z
    refine h { s with heap := h' } ⟨I.ok, I.os, I.bare, ⟨fun b o e n hb hx => ?_, fun b o e n hb hx => ?_, I.base.free, fun b o e hx => ?_, I.base.tups, I.base.frzs, I.base.tbls⟩, ⟨m, hn.sameBut hs (Ne.symm (cne x c hc)), fun j y v' e1 e2 e3 => ?_⟩, fun y c' e => ?_, I.free, I.freeC, fun p hp => ?_, tracked ⟨oc, hoc, I.freeC x c hc⟩ hs, by simpa using I.len⟩ ⟨c, hs, .inr hc⟩
    · exact (hs.2 b (Nat.ne_of_lt (Nat.lt_of_lt_of_le (Heap.lt_size e) (I.ok.cab x c hfn hc)))).trans (I.base.keep b o e n hb hx)
    · obtain ⟨sl, e1⟩ := I.base.slot b o e n hb hx
      exact ⟨sl, (hs.2 b (Nat.ne_of_lt (Nat.lt_of_lt_of_le (Heap.lt_size e) (I.ok.cab x c hfn hc)))).trans e1⟩
    · obtain ⟨o', e1⟩ := I.base.there b o e hx
      exact ⟨o', (hs.2 b (Nat.ne_of_lt (Nat.lt_of_lt_of_le (Heap.lt_size e) (I.ok.cab x c hfn hc)))).trans e1⟩
    · by_cases hj : j = i
      · subst hj
        rw [hi] at e1; cases e1
        rw [List.getElem?_set_self hiσ] at e2
        cases e2
        exact ⟨u, r, .inr ⟨.inl hk, c, hc, hc'⟩⟩
      · rw [List.getElem?_set_ne (Ne.symm hj)] at e2
        obtain ⟨u', r', q⟩ := hl j y v' e1 e2 e3
        refine ⟨u', r', ?_⟩
        rcases q with q | ⟨k, c', e, z'⟩
        · exact .inl q
        · refine .inr ⟨k, c', e, z'.sameBut hs ?_⟩
          rintro rfl
          exact hj (nodup_ix hN e1 (I.ok.inj _ _ _ e hc ▸ hi))
    · by_cases hcc : c' = c
      · subst hcc; exact ⟨_, hc'⟩
      · obtain ⟨w2, z2⟩ := I.cell y c' e
        exact ⟨w2, z2.sameBut hs hcc⟩
    · obtain ⟨e, n, ne, nf, d⟩ := I.pin p hp
      refine ⟨(hs.2 p.1 ?_).trans e, n, ne, nf, d⟩
      intro q
      rw [q, hoc] at e
      have q' : oc = p.2 := Option.some.inj e
      exact d w' (by rw [← q']; exact hocd)
theorem store_ok {M : Model} {A : Around} {E : Value → Shared → Prop} {i : Nat} {x : Str} {v : V} {u : Value} {Q : Unit → Shared → Prop} (I : Inv X pins σ H s) (hN : X.N.Nodup) (hi : X.N[i]? = some x) (hx : Loc X.env.scope x) (r : RelV v u)
    (h : ∀ s', Inv X pins (σ.set i (some v)) H s' → Q () s') (hf : X.fn x = true ∨ X.env.scope.names.lookup x = some .local := by first | exact .inl rfl | exact .inr rfl | assumption) : wpAny M A (storeName X.env x u) Q E s :=
  store_ok2 I hN hi hx r (fun s' I' _ => h s' I') hf
/-- behind a call or a block, the state as it is -/
theorem Inv.call' {s' : Shared} {ch : List Addr} (I : Inv X pins σ H s) (ho : s'.os = s.os) (u : Un (frs X.stack) ch H H' s.heap s'.heap) (hok : HOk X.prog X.w H' s'.heap) (hg : AllBare s'.gens)
    (hch : ∀ b ∈ ch, (b ∈ X.ex ∨ X.s₀.heap.objs.size ≤ b) ∧ b ≠ X.env.locals ∧ (∀ x c, X.env.cells.lookup x = some c → c ≠ b) ∧ ∀ p ∈ X.pn ++ pins, p.1 ≠ b) : Inv X pins σ H' s' := by
  obtain ⟨h', g', d', t', o'⟩ := s'
  have e : o' = s.os := ho
  subst e
  exact I.call (g' := g') (t' := t') (d' := d') u hok hg hch
end

/-! ### the judgements -/
/-- an exception: its class, its own dict's address (where it has one), the abstract heap behind it -/
abbrev XK := Value → Option Addr → Hp → Prop
abbrev St := List (Option V)
abbrev VK := V → Hp → Prop
/-- an expression's reading; a test's; an argument list's -/
abbrev TE := St → Hp → VK → Prop
abbrev TT := St → Hp → (Bool → Hp → Prop) → Prop
abbrev TA := St → Hp → (List V → Hp → Prop) → Prop
/-- what is wanted behind a statement -/
structure Ends where
  nx : St → Hp → Prop
  rt : VK
  bk : St → Hp → Prop := fun _ _ => False
  ct : St → Hp → Prop := fun _ _ => False
abbrev TS := Ends → St → Hp → Prop

def EP (X : Cx) (pins : List (Addr × Obj)) (σ : St) (Q : VK) (u : Value) (s' : Shared) : Prop := ∃ v H', Inv X pins σ H' s' ∧ RelV v u ∧ Q v H'
def TP (X : Cx) (pins : List (Addr × Obj)) (σ : St) (Q : Bool → Hp → Prop) (b : Bool) (s' : Shared) : Prop := ∃ H', Inv X pins σ H' s' ∧ Q b H'
def AP (X : Cx) (pins : List (Addr × Obj)) (σ : St) (Q : List V → Hp → Prop) (us : List Value) (s' : Shared) : Prop := ∃ vs H', Inv X pins σ H' s' ∧ Vals vs us ∧ Q vs H'
def SP (X : Cx) (pins : List (Addr × Obj)) (D : Ends) (f : Flow) (s' : Shared) : Prop :=
  match f with
  | .next => ∃ σ' H', Inv X pins σ' H' s' ∧ D.nx σ' H'
  | .brk => ∃ σ' H', Inv X pins σ' H' s' ∧ D.bk σ' H'
  | .cont => ∃ σ' H', Inv X pins σ' H' s' ∧ D.ct σ' H'
  | .ret u => ∃ v σ' H', Inv X pins σ' H' s' ∧ RelV v u ∧ D.rt v H'

def PE (X : Cx) (e : Expr) (t : TE) : Prop :=
  ∀ (pins : List (Addr × Obj)) (s : Shared) (σ : St) (H : Hp) (Q : VK), Inv X pins σ H s → t σ H Q → wpAny (model X.prog X.w) X.A (eval e X.env) (EP X pins σ Q) X.xe s
def PT (X : Cx) (e : Expr) (t : TT) : Prop :=
  ∀ (pins : List (Addr × Obj)) (s : Shared) (σ : St) (H : Hp) (Q : Bool → Hp → Prop), Inv X pins σ H s → t σ H Q → wpAny (model X.prog X.w) X.A (isTrue e X.env (eval e X.env)) (TP X pins σ Q) X.xe s
/-- a test whatever its 'whole' is (and, or) -/
def PW (X : Cx) (e : Expr) (t : TT) : Prop :=
  ∀ (whole : Sem Value) (pins : List (Addr × Obj)) (s : Shared) (σ : St) (H : Hp) (Q : Bool → Hp → Prop), Inv X pins σ H s → t σ H Q → wpAny (model X.prog X.w) X.A (isTrue e X.env whole) (TP X pins σ Q) X.xe s
theorem PW.pt {X : Cx} {e : Expr} {t : TT} (h : PW X e t) : PT X e t := h _
/-- an argument list (no star), from the left -/
def PA (X : Cx) (es : List Expr) (t : TA) : Prop :=
  ∀ (pos : Pos) (pins : List (Addr × Obj)) (s : Shared) (σ : St) (H : Hp) (Q : List V → Hp → Prop), Inv X pins σ H s → t σ H Q → wpAny (model X.prog X.w) X.A (spliced (backTo pos (starEach es X.env))) (AP X pins σ Q) X.xe s
def PS (X : Cx) (st : Stmt) (t : TS) : Prop :=
  ∀ (pins : List (Addr × Obj)) (s : Shared) (σ : St) (H : Hp) (D : Ends), Inv X pins σ H s → t D σ H → wpAny (model X.prog X.w) X.A (exec st X.env) (SP X pins D) X.xe s
def PSs (X : Cx) (st : List Stmt) (t : TS) : Prop :=
  ∀ (pins : List (Addr × Obj)) (s : Shared) (σ : St) (H : Hp) (D : Ends), Inv X pins σ H s → t D σ H → wpAny (model X.prog X.w) X.A (execs st X.env) (SP X pins D) X.xe s
/-- weaken the end -/
theorem thn {α : Type} {t : Sem α} {Q Q' : α → Shared → Prop} {M : Model} {A : Around} {E : Value → Shared → Prop} {s : Shared} (h : wpAny M A t Q E s) (hQ : ∀ a s, Q a s → Q' a s) : wpAny M A t Q' E s := wpAny_mono h hQ fun _ _ x => x
end L2

namespace L2
open PySem PySem.Spec PyProof.Rows
section
variable {X : Cx}

/-! ### names and constants -/
def tVar (i : Nat) : TE := fun σ H Q => ∃ v, σ[i]? = some (some v) ∧ Q v H
def tC (v : V) : TE := fun _ H Q => Q v H
theorem pe_var {i : Nat} {x : Str} {pos : Pos} (hN : X.N[i]? = some x) (hv : Vis X.env.scope x) (hd : (x == ("__debug__" : Str)) = false := by decide) (hcd : (x == ("__classdict__" : Str)) = false := by decide) : PE X (.Name x pos) (tVar i) := by
  intro pins s σ H Q I h
  obtain ⟨v, e, h⟩ := h
  obtain ⟨m, hn, hl⟩ := I.loc
  obtain ⟨u, r, l⟩ := hl i x v hN e hv
  have fin : EP X pins σ Q u s := ⟨v, H, I, r, h⟩
  rcases l with ⟨hk, hm⟩ | ⟨hk, c, hc, hcell⟩
  · exact wpAny_Name (wpAny_loadName_local I.ok.kind hk hn hm fin) hd
  · rcases hk with hk | hk
    · exact wpAny_Name (wpAny_loadName_cell I.ok.kind hk hc hcell fin) hd
    · exact wpAny_Name (wpAny_loadName_free I.ok.kind hk hc hcell fin hcd) hd
theorem pe_int {i j pos} : PE X (.Constant (.int i) j pos) (tC (.int i)) := fun _ _ _ H _ I h => wpAny_Constant_int ⟨.int i, H, I.tok _, ⟨_, rfl⟩, h⟩
theorem pe_bl {b j pos} : PE X (.Constant (.bool b) j pos) (tC (.bl b)) := fun _ _ _ H _ I h => Constant_bool ⟨.bl b, H, I, rfl, h⟩
theorem pe_non {j pos} : PE X (.Constant .none j pos) (tC .non) := fun _ _ _ H _ I h => Constant_none ⟨.non, H, I, rfl, h⟩
theorem pe_str {x j pos} : PE X (.Constant (.str x) j pos) (tC (.str x)) := fun _ _ _ H _ I h => Calls.Constant_str ⟨.str x, H, I.tok _, ⟨_, rfl⟩, h⟩

/-- a global name of the def -/
def Gl (X : Cx) (x : Str) : Prop := X.env.kindOf x = some .globalImplicit
theorem ld_glob {E : Value → Shared → Prop} {pins : List (Addr × Obj)} {s : Shared} {σ : St} {H : Hp} {x : Str} {u : Value} {pos : Pos} {Q : Value → Shared → Prop} (I : Inv X pins σ H s) (hg : Gl X x) (hm : X.mg x = some u) (h : Q u s)
    (hd : (x == ("__debug__" : Str)) = false := by decide) : wpAny (model X.prog X.w) X.A (eval (.Name x pos) X.env) Q E s :=
  Calls.Name_function_global I.ok.kind hg (Calls.loadGlobal_global (by rw [I.ok.glob]; exact I.mod.glob.keeps I.bk) hm h) hd
theorem ld_blt {E : Value → Shared → Prop} {pins : List (Addr × Obj)} {s : Shared} {σ : St} {H : Hp} {x : Str} {u : Value} {pos : Pos} {Q : Value → Shared → Prop} (I : Inv X pins σ H s) (hg : Gl X x) (hm : X.mg x = none) (hv : bootBuiltins x = some u) (h : Q u s)
    (hn : x ≠ "__name__" := by decide) (hd : (x == ("__debug__" : Str)) = false := by decide) : wpAny (model X.prog X.w) X.A (eval (.Name x pos) X.env) Q E s := by
  obtain ⟨mb, h1, h2⟩ := I.mod.blt
  exact Calls.Name_function_global I.ok.kind hg (Calls.loadGlobal_builtin (by rw [I.ok.glob]; exact I.mod.glob.keeps I.bk) hm (by rw [I.ok.blt]; exact h1.keeps I.bk) ((h2 x hn).trans hv) h) hd
/-! ### arithmetic -/
variable {a b : Expr} {ta tb : TE} {pos : Pos}
/-! ### comparisons -/
/-- a comparison as a value, as a test -/
def tB (t : TE) : TT := fun σ H Q => t σ H fun x H1 => ∃ c, x = .bl c ∧ Q c H1
/-- an expression whose value is a bool, as a test -/
theorem pt_val {e : Expr} {t : TE} (h : PE X e t) (he : ∀ whole, isTrue e X.env whole = (do let v ← whole; standAt e.pos; holding [v] (truthy v)) := by intro _; rfl) : PT X e (tB t) := by
  intro pins s σ H Q I hw
  refine isTrue_plain (thn (h pins s σ H _ I hw) fun v s1 ⟨x, H1, I1, r1, q1⟩ => ?_) (he _)
  obtain ⟨d, rfl, q⟩ := q1
  cases r1
  exact wpAny_truthy_bool ⟨H1, I1, q⟩

/-! ### and, or, not -/
variable {tA tB' : TT} {rest : List Expr}
def tAnd (t u : TT) : TT := fun σ H Q => t σ H fun c H1 => if c = true then u σ H1 Q else Q false H1
def tOr (t u : TT) : TT := fun σ H Q => t σ H fun c H1 => if c = true then Q true H1 else u σ H1 Q
def tNot (t : TT) : TT := fun σ H Q => t σ H fun c H1 => Q (!c) H1
theorem pw_and1 (ha : PT X a tA) : PW X (.BoolOp .And [a] pos) tA := by
  intro wh pins s σ H Q I h
  refine isTrue_and (thn (ha pins s σ H Q I h) fun c s1 e => ?_)
  cases c with
  | true => exact isTrue_and_nil e
  | false => exact e
theorem pw_or1 (ha : PT X a tA) : PW X (.BoolOp .Or [a] pos) tA := by
  intro wh pins s σ H Q I h
  refine isTrue_or (thn (ha pins s σ H Q I h) fun c s1 e => ?_)
  cases c with
  | false => exact isTrue_or_nil e
  | true => exact e
theorem pw_and (ha : PT X a tA) (hb : PW X (.BoolOp .And (b :: rest) pos) tB') : PW X (.BoolOp .And (a :: b :: rest) pos) (tAnd tA tB') := by
  intro wh pins s σ H Q I h
  refine isTrue_and (thn (ha pins s σ H _ I h) fun c s1 ⟨H1, I1, q1⟩ => ?_)
  cases c with
  | true => exact hb wh pins s1 σ H1 Q I1 q1
  | false => exact ⟨H1, I1, q1⟩
theorem pw_or (ha : PT X a tA) (hb : PW X (.BoolOp .Or (b :: rest) pos) tB') : PW X (.BoolOp .Or (a :: b :: rest) pos) (tOr tA tB') := by
  intro wh pins s σ H Q I h
  refine isTrue_or (thn (ha pins s σ H _ I h) fun c s1 ⟨H1, I1, q1⟩ => ?_)
  cases c with
  | true => exact ⟨H1, I1, q1⟩
  | false => exact hb wh pins s1 σ H1 Q I1 q1
theorem pt_not (ha : PT X a tA) : PT X (.UnaryOp .Not a pos) (tNot tA) := by
  intro pins s σ H Q I h
  exact isTrue_not (ha pins s σ H (fun c H1 => Q (!c) H1) I h)
/-- .. as values (bools) -/
def tAndV (ta tb : TE) : TE := fun σ H Q => ta σ H fun x H1 => ∃ c, x = .bl c ∧ if c = true then tb σ H1 Q else Q (.bl false) H1
def tNotV (ta : TE) : TE := fun σ H Q => ta σ H fun x H1 => ∃ c, x = .bl c ∧ Q (.bl (!c)) H1
theorem pe_one {op} {t : TE} (h : PE X a t) : PE X (.BoolOp op [a] pos) t := fun pins s σ H Q I hw => BoolOp_one (h pins s σ H Q I hw)
theorem pe_and (ha : PE X a ta) (hb : PE X (.BoolOp .And (b :: rest) pos) tb) : PE X (.BoolOp .And (a :: b :: rest) pos) (tAndV ta tb) := by
  intro pins s σ H Q I h
  refine BoolOp_and (thn (ha pins s σ H _ I h) fun v s1 ⟨x, H1, I1, r1, q1⟩ => ?_)
  obtain ⟨c, rfl, q1⟩ := q1
  cases r1
  refine wpAny_truthy_bool ?_
  cases c with
  | true => exact hb pins s1 σ H1 Q I1 q1
  | false => exact ⟨.bl false, H1, I1, rfl, q1⟩
theorem pe_not (ha : PE X a ta) : PE X (.UnaryOp .Not a pos) (tNotV ta) := by
  intro pins s σ H Q I h
  refine UnaryOp_ (thn (ha pins s σ H _ I h) fun v s1 ⟨x, H1, I1, r1, q1⟩ => ?_)
  obtain ⟨c, rfl, q1⟩ := q1
  cases r1
  exact not_of (wpAny_truthy_bool ⟨.bl (!c), H1, I1, rfl, q1⟩)
/-- a if t else b -/
def tIf (t : TT) (ta tb : TE) : TE := fun σ H Q => t σ H fun c H1 => if c = true then ta σ H1 Q else tb σ H1 Q
theorem pe_ifExp {c : Expr} (hc : PT X c tA) (ha : PE X a ta) (hb : PE X b tb) : PE X (.IfExp c a b pos) (tIf tA ta tb) := by
  intro pins s σ H Q I h
  refine wpAny_IfExp (thn (hc pins s σ H _ I h) fun d s1 ⟨H1, I1, q1⟩ => ?_)
  cases d with
  | true => exact ha pins s1 σ H1 Q I1 q1
  | false => exact hb pins s1 σ H1 Q I1 q1
end
end L2

namespace L2
open PySem PySem.Spec PyProof.Rows

/-! ### a list, a tuple that is read: tracked, frozen, or an object of the module -/
def SqL (K : PySem.W.Frag) (H : Hp) (a : Addr) (xs : List V) : Prop :=
  Rd H a (.lst xs) ∨
    ∃ (o : Obj) (its : Array Value) (n : Nat), K.lookup a = some o ∧ o.cls = .type "list" ∧ o.dict = none ∧ o.data = .seq its n ∧ its.size ≤ sizeLine ∧ Vals xs its.toList
def SqT (K : PySem.W.Frag) (H : Hp) (a : Addr) (xs : List V) : Prop :=
  Rd H a (.tup xs) ∨
    ∃ (o : Obj) (its : Array Value) (n : Nat), K.lookup a = some o ∧ o.cls = .type "tuple" ∧ o.data = .seq its n ∧ its.size ≤ sizeLine ∧ Vals xs its.toList
def absV : Value → Option V
  | .none => some .non
  | .bool b => some (.bl b)
  | .int i _ => some (.int i)
  | .str x _ => some (.str x)
  | .bytes b _ => some (.byt b)
  | .float b _ => some (.flt b)
  | .ref a => some (.ref a)
  | .type n => some (.ty n)
  | _ => none
theorem RelV.abs {x : V} {u : Value} (r : RelV x u) : absV u = some x := by
  cases x with
  | non => cases r; rfl
  | bl _ => cases r; rfl
  | int _ => obtain ⟨t, rfl⟩ := r; rfl
  | str _ => obtain ⟨t, rfl⟩ := r; rfl
  | byt _ => obtain ⟨t, rfl⟩ := r; rfl
  | flt _ => obtain ⟨t, rfl⟩ := r; rfl
  | ref _ => cases r; rfl
  | ty _ => cases r; rfl
theorem RelV.inj {x y : V} {u : Value} (r : RelV x u) (q : RelV y u) : x = y := Option.some.inj (r.abs.symm.trans q.abs)
theorem Vals.inj : ∀ {xs ys : List V} {us : List Value}, Vals xs us → Vals ys us → xs = ys
  | _, _, _, .nil, .nil => rfl
  | _, _, _, .cons r t, .cons r' t' => by rw [r.inj r', Vals.inj t t']
section
variable {X : Cx} {pins : List (Addr × Obj)} {σ : St} {H : Hp} {s : Shared} {a : Addr} {xs ys : List V}
theorem SqL.of {K : PySem.W.Frag} (h : H a = some (.lst xs)) : SqL K H a xs := .inl (.inl h)
theorem SqT.of {K : PySem.W.Frag} (h : H a = some (.tup xs)) : SqT K H a xs := .inl (.inl h)
theorem Inv.list (I : Inv X pins σ H s) (h : SqL X.K H a xs) : ∃ its : List Value, Vals xs its ∧ PlainL s.heap a its.toArray ∧ xs.length ≤ sizeLine := by
  rcases h with h | ⟨o, its, n, hk, hc, hd, hs, hz, r⟩
  · obtain ⟨z, its, n, r, e⟩ := h.ok I.hok
    exact ⟨its, r, ⟨_, n, e, rfl, rfl, rfl⟩, z⟩
  · refine ⟨its.toList, r, ⟨o, n, I.kIn a o hk, hc, hd, by simpa using hs⟩, ?_⟩
    have e := r.length
    simp only [Array.length_toList] at e
    omega
theorem Inv.tuple (I : Inv X pins σ H s) (h : SqT X.K H a xs) : ∃ its : List Value, Vals xs its ∧ IsTup s.heap a its.toArray ∧ xs.length ≤ sizeLine := by
  rcases h with h | ⟨o, its, n, hk, hc, hs, hz, r⟩
  · obtain ⟨z, its, r, p⟩ := h.ok I.hok
    exact ⟨its, r, p, z⟩
  · refine ⟨its.toList, r, ⟨o, I.kIn a o hk, hc, n, by simpa using hs⟩, ?_⟩
    have e := r.length
    simp only [Array.length_toList] at e
    omega
theorem Inv.list_inj (I : Inv X pins σ H s) (h : SqL X.K H a xs) (h' : SqL X.K H a ys) : xs = ys := by
  obtain ⟨its, r, ⟨o, n, e, _, _, d⟩, _⟩ := I.list h
  obtain ⟨its', r', ⟨o', n', e', _, _, d'⟩, _⟩ := I.list h'
  rw [e] at e'; cases e'
  rw [d] at d'
  injection d' with d1 _
  have : its = its' := by simpa using congrArg Array.toList d1
  subst this
  exact r.inj r'
theorem Inv.tuple_inj (I : Inv X pins σ H s) (h : SqT X.K H a xs) (h' : SqT X.K H a ys) : xs = ys := by
  obtain ⟨its, r, ⟨o, e, _, n, d⟩, _⟩ := I.tuple h
  obtain ⟨its', r', ⟨o', e', _, n', d'⟩, _⟩ := I.tuple h'
  rw [e] at e'; cases e'
  rw [d] at d'
  injection d' with d1 _
  have : its = its' := by simpa using congrArg Array.toList d1
  subst this
  exact r.inj r'
end

/-! ### another wish about exceptions -/
abbrev Cx.wish (X : Cx) (E : Value → Shared → Prop) : Cx := { X with xe := E }
/-- no exception leaves -/
abbrev Cx.nox (X : Cx) : Cx := X.wish fun _ _ => False
theorem Cx.Ok.wish {X : Cx} (ok : X.Ok) (E : Value → Shared → Prop) : (X.wish E).Ok :=
  ⟨ok.mod, ok.kind, ok.glob, ok.blt, ok.above, ok.inj, ok.has, ok.cab, ok.hd, ok.frames, ok.stk, ok.exf, ok.bs, ok.bsz, ok.noex, ok.exfs, ok.funs, ok.frf⟩
theorem Cx.Ok.unwish {X : Cx} {E : Value → Shared → Prop} (ok : (X.wish E).Ok) : X.Ok :=
  ⟨ok.mod, ok.kind, ok.glob, ok.blt, ok.above, ok.inj, ok.has, ok.cab, ok.hd, ok.frames, ok.stk, ok.exf, ok.bs, ok.bsz, ok.noex, ok.exfs, ok.funs, ok.frf⟩
section
variable {X : Cx} {pins : List (Addr × Obj)} {σ : St} {H : Hp} {s : Shared} {E : Value → Shared → Prop}
theorem Inv.wish (I : Inv X pins σ H s) (E : Value → Shared → Prop) : Inv (X.wish E) pins σ H s := ⟨I.ok.wish E, I.os, I.bare, I.base, I.loc, I.cell, I.free, I.freeC, I.pin, I.hok, I.len⟩
theorem Inv.unwish (I : Inv (X.wish E) pins σ H s) : Inv X pins σ H s := ⟨I.ok.unwish, I.os, I.bare, I.base, I.loc, I.cell, I.free, I.freeC, I.pin, I.hok, I.len⟩
theorem SP.unwish {D : Ends} {f : Flow} {s' : Shared} (h : SP (X.wish E) pins D f s') : SP X pins D f s' := by
  cases f with
  | next => obtain ⟨σ', H', I, q⟩ := h; exact ⟨σ', H', I.unwish, q⟩
  | brk => obtain ⟨σ', H', I, q⟩ := h; exact ⟨σ', H', I.unwish, q⟩
  | cont => obtain ⟨σ', H', I, q⟩ := h; exact ⟨σ', H', I.unwish, q⟩
  | ret u => obtain ⟨v, σ', H', I, r, q⟩ := h; exact ⟨v, σ', H', I.unwish, r, q⟩
theorem PSs.nox {st : List Stmt} {t : TS} (h : PSs X.nox st t) : PSs X st t := fun pins s σ H D I hw =>
  wpAny_mono (h pins s σ H D (I.wish _) hw) (fun _ _ q => q.unwish) fun _ _ z => False.elim z
end

/-! ### blocks and small statements -/
section
variable {X : Cx} {st : Stmt} {rest : List Stmt} {t u : TS} {e : Expr} {te : TE} {pos : Pos}
def tNext : TS := fun D σ H => D.nx σ H
def tSeq (t u : TS) : TS := fun D σ H => t { D with nx := u D } σ H
theorem pss_nil : PSs X [] tNext := fun _ _ σ H _ I h => wpAny_execs_nil ⟨σ, H, I, h⟩
theorem pss_cons (h1 : PS X st t) (h2 : PSs X rest u) : PSs X (st :: rest) (tSeq t u) := by
  intro pins s σ H D I h
  refine wpAny_execs_cons (thn (h1 pins s σ H { D with nx := u D } I h) fun f s1 q => ?_)
  cases f with
  | next =>
    obtain ⟨σ', H', I', q⟩ := q
    exact h2 pins s1 σ' H' D I' q
  | ret v => exact q
  | brk => exact q
  | cont => exact q
theorem pss_one (h1 : PS X st t) : PSs X [st] t := by
  intro pins s σ H D I h
  refine wpAny_execs_cons (thn (h1 pins s σ H D I h) fun f s1 q => ?_)
  cases f with
  | next => exact wpAny_execs_nil q
  | ret v => exact q
  | brk => exact q
  | cont => exact q
/-- in a def's body nothing is shown -/
theorem Inv.quiet {pins : List (Addr × Obj)} {σ : St} {H : Hp} {s : Shared} (I : Inv X pins σ H s) : interactive X.env = false := by simp [interactive, I.ok.kind]
/-- an expression whose value is dropped -/
def tDrop (te : TE) : TS := fun D σ H => te σ H fun _ H1 => D.nx σ H1
theorem ps_expr (he : PE X e te) (hs : swapsWith e none pos.line X.env = pure false := by rfl) : PS X (.Expr e pos) (tDrop te) := by
  intro pins s σ H D I h
  exact wpAny_Expr_any (thn (he pins s σ H _ I h) fun v s1 ⟨x, H1, I1, r1, q1⟩ => ⟨σ, H1, I1, q1⟩) I.quiet hs
def tRet (te : TE) : TS := fun D σ H => te σ H D.rt
theorem ps_ret (he : PE X e te) : PS X (.Return (some e) pos) (tRet te) := by
  intro pins s σ H D I h
  exact wpAny_Return_some (thn (he pins s σ H _ I h) fun v s1 ⟨x, H1, I1, r1, q1⟩ => ⟨x, σ, H1, I1, r1, q1⟩)
def tIfS (c : TT) (t u : TS) : TS := fun D σ H => c σ H fun b H1 => if b = true then t D σ H1 else u D σ H1
theorem ps_if {c : Expr} {a b : List Stmt} {tc : TT} (hc : PT X c tc) (ha : PSs X a t) (hb : PSs X b u) : PS X (.If c a b pos) (tIfS tc t u) := by
  intro pins s σ H D I h
  refine wpAny_If (thn (hc pins s σ H _ I h) fun d s1 ⟨H1, I1, q1⟩ => ?_)
  cases d with
  | true => exact ha pins s1 σ H1 D I1 q1
  | false => exact hb pins s1 σ H1 D I1 q1
end

/-! ### targets -/
abbrev TG := V → St → Hp → (St → Hp → Prop) → Prop
abbrev TGs := List V → St → Hp → (St → Hp → Prop) → Prop
def PG (X : Cx) (target : Expr) (t : TG) : Prop :=
  ∀ (pins : List (Addr × Obj)) (s : Shared) (σ : St) (H : Hp) (v : V) (u : Value) (Q : St → Hp → Prop), Inv X pins σ H s → RelV v u → t v σ H Q →
    wpAny (model X.prog X.w) X.A (assign target X.env u) (fun _ s' => ∃ σ' H', Inv X pins σ' H' s' ∧ Q σ' H') X.xe s
/-- several targets, one after another -/
def PGs (X : Cx) (ts : List Expr) (t : TGs) : Prop :=
  ∀ (pins : List (Addr × Obj)) (s : Shared) (σ : St) (H : Hp) (vs : List V) (us : List Value) (Q : St → Hp → Prop), Inv X pins σ H s → Vals vs us → t vs σ H Q →
    wpAny (model X.prog X.w) X.A (assignInOrder ((assignEach ts X.env).map (·.2)) us) (fun _ s' => ∃ σ' H', Inv X pins σ' H' s' ∧ Q σ' H') X.xe s
/-- o[i] = v, by values -/
abbrev TSet := V → V → V → Hp → (Hp → Prop) → Prop
def PSet (X : Cx) (t : TSet) : Prop :=
  ∀ (pins : List (Addr × Obj)) (s : Shared) (σ : St) (H : Hp) (o i v : V) (ov iv u : Value) (Q : Hp → Prop), Inv X pins σ H s → RelV o ov → RelV i iv → RelV v u → t o i v H Q →
    wpAny (model X.prog X.w) X.A (setItem ov iv u) (fun _ s' => ∃ H', Inv X pins σ H' s' ∧ Q H') X.xe s
section
variable {X : Cx} {pos : Pos}
def gName (i : Nat) : TG := fun v σ H Q => Q (σ.set i (some v)) H
theorem pg_name {i : Nat} {x : Str} (hN : X.N.Nodup) (hi : X.N[i]? = some x) (hx : Loc X.env.scope x) (hf : X.fn x = true ∨ X.env.scope.names.lookup x = some .local := by first | exact .inl rfl | exact .inr rfl | assumption) : PG X (.Name x pos) (gName i) := by
  intro pins s σ H v u Q I r h
  exact wpAny_assign_Name (store_ok I hN hi hx r (fun s' I' => ⟨_, H, I', h⟩) hf)
def gNil : TGs := fun vs σ H Q => vs = [] ∧ Q σ H
def gCons (t : TG) (u : TGs) : TGs := fun vs σ H Q => ∃ v r, vs = v :: r ∧ t v σ H fun σ' H' => u r σ' H' Q
theorem pgs_nil : PGs X [] gNil := by
  intro pins s σ H vs us Q I r h
  obtain ⟨e, h⟩ := h
  subst e
  cases r
  exact assignInOrder_nil ⟨σ, H, I, h⟩
theorem pgs_cons {e : Expr} {es : List Expr} {t : TG} {u : TGs} (h1 : PG X e t) (h2 : PGs X es u)
    (hs : (assignEach (e :: es) X.env).map (·.2) = assign e X.env :: (assignEach es X.env).map (·.2) := by rfl) : PGs X (e :: es) (gCons t u) := by
  intro pins s σ H vs us Q I r h
  obtain ⟨v, vr, e1, h⟩ := h
  subst e1
  cases r with
  | cons r rr =>
    rw [hs]
    refine assignInOrder_cons (thn (h1 pins s σ H _ _ _ I r h) fun _ s1 ⟨σ1, H1, I1, q1⟩ => ?_)
    exact h2 pins s1 σ1 H1 _ _ Q I1 rr q1
/-- (a, b, ..) = a tuple of that length -/
def gTup (K : PySem.W.Frag) (n : Nat) (t : TGs) : TG := fun v σ H Q => ∃ a xs, v = .ref a ∧ SqT K H a xs ∧ xs.length = n ∧ t xs σ H Q
theorem pg_tup {es : List Expr} {k : Nat} {t : TGs} {n : Nat} (hc : X.calm = true) (h : PGs X es t)
    (hn : (assignEach es X.env).length = n := by rfl) (hst : (assignEach es X.env).findIdx? (·.1) = none := by rfl) : PG X (.Tuple es k pos) (gTup X.K n t) := by
  intro pins s σ H v u Q I r hw
  obtain ⟨a, xs, e1, hq, hl, hw⟩ := hw
  subst e1
  cases r
  obtain ⟨its, rv, ht, hz⟩ := I.tuple hq
  refine assign_Tuple_tuple (I.ok.hd hc) ht (by simp [hn, ← hl, rv.length]) hst fun h' hx => ?_
  have I1 : Inv X pins σ H { s with heap := h' } := I.kept (t' := s.toks) fun b o e => hx b o (Nat.ne_of_lt (Heap.lt_size e)) e
  exact h pins _ σ H xs _ Q I1 (by simpa using rv) hw
/-- o[i] = .. -/
def gSub (to ti : TE) (t : TSet) : TG := fun v σ H Q => to σ H fun o H1 => ti σ H1 fun i H2 => t o i v H2 fun H3 => Q σ H3
theorem pg_sub {o i : Expr} {to ti : TE} {t : TSet} (ho : PE X o to) (hi : PE X i ti) (hs : PSet X t)
    (ha : ∀ v, assign (.Subscript o i pos) X.env v = (do
      let ov ← holding [v] (eval o X.env)
      let iv ← holding [v, ov] (eval i X.env)
      standAt pos
      holding [v, ov, iv] (setItem ov iv v)
      release [v, ov, iv] []) := by intro _; rfl) : PG X (.Subscript o i pos) (gSub to ti t) := by
  intro pins s σ H v u Q I r h
  rw [ha]
  refine wpAny_bind (wpAny_holding (thn (ho pins s σ H _ I h) fun ov s1 ⟨x, H1, I1, r1, q1⟩ => ?_))
  refine wpAny_bind (wpAny_holding (thn (hi pins s1 σ H1 _ I1 q1) fun iv s2 ⟨y, H2, I2, r2, q2⟩ => ?_))
  refine wpAny_bind (wpAny_standAt (wpAny_bind (wpAny_holding (thn (hs pins s2 σ H2 x y v ov iv u _ I2 r1 r2 r q2) fun _ s3 ⟨H3, I3, q3⟩ => ?_))))
  exact wpAny_release ⟨σ, H3, I3, q3⟩
/-- target = value -/
def tAsg (te : TE) (g : TG) : TS := fun D σ H => te σ H fun x H1 => g x σ H1 D.nx
theorem ps_asg {tg e : Expr} {te : TE} {g : TG} (he : PE X e te) (hg : PG X tg g) (hs : swapsWithSole [tg] e pos.line X.env = pure false := by rfl) (hw : swappedStores [tg] e X.env = pure none := by rfl)
    (h1 : (assignEach [tg] X.env).map (·.2) = [assign tg X.env] := by rfl) : PS X (.Assign [tg] e pos) (tAsg te g) := by
  intro pins s σ H D I h
  refine wpAny_Assign_stores (thn (he pins s σ H _ I h) fun v s1 ⟨x, H1, I1, r1, q1⟩ => ?_) hs hw
  rw [h1]
  exact thn (hg pins s1 σ H1 x v _ I1 r1 q1) fun _ s2 q => q
/-- name = value -/
theorem ps_set {i : Nat} {x : Str} {e : Expr} {te : TE} {pos' : Pos} (hN : X.N.Nodup) (hi : X.N[i]? = some x) (hx : Loc X.env.scope x) (he : PE X e te) (hs : swapsWith e (some (.Name x pos')) pos.line X.env = pure false := by rfl) (hf : X.fn x = true ∨ X.env.scope.names.lookup x = some .local := by first | exact .inl rfl | exact .inr rfl | assumption) :
    PS X (.Assign [.Name x pos'] e pos) (tAsg te (gName i)) := by
  intro pins s σ H D I h
  refine wpAny_Assign_Name (thn (he pins s σ H _ I h) fun v s1 ⟨y, H1, I1, r1, q1⟩ => ?_) hs
  exact store_ok I1 hN hi hx r1 (fun s2 I2 => ⟨_, H1, I2, q1⟩) hf
/-- a, b = x, y with plain local names: stored from the right; the pair itself is not tracked (the opening rows as in PyProof/Rows/TupAssign.lean:23) -/
def tPar (i j : Nat) (ta : TA) : TS := fun D σ H => ta σ H fun vs H1 => ∃ v w, vs = [v, w] ∧ D.nx ((σ.set i (some v)).set j (some w)) H1
theorem ps_par {i j : Nat} {x y : Str} {a b : Expr} {ta : TA} {px py pt : Pos} {kt k2 pt2} (hc : X.calm = true) (hN : X.N.Nodup) (hi : X.N[i]? = some x) (hj : X.N[j]? = some y) (hij : i ≠ j)
    (hx : X.env.scope.names.lookup x = some .local) (hy : X.env.scope.names.lookup y = some .local) (ha : PA X [a, b] ta)
    (hw : swappedStores [.Tuple [.Name x px, .Name y py] kt pt] (.Tuple [a, b] k2 pt2) X.env = pure (some [x, y]))
    (hs : swapsWithSole [.Tuple [.Name x px, .Name y py] kt pt] (.Tuple [a, b] k2 pt2) pos.line X.env = pure false := by rfl) :
    PS X (.Assign [.Tuple [.Name x px, .Name y py] kt pt] (.Tuple [a, b] k2 pt2) pos) (tPar i j ta) := by
  intro pins s σ H D I h
  rw [exec_Assign_arm]
  refine wpAny_bind (wpAny_standAt ?_)
  rw [hs]
  refine wpAny_bind (wpAny_pure ?_)
  rw [if_neg (by decide)]
  refine wpAny_bind (Tuple_ (thn (ha _ pins s σ H _ I h) fun us s1 ⟨vs, H1, I1, r1, q1⟩ => ?_))
  obtain ⟨v, w, e1, q1⟩ := q1
  subst e1
  obtain ⟨u1, u2, rfl, rv, rw'⟩ : ∃ u1 u2, us = [u1, u2] ∧ RelV v u1 ∧ RelV w u2 := by
    cases r1 with
    | cons p q =>
      cases q with
      | cons p' q' =>
        cases q'
        exact ⟨_, _, rfl, p, p'⟩
  refine wpAny_newObj_type ?_ (by show 2 ≤ sizeLine; decide)
  have I2 : Inv X pins σ H1 { s1 with heap := s1.heap.push { cls := .type "tuple", data := .seq [u1, u2].toArray } } := I1.kept (t' := s1.toks) fun b o e => Heap.get?_push_of_some _ e
  rw [hw]
  refine wpAny_bind (wpAny_pure ?_)
  show wpAny (model X.prog X.w) X.A (do rule "assign.swapped-stores"; let items ← unpackItems (.ref s1.heap.objs.size) 2 none; assignInOrder [fun v => bindName X.env y v, fun v => bindName X.env x v] items.reverse; pure Flow.next) _ _ _
  refine wpAny_bind (wpAny_rule (wpAny_bind (unpackItems_tuple (items := #[u1, u2]) (I.ok.hd hc) (IsTup.new s1.heap _) fun h' hx' => ?_)))
  have I3 := I2.kept (h' := h') (t' := s1.toks) fun b o e => hx' b o (Nat.ne_of_lt (Heap.lt_size e)) e
  show wpAny _ _ (assignInOrder [fun v => bindName X.env y v, fun v => bindName X.env x v] [u2, u1] >>= fun _ => pure Flow.next) _ _ _
  refine wpAny_bind (assignInOrder_cons (wpAny_bindName (store_ok I3 hN hj (.inl hy) rw' (fun s2 I4 => ?_) (.inr hy))))
  refine assignInOrder_cons (wpAny_bindName (store_ok I4 hN hi (.inl hx) rv (fun s3 I5 => assignInOrder_nil (wpAny_pure ?_)) (.inr hx)))
  rw [List.set_comm _ _ (Ne.symm hij)] at I5
  exact ⟨_, H1, I5, q1⟩
end

/-! ### while -/
section
variable {X : Cx} {pos : Pos}
/-- the invariant W with its measure -/
def tWhile (c : TT) (tb : TS) : TS := fun D σ H => ∃ W : Nat → St → Hp → Prop, (∃ m, W m σ H) ∧ ∀ m σ H, W m σ H →
  c σ H fun b H1 => if b = true then ∃ N : St → Hp → Prop, (∀ σ' H', N σ' H' → ∃ m', m' < m ∧ W m' σ' H') ∧ tb { D with nx := N, ct := N, bk := D.nx } σ H1 else D.nx σ H1
theorem ps_while {c : Expr} {body : List Stmt} {tc : TT} {tb : TS} (hp : PassesOwn (model X.prog X.w) X.A X.env X.xe) (hc : PT X c tc) (hb : PSs X body tb) : PS X (.While c body [] pos) (tWhile tc tb) := by
  intro pins s σ H D I h
  obtain ⟨W, ⟨m0, w0⟩, turn⟩ := h
  refine wpAny_While (codeAny_whileLoop (fun n s' => ∃ σ' H', Inv X pins σ' H' s' ∧ W n σ' H') ?_ m0 ⟨σ, H, I, w0⟩)
  rintro n s1 ⟨σ1, H1, I1, w1⟩
  refine wpAny_passesOwn hp (thn (hc pins s1 σ1 H1 _ I1 (turn n σ1 H1 w1)) fun b s2 ⟨H2, I2, q2⟩ => ?_)
  cases b with
  | true =>
    obtain ⟨N, hN, q2⟩ := q2
    rw [if_pos rfl]
    refine wpAny_passesOwn hp (thn (hb pins s2 σ1 H2 _ I2 q2) fun f s3 q3 => ?_)
    cases f with
    | next =>
      obtain ⟨σ3, H3, I3, n3⟩ := q3
      obtain ⟨m', hm, w3⟩ := hN σ3 H3 n3
      exact ⟨m', hm, σ3, H3, I3, w3⟩
    | cont =>
      obtain ⟨σ3, H3, I3, n3⟩ := q3
      obtain ⟨m', hm, w3⟩ := hN σ3 H3 n3
      exact ⟨m', hm, σ3, H3, I3, w3⟩
    | brk => exact q3
    | ret v => exact q3
  | false =>
    rw [if_neg Bool.false_ne_true]
    exact wpAny_execs_nil ⟨σ1, H2, I2, q2⟩
end

/-! ### what a loop or a comprehension walks -/
/-- at turn i: it yields x (the heap may grow), or it stops -/
structure It where
  go : Nat → Hp → Prop
  yld : Nat → Hp → V → Hp → Prop
  stop : Nat → Hp → Prop
/-- the iterator's own objects may turn: they are not the frame's, not pinned, younger than the entry (or a comprehension's own) -/
def FpOk (X : Cx) (pins : List (Addr × Obj)) (H : Hp) (b : Addr) : Prop :=
  H b = none ∧ b ≠ X.env.locals ∧ b ∉ X.fs ∧ (b ∈ X.ex ∨ X.s₀.heap.objs.size ≤ b) ∧ (∀ x c, X.env.cells.lookup x = some c → c ≠ b) ∧ ∀ p ∈ X.pn ++ pins, p.1 ≠ b
theorem Inv.fpOk {X : Cx} {pins : List (Addr × Obj)} {σ : St} {H H' : Hp} {s : Shared} {b : Addr} (I : Inv X pins σ H s) (hb : s.heap.objs.size ≤ b) (hn : H' b = none) : FpOk X pins H' b := by
  refine ⟨hn, Nat.ne_of_gt (Nat.lt_of_lt_of_le I.lt hb), I.nofs hb, .inr (Nat.le_trans I.sz hb), fun x c e z => ?_, fun p hp z => ?_⟩
  · obtain ⟨v, q⟩ := I.cell x c e
    exact absurd (Nat.lt_of_lt_of_le q.lt (by rw [z]; exact hb)) (Nat.lt_irrefl _)
  · exact absurd (Nat.lt_of_lt_of_le (Heap.lt_size (I.pin p hp).1) (by rw [z]; exact hb)) (Nat.lt_irrefl _)
structure Turn (P : Program) (w : World) (K : PySem.W.Frag) (tg : Expr) (J : It) (fp : List Addr) (it : Addr) (tn : Nat → Heap → Prop) : Prop where
  mem : it ∈ fp
  obj : ∀ i h, tn i h → ∀ b ∈ fp, ∃ o, h.get? b = some o ∧ ∀ v, o.data ≠ .cell v
  keep : ∀ i h h', tn i h → (∀ b ∈ fp, ∀ o, h.get? b = some o → h'.get? b = some o) → tn i h'
  item : ∀ (X : Cx), X.prog = P → X.w = w → X.K = K → X.calm = true → ∀ (i : Nat) (pins : List (Addr × Obj)) (s : Shared) (σ : St) (H : Hp) (E : Value → Shared → Prop), Inv X pins σ H s → (∀ b ∈ fp, FpOk X pins H b) → tn i s.heap → J.go i H →
    wpAny (model P w) X.A (pyNext (.ref it)) (fun r s1 => ∃ u, r = some u ∧
      wpAny (model P w) X.A (letOwnedTupleGo tg (.ref it) u) (fun _ s2 => ∃ x H', Inv X pins σ H' s2 ∧ RelV x u ∧ J.yld i H x H' ∧ tn (i + 1) s2.heap ∧ ∀ b ∈ fp, H' b = none) E s1) E s
  done : ∀ (X : Cx), X.prog = P → X.w = w → X.K = K → X.calm = true → ∀ (i : Nat) (pins : List (Addr × Obj)) (s : Shared) (σ : St) (H : Hp) (E : Value → Shared → Prop), Inv X pins σ H s → (∀ b ∈ fp, FpOk X pins H b) → tn i s.heap → J.stop i H →
    wpAny (model P w) X.A (pyNext (.ref it)) (fun r s1 => r = none ∧ Inv X pins σ H s1) E s
  self : ∀ (A : Around) (i : Nat) (s : Shared) (Q : Value → Shared → Prop) (E : Value → Shared → Prop), tn i s.heap → Q (.ref it) s → wpAny (model P w) A (pyIter (.ref it)) Q E s
abbrev TI := St → Hp → (It → Hp → Prop) → Prop
/-- an iterator has come -/
def PIE (X : Cx) (pins : List (Addr × Obj)) (σ : St) (tg : Expr) (R : It → Hp → Prop) (itv : Value) (s2 : Shared) : Prop :=
  ∃ (it : Addr) (fp : List Addr) (tn : Nat → Heap → Prop) (J : It) (H' : Hp), itv = .ref it ∧ Inv X pins σ H' s2 ∧ Turn X.prog X.w X.K tg J fp it tn ∧ tn 0 s2.heap ∧ (∀ b ∈ fp, FpOk X pins H' b) ∧ R J H'
def PI (X : Cx) (tg iter : Expr) (wi : TI) : Prop :=
  ∀ (pins : List (Addr × Obj)) (s : Shared) (σ : St) (H : Hp) (R : It → Hp → Prop), Inv X pins σ H s → wi σ H R →
    wpAny (model X.prog X.w) X.A (eval iter X.env) (fun v s1 => wpAny (model X.prog X.w) X.A (pyIter v) (PIE X pins σ tg R) X.xe s1) X.xe s

/-- the step ahead of the store is nothing for an iterator that keeps no tuple -/
theorem go_of {M : Model} {A : Around} {E : Value → Shared → Prop} {s : Shared} {tg : Expr} {it : Addr} {u : Value} {o : Obj} {n : String} {vs : Array Value} {Q : Unit → Shared → Prop} (ho : s.heap.get? it = some o) (hc : o.cls = .type n) (hd : o.data = .fields vs)
    (hn : ["enumerate", "zip", "dict_itemiterator", "dict_reverseitemiterator", "odict_iterator", "itertools.zip_longest", "itertools.pairwise"].contains n = false) (hQ : Q () s) : wpAny M A (letOwnedTupleGo tg (.ref it) u) Q E s := by
  unfold letOwnedTupleGo
  cases tg <;> first
    | exact wpAny_pure hQ
    | (cases u <;> first
        | exact wpAny_pure hQ
        | (refine wpAny_bind (wpAny_load ho ?_)
           rw [hc, hd]
           show wpAny M A (if (["enumerate", "zip", "dict_itemiterator", "dict_reverseitemiterator", "odict_iterator", "itertools.zip_longest", "itertools.pairwise"].contains n && vs[0]? == some (rawInt _)) = true then _ else _) Q E s
           rw [if_neg (by intro h; rw [hn, Bool.false_and] at h; cases h)]
           exact wpAny_pure hQ))

/-- the list at a, as it stands at each turn (a loop may append to it) -/
def Itl (K : PySem.W.Frag) (a : Addr) : It :=
  ⟨fun i H => ∃ xs x, SqL K H a xs ∧ xs[i]? = some x, fun i H x H' => H' = H ∧ ∀ xs, SqL K H a xs → xs[i]? = some x, fun i H => ∃ xs, SqL K H a xs ∧ xs.length ≤ i⟩
def Itt (K : PySem.W.Frag) (a : Addr) : It :=
  ⟨fun i H => ∃ xs x, SqT K H a xs ∧ xs[i]? = some x, fun i H x H' => H' = H ∧ ∀ xs, SqT K H a xs → xs[i]? = some x, fun i H => ∃ xs, SqT K H a xs ∧ xs.length ≤ i⟩
/-- lo, lo + 1, .. (n of them) -/
def Itr (lo : Int) (n : Nat) : It := ⟨fun i _ => i < n, fun i H x H' => H' = H ∧ x = .int (lo + i), fun i _ => n ≤ i⟩
theorem turn_list {P : Program} {w : World} {K : PySem.W.Frag} {tg : Expr} (a it : Addr) : Turn P w K tg (Itl K a) [it] it (fun i h => h.IsListIter it a i) where
  mem := by simp
  obj := fun i h st b hb => by
    have e : b = it := by simpa using hb
    subst e
    obtain ⟨o, e, c, d⟩ := st
    exact ⟨o, e, fun v z => by rw [d] at z; cases z⟩
  keep := fun i h h' st k => st.at fun o e => k it (by simp) o e
  item := by
    intro X hP hw hK hc i pins s σ H E I hf st hg
    subst hP hw hK
    obtain ⟨xs, x, hq, hx⟩ := hg
    obtain ⟨its, rv, p, hz⟩ := I.list hq
    obtain ⟨u, hu, ru⟩ := rv.get hx
    obtain ⟨f0, f1, f2, f3, f4, f5⟩ := hf it (by simp)
    refine wpAny_pyNext_list_item st p.isList (x := u) (by simpa using hu) fun h' st' sb => ?_
    have I1 : Inv X pins σ H { s with heap := h' } := I.turned (t' := s.toks) (fun b o hb e => (sb.2 b hb).trans e) f0 f1 f3 f4 f5
    obtain ⟨o, e, c, d⟩ := id st'
    exact ⟨u, rfl, go_of (s := { s with heap := h' }) e c d (by decide) ⟨x, H, I1, ru, ⟨rfl, fun ys hy => by rw [I.list_inj hy hq]; exact hx⟩, st', fun b hb => (hf b hb).1⟩⟩
  done := by
    intro X hP hw hK hc i pins s σ H E I hf st hg
    subst hP hw hK
    obtain ⟨xs, hq, hx⟩ := hg
    obtain ⟨its, rv, p, hz⟩ := I.list hq
    obtain ⟨f0, f1, f2, f3, f4, f5⟩ := hf it (by simp)
    have hl := rv.length
    exact wpAny_pyNext_list_end (I.ok.hd hc) st p.isList (by simp; omega) fun h' eb => ⟨rfl, I.turned (t' := s.toks) (fun b o hb e => eb b o hb e) f0 f1 f3 f4 f5⟩
  self := fun _ _ _ _ _ st h => wpAny_pyIter_listiter st h
theorem turn_tuple {P : Program} {w : World} {K : PySem.W.Frag} {tg : Expr} (a it : Addr) : Turn P w K tg (Itt K a) [it] it (fun i h => h.IsTupleIter it a i) where
  mem := by simp
  obj := fun i h st b hb => by
    have e : b = it := by simpa using hb
    subst e
    obtain ⟨o, e, c, d⟩ := st
    exact ⟨o, e, fun v z => by rw [d] at z; cases z⟩
  keep := fun i h h' st k => st.at fun o e => k it (by simp) o e
  item := by
    intro X hP hw hK hc i pins s σ H E I hf st hg
    subst hP hw hK
    obtain ⟨xs, x, hq, hx⟩ := hg
    obtain ⟨its, rv, p, hz⟩ := I.tuple hq
    obtain ⟨u, hu, ru⟩ := rv.get hx
    obtain ⟨f0, f1, f2, f3, f4, f5⟩ := hf it (by simp)
    refine wpAny_pyNext_tuple_item st (show s.heap.IsTuple a its.toArray from p) (x := u) (by simpa using hu) fun h' st' sb => ?_
    have I1 : Inv X pins σ H { s with heap := h' } := I.turned (t' := s.toks) (fun b o hb e => (sb.2 b hb).trans e) f0 f1 f3 f4 f5
    obtain ⟨o, e, c, d⟩ := id st'
    exact ⟨u, rfl, go_of (s := { s with heap := h' }) e c d (by decide) ⟨x, H, I1, ru, ⟨rfl, fun ys hy => by rw [I.tuple_inj hy hq]; exact hx⟩, st', fun b hb => (hf b hb).1⟩⟩
  done := by
    intro X hP hw hK hc i pins s σ H E I hf st hg
    subst hP hw hK
    obtain ⟨xs, hq, hx⟩ := hg
    obtain ⟨its, rv, p, hz⟩ := I.tuple hq
    obtain ⟨f0, f1, f2, f3, f4, f5⟩ := hf it (by simp)
    have hl := rv.length
    exact wpAny_pyNext_tuple_end (I.ok.hd hc) st (show s.heap.IsTuple a its.toArray from p) (by simp; omega) fun h' eb => ⟨rfl, I.turned (t' := s.toks) (fun b o hb e => eb b o hb e) f0 f1 f3 f4 f5⟩
  self := fun _ _ _ _ _ st h => wpAny_pyIter_tupleiter st h
theorem turn_range {P : Program} {w : World} {K : PySem.W.Frag} {tg : Expr} (it : Addr) (lo : Int) (n : Nat) : Turn P w K tg (Itr lo n) [it] it (fun i h => IsRangeIter h it (lo + (i : Nat) * 1) ((n : Int) - (i : Nat)) 1) where
  mem := by simp
  obj := fun i h st b hb => by
    have e : b = it := by simpa using hb
    subst e
    exact ⟨_, st, fun v z => by
      have z' : Data.fields _ = Data.cell v := z
      cases z'⟩
  keep := fun i h h' st k => k it (by simp) _ st
  item := by
    intro X hP hw hK hc i pins s σ H E I hf st hg
    subst hP hw hK
    obtain ⟨f0, f1, f2, f3, f4, f5⟩ := hf it (by simp)
    have W := Walks.range (prog := X.prog) (w := X.w) (I.ok.hd hc) it lo 1 n
    refine W.item i s _ _ hg st fun v h' tk hv st' kk => ?_
    obtain ⟨t, rfl⟩ := hv
    have I1 : Inv X pins σ H { s with heap := h', toks := tk } := I.turned (fun b o hb e => kk b o (by simpa using hb) e) f0 f1 f3 f4 f5
    refine ⟨_, rfl, go_of (s := { s with heap := h', toks := tk }) (n := "range_iterator") st' rfl rfl (by decide) ⟨.int (lo + i), H, I1, ⟨t, ?_⟩, ⟨rfl, rfl⟩, st', fun b hb => (hf b hb).1⟩⟩
    rw [Int.mul_one]
  done := by
    intro X hP hw hK hc i pins s σ H E I hf st hg
    subst hP hw hK
    obtain ⟨f0, f1, f2, f3, f4, f5⟩ := hf it (by simp)
    exact wpAny_pyNext_range_end (I.ok.hd hc) st (by have : n ≤ i := hg; omega) fun h' eb => ⟨rfl, I.turned (t' := s.toks) (fun b o hb e => eb b o hb e) f0 f1 f3 f4 f5⟩
  self := fun _ _ _ _ _ st h => wpAny_pyIter_rangeiter st h
end L2

namespace L2
open PySem PySem.Spec PyProof.Rows
section
variable {X : Cx} {tg : Expr}
/-- a range object just made, walked -/
theorem range_it {pins : List (Addr × Obj)} {σ : St} {H : Hp} {s : Shared} {R : It → Hp → Prop} {E : Value → Shared → Prop} {lo hi : Int} {t u v : Tok} {tk : Nat} (I : Inv X pins σ H s) (h1 : -(2 ^ 62) ≤ lo) (h2 : lo < 2 ^ 62) (h3 : -(2 ^ 62) ≤ hi) (h4 : hi < 2 ^ 62)
    (q : R (Itr lo (hi - lo).toNat) H) : wpAny (model X.prog X.w) X.A (pyIter (.ref s.heap.objs.size)) (PIE X pins σ tg R) E { s with heap := s.heap.push { cls := .type "range", data := .fields #[.int lo t, .int hi u, .int 1 v] }, toks := tk } := by
  refine wpAny_pyIter_range (IsRange.new ..) (small_one h1 h2 h3 h4) ?_
  have I1 : Inv X pins σ H { s with heap := s.heap.push { cls := .type "range", data := .fields #[.int lo t, .int hi u, .int 1 v] }, toks := tk } := I.kept fun b o e => Heap.get?_push_of_some _ e
  refine ⟨(s.heap.push { cls := .type "range", data := .fields #[.int lo t, .int hi u, .int 1 v] }).objs.size, [(s.heap.push { cls := .type "range", data := .fields #[.int lo t, .int hi u, .int 1 v] }).objs.size], _, _, H, rfl,
    I1.kept (t' := tk) fun b o e => Heap.get?_push_of_some _ e, turn_range _ lo (hi - lo).toNat, ?_, fun b hb => ?_, q⟩
  · have e1 : lo + ((0 : Nat) : Int) * 1 = lo := by simp
    have e2 : (((hi - lo).toNat : Nat) : Int) - ((0 : Nat) : Int) = Builtin.Range.rangeSize lo hi 1 := by rw [rangeSize_one]; split <;> omega
    show IsRangeIter _ _ (lo + ((0 : Nat) : Int) * 1) ((((hi - lo).toNat : Nat) : Int) - ((0 : Nat) : Int)) 1
    rw [e1, e2]
    exact Heap.get?_push_size _ rfl
  · have e : b = (s.heap.push { cls := .type "range", data := .fields #[.int lo t, .int hi u, .int 1 v] }).objs.size := by simpa using hb
    subst e
    exact I1.fpOk (Nat.le_refl _) (I1.hok.fresh (Nat.le_refl _))
def iRng1 (ta : TA) : TI := fun σ H R => ta σ H fun vs H1 => ∃ j : Int, vs = [.int j] ∧ -(2 ^ 62) ≤ j ∧ j < 2 ^ 62 ∧ R (Itr 0 j.toNat) H1
theorem pi_range1 {a : Expr} {ta : TA} {p pos : Pos} (hg : Gl X "range") (hm : X.mg "range" = none) (ha : PA X [a] ta) (hs : starEach [a] X.env = [(false, eval a X.env)] := by rfl) : PI X tg (.Call (.Name "range" p) [a] [] pos) (iRng1 ta) := by
  intro pins s σ H R I h
  refine Call_ (ld_blt I hg hm boot_range (PyProof.Rows.callWith_type1 (thn (ha pos pins s σ H _ I h) fun us s1 ⟨vs, H1, I1, r1, q1⟩ => ?_) hs rfl))
  obtain ⟨j, e, q1, q2, q⟩ := q1
  subst e
  cases r1 with
  | cons r rr =>
    cases rr
    obtain ⟨t, rfl⟩ := r
    exact call_range_1 (range_it I1 (by omega) (by omega) q1 q2 (by simpa using q))
/-! ### for -/
/-- W: the invariant by the turn and a measure; N: what the body is to reach -/
def tFor (wi : TI) (g : TG) (tb : TS) : TS := fun D σ H => wi σ H fun J H1 => ∃ W : Nat → Nat → St → Hp → Prop, (∃ m, W 0 m σ H1) ∧ ∀ i m σ H, W i m σ H →
  (J.stop i H ∧ D.nx σ H) ∨ (J.go i H ∧ ∃ N : St → Hp → Prop, (∀ σ' H', N σ' H' → ∃ m', m' < m ∧ W (i + 1) m' σ' H') ∧ ∀ x H', J.yld i H x H' → g x σ H' fun σ2 H2 => tb { D with nx := N, ct := N, bk := D.nx } σ2 H2)
/-- the records at fp as they stand -/
def pinsAt (fp : List Addr) (h : Heap) : List (Addr × Obj) := fp.filterMap fun b => (h.get? b).map fun o => (b, o)
theorem mem_pinsAt {fp : List Addr} {h : Heap} {b : Addr} {o : Obj} (hb : b ∈ fp) (e : h.get? b = some o) : (b, o) ∈ pinsAt fp h := List.mem_filterMap.mpr ⟨b, hb, by rw [e]; rfl⟩
theorem of_pinsAt {fp : List Addr} {h : Heap} {p : Addr × Obj} (hp : p ∈ pinsAt fp h) : p.1 ∈ fp ∧ h.get? p.1 = some p.2 := by
  obtain ⟨b, hb, e⟩ := List.mem_filterMap.mp hp
  cases q : h.get? b with
  | none => rw [q] at e; cases e
  | some o =>
    rw [q] at e
    have e' : (b, o) = p := Option.some.inj e
    subst e'
    exact ⟨hb, q⟩
theorem Inv.pinned {pins : List (Addr × Obj)} {σ : St} {H : Hp} {s : Shared} {fp : List Addr} (I : Inv X pins σ H s) (hf : ∀ b ∈ fp, FpOk X pins H b) (ho : ∀ b ∈ fp, ∃ o, s.heap.get? b = some o ∧ ∀ v, o.data ≠ .cell v) : Inv X (pins ++ pinsAt fp s.heap) σ H s :=
  I.pins_of fun p hp => (List.mem_append.mp hp).elim (fun z => I.pin p (List.mem_append_right _ z)) fun z => by
    obtain ⟨hb, e⟩ := of_pinsAt z
    obtain ⟨f0, f1, f2, _⟩ := hf p.1 hb
    obtain ⟨o, e', d⟩ := ho p.1 hb
    rw [e] at e'; cases e'
    exact ⟨e, f0, f1, f2, d⟩
theorem Inv.unpinned {pins pl : List (Addr × Obj)} {σ : St} {H : Hp} {s : Shared} (I : Inv X (pins ++ pl) σ H s) : Inv X pins σ H s := I.pins_of fun p hp => I.pin p (List.mem_append_right _ (List.mem_append_left _ hp))
theorem ps_for {iter : Expr} {body : List Stmt} {wi : TI} {g : TG} {tb : TS} {pos : Pos} (hp : PassesOwn (model X.prog X.w) X.A X.env X.xe) (hc : X.calm = true) (hi : PI X tg iter wi) (hg : PG X tg g) (hb : PSs X body tb)
    (hs : ∀ x, foldedSetIterable iter X.env x = pure x := by intro _; rfl) : PS X (.For tg iter body [] pos) (tFor wi g tb) := by
  intro pins s σ H D I h
  refine wpAny_For (thn (hi pins s σ H _ I h) fun v s1 h1 => thn h1 fun itv s2 h2 => ?_) hs
  obtain ⟨it, fp, tn, J, H2, e, I2, T, st2, f2, W, ⟨m0, w0⟩, turn⟩ := h2
  subst e
  -- what stays true of the iterator's objects through the loop
  have stat : ∀ {H' : Hp}, (∀ b ∈ fp, H' b = none) → ∀ b ∈ fp, FpOk X pins H' b := fun hn b hb => ⟨hn b hb, (f2 b hb).2⟩
  refine codeAny_forLoop_any (fun n s' => ∃ i σ' H', Inv X pins σ' H' s' ∧ tn i s'.heap ∧ (∀ b ∈ fp, H' b = none) ∧ W i n σ' H') ?_ m0 ⟨0, σ, H2, I2, st2, fun b hb => (f2 b hb).1, w0⟩
  rintro n s3 ⟨i, σ3, H3, I3, st3, fr3, w3⟩
  rcases turn i n σ3 H3 w3 with ⟨stop, qn⟩ | ⟨go, N, hN, step⟩
  · refine wpAny_passesOwn hp (thn (T.done X rfl rfl rfl hc i pins s3 σ3 H3 X.xe I3 (stat fr3) st3 stop) fun r s4 ⟨hr, I4⟩ => ?_)
    subst hr
    exact wpAny_execs_nil ⟨σ3, H3, I4, qn⟩
  · refine wpAny_passesOwn hp (thn (T.item X rfl rfl rfl hc i pins s3 σ3 H3 X.xe I3 (stat fr3) st3 go) fun r s4 ⟨u, hr, h4⟩ => ?_)
    subst hr
    refine wpAny_passesOwn hp (thn h4 fun _ s5 ⟨x, H5, I5, r5, y5, st5, fr5⟩ => ?_)
    have I5' := I5.pinned (stat fr5) (T.obj _ _ st5)
    refine wpAny_passesOwn hp (thn (hg _ s5 σ3 H5 x u _ I5' r5 (step x H5 y5)) fun _ s6 ⟨σ6, H6, I6, q6⟩ => ?_)
    refine wpAny_passesOwn hp (thn (hb _ s6 σ6 H6 _ I6 q6) fun f s7 q7 => ?_)
    have again : ∀ {σ7 : St} {H7 : Hp}, Inv X (pins ++ pinsAt fp s5.heap) σ7 H7 s7 → N σ7 H7 → ∃ m, m < n ∧ ∃ i σ' H', Inv X pins σ' H' s7 ∧ tn i s7.heap ∧ (∀ b ∈ fp, H' b = none) ∧ W i m σ' H' := fun {σ7 H7} I7 n7 => by
      obtain ⟨m', hm, w7⟩ := hN σ7 H7 n7
      refine ⟨m', hm, i + 1, σ7, H7, I7.unpinned, T.keep _ _ _ st5 fun b hb o e => (I7.pin (b, o) (List.mem_append_right _ (List.mem_append_right _ (mem_pinsAt hb e)))).1, fun b hb => ?_, w7⟩
      obtain ⟨o, e, d⟩ := T.obj _ _ st5 b hb
      exact (I7.pin (b, o) (List.mem_append_right _ (List.mem_append_right _ (mem_pinsAt hb e)))).2.1
    cases f with
    | next => obtain ⟨σ7, H7, I7, n7⟩ := q7; exact again I7 n7
    | cont => obtain ⟨σ7, H7, I7, n7⟩ := q7; exact again I7 n7
    | brk => obtain ⟨σ7, H7, I7, q7⟩ := q7; exact ⟨σ7, H7, I7.unpinned, q7⟩
    | ret v => obtain ⟨x7, σ7, H7, I7, r7, q7⟩ := q7; exact ⟨x7, σ7, H7, I7.unpinned, r7, q7⟩
end

/-! ### the forms one uses -/
/-- while, by a word and a measure of the state -/
theorem while_by {c : TT} {tb : TS} {D : Ends} {σ : St} {H : Hp} (Pv : St → Hp → Prop) (μ : St → Hp → Nat) (h0 : Pv σ H)
    (hs : ∀ σ H, Pv σ H → c σ H fun b H1 => if b = true then tb { D with nx := fun σ' H' => Pv σ' H' ∧ μ σ' H' < μ σ H, ct := fun σ' H' => Pv σ' H' ∧ μ σ' H' < μ σ H, bk := D.nx } σ H1 else D.nx σ H1)
    (mono : ∀ σ H Q Q', (∀ b H1, Q b H1 → Q' b H1) → c σ H Q → c σ H Q') : tWhile c tb D σ H := by
  refine ⟨fun m σ H => m = μ σ H ∧ Pv σ H, ⟨_, rfl, h0⟩, ?_⟩
  rintro m σ H ⟨rfl, p⟩
  refine mono σ H _ _ (fun b H1 q => ?_) (hs σ H p)
  cases b with
  | true => exact ⟨_, fun σ' H' ⟨p', l⟩ => ⟨_, l, rfl, p'⟩, q⟩
  | false => exact q
end L2

namespace L2
open PySem PySem.Spec PyProof.Rows

abbrev R2 := V → V → Hp → VK → Prop
/-- a two-place operation on values: f is binaryOp op, inplaceOp op or compareOp op -/
def OpR (X : Cx) (f : Value → Value → Sem Value) (r : R2) : Prop :=
  ∀ (pins : List (Addr × Obj)) (s : Shared) (σ : St) (H : Hp) (x y : V) (v u : Value) (Q : VK), Inv X pins σ H s → RelV x v → RelV y u → r x y H Q →
    wpAny (model X.prog X.w) X.A (f v u) (EP X pins σ Q) X.xe s
/-- a one-place operation -/
def UnR (X : Cx) (f : Value → Sem Value) (r : V → Hp → VK → Prop) : Prop :=
  ∀ (pins : List (Addr × Obj)) (s : Shared) (σ : St) (H : Hp) (x : V) (v : Value) (Q : VK), Inv X pins σ H s → RelV x v → r x H Q →
    wpAny (model X.prog X.w) X.A (f v) (EP X pins σ Q) X.xe s
/-- a call of a value that is known (a builtin, a type) with values -/
def CallR (X : Cx) (f : Value) (r : List V → Hp → VK → Prop) : Prop :=
  ∀ (pins : List (Addr × Obj)) (s : Shared) (σ : St) (H : Hp) (xs : List V) (us : List Value) (Q : VK), Inv X pins σ H s → Vals xs us → r xs H Q →
    wpAny (model X.prog X.w) X.A (call f us) (EP X pins σ Q) X.xe s
def tOp (r : R2) (ta tb : TE) : TE := fun σ H Q => ta σ H fun x H1 => tb σ H1 fun y H2 => r x y H2 Q
def tUn (r : V → Hp → VK → Prop) (ta : TE) : TE := fun σ H Q => ta σ H fun x H1 => r x H1 Q
/-- ints in, under C, and a value out -/
def rI (C : Int → Int → Prop) (g : Int → Int → V) : R2 := fun x y H Q => ∃ i j, x = .int i ∧ y = .int j ∧ C i j ∧ Q (g i j) H
def rI0 (g : Int → Int → V) : R2 := fun x y H Q => ∃ i j, x = .int i ∧ y = .int j ∧ Q (g i j) H
def rU (g : Int → V) : V → Hp → VK → Prop := fun x H Q => ∃ i, x = .int i ∧ Q (g i) H

section
variable {X : Cx} {a b c : Expr} {ta tb tc : TE} {pos : Pos}

theorem binT (ha : PE X a ta) (hb : PE X b tb) {pins : List (Addr × Obj)} {s : Shared} {σ : St} {H : Hp} {R : V → V → Hp → Prop} (I : Inv X pins σ H s)
    (h : ta σ H fun x H1 => tb σ H1 fun y H2 => R x y H2) {Q : Value → Shared → Prop} {f : Value → Value → Sem Value}
    (hf : ∀ v u s2 x y H2, Inv X pins σ H2 s2 → RelV x v → RelV y u → R x y H2 → wpAny (model X.prog X.w) X.A (f v u) Q X.xe s2) :
    wpAny (model X.prog X.w) X.A (eval a X.env) (fun v s₁ => wpAny (model X.prog X.w) X.A (eval b X.env) (fun u s₂ => wpAny (model X.prog X.w) X.A (f v u) Q X.xe s₂) X.xe s₁) X.xe s := by
  refine thn (ha pins s σ H _ I h) fun v s1 ⟨x, H1, I1, r1, q1⟩ => ?_
  refine thn (hb pins s1 σ H1 _ I1 q1) fun u s2 ⟨y, H2, I2, r2, q2⟩ => ?_
  exact hf v u s2 x y H2 I2 r1 r2 q2

theorem pe_op {op : Operator} {r : R2} (ho : OpR X (binaryOp op) r) (ha : PE X a ta) (hb : PE X b tb) : PE X (.BinOp a op b pos) (tOp r ta tb) := by
  intro pins s σ H Q I h
  exact wpAny_BinOp (binT ha hb I h fun v u s2 x y H2 I2 rx ry q => ho pins s2 σ H2 x y v u Q I2 rx ry q)
theorem pe_un {op : UnaryOp} {r : V → Hp → VK → Prop} (ho : UnR X (unaryOp op) r) (ha : PE X a ta) : PE X (.UnaryOp op a pos) (tUn r ta) := by
  intro pins s σ H Q I h
  exact UnaryOp_ (thn (ha pins s σ H _ I h) fun v s1 ⟨x, H1, I1, r1, q1⟩ => ho pins s1 σ H1 x v Q I1 r1 q1)
/-! ### ints -/
theorem opI {f : Value → Value → Sem Value} {C : Int → Int → Prop} {g : Int → Int → Int}
    (rule : ∀ (i j : Int) (t u : Tok) (s : Shared) (Q : Value → Shared → Prop) (E : Value → Shared → Prop), C i j → Q (.int (g i j) s.toks) { s with toks := s.toks + 1 } → wpAny (model X.prog X.w) X.A (f (.int i t) (.int j u)) Q E s) :
    OpR X f (rI C fun i j => .int (g i j)) := by
  intro pins s σ H x y v u Q I rx ry h
  obtain ⟨i, j, rfl, rfl, hc, q⟩ := h
  obtain ⟨t, rfl⟩ := rx
  obtain ⟨t', rfl⟩ := ry
  exact rule i j t t' s _ _ hc ⟨.int (g i j), H, I.tok _, ⟨_, rfl⟩, q⟩
theorem opI0 {f : Value → Value → Sem Value} {g : Int → Int → Int}
    (rule : ∀ (i j : Int) (t u : Tok) (s : Shared) (Q : Value → Shared → Prop) (E : Value → Shared → Prop), Q (.int (g i j) s.toks) { s with toks := s.toks + 1 } → wpAny (model X.prog X.w) X.A (f (.int i t) (.int j u)) Q E s) :
    OpR X f (rI0 fun i j => .int (g i j)) := by
  intro pins s σ H x y v u Q I rx ry h
  obtain ⟨i, j, rfl, rfl, q⟩ := h
  obtain ⟨t, rfl⟩ := rx
  obtain ⟨t', rfl⟩ := ry
  exact rule i j t t' s _ _ ⟨.int (g i j), H, I.tok _, ⟨_, rfl⟩, q⟩
theorem opB0 {f : Value → Value → Sem Value} {g : Int → Int → Bool}
    (rule : ∀ (i j : Int) (t u : Tok) (s : Shared) (Q : Value → Shared → Prop) (E : Value → Shared → Prop), Q (.bool (g i j)) s → wpAny (model X.prog X.w) X.A (f (.int i t) (.int j u)) Q E s) :
    OpR X f (rI0 fun i j => .bl (g i j)) := by
  intro pins s σ H x y v u Q I rx ry h
  obtain ⟨i, j, rfl, rfl, q⟩ := h
  obtain ⟨t, rfl⟩ := rx
  obtain ⟨t', rfl⟩ := ry
  exact rule i j t t' s _ _ ⟨.bl (g i j), H, I, rfl, q⟩

def CDiv (i j : Int) : Prop := 0 < j ∧ j < 1073741824
def CPow (i j : Int) : Prop := 0 ≤ j ∧ j ≤ 1000000 ∧ i.natAbs < 2 ^ 64
def CMul (i j : Int) : Prop := (-(2 ^ 64) < i ∧ i < 2 ^ 64) ∨ (-(2 ^ 64) < j ∧ j < 2 ^ 64)
theorem CMul.ok {i j : Int} (h : CMul i j) : IntMulOk i j := by
  rcases h with ⟨h1, h2⟩ | ⟨h1, h2⟩
  · exact .of_left (intBits_le_64 h1 h2)
  · exact .of_right (intBits_le_64 h1 h2)
theorem op_add : OpR X (binaryOp .Add) (rI0 fun i j => .int (i + j)) := opI0 fun _ _ _ _ _ _ _ q => add_int q
theorem op_sub : OpR X (binaryOp .Sub) (rI0 fun i j => .int (i - j)) := opI0 fun _ _ _ _ _ _ _ q => sub_int q
theorem op_mul : OpR X (binaryOp .Mult) (rI CMul fun i j => .int (i * j)) := opI fun _ _ _ _ _ _ _ hc q => mul_int q hc.ok
/-- // by a positive divisor -/
theorem op_fdiv : OpR X (binaryOp .FloorDiv) (rI CDiv fun i j => .int (i / j)) := opI fun i j _ _ _ _ _ hc q => by
  have h1 : (0 : Int) < j := hc.1
  have h2 : j < 1073741824 := hc.2
  exact floordiv_int (by omega) (by rw [Int.fdiv_eq_ediv_of_nonneg i (by omega)]; exact q) (.inl (PyProof.noPylong_small (by omega)))
/-- % by a positive divisor of any size -/
theorem op_mod : OpR X (binaryOp .Mod) (rI (fun _ j => 0 < j) fun i j => .int (i % j)) := opI fun i j _ _ _ _ _ hc q => by
  have h1 : (0 : Int) < j := hc
  exact mod_int' (by omega) (by rw [Int.fmod_eq_emod_of_nonneg i (by omega)]; exact q)
theorem op_modN : OpR X (binaryOp .Mod) (rI (fun _ j => j ≠ 0) fun i j => .int (i.fmod j)) := opI fun _ _ _ _ _ _ _ hc q => mod_int' hc q
theorem op_pow : OpR X (binaryOp .Pow) (rI CPow fun i j => .int (i ^ j.toNat)) := opI fun _ _ _ _ _ _ _ hc q => pow_int_small hc.1 hc.2.1 hc.2.2 q
theorem op_shl : OpR X (binaryOp .LShift) (rI CPow fun i j => .int (i * 2 ^ j.toNat)) := opI fun _ _ _ _ _ _ _ hc q => lshift_int_small hc.1 hc.2.1 hc.2.2 q
theorem unI {f : Value → Sem Value} {g : Int → Int}
    (rule : ∀ (i : Int) (t : Tok) (s : Shared) (Q : Value → Shared → Prop) (E : Value → Shared → Prop), Q (.int (g i) s.toks) { s with toks := s.toks + 1 } → wpAny (model X.prog X.w) X.A (f (.int i t)) Q E s) :
    UnR X f (rU fun i => .int (g i)) := by
  intro pins s σ H x v Q I rx h
  obtain ⟨i, rfl, q⟩ := h
  obtain ⟨t, rfl⟩ := rx
  exact rule i t s _ _ ⟨.int (g i), H, I.tok _, ⟨_, rfl⟩, q⟩
theorem un_neg : UnR X (unaryOp .USub) (rU fun i => .int (-i)) := unI fun _ _ _ _ _ q => neg_int q
/-! ### bools among ints: n += (a < b) -/
end

/-! ### comparisons -/
/-- the scalars that == tells apart as data does -/
def scal : V → V → Bool
  | .non, .non => true | .non, .int _ => true | .int _, .non => true | .non, .bl _ => true | .bl _, .non => true | .non, .str _ => true | .str _, .non => true
  | .int _, .int _ => true | .bl _, .bl _ => true | .str _, .str _ => true | .byt _, .byt _ => true
  | .int _, .str _ => true | .str _, .int _ => true | .bl _, .str _ => true | .str _, .bl _ => true
  | _, _ => false
def rEq : R2 := fun x y H Q => scal x y = true ∧ Q (.bl (decide (x = y))) H
def rNe : R2 := fun x y H Q => scal x y = true ∧ Q (.bl (!decide (x = y))) H

theorem dec_int {i j : Int} : decide (V.int i = V.int j) = (i == j) := by
  rw [Bool.eq_iff_iff]
  simp
theorem dec_bl {i j : Bool} : decide (V.bl i = V.bl j) = (i == j) := by
  rw [Bool.eq_iff_iff]
  simp
theorem dec_str {i j : Str} : decide (V.str i = V.str j) = (i == j) := by
  rw [Bool.eq_iff_iff]
  simp
theorem dec_byt {i j : Array UInt8} : decide (V.byt i = V.byt j) = (i.toList == j.toList) := by
  rw [Bool.eq_iff_iff]
  cases i
  cases j
  simp

section
variable {X : Cx} {a b c : Expr} {ta tb tc : TE} {pos : Pos}
theorem fin_bl {pins : List (Addr × Obj)} {σ : St} {H : Hp} {s : Shared} {Q : VK} {k k' : Bool} (I : Inv X pins σ H s) (q : Q (.bl k) H) (e : k = k') : EP X pins σ Q (.bool k') s := by
  subst e
  exact ⟨.bl k, H, I, rfl, q⟩
theorem op_eq : OpR X (compareOp .Eq) rEq := by
  intro pins s σ H x y v u Q I rx ry h
  obtain ⟨hs, q⟩ := h
  cases x with
  | non =>
    cases rx
    cases y with
    | non => cases ry; exact PySem.EqNone.eq_none_none (fin_bl I q (by simp))
    | bl j => cases ry; exact PySem.EqNone.eq_none_bool (fin_bl I q (by simp))
    | int j => obtain ⟨t', rfl⟩ := ry; exact PySem.EqNone.eq_none_int (fin_bl I q (by simp))
    | str j => obtain ⟨t', rfl⟩ := ry; exact PySem.EqNone.eq_none_str (fin_bl I q (by simp))
    | _ => exact absurd (show false = true from hs) Bool.false_ne_true
  | bl i =>
    cases rx
    cases y with
    | non => cases ry; exact PySem.EqNone.eq_bool_none (fin_bl I q (by simp))
    | bl j => cases ry; exact eq_bool (fin_bl I q dec_bl)
    | str j => obtain ⟨t', rfl⟩ := ry; exact PySem.EqMixed.eq_bool_str (fin_bl I q (by simp))
    | _ => exact absurd (show false = true from hs) Bool.false_ne_true
  | int i =>
    obtain ⟨t, rfl⟩ := rx
    cases y with
    | non => cases ry; exact PySem.EqNone.eq_int_none (fin_bl I q (by simp))
    | int j => obtain ⟨t', rfl⟩ := ry; exact eq_int (fin_bl I q dec_int)
    | str j => obtain ⟨t', rfl⟩ := ry; exact PySem.EqMixed.eq_int_str (fin_bl I q (by simp))
    | _ => exact absurd (show false = true from hs) Bool.false_ne_true
  | str i =>
    obtain ⟨t, rfl⟩ := rx
    cases y with
    | non => cases ry; exact PySem.EqNone.eq_str_none (fin_bl I q (by simp))
    | bl j => cases ry; exact PySem.EqMixed.eq_str_bool (fin_bl I q (by simp))
    | int j => obtain ⟨t', rfl⟩ := ry; exact PySem.EqMixed.eq_str_int (fin_bl I q (by simp))
    | str j => obtain ⟨t', rfl⟩ := ry; exact eq_str (fin_bl I q dec_str)
    | _ => exact absurd (show false = true from hs) Bool.false_ne_true
  | byt i =>
    obtain ⟨t, rfl⟩ := rx
    cases y with
    | byt j => obtain ⟨t', rfl⟩ := ry; exact PySem.W.eq_bytes (fin_bl I q dec_byt)
    | _ => exact absurd (show false = true from hs) Bool.false_ne_true
  | _ => cases y <;> exact absurd (show false = true from hs) Bool.false_ne_true
theorem op_ne : OpR X (compareOp .NotEq) rNe := by
  intro pins s σ H x y v u Q I rx ry h
  obtain ⟨hs, q⟩ := h
  cases x with
  | non =>
    cases rx
    cases y with
    | non => cases ry; exact PySem.EqNone.ne_none_none (fin_bl I q (by simp))
    | bl j => cases ry; exact PySem.EqNone.ne_none_bool (fin_bl I q (by simp))
    | int j => obtain ⟨t', rfl⟩ := ry; exact PySem.EqNone.ne_none_int (fin_bl I q (by simp))
    | str j => obtain ⟨t', rfl⟩ := ry; exact PySem.EqNone.ne_none_str (fin_bl I q (by simp))
    | _ => exact absurd (show false = true from hs) Bool.false_ne_true
  | bl i =>
    cases rx
    cases y with
    | non => cases ry; exact PySem.EqNone.ne_bool_none (fin_bl I q (by simp))
    | bl j => cases ry; exact ne_bool (fin_bl I q (congrArg not dec_bl))
    | str j => obtain ⟨t', rfl⟩ := ry; exact PySem.EqMixed.ne_bool_str (fin_bl I q (by simp))
    | _ => exact absurd (show false = true from hs) Bool.false_ne_true
  | int i =>
    obtain ⟨t, rfl⟩ := rx
    cases y with
    | non => cases ry; exact PySem.EqNone.ne_int_none (fin_bl I q (by simp))
    | int j => obtain ⟨t', rfl⟩ := ry; exact ne_int (fin_bl I q (congrArg not dec_int))
    | str j => obtain ⟨t', rfl⟩ := ry; exact PySem.EqMixed.ne_int_str (fin_bl I q (by simp))
    | _ => exact absurd (show false = true from hs) Bool.false_ne_true
  | str i =>
    obtain ⟨t, rfl⟩ := rx
    cases y with
    | non => cases ry; exact PySem.EqNone.ne_str_none (fin_bl I q (by simp))
    | bl j => cases ry; exact PySem.EqMixed.ne_str_bool (fin_bl I q (by simp))
    | int j => obtain ⟨t', rfl⟩ := ry; exact PySem.EqMixed.ne_str_int (fin_bl I q (by simp))
    | str j => obtain ⟨t', rfl⟩ := ry; exact ne_str (fin_bl I q (congrArg not dec_str))
    | _ => exact absurd (show false = true from hs) Bool.false_ne_true
  | byt i =>
    obtain ⟨t, rfl⟩ := rx
    cases y with
    | byt j => obtain ⟨t', rfl⟩ := ry; exact PySem.W.ne_bytes (fin_bl I q (congrArg not dec_byt))
    | _ => exact absurd (show false = true from hs) Bool.false_ne_true
  | _ => cases y <;> exact absurd (show false = true from hs) Bool.false_ne_true

theorem op_lt : OpR X (compareOp .Lt) (rI0 fun i j => .bl (decide (i < j))) := opB0 fun _ _ _ _ _ _ _ q => lt_int q
theorem op_gt : OpR X (compareOp .Gt) (rI0 fun i j => .bl (decide (j < i))) := opB0 fun _ _ _ _ _ _ _ q => gt_int q
theorem op_ge : OpR X (compareOp .GtE) (rI0 fun i j => .bl (decide (j ≤ i))) := opB0 fun _ _ _ _ _ _ _ q => ge_int q
/-- is None, is not None: the right side a value none -/
theorem op_isN : OpR X (compareOp .Is) (fun x y H Q => y = .non ∧ Q (.bl (decide (x = .non))) H) := by
  intro pins s σ H x y v u Q I rx ry h
  obtain ⟨rfl, q⟩ := h
  cases ry
  refine is_none_gen (fin_bl I q ?_)
  cases x <;> first
    | (cases rx; rfl)
    | (obtain ⟨t, rfl⟩ := rx; rfl)
/-- two rules for one operation: by cases -/
theorem OpR.or {f : Value → Value → Sem Value} {r r' : R2} (h : OpR X f r) (h' : OpR X f r') : OpR X f (fun x y H Q => r x y H Q ∨ r' x y H Q) := by
  intro pins s σ H x y v u Q I rx ry q
  rcases q with q | q
  · exact h pins s σ H x y v u Q I rx ry q
  · exact h' pins s σ H x y v u Q I rx ry q

theorem nomark (b : Expr) {op : CmpOp} (h : op ≠ .In := by decide) (h2 : op ≠ .NotIn := by decide) : behindInMarks op b = false := by
  have e1 : (op == CmpOp.In) = false := by cases op <;> first | rfl | exact absurd rfl h
  have e2 : (op == CmpOp.NotIn) = false := by cases op <;> first | rfl | exact absurd rfl h2
  cases b <;> simp [behindInMarks, e1, e2]
/-- a comparison as a value; hm: nomark b, or (for in, not in) by with_unfolding_all rfl -/
theorem pe_cmpR {op : CmpOp} {r : R2} (ho : OpR X (compareOp op) r) (ha : PE X a ta) (hb : PE X b tb) (hm : behindInMarks op b = false) : PE X (.Compare a [op] [b] pos) (tOp r ta tb) := by
  intro pins s σ H Q I h
  exact wpAny_Compare1 (binT ha hb I h fun v u s2 x y H2 I2 rx ry q => ho pins s2 σ H2 x y v u Q I2 rx ry q) hm
/-- a reading of a value as a test -/
def tTest (t : TE) : TT := fun σ H Q => t σ H fun x H' => ∃ k, x = .bl k ∧ Q k H'
theorem pt_cmpR {op : CmpOp} {r : R2} (ho : OpR X (compareOp op) r) (ha : PE X a ta) (hb : PE X b tb) (hm : behindInMarks op b = false) : PT X (.Compare a [op] [b] pos) (tTest (tOp r ta tb)) := by
  intro pins s σ H Q I h
  refine wpAny_isTrue_Compare1 (thn (ha pins s σ H _ I h) fun v s1 ⟨x, H1, I1, r1, q1⟩ => thn (hb pins s1 σ H1 _ I1 q1) fun u s2 ⟨y, H2, I2, r2, q2⟩ =>
    thn (ho pins s2 σ H2 x y v u _ I2 r1 r2 q2) fun c s3 ⟨z, H3, I3, r3, k, e, q3⟩ => ?_) hm
  subst e
  cases r3
  exact wpAny_truthy_bool ⟨H3, I3, q3⟩
/-! ### truth -/
theorem line63 : (sizeLine : Nat) < 2 ^ 63 := by rw [sizeLine_eq]; decide
/-! ### strs and bytes -/
theorem op_add_str : OpR X (binaryOp .Add) (fun x y H Q => ∃ i j, x = .str i ∧ y = .str j ∧ i.length + j.length ≤ sizeLine ∧ Q (.str (i ++ j)) H) := by
  intro pins s σ H x y v u Q I rx ry h
  obtain ⟨i, j, rfl, rfl, hz, q⟩ := h
  obtain ⟨t, rfl⟩ := rx
  obtain ⟨t', rfl⟩ := ry
  exact add_str (fun t' tk => ⟨.str (i ++ j), H, I.tok _, ⟨_, rfl⟩, q⟩) hz
/-! ### scalar builtins, by CallR -/
theorem vals1 {x : V} {us : List Value} (r : Vals [x] us) : ∃ u, us = [u] ∧ RelV x u := by
  cases r with
  | cons r1 r2 => cases r2; exact ⟨_, rfl, r1⟩
theorem vals2 {x y : V} {us : List Value} (r : Vals [x, y] us) : ∃ u w', us = [u, w'] ∧ RelV x u ∧ RelV y w' := by
  cases r with
  | cons r1 r2 =>
    cases r2 with
    | cons r3 r4 => cases r4; exact ⟨_, _, rfl, r1, r3⟩
theorem call_abs : CallR X (.builtin "abs") (fun xs H Q => ∃ i, xs = [.int i] ∧ Q (.int (if i < 0 then -i else i)) H) := by
  intro pins s σ H xs us Q I r h
  obtain ⟨i, rfl, q⟩ := h
  obtain ⟨u, rfl, t, rfl⟩ := vals1 r
  exact call_abs_int fun u tk => ⟨.int (if i < 0 then -i else i), H, I.tok _, ⟨_, rfl⟩, q⟩
theorem call_min2 (hc : X.calm = true) : CallR X (.builtin "min") (fun xs H Q => ∃ i j, xs = [.int i, .int j] ∧ Q (.int (if j < i then j else i)) H) := by
  intro pins s σ H xs us Q I r h
  obtain ⟨i, j, rfl, q⟩ := h
  obtain ⟨u, w', rfl, ⟨t, rfl⟩, ⟨t', rfl⟩⟩ := vals2 r
  refine min_two_ints (I.ok.hd hc) fun h' tk k => ⟨_, H, I.kept k, ?_, q⟩
  by_cases hj : j < i
  · rw [if_pos hj, if_pos hj]; exact ⟨_, rfl⟩
  · rw [if_neg hj, if_neg hj]; exact ⟨_, rfl⟩
theorem call_int1 : CallR X (.type "int") (fun xs H Q => (∃ i, xs = [.int i] ∧ Q (.int i) H) ∨ ∃ k, xs = [.bl k] ∧ Q (.int (if k then 1 else 0)) H) := by
  intro pins s σ H xs us Q I r h
  rcases h with ⟨i, rfl, q⟩ | ⟨k, rfl, q⟩
  · obtain ⟨u, rfl, t, rfl⟩ := vals1 r
    exact call_int_int ⟨.int i, H, I, ⟨_, rfl⟩, q⟩
  · obtain ⟨u, rfl, r1⟩ := vals1 r
    cases r1
    exact call_int_bool ⟨.int (if k then 1 else 0), H, I.tok _, ⟨_, rfl⟩, q⟩
theorem call_str_int : CallR X (.type "str") (fun xs H Q => ∃ i, xs = [.int i] ∧ i.natAbs.log2 < 1920 ∧ Q (.str (toString i)) H) := by
  intro pins s σ H xs us Q I r h
  obtain ⟨i, rfl, hz, q⟩ := h
  obtain ⟨u, rfl, t, rfl⟩ := vals1 r
  exact PySem.P.str_of_int hz ⟨.str _, H, I.tok _, ⟨_, rfl⟩, q⟩
end
end L2

namespace L2
open PySem PySem.Spec PyProof.Rows

/-! ### an instance, its attributes a map -/
structure ObjM (h : Heap) (x dx C : Addr) (mA : Str → Option Value) : Prop where
  obj : h.get? x = some (PySem.W.instObj C dx)
  ns : h.Ns1 dx mA
  ne : dx ≠ x

theorem lookIn_ns {h : Heap} {dx : Addr} {mA : Str → Option Value} (n : h.Ns1 dx mA) : ∃ od, h.get? dx = some od ∧ ∀ name, PySem.W.lookIn name od = some (mA name) := by
  obtain ⟨o, es, ep, ho, hd, hk, _, hm⟩ := n
  refine ⟨o, ho, fun name => ?_⟩
  have e := hm name
  unfold nsFind findBy at e
  rw [← Array.find?_toList] at e
  unfold PySem.W.lookIn
  rw [hd]
  dsimp only
  split
  · rename_i y q
    rw [q] at e
    exact congrArg some e
  · rename_i q
    rw [q] at e
    have a : es.toList.any (·.refKey) = false := by
      rw [List.any_eq_false]
      intro y hy
      obtain ⟨z, t, hkey⟩ := hk y (Array.mem_toList_iff.mp hy)
      simp [DictEntry.refKey, hkey]
    have a' : ¬ es.toList.any (·.refKey) = true := by rw [a]; exact Bool.false_ne_true
    rw [if_neg a']
    exact congrArg some e

theorem ObjM.look {h : Heap} {x dx C : Addr} {mA : Str → Option Value} (I : ObjM h x dx C mA) : ∃ od, PySem.W.InstAt h x (PySem.W.instObj C dx) C (some od) ∧ ∀ name, PySem.W.lookIn name od = some (mA name) :=
  let ⟨od, ho, hl⟩ := lookIn_ns I.ns
  ⟨od, ⟨I.obj, rfl, rfl, ho⟩, hl⟩

section
variable {prog : Program} {w : World} {A : Around} {E : Value → Shared → Prop} {s : Shared} {K : PySem.W.Frag} {x dx C f : Addr} {mA : Str → Option Value} {name : Str} {v : Value}

end

/-! ### the attributes as a list of pairs -/
section
variable {P : Program} {w : World} {H H' : Hp} {h h' : Heap} {a C dx : Addr} {fs fs' : List (Str × V)}
theorem ins_get (hok : HOk P w H h) (e : H a = some (.ins C dx fs)) : ∃ mA, ObjM h a dx C mA ∧ (∀ f, RelO (fs.lookup f) (mA f)) ∧ PySem.Within mA (fs.map (·.1)) ∧ fs.length ≤ 1000 ∧ H dx = some (.own a) := by
  obtain ⟨d, z, ne, ob, mA, n, r, q⟩ := (show ObjOk P w H h a (.ins C dx fs) from hok a _ e)
  exact ⟨mA, ⟨ob, n, ne⟩, r, q, z, d⟩
end

/-! ### what of the text a class must have -/
structure Cls (K : PySem.W.Frag) (C : Addr) : Prop where
  pg : PySem.W.plainGet K C Str.empty = true
  hd : PySem.W.hasDictIn K C = true
  po : PySem.W.plainOver K C = true
  sa : PySem.W.findIn K (.ref C) "__setattr__" = some (some (.builtin "object.__setattr__"))
theorem Cls.get {K : PySem.W.Frag} {C : Addr} (c : Cls K C) (f : Str) : PySem.W.plainGet K C f = true := c.pg
section
variable {X : Cx} {pins : List (Addr × Obj)} {σ : St} {H : Hp} {s : Shared} {a C dx : Addr} {fs : List (Str × V)} {f : Str} {v : V} {A : Around} {E : Value → Shared → Prop}

end

/-! ### readings and rules -/
section
variable {X : Cx} {o e value : Expr} {f : Str} {pos pos' tpos : Pos} {ta tv : TE}
end

/-! ### isinstance -/
section
variable {X : Cx} {pins : List (Addr × Obj)} {σ : St} {H : Hp} {s : Shared} {A : Around} {E : Value → Shared → Prop} {Q : Value → Shared → Prop} {c : Value} {b : Bool}
/-- the type of a value, as the fragment's deciders take it; for an instance its class -/
inductive TyOf (K : PySem.W.Frag) (H : Hp) : V → Value → Prop where
  | non : TyOf K H .non (.type "NoneType")
  | bl (x : Bool) : TyOf K H (.bl x) (.type "bool")
  | int (i : Int) : TyOf K H (.int i) (.type "int")
  | str (x : Str) : TyOf K H (.str x) (.type "str")
  | flt (x : UInt64) : TyOf K H (.flt x) (.type "float")
  | lst {a : Addr} {xs : List V} (e : H a = some (.lst xs)) : TyOf K H (.ref a) (.type "list")
  | frz {a : Addr} {o : Obj} {xs : List V} (e : H a = some (.frz o (.lst xs))) : TyOf K H (.ref a) (.type "list")
  | tup {a : Addr} {xs : List V} (e : H a = some (.tup xs)) : TyOf K H (.ref a) (.type "tuple")
  | dK {a : Addr} {kvs : List (Key × V)} (e : H a = some (.dK kvs)) : TyOf K H (.ref a) (.type "dict")
  | dT {a : Addr} {kvs : List (List Key × V)} (e : H a = some (.dT kvs)) : TyOf K H (.ref a) (.type "dict")
  | ins {a C dx : Addr} {fs : List (Str × V)} (e : H a = some (.ins C dx fs)) (cl : Cls K C) (ha : PySem.W.findIn K (.ref C) "__class__" = some (some (.builtin "object.__class__")))
      (hn : PySem.W.specialIn K (.builtin "object.__class__") "__get__" = some (some (.builtin "getset_descriptor.__get__"))) (htk : PySem.W.takesIn K (.builtin "object.__class__") = some true)
      (hm : PySem.W.mroIn K C (.type "object") = some true) : TyOf K H (.ref a) (.ref C)
/-- isinstance(x, c) for one class c, a built-in or an own one: kitOne's answer -/
theorem isinst_ok {x : V} {u t : Value} (I : Inv X pins σ H s) (rx : RelV x u) (ty : TyOf X.K H x t) (e : PySem.W.kitOne X.K t c = some b) (h : ∀ tk, Q (.bool b) { s with toks := tk }) :
    wpAny (model X.prog X.w) A (call (.builtin "isinstance") [u, c]) Q E s := by
  cases ty with
  | non => cases (show u = Value.none from rx); exact PySem.W.kia_one PySem.W.kitx_none I.kIn True.intro e (fun z => nomatch z) h
  | bl y => cases (show u = Value.bool y from rx); exact PySem.W.kia_one PySem.W.kitx_bool I.kIn True.intro e (fun z => nomatch z) h
  | int i => obtain ⟨t, q⟩ := (show ∃ t, u = Value.int i t from rx); cases q; exact PySem.W.kia_one PySem.W.kitx_int I.kIn True.intro e (fun z => nomatch z) h
  | str y => obtain ⟨t, q⟩ := (show ∃ t, u = Value.str y t from rx); cases q; exact PySem.W.kia_one PySem.W.kitx_str I.kIn True.intro e (fun z => nomatch z) h
  | flt y => obtain ⟨t, q⟩ := (show ∃ t, u = Value.float y t from rx); cases q; exact PySem.W.kia_one PySem.W.kitx_float I.kIn True.intro e (fun z => nomatch z) h
  | @lst a xs ea =>
    cases (show u = Value.ref a from rx)
    obtain ⟨_, _, n, _, h1⟩ := (show ObjOk X.prog X.w H s.heap a (.lst xs) from I.hok a _ ea)
    exact PySem.W.kia_one PySem.W.kitx_list I.kIn ⟨_, h1, rfl⟩ e (fun z => nomatch z) h
  | @frz a ob xs ea =>
    cases (show u = Value.ref a from rx)
    obtain ⟨_, _, _, n, _, h1⟩ := (show ObjOk X.prog X.w H s.heap a (.frz ob (.lst xs)) from I.hok a _ ea)
    exact PySem.W.kia_one PySem.W.kitx_list I.kIn ⟨_, h1, rfl⟩ e (fun z => nomatch z) h
  | @tup a xs ea =>
    cases (show u = Value.ref a from rx)
    obtain ⟨_, _, _, p⟩ := (show ObjOk X.prog X.w H s.heap a (.tup xs) from I.hok a _ ea)
    obtain ⟨o, h1, h2, _⟩ := p
    exact PySem.W.kia_one PySem.W.kitx_tuple I.kIn ⟨o, h1, h2⟩ e (fun z => nomatch z) h
  | @dK a kvs ea =>
    cases (show u = Value.ref a from rx)
    obtain ⟨_, _, vs, _, p⟩ := (show ObjOk X.prog X.w H s.heap a (.dK kvs) from I.hok a _ ea)
    obtain ⟨o, es, ep, h1, h2, _⟩ := p
    exact PySem.W.kia_one PySem.W.kitx_dict I.kIn ⟨o, h1, h2.1⟩ e (fun z => nomatch z) h
  | @dT a kvs ea =>
    cases (show u = Value.ref a from rx)
    obtain ⟨_, _, xs, _, o, es, ep, h1, h2, _⟩ := (show ObjOk X.prog X.w H s.heap a (.dT kvs) from I.hok a _ ea)
    exact PySem.W.kia_one PySem.W.kitx_dict I.kIn ⟨o, h1, h2.1⟩ e (fun z => nomatch z) h
  | @ins a C dx fs ea cl ha hn htk hm =>
    cases (show u = Value.ref a from rx)
    obtain ⟨mA, O, _⟩ := ins_get I.hok ea
    obtain ⟨od, J, _⟩ := O.look
    exact PySem.W.kia_one (PySem.W.kitx_own (cl.get _) cl.hd ha hn htk hm) I.kIn J e (fun z => nomatch z) h
end
end L2

namespace L2
open PySem PySem.Spec PyProof.Rows

/-! ### room -/
structure Room (k : Nat) (A : Around) : Prop where
  hd : A.handled = none
  dp : A.depth + 3 * k + 5 < recursionLimit
  un : A.units + 16 * k + 200 < cLine
theorem Room.mono {j k : Nat} {A : Around} (r : Room k A) (h : j ≤ k) : Room j A := ⟨r.hd, by have := r.dp; omega, by have := r.un; omega⟩
theorem Room.deeper {k : Nat} {A : Around} (r : Room (k + 1) A) (env : Env) : Room k (A.deeper env) :=
  ⟨r.hd, by have := r.dp; show A.depth + 1 + 3 * k + 5 < _; omega, by have := r.un; show A.units + 3 + 16 * k + 200 < _; omega⟩
theorem Room.depth {k : Nat} {A : Around} (r : Room k A) : A.depth < recursionLimit := by have := r.dp; omega
theorem Room.units {k : Nat} {A : Around} (r : Room k A) : A.units + 64 < cLine := by have := r.un; omega
/-! ### argument lists and displays -/
def tNil : TA := fun _ H Q => Q [] H
def tCons (ta : TE) (tr : TA) : TA := fun σ H Q => ta σ H fun x H1 => tr σ H1 fun xs H2 => Q (x :: xs) H2
section
variable {X : Cx} {e : Expr} {es : List Expr} {te : TE} {t : TA} {pos : Pos}
theorem pa_nil : PA X [] tNil := fun _ _ _ _ H Q I h => Calls.spliced_nil ⟨[], H, I, .nil, h⟩
theorem pa_cons (ha : PE X e te) (hr : PA X es t) (hs : starEach (e :: es) X.env = (false, eval e X.env) :: starEach es X.env := by rfl) : PA X (e :: es) (tCons te t) := by
  intro pos pins s σ H Q I h
  rw [hs]
  show wpAny _ _ (spliced ((false, eval e X.env) :: backTo pos (starEach es X.env))) _ _ s
  refine Calls.spliced_cons (thn (ha pins s σ H _ I h) fun u s1 ⟨x, H1, I1, r1, q1⟩ => ?_)
  exact thn (hr pos pins s1 σ H1 _ I1 q1) fun us s2 ⟨xs, H2, I2, r2, q2⟩ => ⟨x :: xs, H2, I2, .cons r1 r2, q2⟩

/-- a tuple, a list of written items -/
def tTup (t : TA) : TE := fun σ H Q => t σ H fun xs H1 => xs.length ≤ sizeLine ∧ ∀ p, H1 p = none → Q (.ref p) (upd H1 p (.tup xs))
def tLst (t : TA) : TE := fun σ H Q => t σ H fun xs H1 => xs.length ≤ sizeLine ∧ ∀ p, H1 p = none → Q (.ref p) (upd H1 p (.lst xs))
theorem pe_tup {x1} (h : PA X es t) : PE X (.Tuple es x1 pos) (tTup t) := by
  intro pins s σ H Q I hq
  refine wpAny_Tuple_spliced (thn (h pos pins s σ H _ I hq) fun us s1 ⟨xs, H1, I1, r, z, q⟩ => ⟨by rw [← r.length]; exact z, ?_⟩)
  have hf : H1 s1.heap.objs.size = none := I1.hok.fresh (Nat.le_refl _)
  refine ⟨.ref s1.heap.objs.size, upd H1 s1.heap.objs.size (.tup xs), I1.laid (t' := s1.toks) (fun b u e => Heap.get?_push_of_some _ e) (Nat.le_refl _) ?_, rfl, q _ hf⟩
  exact ⟨z, us, r, ⟨_, Heap.get?_push_size _ rfl, rfl, _, rfl⟩⟩
theorem pe_lst (h : PA X es t) : PE X (.List es pos) (tLst t) := by
  intro pins s σ H Q I hq
  refine wpAny_List_spliced (thn (h pos pins s σ H _ I hq) fun us s1 ⟨xs, H1, I1, r, z, q⟩ => ⟨by rw [← r.length]; exact z, ?_⟩)
  have hf : H1 s1.heap.objs.size = none := I1.hok.fresh (Nat.le_refl _)
  refine ⟨.ref s1.heap.objs.size, upd H1 s1.heap.objs.size (.lst xs), I1.laid (t' := s1.toks) (fun b u e => Heap.get?_push_of_some _ e) (Nat.le_refl _) ?_, rfl, q _ hf⟩
  exact ⟨z, us, 0, r, Heap.get?_push_size _ rfl⟩
end

/-! ### what a def promises -/
/-- a def's promise: the bound arguments in the parameters' order, the heap, the wanted end, the wanted exception -/
abbrev Sp := List V → Hp → VK → XK → Prop
/-- how an exception lies behind a call (file 08 gives it): the callers' frames, abstract heap and state ahead of the call, the wish, the exception, the state -/
abbrev CXT := List Env → Hp → Shared → XK → Value → Shared → Prop

/-- the state at a call -/
structure Env0 (P : Program) (w : World) (K : PySem.W.Frag) (mg : Str → Option Value) (base : Heap) (A : Around) (outer : List Env) (s : Shared) (H : Hp) : Prop where
  frames : A.frames = some outer
  mod : Mod K mg base
  bs : ∀ b o, base.get? b = some o → s.heap.get? b = some o ∧ H b = none
  bsz : base.objs.size ≤ s.heap.objs.size
  funs : s.heap.FunFrames base outer
  frf : ∀ b ∈ frs outer, H b = none
  hok : HOk P w H s.heap
  bare : AllBare s.gens
/-- a call's end -/
def CE (outer : List Env) (P : Program) (w : World) (H : Hp) (s : Shared) (Q : VK) (u : Value) (s' : Shared) : Prop :=
  ∃ v H', s'.os = s.os ∧ AllBare s'.gens ∧ Un (frs outer) [] H H' s.heap s'.heap ∧ HOk P w H' s'.heap ∧ RelV v u ∧ Q v H'
def CR (CX : CXT) (outer : List Env) (P : Program) (w : World) (H : Hp) (s : Shared) (Q : VK) (E : XK) (r : Result) (s' : Shared) : Prop :=
  match r with
  | .ok (.ret u) => CE outer P w H s Q u s'
  | .ok _ => False
  | .error e => CX outer H s E e s'
structure FnOk (P : Program) (w : World) (K : PySem.W.Frag) (mg : Str → Option Value) (base : Heap) (CX : CXT) (k : Nat) (f : Addr) (fd : FuncData) (ps : List Str) (sp : Sp) : Prop where
  len : ∀ vs H Q E, sp vs H Q E → vs.length = ps.length
  run : ∀ (A : Around) (outer : List Env) (s : Shared) (H : Hp) (args : Args) (us : List Value) (vs : List V) (Q : VK) (E : XK), Room k A → Env0 P w K mg base A outer s H → BindsTo s fd args (ps.zip us) → Vals vs us → sp vs H Q E →
    codeAny (model P w) A (.call (.ref f) args) (CR CX outer P w H s Q E) s
/-- a weaker promise -/
theorem FnOk.imp {P : Program} {w : World} {K : PySem.W.Frag} {mg : Str → Option Value} {base : Heap} {CX : CXT} {k : Nat} {f : Addr} {fd : FuncData} {ps : List Str} {sp sp' : Sp} (F : FnOk P w K mg base CX k f fd ps sp)
    (h : ∀ vs H Q E, sp' vs H Q E → sp vs H Q E) : FnOk P w K mg base CX k f fd ps sp' :=
  ⟨fun vs H Q E q => F.len vs H Q E (h _ _ _ _ q), fun A outer s H args us vs Q E hr he hb hv hs => F.run A outer s H args us vs Q E hr he hb hv (h _ _ _ _ hs)⟩

section
variable {X : Cx} {pins : List (Addr × Obj)} {σ : St} {H : Hp} {s s' : Shared}
/-- from a body: what a callee wants -/
theorem Inv.env0 (I : Inv X pins σ H s) : Env0 X.prog X.w X.K X.mg X.base X.A X.stack s H :=
  ⟨I.ok.frames, I.ok.mod, I.bs, Nat.le_trans I.ok.bsz I.sz, I.stack, I.stkFree, I.hok, I.bare⟩
/-- behind a call -/
theorem Inv.after {Q : VK} {u : Value} (I : Inv X pins σ H s) (h : CE X.stack X.prog X.w H s Q u s') : EP X pins σ Q u s' := by
  obtain ⟨v, H', os, bare, un, hok, r, q⟩ := h
  obtain ⟨hh, g, d, t, os'⟩ := s'
  obtain rfl : os' = s.os := os
  exact ⟨v, H', I.call (h' := hh) (g' := g) (d' := d) (t' := t) (ch := []) un hok bare (fun b z => absurd z (by simp)), r, q⟩
end

/-! ### calls -/
/-- f(..): the written arguments, then the defaults dvs; E: what is wanted of an exception -/
def tCall (sp : Sp) (dvs : List V) (E : XK) (t : TA) : TE := fun σ H Q => t σ H fun vs H1 => sp (vs ++ dvs) H1 Q E
/-- how the parameters are bound: us the positional arguments, kw the keywords' values by name, ds the defaults that fill up -/
def Binds (K : PySem.W.Frag) (fd : FuncData) (ps : List Str) (ds : List Value) : Prop :=
  ∀ (s : Shared) (us : List Value), K.In s.heap → (us ++ ds).length = ps.length → BindsTo s fd ⟨us, []⟩ (ps.zip (us ++ ds))
/-- every parameter is given -/
theorem Binds.all {K : PySem.W.Frag} {fd : FuncData} {ps : List Str} (h : ∀ us : List Value, us.length = ps.length → bindArgs fd ⟨us, []⟩ = pure (ps.zip us)) : Binds K fd ps [] := fun s us _ hl => by
  rw [List.append_nil] at hl ⊢
  exact .of_eq (h us hl)

/-- an exception of a callee reaches what this body wants of exceptions -/
def Passes (CX : CXT) (X : Cx) (E : XK) : Prop := ∀ (pins : List (Addr × Obj)) (σ : St) (H : Hp) (s : Shared) (e : Value) (s' : Shared), Inv X pins σ H s → CX X.stack H s E e s' → X.xe e s'

section
variable {X : Cx} {CX : CXT} {k : Nat} {f C : Addr} {fd : FuncData} {ps : List Str} {sp : Sp} {dvs : List V} {ds : List Value} {E : XK} {x m : Str} {p pos apos : Pos} {e o : Expr} {es : List Expr} {ta : TE} {t : TA}

/-- the callee runs -/
theorem run_fn {pins : List (Addr × Obj)} {σ : St} {H : Hp} {s : Shared} {Q : VK} {us : List Value} {vs : List V} (F : FnOk X.prog X.w X.K X.mg X.base CX k f fd ps sp) (hr : Room k X.A) (hb : Binds X.K fd ps ds) (hd : Vals dvs ds) (hx : Passes CX X E)
    (I : Inv X pins σ H s) (r : Vals vs us) (h : sp (vs ++ dvs) H Q E) : wpAny (model X.prog X.w) X.A (call (.ref f) us) (EP X pins σ Q) X.xe s := by
  have r2 : Vals (vs ++ dvs) (us ++ ds) := r.append hd
  have hl : (us ++ ds).length = ps.length := by rw [← r2.length]; exact F.len _ _ _ _ h
  refine wpAny_call (codeAny_mono (F.run X.A X.stack s H ⟨us, []⟩ (us ++ ds) (vs ++ dvs) Q E hr I.env0 (hb s us I.kIn hl) r2 h) fun r s' hq => ?_)
  cases r with
  | error e => exact hx pins σ H s e s' I hq
  | ok fl =>
    cases fl with
    | ret u => exact I.after hq
    | next => exact False.elim hq
    | brk => exact False.elim hq
    | cont => exact False.elim hq

theorem pe_call (F : FnOk X.prog X.w X.K X.mg X.base CX k f fd ps sp) (hr : Room k X.A) (hg : Gl X x) (hm : X.mg x = some (.ref f)) (hk : PySem.W.keepIn X.K (.ref f) = true) (hb : Binds X.K fd ps ds) (hd : Vals dvs ds) (hx : Passes CX X E)
    (ha : PA X (e :: es) t) (hdb : (x == ("__debug__" : Str)) = false := by decide) (he : starEach (e :: es) X.env = (false, eval e X.env) :: starEach es X.env := by rfl) (hpl : (backTo pos (starEach es X.env)).any (·.1) = false := by rfl) :
    PE X (.Call (.Name x p) (e :: es) [] pos) (tCall sp dvs E t) := by
  intro pins s σ H Q I h
  refine wpAny_Call_Name_kw (ld_glob I hg hm ?_ hdb)
  refine PySem.W.callWith_K (h₀ := X.base) I.ok.mod.kin hk (thn (ha pos pins s σ H _ I h) fun us s1 ⟨vs, H1, I1, r, q⟩ => ⟨I1.kIn, ?_⟩) he hpl
  exact run_fn F hr hb hd hx I1 r q
end

/-! ### keywords -/
section
variable {X : Cx} {CX : CXT} {k : Nat} {f C : Addr} {fd : FuncData} {ps ks : List Str} {sp : Sp} {E : XK} {x m : Str} {p pos apos kpos : Pos} {e o : Expr} {es : List Expr} {kws : List Keyword} {te ta : TE} {t tk : TA} {nm : Option Str}
variable {g : List Value → List Value → List Value} {gV : List V → List V → List V}
end

/-! ### a def's body keeps its promise -/
/-- names: the parameters first -/
structure FnScope (N P : List Str) (sc : Scope) : Prop where
  kind : sc.kind = .function
  co : sc.isCoroutine = false
  gen : sc.isGenerator = false
  nd : N.Nodup
  pre : N.take P.length = P
  par : ∀ x ∈ P, sc.names.lookup x = some .local ∨ sc.names.lookup x = some .cell
  nofree : ∀ y ∈ sc.names, y.2 ≠ .free

theorem bindL_out {kindOf : Str → Option NameKind} {x : Str} : ∀ {binds : List (Str × Value)} {m : Str → Option Value}, (∀ v, (x, v) ∉ binds) → bindL kindOf binds m x = m x
  | [], _, _ => rfl
  | (n, v) :: r, m, h => by
    unfold bindL
    rw [bindL_out fun w hw => h w (List.mem_cons_of_mem _ hw)]
    split
    · have : x ≠ n := by rintro rfl; exact h v List.mem_cons_self
      simp [this]
    · rfl
theorem bindC_out {kindOf : Str → Option NameKind} {x : Str} : ∀ {binds : List (Str × Value)} {m : Str → Option Value}, (∀ v, (x, v) ∉ binds) → bindC kindOf binds m x = m x
  | [], _, _ => rfl
  | (n, v) :: r, m, h => by
    unfold bindC
    rw [bindC_out fun w hw => h w (List.mem_cons_of_mem _ hw)]
    split
    · rfl
    · have : x ≠ n := by rintro rfl; exact h v List.mem_cons_self
      simp [this]
theorem bindL_get {kindOf : Str → Option NameKind} {x : Str} {v : Value} : ∀ {P : List Str} {vs : List Value} {i : Nat} {m : Str → Option Value}, P.Nodup → P[i]? = some x → vs[i]? = some v → kindOf x = some .local →
    bindL kindOf (P.zip vs) m x = some v
  | [], _, _, _, _, h, _, _ => by simp at h
  | _ :: _, [], _, _, _, _, h, _ => by simp at h
  | p :: P, w :: vs, 0, m, nd, h1, h2, hk => by
    simp at h1 h2; subst h1; subst h2
    show bindL kindOf ((p, w) :: P.zip vs) m p = _
    unfold bindL
    rw [bindL_out fun v hv => (List.nodup_cons.mp nd).1 (List.of_mem_zip hv).1, if_pos hk]
    simp
  | p :: P, w :: vs, i + 1, m, nd, h1, h2, hk => by
    show bindL kindOf ((p, w) :: P.zip vs) m x = _
    unfold bindL
    exact bindL_get (i := i) (List.nodup_cons.mp nd).2 (by simpa using h1) (by simpa using h2) hk
theorem bindC_get {kindOf : Str → Option NameKind} {x : Str} {v : Value} : ∀ {P : List Str} {vs : List Value} {i : Nat} {m : Str → Option Value}, P.Nodup → P[i]? = some x → vs[i]? = some v → kindOf x ≠ some .local →
    bindC kindOf (P.zip vs) m x = some v
  | [], _, _, _, _, h, _, _ => by simp at h
  | _ :: _, [], _, _, _, _, h, _ => by simp at h
  | p :: P, w :: vs, 0, m, nd, h1, h2, hk => by
    simp at h1 h2; subst h1; subst h2
    show bindC kindOf ((p, w) :: P.zip vs) m p = _
    unfold bindC
    rw [bindC_out fun v hv => (List.nodup_cons.mp nd).1 (List.of_mem_zip hv).1, if_neg hk]
    simp
  | p :: P, w :: vs, i + 1, m, nd, h1, h2, hk => by
    show bindC kindOf ((p, w) :: P.zip vs) m x = _
    unfold bindC
    exact bindC_get (i := i) (List.nodup_cons.mp nd).2 (by simpa using h1) (by simpa using h2) hk

/-- the names' values at the entry -/
def start (N : List Str) (vs : List V) : St := vs.map some ++ List.replicate (N.length - vs.length) none

/-- the context of a def's body, at its entry; an exception leaves the frame, then lies as CX says -/
def cxOf (CX : CXT) (P : Program) (w : World) (K : PySem.W.Frag) (mg : Str → Option Value) (base : Heap) (N : List Str) (qual : Str) (scope : Scope) (f : Addr) (cd : Value) (A : Around) (outer : List Env) (s : Shared) (H : Hp) (E : XK) : Cx where
  prog := P
  w := w
  K := K
  mg := mg
  base := base
  A := A.deeper (envOfC qual scope s.heap.objs.size f cd)
  N := N
  s₀ := s
  H₀ := H
  env := envOfC qual scope s.heap.objs.size f cd
  outer := outer
  stack := envOfC qual scope s.heap.objs.size f cd :: outer
  ex := []
  calm := true
  fn := fun _ => true
  pn := []
  xe := fun e s' => wpAny (model P w) (A.deeper (envOfC qual scope s.heap.objs.size f cd)) (leaving (envOfC qual scope s.heap.objs.size f cd) e) (fun _ s'' => CX outer H s E e s'') (fun e' s'' => CX outer H s E e' s'') s'

theorem cell_has {sc : Scope} {n : Nat} {x : Str} (h : sc.names.lookup x = some .cell) : ∃ c, (cellsFrom n sc.names []).lookup x = some c := by
  have q := PySem.W.cellsFrom_some sc.names n [] (.inl h)
  exact Option.isSome_iff_exists.mp q

theorem inv_start {CX : CXT} {P : Program} {w : World} {K : PySem.W.Frag} {mg : Str → Option Value} {base : Heap} {N ps : List Str} {qual : Str} {scope : Scope} {f : Addr} {cd : Value} {A : Around} {outer : List Env} {s s1 : Shared} {H : Hp} {E : XK} {us : List Value} {vs : List V}
    (S : FnScope N ps scope) (hd : A.handled = none) (e0 : Env0 P w K mg base A outer s H) (hl : vs.length = ps.length) (r : Vals vs us)
    (x : InCallC s s.heap.objs.size (bindL (envOfC qual scope s.heap.objs.size f cd).kindOf (ps.zip us) fun _ => none) (cellsFrom (s.heap.objs.size + 1) scope.names []) (bindC (envOfC qual scope s.heap.objs.size f cd).kindOf (ps.zip us) fun _ => none) s1) :
    Inv (cxOf CX P w K mg base N qual scope f cd A outer s H E) [] (start N vs) H s1 := by
  have hpl : ps.length ≤ N.length := by have := congrArg List.length S.pre; rw [List.length_take] at this; omega
  obtain ⟨h1, tk, rfl, hk⟩ := x.done
  have noA : ∀ b : Addr, b ∉ (cxOf CX P w K mg base N qual scope f cd A outer s H E).ex := fun b z => absurd (show b ∈ ([] : List Addr) from z) (by simp)
  refine ⟨⟨e0.mod, S.kind, rfl, rfl, Nat.le_refl _, fun y z c h1 h2 => ?_, fun y hy => ?_, fun y c _ h => ?_, fun _ => hd, Around.frames_deeper e0.frames, .inr ⟨rfl, rfl⟩, fun b z => absurd z (noA b), e0.bs, e0.bsz, fun b _ _ => noA b, fun b z => absurd z (noA b), e0.funs, e0.frf⟩,
    rfl, e0.bare, Un.kept hk, ⟨_, x.toInCall.ns, fun i y v h1 h2 h3 => ?_⟩, fun y c h => ⟨_, x.cell y c h⟩, e0.hok.fresh (Nat.le_refl _), fun y c h => ?_, fun p hp => absurd (show p ∈ ([] : List (Addr × Obj)) from hp) (by simp), e0.hok.kept hk, ?_⟩
  · exact name_of_addr x.apart (PySem.mem_of_lookup h1) (PySem.mem_of_lookup h2)
  · have hy : scope.names.lookup y = some .cell ∨ scope.names.lookup y = some .free := hy
    rcases hy with hy | hy
    · exact cell_has hy
    · exact absurd rfl (S.nofree _ (PySem.mem_of_lookup hy))
  · exact Nat.le_of_lt (x.above y c (PySem.mem_of_lookup h))
  · have hi : i < vs.length := by
      unfold start at h2
      by_cases hi : i < vs.length
      · exact hi
      · rw [List.getElem?_append_right (by simpa using hi)] at h2
        rw [List.getElem?_replicate] at h2
        split at h2 <;> cases h2
    have ha : vs[i]? = some v := by
      unfold start at h2
      rw [List.getElem?_append_left (by simpa using hi), List.getElem?_map] at h2
      cases e : vs[i]? with
      | none => rw [e] at h2; cases h2
      | some a => rw [e] at h2; cases h2; rfl
    obtain ⟨u, hu, rv⟩ := r.get ha
    have hp : ps[i]? = some y := by
      rw [← S.pre, List.getElem?_take_of_lt (by omega)]; exact h1
    have ndP : ps.Nodup := by rw [← S.pre]; exact S.nd.sublist (List.take_sublist _ _)
    refine ⟨u, rv, ?_⟩
    rcases S.par y (List.mem_of_getElem? hp) with k | k
    · exact .inl ⟨k, bindL_get ndP hp hu k⟩
    · obtain ⟨c, e⟩ := cell_has (n := s.heap.objs.size + 1) k
      refine .inr ⟨.inl k, c, e, ?_⟩
      have q := x.cell y c e
      rw [bindC_get ndP hp hu (by show scope.names.lookup y ≠ _; rw [k]; decide)] at q
      exact q
  · exact e0.hok.fresh (Nat.le_of_lt (x.above y c (PySem.mem_of_lookup h)))
  · unfold start
    show _ = N.length
    rw [List.length_append, List.length_map, List.length_replicate]
    omega

/-- THE RULE: a def (or a method) of the text, by its body. The body's reading t is chosen for each entry; it is run at the parameters' values -/
theorem fn_of {CX : CXT} {P : Program} {w : World} {K : PySem.W.Frag} {mg : Str → Option Value} {base : Heap} {k : Nat} {f : Addr} {name qual : Str} {params : Arguments} {body : List Stmt} {scope : Scope} {dV kV doc pm cdv ct oc : Value} {an od : Option Addr}
    {osl : Array (Option Value)} {N ps : List Str} {sp : Sp} (lk : K.lookup f = some ⟨oc, od, .func (PySem.W.fnOf name qual params body scope dV kV doc pm an cdv ct), osl⟩) (hcd : PySem.W.codeIn K cdv qual = true) (S : FnScope N ps scope)
    (len : ∀ vs H Q E, sp vs H Q E → vs.length = ps.length)
    (hbody : ∀ (A : Around) (outer : List Env) (s : Shared) (H : Hp) (vs : List V) (Q : VK) (E : XK), Room k (A.deeper (envOfC qual scope s.heap.objs.size f cdv)) → sp vs H Q E →
      ∃ t, PSs (cxOf CX P w K mg base N qual scope f cdv A outer s H E) body t ∧ t { nx := fun _ H' => Q .non H', rt := Q } (start N vs) H) :
    FnOk P w K mg base CX (k + 1) f (PySem.W.fnOf name qual params body scope dV kV doc pm an cdv ct) ps sp := by
  refine ⟨len, fun A outer s H args us vs Q E hr e0 hb r hsp => ?_⟩
  have hl := len _ _ _ _ hsp
  have KX : K.In s.heap := e0.mod.kin.keeps fun b o e => (e0.bs b o e).1
  have lim : s.heap.NoLimit := e0.mod.nolimit.keeps fun b o e => (e0.bs b o e).1
  have hkind : ∀ y ∈ ps.zip us, scope.names.lookup y.1 = some .local ∨ (scope.names.lookup y.1 = some .cell ∧ ((cellsFrom (s.heap.objs.size + 1) scope.names []).lookup y.1).isSome = true) := fun ⟨n, v⟩ hy => by
    rcases S.par n (List.of_mem_zip hy).1 with q | q
    · exact .inl q
    · exact .inr ⟨q, PySem.W.cellsFrom_some _ _ _ (.inl q)⟩
  refine codeAny_call_function hr.depth (KX _ _ lk) rfl S.co S.gen rfl (PySem.W.codeRec_of KX hcd) (hb _ _ _ _ ?_)
  refine wpAny_newFunctionEnv_cells S.kind hkind fun env he s1 x => ?_
  subst he
  refine ⟨lim.keeps x.toInCall.keep, codeAny_func ?_⟩
  obtain ⟨t, ht, hq⟩ := hbody A outer s H vs Q E (hr.deeper _) hsp
  have I : Inv (cxOf CX P w K mg base N qual scope f cdv A outer s H E) [] (start N vs) H s1 := inv_start S hr.hd e0 hl r x
  refine wpAny_mono (ht [] s1 (start N vs) H _ I hq) (fun fl s' hs => ?_) fun e s' hs => hs
  have fin : ∀ {σ' : St} {H' : Hp} {v : V} {u : Value}, Inv (cxOf CX P w K mg base N qual scope f cdv A outer s H E) [] σ' H' s' → RelV v u → Q v H' → CE outer P w H s Q u s' :=
    fun {σ' H' v u} J rv q => ⟨v, H', J.os, J.bare, J.base, J.hok, rv, q⟩
  cases fl with
  | ret u =>
    obtain ⟨v, σ', H', J, rv, q⟩ := hs
    exact fin J rv q
  | next =>
    obtain ⟨σ', H', J, q⟩ := hs
    exact fin (v := V.non) (u := Value.none) J rfl q
  | brk =>
    obtain ⟨_, _, _, q⟩ := hs
    exact False.elim q
  | cont =>
    obtain ⟨_, _, _, q⟩ := hs
    exact False.elim q
end L2

namespace L2
open PySem PySem.Spec PyProof.Rows
section
variable {X : Cx} {x : Str} {p pos : Pos} {e : Expr} {es : List Expr} {t : TA} {id T : String} {r : List V → Hp → VK → Prop}

def tCB (r : List V → Hp → VK → Prop) (t : TA) : TE := fun σ H Q => t σ H fun vs H1 => r vs H1 Q
/-- f(e, ..), f a built-in function -/
theorem pe_callB (hc : CallR X (.builtin id) r) (hg : Gl X x) (hm : X.mg x = none) (hv : bootBuiltins x = some (.builtin id)) (ha : PA X (e :: es) t) (hn : x ≠ "__name__" := by decide) (hdb : (x == ("__debug__" : Str)) = false := by decide)
    (he : starEach (e :: es) X.env = (false, eval e X.env) :: starEach es X.env := by rfl) (hpl : (backTo pos (starEach es X.env)).any (·.1) = false := by rfl) : PE X (.Call (.Name x p) (e :: es) [] pos) (tCB r t) := by
  intro pins s σ H Q I h
  refine wpAny_Call_Name_kw (ld_blt I hg hm hv ?_ hn hdb)
  exact PyProof.Rows.callWith_builtin1 (thn (ha pos pins s σ H _ I h) fun us s1 ⟨vs, H1, I1, r1, q1⟩ => hc pins s1 σ H1 vs us Q I1 r1 q1) he hpl
/-- T(e, ..), T a built-in type -/
theorem pe_callTy (hc : CallR X (.type T) r) (hg : Gl X x) (hm : X.mg x = none) (hv : bootBuiltins x = some (.type T)) (ha : PA X (e :: es) t) (hn : x ≠ "__name__" := by decide) (hdb : (x == ("__debug__" : Str)) = false := by decide)
    (he : starEach (e :: es) X.env = (false, eval e X.env) :: starEach es X.env := by rfl) (hpl : (backTo pos (starEach es X.env)).any (·.1) = false := by rfl) : PE X (.Call (.Name x p) (e :: es) [] pos) (tCB r t) := by
  intro pins s σ H Q I h
  refine wpAny_Call_Name_kw (ld_blt I hg hm hv ?_ hn hdb)
  exact PyProof.Rows.callWith_type1 (thn (ha pos pins s σ H _ I h) fun us s1 ⟨vs, H1, I1, r1, q1⟩ => hc pins s1 σ H1 vs us Q I1 r1 q1) he hpl
end
end L2

namespace HT
open PySem PyProof.Rows

section
open PySem.SeqAt
open PySem.AutoSeq1 (wpAny_loadPart')
open PySem.MeetsSeq PySem.MeetsSeq2 PySem.MeetsSeq3

end

section
variable {prog : Program} {w : World} {A : Around} {E : Value → Shared → Prop} {s : Shared}

/-- t + u, t not empty -/
theorem cat_tup {t b : Addr} {vs ws : List Value} {Q : Value → Shared → Prop} (ht : IsTup s.heap t vs.toArray) (hb : IsTup s.heap b ws.toArray) (hv : vs ≠ [])
    (h1 : ws = [] → Q (.ref t) s) (h2 : ws ≠ [] → Q (.ref s.heap.objs.size) { s with heap := s.heap.push { cls := .type "tuple", data := .seq (vs ++ ws).toArray } })
    (hsz : vs.length + ws.length ≤ sizeLine) : wpAny (model prog w) A (binaryOp .Add (.ref t) (.ref b)) Q E s := by
  obtain ⟨⟨cls, dd, data, sl⟩, ho, hc, n, hd⟩ := id ht
  obtain ⟨⟨cls2, dd2, data2, sl2⟩, ho2, hc2, n2, hd2⟩ := id hb
  simp only at hc hd hc2 hd2
  subst hc hd hc2 hd2
  have e : vs.toArray ++ ws.toArray = (vs ++ ws).toArray := by simp
  by_cases hw : ws = []
  · exact concat_meets ⟨_, ho, rfl⟩ ⟨_, ho2, rfl⟩ noFill_tuple_add seq_tuple_add PySem.F.slot_tuple_add PySem.F.entry_tuple_add (PySem.F.args_tuple_add_2 _ _)
      (tuple_addW1 t b vs.toArray ws.toArray n n2 dd dd2 sl sl2 (by simpa using hv) (by simp [hw])) ⟨ho, ho2, h1 hw⟩
  · refine concat_meets ⟨_, ho, rfl⟩ ⟨_, ho2, rfl⟩ noFill_tuple_add seq_tuple_add PySem.F.slot_tuple_add PySem.F.entry_tuple_add (PySem.F.args_tuple_add_2 _ _)
      (tuple_addW2 t b vs.toArray ws.toArray n n2 dd dd2 sl sl2 (by simpa using hv) (by simpa using hw) (by rw [List.size_toArray, List.size_toArray]; exact hsz)) ⟨ho, ho2, ?_⟩
    rw [e]
    exact h2 hw

/-! ### t[a:b], not the whole -/
end
end HT

namespace L2
open PySem PySem.Spec PyProof.Rows

/-! ### the parts of a slice -/
abbrev TO := St → Hp → (Option Int → Hp → Prop) → Prop
/-- a slice's part (left out, or an int) -/
def PO (X : Cx) (e : Option Expr) (t : TO) : Prop :=
  ∀ (pins : List (Addr × Obj)) (s : Shared) (σ : St) (H : Hp) (Q : Option Int → Hp → Prop), Inv X pins σ H s → t σ H Q →
    wpAny (model X.prog X.w) X.A (evalPart e X.env) (fun u s' => ∃ o H', Inv X pins σ H' s' ∧ IsPart u o ∧ Q o H') X.xe s
def tNoPart : TO := fun _ H Q => Q none H
def tPart (t : TE) : TO := fun σ H Q => t σ H fun x H1 => ∃ i, x = .int i ∧ Q (some i) H1

section
variable {X : Cx} {e : Expr} {te : TE} {lo hi : Option Expr} {tl th : TO} {pos p2 : Pos}

theorem po_none : PO X none tNoPart := by
  intro pins s σ H Q I h
  rw [evalPart_none]
  exact wpAny_pure ⟨none, H, I, .none, h⟩
theorem po_some (h : PE X e te) : PO X (some e) (tPart te) := by
  intro pins s σ H Q I hw
  rw [evalPart_some]
  refine thn (h pins s σ H _ I hw) fun u s1 ⟨x, H1, I1, r1, q1⟩ => ?_
  obtain ⟨i, rfl, q⟩ := q1
  obtain ⟨t, rfl⟩ := r1
  exact ⟨some i, H1, I1, .int i t, q⟩

/-- what a slice of a value is, by values: the slice object stands at sl -/
def SlR (X : Cx) (r : V → Option Int → Option Int → Hp → VK → Prop) : Prop :=
  ∀ (pins : List (Addr × Obj)) (s : Shared) (σ : St) (H : Hp) (x : V) (v vl vu : Value) (lo hi : Option Int) (sl : Addr) (Q : VK), Inv X pins σ H s → RelV x v → s.heap.IsSliceOf sl vl vu .none → IsPart vl lo → IsPart vu hi → r x lo hi H Q →
    ∃ T id, typeLookup (.type T) "__getitem__" = pure (some (.builtin id)) ∧ s.TypeIs v T ∧ wpAny (model X.prog X.w) X.A (getItem v (.ref sl)) (EP X pins σ Q) X.xe s
def tSl (r : V → Option Int → Option Int → Hp → VK → Prop) (te : TE) (tl th : TO) : TE := fun σ H Q => te σ H fun x H1 => tl σ H1 fun l H2 => th σ H2 fun u H3 => r x l u H3 Q
/-- a[lo:hi], any a -/
theorem pe_slice {r : V → Option Int → Option Int → Hp → VK → Prop} (hr : SlR X r) (he : PE X e te) (hl : PO X lo tl) (hu : PO X hi th) : PE X (.Subscript e (.Slice lo hi none p2) pos) (tSl r te tl th) := by
  intro pins s σ H Q I h
  refine Subscript_ (thn (he pins s σ H _ I h) fun v s1 ⟨x, H1, I1, r1, q1⟩ => ?_)
  refine wpAny_Slice (thn (hl pins s1 σ H1 _ I1 q1) fun vl s2 ⟨l, H2, I2, pl, q2⟩ => thn (hu pins s2 σ H2 _ I2 q2) fun vu s3 ⟨u, H3, I3, pu, q3⟩ => ?_)
  rw [evalPart_none]
  refine wpAny_pure ?_
  have I4 : Inv X pins σ H3 { s3 with heap := s3.heap.push { cls := .type "slice", data := .fields #[vl, vu, .none] } } := I3.kept (t' := s3.toks) fun b ob q => Heap.get?_push_of_some _ q
  obtain ⟨T, id, hT, ht, hg⟩ := hr pins { s3 with heap := s3.heap.push { cls := .type "slice", data := .fields #[vl, vu, .none] } } σ H3 x v vl vu l u s3.heap.objs.size Q I4 r1 (Heap.IsSliceOf.new ..) pl pu q3
  show wpAny (model X.prog X.w) X.A (subscriptTail e (.Slice lo hi none p2) v (.ref s3.heap.objs.size)) (EP X pins σ Q) X.xe { s3 with heap := s3.heap.push { cls := .type "slice", data := .fields #[vl, vu, .none] } }
  exact tail_any (ops := [.ref s3.heap.objs.size, v]) ht hT hg (by with_unfolding_all rfl)

/-! ### t < u, t + u -/
/-- t + u, t not empty: u empty gives t itself -/
def rCatT (K : PySem.W.Frag) : R2 := fun x y H Q => ∃ a b xs ys, x = .ref a ∧ y = .ref b ∧ SqT K H a xs ∧ SqT K H b ys ∧ xs ≠ [] ∧ xs.length + ys.length ≤ sizeLine ∧
  (ys = [] → Q (.ref a) H) ∧ (ys ≠ [] → ∀ p, H p = none → Q (.ref p) (upd H p (.tup (xs ++ ys))))
theorem Vals.nil_iff {xs : List V} {us : List Value} (r : Vals xs us) : us = [] ↔ xs = [] := by
  cases r with
  | nil => simp
  | cons _ _ => simp
theorem op_catT : OpR X (binaryOp .Add) (rCatT X.K) := by
  intro pins s σ H x y v u Q I rx ry h
  obtain ⟨a, b, xs, ys, rfl, rfl, ha, hb, hx, hz, q1, q2⟩ := h
  cases rx
  cases ry
  obtain ⟨its, r1, p1, _⟩ := I.tuple ha
  obtain ⟨its2, r2, p2, _⟩ := I.tuple hb
  refine HT.cat_tup p1 p2 (fun z => hx (r1.nil_iff.mp z)) (fun z => ⟨.ref a, H, I, rfl, q1 (r2.nil_iff.mp z)⟩) (fun z => ?_) (by rw [← r1.length, ← r2.length]; exact hz)
  refine ⟨.ref s.heap.objs.size, _, I.laid (t' := s.toks) (o := .tup (xs ++ ys)) (fun b ob q => Heap.get?_push_of_some _ q) (Nat.le_refl _) ?_, rfl, q2 (fun w => z (r2.nil_iff.mpr w)) _ (I.hok.fresh (Nat.le_refl _))⟩
  exact ⟨by rw [List.length_append]; exact hz, _, r1.append r2, IsTup.new _ _⟩
end
end L2

namespace L2
open PySem PySem.Spec PyProof.Rows

/-! ### places -/
/-- the place that an index of any sign means -/
def ixN (n : Nat) (i : Int) : Option Nat := if 0 ≤ i then (if i < n then some i.toNat else none) else if -(n : Int) ≤ i then some (i + n).toNat else none
def atI {α : Type} (xs : List α) (i : Int) : Option α := (ixN xs.length i).bind fun j => xs[j]?
theorem ixN_seq {n : Nat} {i : Int} {j : Nat} (h : ixN n i = some j) : seqIndex? i n = some j ∧ j < n ∧ -(n : Int) ≤ i ∧ i < n := by
  unfold ixN at h
  by_cases h0 : 0 ≤ i
  · rw [if_pos h0] at h
    by_cases h1 : i < n
    · rw [if_pos h1] at h
      have e : i.toNat = j := Option.some.inj h
      exact ⟨by rw [seqIndex_of h0 h1, e], by omega, by omega, h1⟩
    · rw [if_neg h1] at h; cases h
  · rw [if_neg h0] at h
    by_cases h1 : -(n : Int) ≤ i
    · rw [if_pos h1] at h
      have e : (i + n).toNat = j := Option.some.inj h
      exact ⟨by rw [seqIndex_neg (by omega) h1, e], by omega, h1, by omega⟩
    · rw [if_neg h1] at h; cases h
theorem atI_get {α : Type} {xs : List α} {i : Int} {v : α} (h : atI xs i = some v) : ∃ j, seqIndex? i xs.length = some j ∧ xs[j]? = some v ∧ j < xs.length ∧ -(xs.length : Int) ≤ i ∧ i < xs.length := by
  unfold atI at h
  cases e : ixN xs.length i with
  | none => rw [e] at h; cases h
  | some j =>
    rw [e] at h
    obtain ⟨h1, h2, h3, h4⟩ := ixN_seq e
    exact ⟨j, h1, h, h2, h3, h4⟩
theorem atI_nat {α : Type} {xs : List α} {j : Nat} {v : α} (h : xs[j]? = some v) : atI xs (j : Int) = some v := by
  have hj : j < xs.length := (List.getElem?_eq_some_iff.mp h).1
  have e : ixN xs.length (j : Int) = some j := by
    unfold ixN
    rw [if_pos (by omega), if_pos (by omega)]; simp
  unfold atI; rw [e]; exact h
/-! ### what may be subscripted -/
/-- what stands as an index of a plain subscript -/
def PlainIx (b : Expr) : Prop := ∀ o i, subscripted b false o i = operate [o, i] (getItem o i)
/-- a subscript by values -/
def IxR (X : Cx) (r : R2) : Prop :=
  ∀ (value slice : Expr) (pins : List (Addr × Obj)) (s : Shared) (σ : St) (H : Hp) (x y : V) (v u : Value) (Q : VK), Inv X pins σ H s → RelV x v → RelV y u → r x y H Q →
    subscripted slice false v u = operate [v, u] (getItem v u) → wpAny (model X.prog X.w) X.A (subscriptTail value slice v u) (EP X pins σ Q) X.xe s
/-- a call of a builtin's method by values: the receiver, the arguments -/
def MtR (X : Cx) (id : String) (r : V → List V → Hp → VK → Prop) : Prop :=
  ∀ (pins : List (Addr × Obj)) (s : Shared) (σ : St) (H : Hp) (x : V) (xs : List V) (v : Value) (us : List Value) (Q : VK), Inv X pins σ H s → RelV x v → Vals xs us → r x xs H Q →
    wpAny (model X.prog X.w) X.A (call (.builtin id) (v :: us)) (EP X pins σ Q) X.xe s
section
variable {X : Cx} {a b : Expr} {ta tb : TE} {pos : Pos}
theorem IxR.or {r r' : R2} (h : IxR X r) (h' : IxR X r') : IxR X (fun x y H Q => r x y H Q ∨ r' x y H Q) := by
  intro value slice pins s σ H x y v u Q I rx ry q hs
  rcases q with q | q
  · exact h value slice pins s σ H x y v u Q I rx ry q hs
  · exact h' value slice pins s σ H x y v u Q I rx ry q hs
/-- a[b] -/
theorem pe_ix {r : R2} (hr : IxR X r) (ha : PE X a ta) (hb : PE X b tb) (hs : PlainIx b) : PE X (.Subscript a b pos) (tOp r ta tb) := by
  intro pins s σ H Q I h
  exact Subscript_ (binT ha hb I h fun v u s2 x y H2 I2 rx ry q => hr a b pins s2 σ H2 x y v u Q I2 rx ry q (hs _ _))

def rIxL (K : PySem.W.Frag) : R2 := fun x y H Q => ∃ p xs i v, x = .ref p ∧ y = .int i ∧ SqL K H p xs ∧ atI xs i = some v ∧ Q v H
def rIxT (K : PySem.W.Frag) : R2 := fun x y H Q => ∃ p xs i v, x = .ref p ∧ y = .int i ∧ SqT K H p xs ∧ atI xs i = some v ∧ Q v H
def rIxS : R2 := fun x y H Q => ∃ z i c, x = .str z ∧ y = .int i ∧ z.length ≤ sizeLine ∧ atI z.cps.toList i = some c ∧ Q (.str ⟨#[c]⟩) H
theorem ix_list : IxR X (rIxL X.K) := by
  intro value slice pins s σ H x y v u Q I rx ry h hs
  obtain ⟨p, xs, i, z, rfl, rfl, hq, he, q⟩ := h
  cases rx
  obtain ⟨t, rfl⟩ := ry
  obtain ⟨its, r, pl, hz⟩ := I.list hq
  obtain ⟨j, h1, h2, h3, h4, h5⟩ := atI_get he
  obtain ⟨w, ew, rw'⟩ := r.get h2
  have hl := r.length
  have hn := line63
  have fin : EP X pins σ Q w s := ⟨z, H, I, rw', q⟩
  by_cases h0 : 0 ≤ i
  · have hj : i.toNat = j := by
      rw [seqIndex_of h0 h5] at h1
      exact Option.some.inj h1
    exact item_listR pl.isList h0 (by omega) (by rw [hj]; simpa using ew) fin hs
  · have hj : (i + (its.toArray.size : Int)).toNat = j := by
      rw [seqIndex_neg (by omega) h4] at h1
      rw [List.size_toArray, ← hl]
      exact Option.some.inj h1
    exact subscriptTail_builtinR (x := w) pl.isList.typeIs slot_list_getitem.lookup
      (wpAny_getItem_list_neg (Q := fun r s' => r = w ∧ EP X pins σ Q r s') pl.isList (by omega) (by rw [List.size_toArray] <;> omega) (by omega) (by rw [hj]; simpa using ew) ⟨rfl, fin⟩) hs
theorem ix_tup : IxR X (rIxT X.K) := by
  intro value slice pins s σ H x y v u Q I rx ry h hs
  obtain ⟨p, xs, i, z, rfl, rfl, hq, he, q⟩ := h
  cases rx
  obtain ⟨t, rfl⟩ := ry
  obtain ⟨its, r, pl, hz⟩ := I.tuple hq
  obtain ⟨j, h1, h2, h3, h4, h5⟩ := atI_get he
  obtain ⟨w, ew, rw'⟩ := r.get h2
  have hl := r.length
  have hn := line63
  have fin : EP X pins σ Q w s := ⟨z, H, I, rw', q⟩
  exact subscriptTail_builtinR (x := w) pl.typeIs slot_tuple_getitem.lookup
    (getItem_tuple (j := j) (Q := fun r s' => r = w ∧ EP X pins σ Q r s') pl (by omega) (by omega) (by rw [List.size_toArray, ← hl]; exact h1) (by simpa using ew) ⟨rfl, fin⟩) hs
theorem ix_str : IxR X rIxS := by
  intro value slice pins s σ H x y v u Q I rx ry h hs
  obtain ⟨z, i, c, rfl, rfl, hz, he, q⟩ := h
  obtain ⟨t, rfl⟩ := rx
  obtain ⟨t', rfl⟩ := ry
  obtain ⟨j, h1, h2, h3, h4, h5⟩ := atI_get he
  have hl : z.cps.toList.length = z.length := by simp [Str.length]
  rw [hl] at h1 h4 h5
  have hn := line63
  exact tail_any (typeIs_str s z t) slot_str_getitem.lookup (getItem_str (c := c) (by
    have e1 : decide (i < -(2 ^ 63 : Int)) = false := decide_eq_false (by omega)
    have e2 : decide (i ≥ 2 ^ 63) = false := decide_eq_false (by omega)
    rw [e1, e2, Bool.or_false]) (by rw [h1]; simpa using h2) ⟨.str ⟨#[c]⟩, H, I.tok _, ⟨_, rfl⟩, q⟩) hs
/-! ### xs[i] = v, any sign -/
/-- the list's object behind a store -/
theorem mapSeq_set (its : List Value) (n j : Nat) (u : Value) : Obj.mapSeq (·.setIfInBounds j u) { cls := .type "list", data := .seq its.toArray n } = { cls := .type "list", data := .seq (its.set j u).toArray n } := by
  simp [Obj.mapSeq]
theorem Inv.lst {pins : List (Addr × Obj)} {σ : St} {H : Hp} {s : Shared} {p : Addr} {xs : List V} (I : Inv X pins σ H s) (h : H p = some (.lst xs)) :
    ∃ (its : List Value) (n : Nat), Vals xs its ∧ s.heap.get? p = some { cls := .type "list", data := .seq its.toArray n } ∧ xs.length ≤ sizeLine := by
  obtain ⟨z, its, n, r, e⟩ := I.hok p _ h
  exact ⟨its, n, r, e, z⟩
/-- the list at p is written by an update of its object -/
theorem Inv.lstUpd {pins : List (Addr × Obj)} {σ : St} {H : Hp} {s : Shared} {p : Addr} {xs ys : List V} {its its' : List Value} {n n' : Nat} {f : Obj → Obj} (I : Inv X pins σ H s) (h : H p = some (.lst xs))
    (ho : s.heap.get? p = some { cls := .type "list", data := .seq its.toArray n }) (hf : f { cls := .type "list", data := .seq its.toArray n } = { cls := .type "list", data := .seq its'.toArray n' }) (r : Vals ys its') (hz : ys.length ≤ sizeLine) (t : Nat) :
    Inv X pins σ (upd H p (.lst ys)) { s with heap := s.heap.update p f, toks := t } := by
  have e : (s.heap.update p f).get? p = some { cls := .type "list", data := .seq its'.toArray n' } := by
    rw [Heap.get?_update_self f ho (by rw [hf] <;> rfl), hf]
  refine I.write (x := p) (e := p) (by rw [h]; trivial) (.inl rfl) (fun b u hb q => (Heap.get?_update_other _ _ (Ne.symm hb)).trans q) ⟨_, e⟩ ?_
  exact ⟨hz, its', n', r, e⟩
def rSetL : V → V → V → Hp → (Hp → Prop) → Prop := fun o i v H Q => ∃ p xs k j, o = .ref p ∧ i = .int k ∧ H p = some (.lst xs) ∧ ixN xs.length k = some j ∧ Q (upd H p (.lst (xs.set j v)))
theorem set_list : PSet X rSetL := by
  intro pins s σ H o i v ov iv u Q I ro ri rv h
  obtain ⟨p, xs, k, j, rfl, rfl, hp, hj, q⟩ := h
  cases ro
  obtain ⟨t, rfl⟩ := ri
  obtain ⟨its, n, r, ho, hz⟩ := I.lst hp
  obtain ⟨h1, h2, h3, h4⟩ := ixN_seq hj
  have hl := r.length
  have hn := line63
  have I' : Inv X pins σ (upd H p (.lst (xs.set j v))) { s with heap := s.heap.update p (Obj.mapSeq (·.setIfInBounds j u)) } :=
    I.lstUpd hp ho (mapSeq_set its n j u) (r.set rv j) (by rw [List.length_set]; exact hz) s.toks
  by_cases h0 : 0 ≤ k
  · have hk : k.toNat = j := by
      rw [seqIndex_of h0 h4] at h1
      exact Option.some.inj h1
    exact PySem.W.ki_setAt ho h0 (by omega) (by rw [List.size_toArray, ← hl]; exact h4) (by rw [hk]; exact ⟨_, I', q⟩)
  · have hk : (k + (its.toArray.size : Int)).toNat = j := by
      rw [seqIndex_neg (by omega) h3] at h1
      rw [List.size_toArray, ← hl]
      exact Option.some.inj h1
    exact PySem.W.ki_setBack ho (by omega) (by rw [List.size_toArray, ← hl]; exact h3) (by omega) (by rw [hk]; exact ⟨_, I', q⟩)

/-! ### slices -/
/-! ### in, not in: flat items -/
def flatV : V → Bool
  | .non => true
  | .bl _ => true
  | .int _ => true
  | .str _ => true
  | _ => false
/-- == of flat values -/
def eqV : V → V → Bool
  | .non, .non => true
  | .bl a, .bl b => a == b
  | .bl a, .int b => (if a then 1 else 0) == b
  | .int a, .bl b => a == (if b then 1 else 0)
  | .int a, .int b => a == b
  | .str a, .str b => a == b
  | _, _ => false
theorem eqAt_V {A : Around} {s : Shared} {y x : V} {u v : Value} (ry : RelV y u) (rx : RelV x v) (fy : flatV y = true) (fx : flatV x = true) : SeqAt.EqAt A s u v (eqV y x) := by
  cases y with
  | non =>
    cases ry
    cases x with
    | non => cases rx; exact SeqAt.EqAt.same _
    | bl b => cases rx; exact SeqAt.EqAt.none_bool b
    | int b => obtain ⟨t, rfl⟩ := rx; exact SeqAt.EqAt.none_int b t
    | str b => obtain ⟨t, rfl⟩ := rx; exact SeqAt.EqAt.none_str b t
    | _ => exact absurd (show false = true from fx) Bool.false_ne_true
  | bl a =>
    cases ry
    cases x with
    | non => cases rx; exact SeqAt.EqAt.bool_none a
    | bl b => cases rx; exact SeqAt.EqAt.bool_bool a b
    | int b => obtain ⟨t, rfl⟩ := rx; exact SeqAt.EqAt.bool_int a b t
    | str b => obtain ⟨t, rfl⟩ := rx; exact SeqAt.EqAt.bool_str a b t
    | _ => exact absurd (show false = true from fx) Bool.false_ne_true
  | int a =>
    obtain ⟨t', rfl⟩ := ry
    cases x with
    | non => cases rx; exact SeqAt.EqAt.int_none a t'
    | bl b => cases rx; exact SeqAt.EqAt.int_bool a t' b
    | int b => obtain ⟨t, rfl⟩ := rx; exact SeqAt.EqAt.int_int a t' b t
    | str b => obtain ⟨t, rfl⟩ := rx; exact SeqAt.EqAt.int_str a t' b t
    | _ => exact absurd (show false = true from fx) Bool.false_ne_true
  | str a =>
    obtain ⟨t', rfl⟩ := ry
    cases x with
    | non => cases rx; exact SeqAt.EqAt.str_none a t'
    | bl b => cases rx; exact SeqAt.EqAt.str_bool a t' b
    | int b => obtain ⟨t, rfl⟩ := rx; exact SeqAt.EqAt.str_int a t' b t
    | str b => obtain ⟨t, rfl⟩ := rx; exact SeqAt.EqAt.str_str a t' b t
    | _ => exact absurd (show false = true from fx) Bool.false_ne_true
  | _ => exact absurd (show false = true from fy) Bool.false_ne_true
/-- the items' answers, read off the values (a value's own answer does not lean on its token) -/
def eqU (x : V) (u : Value) : Bool := match u with
  | .none => eqV .non x
  | .bool b => eqV (.bl b) x
  | .int i _ => eqV (.int i) x
  | .str z _ => eqV (.str z) x
  | _ => false
theorem eqU_of {x y : V} {u : Value} (r : RelV y u) (f : flatV y = true) : eqU x u = eqV y x := by
  cases y with
  | non => cases r; rfl
  | bl b => cases r; rfl
  | int i => obtain ⟨t, rfl⟩ := r; rfl
  | str z => obtain ⟨t, rfl⟩ := r; rfl
  | _ => exact absurd (show false = true from f) Bool.false_ne_true
theorem any_eqU {x : V} : ∀ {xs : List V} {us : List Value}, Vals xs us → xs.all flatV = true → us.any (eqU x) = xs.any fun y => eqV y x
  | _, _, .nil, _ => rfl
  | y :: xs, u :: us, .cons r t, f => by
    rw [List.all_cons, Bool.and_eq_true] at f
    rw [List.any_cons, List.any_cons, eqU_of r f.1, any_eqU t f.2]
theorem mem_eqAt {A : Around} {s : Shared} {x : V} {v : Value} (rx : RelV x v) (fx : flatV x = true) : ∀ {xs : List V} {us : List Value}, Vals xs us → xs.all flatV = true → ∀ u ∈ us, SeqAt.EqAt A s u v (eqU x u)
  | _, _, .nil, _ => fun u hu => by cases hu
  | y :: xs, u :: us, .cons r t, f => fun u' hu => by
    rw [List.all_cons, Bool.and_eq_true] at f
    rcases List.mem_cons.mp hu with rfl | hu
    · rw [eqU_of r f.1]; exact eqAt_V r rx f.1 fx
    · exact mem_eqAt rx fx t f.2 u' hu
def inV (x : V) (xs : List V) : Bool := xs.any fun y => eqV y x
/-- x in a list or tuple of flat items -/
def rIn (K : PySem.W.Frag) (neg : Bool) : R2 := fun x y H Q => ∃ p xs, y = .ref p ∧ (SqL K H p xs ∨ SqT K H p xs) ∧ flatV x = true ∧ xs.all flatV = true ∧ Q (.bl (if neg then !inV x xs else inV x xs)) H
theorem op_in_seq : OpR X (compareOp .In) (rIn X.K false) := by
  intro pins s σ H x y v u Q I rx ry h
  obtain ⟨p, xs, rfl, hq, fx, fs, q⟩ := h
  cases ry
  rcases hq with hq | hq
  · obtain ⟨its, r, pl, hz⟩ := I.list hq
    refine SeqAt.in_listAt (eqU x) pl.isList (fun w hw => mem_eqAt rx fx r fs w (by simpa using hw)) ⟨.bl _, H, I, rfl, ?_⟩
    rw [show its.toArray.any (eqU x) = its.any (eqU x) by simp, any_eqU r fs]
    exact q
  · obtain ⟨its, r, pl, hz⟩ := I.tuple hq
    refine SeqAt.in_tupleAt (eqU x) pl (fun w hw => mem_eqAt rx fx r fs w (by simpa using hw)) ⟨.bl _, H, I, rfl, ?_⟩
    rw [show its.toArray.any (eqU x) = its.any (eqU x) by simp, any_eqU r fs]
    exact q
theorem op_notIn_str : OpR X (compareOp .NotIn) (fun x y H Q => ∃ i j, x = .str i ∧ y = .str j ∧ Q (.bl (!(!(Builtin.Str.occurrences j i 0 j.length 1).isEmpty))) H) := by
  intro pins s σ H x y v u Q I rx ry h
  obtain ⟨i, j, rfl, rfl, q⟩ := h
  obtain ⟨t, rfl⟩ := rx
  obtain ⟨t', rfl⟩ := ry
  exact notIn_str ⟨.bl _, H, I, rfl, q⟩

/-! ### len, list(x), tuple(x) of any list or tuple that is read -/
theorem call_len_seq : CallR X (.builtin "len") (fun xs H Q => ∃ p ys, xs = [.ref p] ∧ (SqL X.K H p ys ∨ SqT X.K H p ys) ∧ Q (.int ys.length) H) := by
  intro pins s σ H xs us Q I r h
  obtain ⟨p, ys, rfl, hq, q⟩ := h
  obtain ⟨u, rfl, rx⟩ := vals1 r
  cases rx
  have hn := line63
  rcases hq with hq | hq
  · obtain ⟨its, r', pl, hz⟩ := I.list hq
    have hlen := r'.length
    exact Calls.call_len_list pl.isList (by simp only [List.size_toArray] <;> omega) ⟨.int ys.length, H, I.tok _, ⟨s.toks + 1, by rw [List.size_toArray, hlen]⟩, q⟩
  · obtain ⟨its, r', pl, hz⟩ := I.tuple hq
    have hlen := r'.length
    exact len_tuple pl (by simp only [List.size_toArray] <;> omega) ⟨.int ys.length, H, I.tok _, ⟨s.toks + 1, by rw [List.size_toArray, hlen]⟩, q⟩
theorem call_len_str : CallR X (.builtin "len") (fun xs H Q => ∃ z, xs = [.str z] ∧ z.length ≤ sizeLine ∧ Q (.int z.length) H) := by
  intro pins s σ H xs us Q I r h
  obtain ⟨z, rfl, hz, q⟩ := h
  obtain ⟨u, rfl, t, rfl⟩ := vals1 r
  have hn := line63
  exact len_str (by omega) ⟨.int z.length, H, I.tok _, ⟨_, rfl⟩, q⟩
theorem call_tuple_of : CallR X (.type "tuple") (fun xs H Q => ∃ p ys, xs = [.ref p] ∧ ((SqL X.K H p ys ∧ ∀ l, H l = none → Q (.ref l) (upd H l (.tup ys))) ∨ (SqT X.K H p ys ∧ Q (.ref p) H))) := by
  intro pins s σ H xs us Q I r h
  obtain ⟨p, ys, rfl, h⟩ := h
  obtain ⟨u, rfl, rx⟩ := vals1 r
  cases rx
  rcases h with ⟨hq, q⟩ | ⟨hq, q⟩
  · obtain ⟨its, r', pl, hz⟩ := I.list hq
    have hlen := r'.length
    refine call_tuple_list pl.isList (fun h' kp => ?_) (by simp only [List.size_toArray] <;> omega)
    have I1 : Inv X pins σ H { s with heap := h' } := I.kept (t' := s.toks) kp
    have I2 : Inv X pins σ (upd H h'.objs.size (.tup ys)) { s with heap := h'.push { cls := .type "tuple", data := .seq its.toArray } } :=
      I1.laid (t' := s.toks) (fun b o e => Heap.get?_push_of_some _ e) (Nat.le_refl _) (show ObjOk X.prog X.w _ _ _ (.tup ys) from ⟨hz, its, r', IsTup.new _ _⟩)
    exact ⟨.ref h'.objs.size, _, I2, rfl, q _ (I1.hok.fresh (Nat.le_refl _))⟩
  · obtain ⟨its, r', pl, hz⟩ := I.tuple hq
    exact call_tuple_same pl ⟨.ref p, H, I, rfl, q⟩

/-! ### the call of a builtin's method: o.m(..) -/
/-- the value is of that builtin type -/
def tyV (K : PySem.W.Frag) (T : String) (x : V) (H : Hp) : Prop := match x with
  | .str _ => T = "str"
  | .int _ => T = "int"
  | .ref p => (T = "list" ∧ ∃ xs, SqL K H p xs) ∨ (T = "tuple" ∧ ∃ o, K.lookup p = some o ∧ o.cls = .type "tuple" ∧ o.dict = none) ∨
      (T = "dict" ∧ ((∃ kvs, H p = some (.dK kvs)) ∨ ∃ kvs, H p = some (.dT kvs))) ∨ (T = "set" ∧ ∃ S n, H p = some (.set S n))
  | _ => False
theorem tyV_is {pins : List (Addr × Obj)} {σ : St} {H : Hp} {s : Shared} {T : String} {x : V} {v : Value} (I : Inv X pins σ H s) (r : RelV x v) (ty : tyV X.K T x H) :
    s.TypeIs v T ∧ ∀ a, v = .ref a → ∃ ob, s.heap.get? a = some ob ∧ ob.dict = none := by
  cases x with
  | str z =>
    obtain ⟨t, rfl⟩ := r
    cases (show T = "str" from ty)
    exact ⟨typeIs_str s z t, fun _ e => nomatch e⟩
  | int i =>
    obtain ⟨t, rfl⟩ := r
    cases (show T = "int" from ty)
    exact ⟨typeIs_int s i t, fun _ e => nomatch e⟩
  | ref p =>
    cases r
    rcases ty with ⟨rfl, xs, hq⟩ | ⟨rfl, o, hk, hc, hd⟩ | ⟨rfl, hk⟩ | ⟨rfl, S, n, hk⟩
    · obtain ⟨its, _, pl, _⟩ := I.list hq
      refine ⟨pl.isList.typeIs, fun a e => ?_⟩
      cases e
      obtain ⟨o, n, e, c, hd, _⟩ := pl
      exact ⟨o, e, hd⟩
    · refine ⟨⟨o, I.kIn p o hk, hc⟩, fun a e => ?_⟩
      cases e
      exact ⟨o, I.kIn _ o hk, hd⟩
    · have z : ∃ o, s.heap.get? p = some o ∧ o.ExactDict := by
        rcases hk with ⟨kvs, hk⟩ | ⟨kvs, hk⟩
        · obtain ⟨_, _, _, _, o, _, _, e, ex, _⟩ := I.hok p _ hk
          exact ⟨o, e, ex⟩
        · obtain ⟨_, _, _, _, o, _, _, e, ex, _⟩ := I.hok p _ hk
          exact ⟨o, e, ex⟩
      obtain ⟨o, e, ex⟩ := z
      refine ⟨⟨o, e, ex.1⟩, fun a e2 => ?_⟩
      cases e2
      exact ⟨o, e, ex.2.1⟩
    · obtain ⟨o, _, _, _, e, ex, _⟩ := I.hok p _ hk
      refine ⟨⟨o, e, ex.1⟩, fun a e2 => ?_⟩
      cases e2
      exact ⟨o, e, ex.2.1⟩
  | _ => exact False.elim ty
def tBM0 (K : PySem.W.Frag) (T : String) (r : V → List V → Hp → VK → Prop) (to : TE) : TE := fun σ H Q => to σ H fun x H1 => tyV K T x H1 ∧ r x [] H1 Q
def tBM (K : PySem.W.Frag) (T : String) (r : V → List V → Hp → VK → Prop) (to : TE) (t : TA) : TE := fun σ H Q => to σ H fun x H1 => tyV K T x H1 ∧ t σ H1 fun xs H2 => r x xs H2 Q
variable {o e : Expr} {es : List Expr} {to : TE} {t : TA} {name : Str} {apos cpos : Pos} {T id : String} {r : V → List V → Hp → VK → Prop}
theorem pe_bm0 (pa : PlainAttrs T) (slot : Slot T name id) (hty : typeOf (.builtin id) = pure (.type "method_descriptor")) (hm : MtR X id r) (ho : PE X o to)
    (hbase : attributeBase o name X.env (eval o X.env) = eval o X.env := by rfl) (hline : (apos.endLine == cpos.line) = true := by rfl) : PE X (.Call (.Attribute o name apos) [] [] cpos) (tBM0 X.K T r to) := by
  intro pins s σ H Q I h
  refine wpAny_Call_method0_late hbase hline (thn (ho pins s σ H _ I h) fun v s1 ⟨x, H1, I1, r1, ty, q1⟩ => ?_)
  obtain ⟨h1, h2⟩ := tyV_is I1 r1 ty
  exact ⟨T, id, pa, slot, hty, h1, h2, Calls.callWith_builtin rfl (PySem.evalArgs_none (hm pins s1 σ H1 x [] v [] Q I1 r1 .nil q1))⟩
theorem pe_bm (pa : PlainAttrs T) (slot : Slot T name id) (hty : typeOf (.builtin id) = pure (.type "method_descriptor")) (hm : MtR X id r) (ho : PE X o to) (ha : PA X (e :: es) t)
    (hbase : attributeBase o name X.env (eval o X.env) = eval o X.env := by rfl)
    (hfew : ((backTo cpos (starEach (e :: es) X.env)).all (fun x => !x.1) && (backToKw cpos (keywordEach [] X.env)).all (fun x => x.1.isSome)
      && decide ((e :: es).length + ([] : List Keyword).length + (if ([] : List Keyword).isEmpty then 0 else 1) < 30)) = true := by rfl)
    (hline : (apos.endLine == cpos.line) = true := by rfl) (hs : starEach (e :: es) X.env = (false, eval e X.env) :: starEach es X.env := by rfl) (hplain : (backTo cpos (starEach es X.env)).any (·.1) = false := by rfl) :
    PE X (.Call (.Attribute o name apos) (e :: es) [] cpos) (tBM X.K T r to t) := by
  intro pins s σ H Q I h
  refine wpAny_Call_method_late hbase hfew hline rfl (thn (ho pins s σ H _ I h) fun v s1 ⟨x, H1, I1, r1, ty, q1⟩ => ?_)
  obtain ⟨h1, h2⟩ := tyV_is I1 r1 ty
  refine ⟨T, id, pa, slot, hty, h1, h2, ?_⟩
  have hA := ha cpos pins s1 σ H1 _ I1 q1
  rw [hs] at hA ⊢
  refine Calls.callWith_builtin (by show (false || (backTo cpos (starEach es X.env)).any (·.1)) = false; rw [hplain] <;> rfl) (Calls.evalArgs_plain ?_)
  exact thn hA fun us s2 ⟨vs, H2, I2, r2, q2⟩ => hm pins s2 σ H2 x vs v us Q I2 r1 r2 q2
/- xs.append(e), list.index on a module's tuple .. are MtR facts of 06m -/
end
end L2

namespace L2
open PySem PySem.Spec PyProof.Rows

def MtM (X : Cx) (id : String) (r : V → List V → Hp → VK → Prop) : Prop :=
  ∀ (pins : List (Addr × Obj)) (s : Shared) (σ : St) (H : Hp) (x : V) (xs : List V) (v : Value) (us : List Value) (Q : VK), Inv X pins σ H s → RelV x v → Vals xs us → r x xs H Q →
    wpAny (model X.prog X.w) X.A (call (.builtin id) (v :: us)) (EP X pins σ Q) X.xe s

/-! ### lists of values -/
theorem Vals.one : ∀ {x : V} {us : List Value}, Vals [x] us → ∃ u, us = [u] ∧ RelV x u
  | _, _, .cons r .nil => ⟨_, rfl, r⟩
section
variable {X : Cx} {pins : List (Addr × Obj)} {σ : St} {H : Hp} {s : Shared} {l b : Addr} {xs ys zs : List V}

/-! ### the two steps: a tracked list is rewritten, a new list is laid -/
theorem Inv.lset {its its' : List Value} {n : Nat} {f : Array Value → Array Value} {t' : Nat} (I : Inv X pins σ H s) (hH : H l = some (.lst xs))
    (e : s.heap.get? l = some { cls := .type "list", data := .seq its.toArray n }) (hf : f its.toArray = its'.toArray) (hv : Vals ys its') (hz : ys.length ≤ sizeLine) :
    Inv X pins σ (upd H l (.lst ys)) { s with heap := s.heap.update l (Obj.mapSeq f), toks := t' } := by
  have q := PySem.IsL.update e f
  rw [hf] at q
  refine I.write (x := l) (e := l) (by rw [hH]; exact trivial) (.inl rfl) (fun b' u hb hu => (Heap.get?_update_other s.heap (Obj.mapSeq f) (Ne.symm hb)).trans hu) ⟨_, q⟩ ?_
  exact ⟨hz, its', _, hv, q⟩
theorem Inv.lnew {its : List Value} {t' : Nat} (I : Inv X pins σ H s) (hv : Vals ys its) (hz : ys.length ≤ sizeLine) :
    Inv X pins σ (upd H s.heap.objs.size (.lst ys)) { s with heap := s.heap.push { cls := .type "list", data := .seq its.toArray }, toks := t' } :=
  I.laid (fun _ _ q => Heap.get?_push_of_some _ q) (Nat.le_refl _) ⟨hz, its, 0, hv, Heap.get?_push_size _ rfl⟩
theorem Inv.fresh (I : Inv X pins σ H s) : H s.heap.objs.size = none := I.hok.fresh (Nat.le_refl _)
theorem Inv.lstM (I : Inv X pins σ H s) (hH : H l = some (.lst xs)) : xs.length ≤ sizeLine ∧ ∃ (its : List Value) (n : Nat), Vals xs its ∧ xs.length = its.length ∧ s.heap.get? l = some { cls := .type "list", data := .seq its.toArray n } := by
  obtain ⟨z, its, n, r, e⟩ := I.hok l _ hH
  exact ⟨z, its, n, r, r.length, e⟩

end

section
variable {X : Cx}

/-! ### methods -/
def rAppend : V → List V → Hp → VK → Prop := fun x vs H Q => ∃ l xs y, x = .ref l ∧ vs = [y] ∧ H l = some (.lst xs) ∧ xs.length < sizeLine ∧ Q .non (upd H l (.lst (xs ++ [y])))
theorem mt_append : MtM X "list.append" rAppend := by
  intro pins s σ H x vs v us Q I rx rv h
  obtain ⟨l, xs, y, rfl, rfl, hH, hz, q⟩ := h
  cases rx
  obtain ⟨u, rfl, ru⟩ := rv.one
  obtain ⟨z, its, n, r, hl, e⟩ := I.lstM hH
  refine call_meets F.slot_list_append ⟨_, e, rfl⟩ F.entry_list_append (F.args_list_append_2 _ _) (PySem.list_append l its.toArray n u (by rw [List.size_toArray]; omega)) ⟨e, ?_⟩
  refine ⟨.non, _, I.lset (its' := its ++ [u]) hH e (by simp) (r.append (.cons ru .nil)) ?_, rfl, q⟩
  rw [List.length_append, List.length_singleton]
  omega

/-! ### list + list, list += list, list * int -/
def rCat : R2 := fun x y H Q => ∃ l b xs zs, x = .ref l ∧ y = .ref b ∧ H l = some (.lst xs) ∧ H b = some (.lst zs) ∧ xs.length + zs.length ≤ sizeLine ∧ ∀ p, H p = none → Q (.ref p) (upd H p (.lst (xs ++ zs)))
theorem op_cat : OpR X (binaryOp .Add) rCat := by
  intro pins s σ H x y v u Q I rx ry h
  obtain ⟨l, b, xs, zs, rfl, rfl, hH, hB, hz, q⟩ := h
  cases rx
  cases ry
  obtain ⟨z, its, n, r, hl, e⟩ := I.lstM hH
  obtain ⟨z2, its2, n2, r2, hl2, e2⟩ := I.lstM hB
  refine PySem.P.add_list e e2 ?_ (by rw [List.size_toArray, List.size_toArray]; omega)
  have ea : its.toArray ++ its2.toArray = (its ++ its2).toArray := by simp
  rw [ea]
  exact ⟨.ref _, _, I.lnew (t' := s.toks) (r.append r2) (by rw [List.length_append]; omega), rfl, q _ I.fresh⟩
/-! ### del xs[i] -/
end

/-! ### xs[a:b] = ys -/
section
variable {prog : Program} {w : World} {A : Around} {E : Value → Shared → Prop} {s : Shared}
end

section
variable {X : Cx}
end
end L2

namespace Att
open PySem PySem.W PySem.Calls PyProof.Rows

/-! ### the script -/
theorem ints_of_wellAll {P : Params} {h : Heap} : ∀ (ns : List Int) (vs : List Value), WellAll P h vs (ns.map WData.int) → IntsAre vs ns := by
  intro ns
  induction ns with
  | nil =>
    intro vs w
    rw [List.map_nil] at w
    cases w
    exact .nil
  | cons n ns ih =>
    intro vs w
    rw [List.map_cons] at w
    cases w with
    | cons a b =>
      cases a
      exact .cons _ _ (ih _ b)

theorem script_of {l : OpenLaw} {n : Nat} (hn : l.most = some n) {P : Params} {h : Heap} {args : List WData} {vals : List Value}
    (hpre : l.row.toRowW.claim.pre args = true) (hwl : WellAll P h vals args) :
    ∃ a vs ns, vals = [Value.ref a] ∧ args = [WData.list (ns.map WData.int)] ∧ h.get? a = some { cls := .type "list", data := .seq vs.toArray } ∧ IntsAre vs ns ∧ ns.length ≤ n := by
  have hsh : WShape.hasAll [] args [.list .int] = true := (pre_splitW hpre).1
  have hc : l.pre.holds [] { args := args } = true := (pre_splitW hpre).2
  obtain ⟨d, r, rfl, h1, h2⟩ := hasAllW_cons hsh
  obtain rfl := hasAllW_nil h2
  obtain ⟨xs, rfl, h3⟩ := hasW_list h1
  obtain ⟨ns, rfl⟩ := items_int h3
  have hlen : ns.length ≤ n := by
    unfold OpenLaw.pre at hc
    have h4 : (WTm.not (.lt (.lit (.int (n : Int))) (.len (.arg 0)))).holds [] { args := [.list (ns.map .int)] } = true := by
      have h4 := (holds_andW hc).1
      rw [hn] at h4
      exact h4
    have h5 := condW_of h4 (w_not (w_lt w_lit (w_len_list (w_arg rfl))))
    rw [List.length_map] at h5
    refine Nat.le_of_not_lt fun q => ?_
    have q' : (n : Int) < ((ns.length : Nat) : Int) := by omega
    first
      | (rw [decide_eq_true q'] at h5; exact absurd h5 (by decide))
      | (simp at h5; omega)
  cases hwl with
  | cons w1 w2 =>
    cases w2
    cases w1 with
    | list ho hall => exact ⟨_, _, ns, rfl, rfl, ho, ints_of_wellAll ns _ hall, hlen⟩

theorem post_true (l : OpenLaw) (args : List WData) : l.row.toRowW.claim.post args (.bool true) args = true :=
  postW_of (r := l.row.toRowW) (X := (true == true))
    (show WShape.has [] (.bool true) .bool = true by first | rfl | decide | simp [WShape.has, WShape.arms, WShape.armsAll])
    (show (WTm.eq .res (.lit (.bool true))).value [] { args := args, res := some (.bool true), after := args } = some (.bool (true == true)) from w_eq_bool (w_res rfl) w_lit) rfl

/-! ### the attachment: holds_open's last premise (the goal 'hc' behind k_head) from a wpAny of the law's body -/
/-- the same from a codeAny of the CALL (for a layer whose function contracts speak of calls) -/
theorem attach_call {l : OpenLaw} {n : Nat} {q : Program} {loose : List Str} {XP : (Str → Option Value) → Heap → Prop} {YP : World → Heap → Prop} {d : DefRec}
    (hn : l.most = some n) (hdf : d.params.defaults = [])
    (call : ∀ (w : World) (s₀ s₁ : Shared) (mg mb : Str → Option Value) (fa : Addr) (o : Obj) (pm cd doc : Value) (a : Addr) (vs : List Value) (ns : List Int),
      Ground q loose [] XP w s₀ mg mb s₁.heap → YP w s₁.heap →
      s₁.heap.get? fa = some o → o.data = .func (docDef d.name d.params d.body d.scope pm cd doc) → s₁.heap.CodeRec cd d.name → mg d.name = some (.ref fa) →
      s₁.heap.get? a = some { cls := .type "list", data := .seq vs.toArray } → IntsAre vs ns → ns.length ≤ n → s₁.gens = #[] →
      codeAny (model l.prog w) callerA (.call (.ref fa) ⟨[.ref a], []⟩) (fun r s' => r = .ok (.ret (.bool true)) ∧ OldK s₁.heap s'.heap ∧ s'.os = s₁.os ∧ AllBare s'.gens) s₁) :
    WalkO q loose XP YP l.row.toRowW d [] (fun f vs => PySem.call f vs) := by
  intro w s₀ s₁ mg mb G Y fa o pm cd doc dV kV ho hd hcd hD hmg hg args vals as hpre hlay hrd hwl hlo
  obtain rfl : dV = .none := Dflts.none hD hdf
  obtain rfl : kV = .none := Dflts.noKw hD
  obtain ⟨a, vs, ns, rfl, rfl, hobj, hints, hlen⟩ := script_of hn hpre hwl
  refine enter_call (codeAny_mono (call w s₀ s₁ mg mb fa o pm cd doc a vs ns G Y ho (fd_plain hd) hcd hmg hobj hints hlen hg) fun r s' hq => ?_)
  obtain ⟨rfl, h2, h3, h4⟩ := hq
  exact ⟨.inl ⟨.bool true, .bool true, [], rfl, fun _ => rfl, .bool true, post_true l _, fun _ => ⟨List.Pairwise.nil, fun _ hm => (nomatch hm)⟩⟩, h2, h3, h4⟩

/-! ### rules over ANY heap (no ledger) from facts about the written part K: the library's own take a ledger (News) for what they write -/
section
variable {prog : Program} {w : World} {A : Around} {E : Value → Shared → Prop} {s : Shared} {K : Frag}

/-! the whole heap as the ledger: makes every rule that writes through a ledger a rule over any heap -/
end
end Att

namespace L2
open PySem PySem.Spec PyProof.Rows

theorem vals_ints : ∀ {vs : List Value} {ns : List Int}, IntsAre vs ns → Vals (ns.map V.int) vs
  | _, _, .nil => .nil
  | _, _, .cons n t h => .cons ⟨t, rfl⟩ (vals_ints h)

/-- nothing is tracked but the script, known to the object (or it is an object of the module) -/
def Only (H : Hp) : Prop := ∀ b, H b = none ∨ ∃ o xs, H b = some (.frz o (.lst xs))

/-- THE HEAD: the law's promise, at the heap behind the top. F, the promise of the law's def, may use that base is part of the heap (so K.In base, base.Ns mainGlobals mg stand in Mod) -/
theorem law_call {P : Program} {w : World} {K : PySem.W.Frag} {mg mb : Str → Option Value} {CX : CXT} {k : Nat} {fa a : Addr} {fd : FuncData} {x : Str} {sp : Sp} {s₁ : Shared} {vs : List Value} {ns : List Int}
    (KX : K.In s₁.heap) (hns : s₁.heap.Ns mainGlobals mg) (hb : s₁.heap.Ns builtinsNs mb) (hbb : ∀ x : Str, x ≠ "__name__" → mb x = bootBuiltins x) (hlim : s₁.heap.NoLimit) (hg : s₁.gens = #[])
    (ha : s₁.heap.get? a = some { cls := .type "list", data := .seq vs.toArray }) (hi : IntsAre vs ns) (hl : ns.length ≤ sizeLine) (hr : Room k callerA)
    (F : ∀ base : Heap, K.In base → base.Ns mainGlobals mg → FnOk P w K mg base CX k fa fd [x] sp) (hbind : ∀ (s : Shared) (u : Value), BindsTo s fd ⟨[u], []⟩ [(x, u)])
    (hsp : ∀ H : Hp, Only H → SqL K H a (ns.map V.int) → sp [.ref a] H (fun v _ => v = .bl true) fun _ _ _ => False)
    (hCX : ∀ H e s', CX [] H s₁ (fun _ _ _ => False) e s' → False) :
    codeAny (model P w) callerA (.call (.ref fa) ⟨[.ref a], []⟩) (fun r s' => r = .ok (.ret (.bool true)) ∧ OldK s₁.heap s'.heap ∧ s'.os = s₁.os ∧ AllBare s'.gens) s₁ := by
  have rv := vals_ints hi
  have lenV := hi.length
  -- from an abstract heap in which nothing but the script may be tracked
  have core : ∀ H : Hp, Only H → SqL K H a (ns.map V.int) → HOk P w H s₁.heap → (∀ b, H b ≠ none → b = a) → (H a ≠ none → K.lookup a = none) →
      codeAny (model P w) callerA (.call (.ref fa) ⟨[.ref a], []⟩) (fun r s' => r = .ok (.ret (.bool true)) ∧ OldK s₁.heap s'.heap ∧ s'.os = s₁.os ∧ AllBare s'.gens) s₁ := by
    intro H hO hS hok hA hK
    have base_of : ∀ {b : Addr} {o : Obj}, s₁.heap.get? b = some o → H b = none → (hidT s₁.heap H).get? b = some o := fun e n => hidT_get e n
    have noA : ∀ {b : Addr} {o : Obj} {es : Array DictEntry} {ep : Nat}, s₁.heap.get? b = some o → o.data = .dict es ep → H b = none := fun {b o es ep} e d => by
      cases q : H b with
      | none => rfl
      | some u =>
        have e' : b = a := hA b (by rw [q]; simp)
        subst e'
        rw [ha] at e; cases e
        have d' : Data.seq vs.toArray _ = Data.dict es ep := d
        cases d'
    have nsK : ∀ {b : Addr} {m : Str → Option Value}, s₁.heap.Ns b m → (hidT s₁.heap H).Ns b m := fun {b m} ⟨o, es, ep, e, d, r⟩ => ⟨o, es, ep, base_of e (noA e d), d, r⟩
    have hKb : K.In (hidT s₁.heap H) := fun b o e => base_of (KX b o e) (by
      cases q : H b with
      | none => rfl
      | some u =>
        have e' : b = a := hA b (by rw [q]; simp)
        subst e'
        rw [hK (by rw [q]; simp)] at e; cases e)
    have hM : Mod K mg (hidT s₁.heap H) := ⟨hKb, nsK hns, ⟨mb, nsK hb, hbb⟩, let ⟨mc, h1, h2⟩ := hlim; ⟨mc, nsK h1, h2⟩⟩
    have e0 : Env0 P w K mg (hidT s₁.heap H) callerA [] s₁ H := ⟨rfl, hM, fun b o e => of_hidT e, Nat.le_of_eq (hidT_size _ _), trivial, fun b hb => absurd (show b ∈ ([] : List Addr) from hb) (by simp), hok, .of_eq hg⟩
    refine codeAny_mono ((F _ hKb (nsK hns)).run callerA [] s₁ H ⟨[.ref a], []⟩ [.ref a] [.ref a] _ _ hr e0 (hbind s₁ (.ref a)) (.cons rfl .nil) (hsp H hO hS)) fun r s' h => ?_
    cases r with
    | error e => exact (hCX H e s' h).elim
    | ok fl =>
      cases fl with
      | next => exact False.elim h
      | brk => exact False.elim h
      | cont => exact False.elim h
      | ret u =>
        obtain ⟨v, H', os, bare, un, hok', r', q⟩ := h
        have q' : v = .bl true := q
        subst q'
        obtain rfl : u = Value.bool true := r'
        refine ⟨rfl, OldK.of_keep fun b o e => ?_, os, bare⟩
        cases q : H b with
        | none => exact un.keep b o e q (by intro z; exact absurd (show b ∈ ([] : List Addr) from z) (by simp)) (by simp)
        | some u =>
          rcases hO b with z | ⟨ob, xs, z⟩
          · rw [q] at z; cases z
          · have z2 := un.frzs b ob _ z
            obtain ⟨e1, _⟩ := hok b _ z
            obtain ⟨e2, _⟩ := hok' b _ z2
            rw [e] at e1; cases e1
            exact e2
  cases hk : K.lookup a with
  | some o =>
    -- the script is one of the module's own objects
    have e := KX a o hk
    rw [ha] at e
    cases e
    refine core (fun _ => none) (fun _ => .inl rfl) (.inr ⟨_, vs.toArray, _, hk, rfl, rfl, rfl, by rw [List.size_toArray, lenV]; exact hl, by simpa using rv⟩) (fun b u z => by have z' : (none : Option HO) = some u := z; cases z') (fun b z => absurd rfl z) fun z => absurd rfl z
  | none =>
    refine core (fun b => if b = a then some (.frz { cls := .type "list", data := .seq vs.toArray } (.lst (ns.map V.int))) else none) (fun b => ?_) (.inl (.inr ⟨{ cls := .type "list", data := .seq vs.toArray }, if_pos rfl⟩)) (fun b u z => ?_) (fun b z => ?_) fun _ => hk
    · by_cases hb : b = a
      · exact .inr ⟨_, _, if_pos hb⟩
      · exact .inl (if_neg hb)
    · by_cases hb : b = a
      · have z' := (if_pos hb).symm.trans z
        cases z'
        subst hb
        exact ⟨ha, by rw [List.length_map]; exact hl, vs, _, rv, ha⟩
      · have z' := (if_neg hb).symm.trans z
        cases z'
    · by_cases hb : b = a
      · exact hb
      · exact absurd (if_neg hb) z
end L2

namespace L2
open PySem PySem.Spec PyProof.Rows

/-- the goal that k_head leaves (case hc), from the law's promise. F gives the function object fd (K's own) once, then the promise over every base -/
theorem walk_of {l : PySem.W.OpenLaw} {n k : Nat} {q : Program} {loose : List Str} {XP : (Str → Option Value) → Heap → Prop} {YP : World → Heap → Prop} {d : DefRec} {K : Params → PySem.W.Frag} {CX : World → CXT} {sp : World → Sp} {x : Str}
    (hn : l.most = some n) (hn2 : n ≤ sizeLine) (hdf : d.params.defaults = []) (hr : Room k callerA)
    (hY : ∀ (w : World) (h : Heap), YP w h → (K w.params).In h)
    (F : ∀ (w : World) (mg : Str → Option Value) (fa : Addr) (h : Heap), (K w.params).In h → h.Ns mainGlobals mg → mg d.name = some (.ref fa) →
      ∃ fd : FuncData, (∀ (s : Shared) (u : Value), BindsTo s fd ⟨[u], []⟩ [(x, u)]) ∧
        ∀ base : Heap, (K w.params).In base → base.Ns mainGlobals mg → FnOk l.prog w (K w.params) mg base (CX w) k fa fd [x] (sp w))
    (hsp : ∀ (w : World) (H : Hp) (a : Addr) (ns : List Int), ns.length ≤ n → Only H → SqL (K w.params) H a (ns.map V.int) → sp w [.ref a] H (fun v _ => v = .bl true) fun _ _ _ => False)
    (hCX : ∀ (w : World) (H : Hp) (s : Shared) (e : Value) (s' : Shared), CX w [] H s (fun _ _ _ => False) e s' → False) :
    PySem.W.WalkO q loose XP YP l.row.toRowW d [] (fun f vs => PySem.call f vs) := by
  refine Att.attach_call hn hdf fun w s₀ s₁ mg mb fa o pm cd doc a vs ns G Y ho hd hcd hmg hobj hints hlen hg => ?_
  have KX := hY w _ Y
  obtain ⟨fd, hb, hF⟩ := F w mg fa _ KX G.T.g hmg
  exact law_call KX G.T.g G.T.b G.T.builtins G.T.nolimit hg hobj hints (Nat.le_trans hlen hn2) hr hF hb (fun H hO hS => hsp w H a ns hlen hO hS) fun H e s' => hCX w H s₁ e s'
end L2

/- THE LAST THEOREM (shape; LID, My.* are yours):
   My.Adr: a structure of the addresses that your layer names (classes, functions); My.Txt K t: a structure (Prop) of the equations over K;
   My.txt_mk : {K} {implicit addresses ..} (e1 : nsIn K mainGlobals "law" = some (some (.ref f))) (e2 : K.lookup f = some ⟨oc, od, .func (fnOf "law" "law" params body scope dV kV doc pm an cdv ct), sl⟩) (e3 : codeIn K cdv "law" = true) .. : ∃ t, My.Txt K t

set_option maxRecDepth 100000 in
set_option maxHeartbeats 0 in
theorem PySem.Challenge.cw_LID_holds : PySem.Challenge.rw_LID.Holds := by
  w_on; o_law; k_head; (case hw => w_witness2)
  k_fill
  refine L2.walk_of (l := PySem.Challenge.rw_LID) (n := 63) (k := 40) (x := "script") (CX := fun w => ..) (sp := fun _ => My.sp_law) rfl (by decide) rfl ⟨rfl, by decide, by decide⟩ (fun w h Y => PySem.W.kIn_of Y) ?F ?S ?C
  case F =>
    intro w mg fa h KX G hmg
    have T : ∃ t, My.Txt (L2.KOf KX) t := by
      dsimp only [L2.KOf]                          -- K must stand as «<heap const> w.params» for k_is
      refine' My.txt_mk ?e1 ?e2 ?e3 ..
      (case e1 => PySem.W.k_is)                    -- in the order: a name -> its address -> its object -> its parts
      (case e2 => PySem.W.k_is)
      ..
    obtain ⟨t, T⟩ := T
    have e0 := hmg.symm.trans (PySem.W.mg_of KX G T.law)
    cases e0                                       -- fa is the law's own address
    exact ⟨_, fun s u => .of_eq rfl, fun base kb nb => My.law_fn T kb nb⟩     -- if «.of_eq rfl» comes too early: refine' ⟨_, ?b, fun base kb nb => My.law_fn T kb nb⟩; exact fun s u => .of_eq rfl
  case S => exact fun w H a ns hl hO hS => ..
  case C => exact ..
(the tactic k_is has no namespace: write k_is) -/

/-! SHORT WORDS over the layer: a def of the text, its body, what a loop and a test want. -/
namespace L2
open PySem PySem.Spec PyProof.Rows

/-! ### the text by places -/
def defArgs (s : Stmt) : Arguments := match s with
  | .FunctionDef _ a _ _ _ _ _ _ _ _ => a
  | _ => { posonlyargs := [], args := [], vararg := none, kwonlyargs := [], kw_defaults := [], kwarg := none, defaults := [] }
def defBody (s : Stmt) : List Stmt := match s with
  | .FunctionDef _ _ b _ _ _ _ _ _ _ => b
  | _ => []
def defScope (s : Stmt) : Scope := match s with
  | .FunctionDef _ _ _ _ _ _ sc _ _ _ => sc
  | _ => { kind := .function, names := [], isGenerator := false, isCoroutine := false }

/-! ### no exception leaves a def -/
abbrev CX0 : CXT := fun _ _ _ _ _ _ => False
abbrev E0 : XK := fun _ _ _ => False
theorem pass0 {X : Cx} : Passes CX0 X E0 := fun _ _ _ _ _ _ _ h => h.elim

/-! ### a def (or method) of the text as it stands behind the top -/
structure Fun (K : PySem.W.Frag) (x qual : Str) (st : Stmt) (f : Addr) (fd : FuncData) : Prop where
  ex : ∃ (oc : Value) (od : Option Addr) (kV doc pm : Value) (an : Option Addr) (cdv ct : Value) (osl : Array (Option Value)),
    fd = PySem.W.fnOf x qual (defArgs st) (defBody st) (defScope st) .none kV doc pm an cdv ct ∧ K.lookup f = some ⟨oc, od, .func fd, osl⟩ ∧ PySem.W.codeIn K cdv qual = true
  kp : PySem.W.keepIn K (.ref f) = true
section
variable {P : Program} {w : World} {K : PySem.W.Frag} {mg : Str → Option Value} {base : Heap}
/-- THE RULE for a def: its body as a term of rules, and the reading of that term -/
theorem Fun.ok {x qual : Str} {st : Stmt} {f : Addr} {fd : FuncData} {N ps : List Str} {k : Nat} {sp : Sp} (F : Fun K x qual st f fd) (S : FnScope N ps (defScope st)) (len : ∀ vs H Q E, sp vs H Q E → vs.length = ps.length)
    (hbody : ∀ (cdv : Value) (A : Around) (outer : List Env) (s : Shared) (H : Hp) (vs : List V) (Q : VK) (E : XK), Room k (A.deeper (envOfC qual (defScope st) s.heap.objs.size f cdv)) → sp vs H Q E →
      ∃ t, PSs (cxOf CX0 P w K mg base N qual (defScope st) f cdv A outer s H E).nox (defBody st) t ∧ t { nx := fun _ H' => Q .non H', rt := Q } (start N vs) H) : FnOk P w K mg base CX0 (k + 1) f fd ps sp := by
  obtain ⟨oc, od, kV, doc, pm, an, cdv, ct, osl, rfl, lk, hcd⟩ := F.ex
  refine fn_of lk hcd S len fun A outer s H vs Q E hr hsp => ?_
  obtain ⟨t, h, q⟩ := hbody cdv A outer s H vs Q E hr hsp
  exact ⟨t, h.nox, q⟩
/-- how its arguments bind (no defaults): h is «fun _ _ _ _ _ _ us hl => match us, hl with | [_, _], _ => rfl», one _ a parameter -/
theorem Fun.binds {x qual : Str} {st : Stmt} {f : Addr} {fd : FuncData} {ps : List Str} (F : Fun K x qual st f fd)
    (h : ∀ (kV doc pm : Value) (an : Option Addr) (cdv ct : Value) (us : List Value), us.length = ps.length → bindArgs (PySem.W.fnOf x qual (defArgs st) (defBody st) (defScope st) .none kV doc pm an cdv ct) ⟨us, []⟩ = pure (ps.zip us)) : Binds K fd ps [] := by
  obtain ⟨oc, od, kV, doc, pm, an, cdv, ct, osl, rfl, lk, hcd⟩ := F.ex
  exact .all (h kV doc pm an cdv ct)
theorem fun_mk {x qual : Str} {st : Stmt} {f : Addr} {oc : Value} {od an : Option Addr} {osl : Array (Option Value)} {kV doc pm cdv ct : Value} (l : K.lookup f = some ⟨oc, od, .func (PySem.W.fnOf x qual (defArgs st) (defBody st) (defScope st) .none kV doc pm an cdv ct), osl⟩)
    (c : PySem.W.codeIn K cdv qual = true) (k : PySem.W.keepIn K (.ref f) = true) : Fun K x qual st f (PySem.W.fnOf x qual (defArgs st) (defBody st) (defScope st) .none kV doc pm an cdv ct) := ⟨⟨oc, od, kV, doc, pm, an, cdv, ct, osl, rfl, l, c⟩, k⟩
end
/-! ### expressions in short: the name that stands in the i-th slot -/
section
variable {X : Cx}
theorem pv (i : Nat) {x : Str} {pos : Pos} (hN : X.N[i]? = some x := by rfl) (hv : Vis X.env.scope x := by first | exact Or.inl rfl | exact Or.inr (Or.inl rfl) | exact Or.inr (Or.inr rfl)) (hd : (x == ("__debug__" : Str)) = false := by decide)
    (hcd : (x == ("__classdict__" : Str)) = false := by decide) : PE X (.Name x pos) (tVar i) := pe_var hN hv hd hcd
end

/-! ### tests -/
theorem iteF {A B : Prop} (h : B) : if false = true then A else B := by
  rw [if_neg Bool.false_ne_true]
  exact h
theorem iteT {A B : Prop} (h : A) : if true = true then A else B := by
  rw [if_pos rfl]
  exact h
theorem ite2 {c A B : Prop} [Decidable c] (h1 : c → A) (h2 : ¬ c → B) : if c then A else B := by
  by_cases h : c
  · rw [if_pos h]
    exact h1 h
  · rw [if_neg h]
    exact h2 h
/-! ### heaps -/
end L2

set_option Elab.async false
set_option linter.all false
set_option maxRecDepth 100000
namespace L2
open PySem PySem.Spec PyProof.Rows

/-! ### a comprehension's closure and cells -/
def cloF (env : Env) : List (Str × NameKind) → List (Str × Addr) → List (Str × Addr)
  | [], acc => acc
  | (n, k) :: r, acc => if k == .free then cloF env r ((n, (env.cells.lookup n).getD 0) :: acc) else cloF env r acc
theorem clo_forIn {env : Env} (f : Str × NameKind → List (Str × Addr) → Sem (ForInStep (List (Str × Addr))))
    (hf : ∀ n k cs, f (n, k) cs = if k == .free then (do let a ← cellOf env n; pure (.yield ((n, a) :: cs))) else pure (.yield cs)) :
    ∀ (names : List (Str × NameKind)) (acc : List (Str × Addr)), (∀ x ∈ names, x.2 = .free → (env.cells.lookup x.1).isSome = true) → forIn names acc f = pure (cloF env names acc)
  | [], acc, _ => by rw [List.forIn_nil]; rfl
  | (n, k) :: r, acc, h => by
    rw [List.forIn_cons, hf]
    unfold cloF
    have hr : ∀ x ∈ r, x.2 = .free → (env.cells.lookup x.1).isSome = true := fun x hx => h x (List.mem_cons_of_mem _ hx)
    by_cases hk : (k == NameKind.free) = true
    · rw [if_pos hk, if_pos hk]
      have e := h (n, k) List.mem_cons_self (by simpa using hk)
      obtain ⟨c, hc⟩ := Option.isSome_iff_exists.mp e
      unfold cellOf
      simp only at hc
      rw [hc]
      simp only [pure_bind, Option.getD_some]
      exact clo_forIn f hf r _ hr
    · rw [if_neg hk, if_neg hk, pure_bind]
      exact clo_forIn f hf r _ hr
theorem closureFor_cells {scope : Scope} {env : Env} (h : ∀ x ∈ scope.names, x.2 = .free → (env.cells.lookup x.1).isSome = true) : closureFor scope env = pure (cloF env scope.names []) := by
  show (forIn scope.names ([] : List (Str × Addr)) _ >>= fun cs => pure cs) = _
  rw [clo_forIn (env := env) _ (fun n k cs => by cases hk : k == NameKind.free <;> simp [hk]) scope.names [] h]
  simp only [pure_bind]
theorem clo_look {env : Env} {x : Str} {c : Addr} : ∀ (names : List (Str × NameKind)) (acc : List (Str × Addr)), (∀ x ∈ names, x.2 = .free → (env.cells.lookup x.1).isSome = true) →
    (cloF env names acc).lookup x = some c → env.cells.lookup x = some c ∨ acc.lookup x = some c
  | [], _, _, e => .inr e
  | (n, k) :: r, acc, h, e => by
    unfold cloF at e
    have hr : ∀ x ∈ r, x.2 = .free → (env.cells.lookup x.1).isSome = true := fun x hx => h x (List.mem_cons_of_mem _ hx)
    by_cases hk : (k == NameKind.free) = true
    · rw [if_pos hk] at e
      rcases clo_look r _ hr e with q | q
      · exact .inl q
      · rw [List.lookup_cons] at q
        cases hb : x == n with
        | true =>
          rw [hb] at q
          have hx : x = n := by simpa using hb
          obtain ⟨c', hc⟩ := Option.isSome_iff_exists.mp (h (n, k) List.mem_cons_self (by simpa using hk))
          simp only at hc
          rw [hc] at q
          subst hx
          rw [hc]
          exact .inl (by simpa using q)
        | false => rw [hb] at q; exact .inr q
    · rw [if_neg hk] at e
      exact clo_look r _ hr e
theorem clo_some {env : Env} {x : Str} : ∀ (names : List (Str × NameKind)) (acc : List (Str × Addr)), ((x, NameKind.free) ∈ names ∨ (acc.lookup x).isSome = true) → ((cloF env names acc).lookup x).isSome = true
  | [], _, h => h.elim (fun e => nomatch e) id
  | (n, k) :: r, acc, h => by
    unfold cloF
    by_cases hk : (k == NameKind.free) = true
    · rw [if_pos hk]
      refine clo_some r _ ?_
      rcases h with h | h
      · rcases List.mem_cons.mp h with e | h
        · cases e; exact .inr (by rw [List.lookup_cons]; simp)
        · exact .inl h
      · refine .inr ?_
        rw [List.lookup_cons]
        split
        · rfl
        · exact h
    · rw [if_neg hk]
      refine clo_some r _ ?_
      rcases h with h | h
      · rcases List.mem_cons.mp h with e | h
        · cases e; exact absurd (by decide) hk
        · exact .inl h
      · exact .inr h
theorem cf_look {x : Str} {c : Addr} : ∀ (names : List (Str × NameKind)) (k : Nat) (acc : List (Str × Addr)), (cellsFrom k names acc).lookup x = some c → k ≤ c ∨ (acc.lookup x = some c ∧ (x, NameKind.cell) ∉ names)
  | [], _, _, e => .inr ⟨e, by simp⟩
  | (n, kd) :: r, k, acc, e => by
    unfold cellsFrom at e
    by_cases hk : (kd == NameKind.cell) = true
    · rw [if_pos hk] at e
      rcases cf_look r _ _ e with q | ⟨q, nr⟩
      · exact .inl (by omega)
      · rw [List.lookup_cons] at q
        cases hb : x == n with
        | true => rw [hb] at q; cases q; exact .inl (Nat.le_refl _)
        | false =>
          rw [hb] at q
          refine .inr ⟨q, fun z => ?_⟩
          rcases List.mem_cons.mp z with z | z
          · cases z; simp at hb
          · exact nr z
    · rw [if_neg hk] at e
      rcases cf_look r _ _ e with q | ⟨q, nr⟩
      · exact .inl q
      · refine .inr ⟨q, fun z => ?_⟩
        rcases List.mem_cons.mp z with z | z
        · cases z; exact hk (by simp)
        · exact nr z
theorem cf_inj : ∀ (names : List (Str × NameKind)) (k : Nat) (acc : List (Str × Addr)), (∀ p ∈ acc, p.2 < k) → (∀ p q, p ∈ acc → q ∈ acc → p.2 = q.2 → p.1 = q.1) → ∀ p q, p ∈ cellsFrom k names acc → q ∈ cellsFrom k names acc → p.2 = q.2 → p.1 = q.1
  | [], _, _, _, hi, p, q, hp, hq, e => hi p q hp hq e
  | (n, kd) :: r, k, acc, hb, hi, p, q, hp, hq, e => by
    unfold cellsFrom at hp hq
    by_cases hk : (kd == NameKind.cell) = true
    · rw [if_pos hk] at hp hq
      refine cf_inj r (k + 1) ((n, k) :: acc) (fun z hz => ?_) (fun y z hy hz e => ?_) p q hp hq e
      · rcases List.mem_cons.mp hz with rfl | hz
        · exact Nat.lt_succ_self _
        · exact Nat.lt_succ_of_lt (hb z hz)
      · rcases List.mem_cons.mp hy with hy | hy <;> rcases List.mem_cons.mp hz with hz | hz
        · rw [hy, hz]
        · subst hy; exact absurd (hb z hz) (by rw [← e]; exact Nat.lt_irrefl _)
        · subst hz; exact absurd (hb y hy) (by rw [e]; exact Nat.lt_irrefl _)
        · exact hi y z hy hz e
    · rw [if_neg hk] at hp hq
      exact cf_inj r k acc hb hi p q hp hq e
theorem cf_cell : ∀ (names : List (Str × NameKind)) (h : Heap) (acc : List (Str × Addr)) (p : Str × Addr), p ∈ cellsFrom h.objs.size names acc → p ∈ acc ∨ ((pushCells h names).IsCell p.2 none ∧ h.objs.size ≤ p.2)
  | [], _, _, _, e => .inl e
  | (n, kd) :: r, h, acc, p, e => by
    unfold cellsFrom at e
    unfold pushCells
    by_cases hk : (kd == NameKind.cell) = true
    · rw [if_pos hk] at e ⊢
      have hs : (h.push { cls := .type "cell", data := .cell none }).objs.size = h.objs.size + 1 := Heap.size_push ..
      rw [← hs] at e
      rcases cf_cell r _ _ p e with q | ⟨q, l⟩
      · rcases List.mem_cons.mp q with rfl | q
        · exact .inr ⟨Heap.IsCell.keeps ⟨_, Heap.get?_push_size _ rfl, rfl⟩ (pushCells_keeps _ _), Nat.le_refl _⟩
        · exact .inl q
      · exact .inr ⟨q, by omega⟩
    · rw [if_neg hk] at e ⊢
      exact cf_cell r h acc p e
/-- the block's env is made -/
theorem newEnv_comp {M : Model} {A : Around} {E : Value → Shared → Prop} {s : Shared} {scope : Scope} {globals : Addr} {cl : List (Str × Addr)} {qual : Str} {outer : Env} {Q : Env → Shared → Prop}
    (hQ : Q (newEnv scope s.heap.objs.size globals (cellsFrom (s.heap.objs.size + 1) scope.names cl) qual none .none (some outer) builtinsNs) { s with heap := pushCells (s.heap.push { cls := .type "dict", data := .dict #[] }) scope.names }) :
    wpAny M A (newFunctionEnv scope globals cl [] qual none .none (some outer)) Q E s := by
  simp only [newFunctionEnv, Option.isSome_some, if_true]
  refine wpAny_bind (wpAny_alloc ?_)
  refine wpAny_bind (wpAny_layCells _ (fun name kind cells => by cases hkc : kind == NameKind.cell <;> simp [hkc]) _ _ _ _ ?_)
  rw [show ({ s with heap := s.heap.push { cls := .type "dict", data := .dict #[] } } : Shared).heap.objs.size = s.heap.objs.size + 1 from Heap.size_push ..]
  rw [List.forIn_nil]
  exact wpAny_bind (wpAny_pure (wpAny_pure hQ))

/-- the loop of a list comprehension with one for, any target -/
theorem comp_loop {prog : Program} {w : World} {A : Around} {R : Result → Shared → Prop} {s : Shared} {elt target iter : Expr} {ifs : List Expr} {scope : Scope} {pos : Pos} {it acc : Value} {env : Env} (I : Nat → Shared → Prop)
    (turn : ∀ n s, I n s → wpAny (model prog w) A (pyNext it) (fun r s₁ => match r with
      | none => R (.ok .next) s₁
      | some v => wpAny (model prog w) A (letOwnedTupleGo target it v) (fun _ s₁' => wpAny (model prog w) A (assign target env v) (fun _ s₂ =>
          wpAny (model prog w) A (forIn ifs true fun c r => if r = true then do let ok ← isTrue c env (eval c env); pure (ForInStep.yield ok) else pure (ForInStep.yield r)) (fun ok s₃ =>
            if ok = true then wpAny (model prog w) A (eval elt env) (fun x s₄ =>
              wpAny (model prog w) A (call (.builtin "list.append") [acc, x]) (fun _ s₅ => ∃ m, m < n ∧ I m s₅) (fun _ _ => False) s₄) (fun _ _ => False) s₃
            else ∃ m, m < n ∧ I m s₃) (fun _ _ => False) s₂) (fun _ _ => False) s₁') (fun _ _ => False) s₁) (fun _ _ => False) s)
    (n : Nat) (h : I n s) :
    codeAny (model prog w) A (.compLoop (.ListComp elt [⟨target, iter, ifs, 0⟩] scope pos) 0 it acc env) R s := by
  refine codeAny_loop rfl I (fun n s hI => ?_) n h
  show wpAny _ A ((compTurn (.ListComp elt [⟨target, iter, ifs, 0⟩] scope pos) 0 it acc env).onRaise (fun x => do noteFrame x env; theTreesLotGoes x)) _ _ s
  refine wpAny_noted ?_
  rw [compTurn_list]
  refine wpAny_bind (wpAny_standAt (wpAny_bind (wpAny_mono (turn n s hI) (fun r s₁ h₁ => ?_) fun _ _ h' => h'.elim)))
  cases r with
  | none => exact wpAny_pure h₁
  | some v =>
    refine wpAny_bind (wpAny_mono h₁ (fun _ s₁' h₁' => ?_) fun _ _ h' => h'.elim)
    refine wpAny_bind (wpAny_mono h₁' (fun _ s₂ h₂ => wpAny_bind (wpAny_mono h₂ (fun ok s₃ h₃ => ?_) fun _ _ h' => h'.elim)) fun _ _ h' => h'.elim)
    cases ok with
    | false => exact wpAny_pure ⟨rfl, h₃⟩
    | true =>
      exact wpAny_bind (wpAny_bind (wpAny_mono h₃ (fun x s₄ h₄ => wpAny_bind (wpAny_mono h₄ (fun _ s₅ h₅ => wpAny_pure (wpAny_pure ⟨rfl, h₅⟩)) fun _ _ h' => h'.elim)) fun _ _ h' => h'.elim))

/-! ### the block's context -/
def compE (scope : Scope) (C : Addr) (env : Env) : Env := compEnvC scope (cellsFrom (C + 1) scope.names (cloF env scope.names [])) C env
def cxC (X : Cx) (scope : Scope) (C : Addr) (N : List Str) (fp : List Addr) (s : Shared) (H : Hp) : Cx where
  prog := X.prog
  w := X.w
  K := X.K
  mg := X.mg
  base := X.base
  A := X.A
  N := N
  s₀ := s
  H₀ := H
  env := compE scope C X.env
  outer := X.stack
  stack := X.stack
  ex := fp
  fn := fun x => decide ((x, NameKind.cell) ∈ scope.names)
  calm := X.calm
  pn := []
  xe := fun _ _ => False

/-- the tests of a comprehension -/
def PIfs (X : Cx) (ifs : List Expr) (t : TT) : Prop :=
  ∀ (pins : List (Addr × Obj)) (s : Shared) (σ : St) (H : Hp) (Q : Bool → Hp → Prop), Inv X pins σ H s → t σ H Q →
    wpAny (model X.prog X.w) X.A (forIn ifs true fun c r => if r = true then do let ok ← isTrue c X.env (eval c X.env); pure (ForInStep.yield ok) else pure (ForInStep.yield r)) (TP X pins σ Q) X.xe s
def tYes : TT := fun _ H Q => Q true H
theorem pifs_nil {X : Cx} : PIfs X [] tYes := fun _ s σ H Q I h => wpAny_tests_nil ⟨H, I, h⟩
theorem pifs_one {X : Cx} {c : Expr} {t : TT} (h : PT X c t) : PIfs X [c] t := fun pins s σ H Q I q => wpAny_tests_one (h pins s σ H Q I q)

/-- captured names: name and its slot outside -/
def blkσ (own : Nat) (cap : List Nat) (σ : St) : St := List.replicate own none ++ cap.map fun i => (σ[i]?).getD none

structure BlkOk (X : Cx) (scope : Scope) (own : List Str) (cap : List Str) (ix : List Nat) : Prop where
  kind : scope.kind = .function
  names : ∀ x ∈ scope.names, x.2 = .local → scope.names.lookup x.1 = some .local
  nd : (scope.names.map (·.1)).Nodup
  frees : ∀ x ∈ scope.names, x.2 = .free → X.env.kindOf x.1 = some .cell ∨ X.env.kindOf x.1 = some .free
  caps : ∀ (j : Nat) (x : Str), cap[j]? = some x → (x, NameKind.free) ∈ scope.names
  at' : ∀ (j : Nat) (x : Str), cap[j]? = some x → ∃ i, ix[j]? = some i ∧ X.N[i]? = some x
  len : cap.length = ix.length

theorem relabel_look {env : Env} {scope : Scope} {x : Str} {k : NameKind} (h : (relabel scope env).names.lookup x = some k) : (x, k) ∈ scope.names ∨ (k = .cell ∧ (x, NameKind.free) ∈ scope.names) := by
  have m := PySem.mem_of_lookup h
  obtain ⟨⟨n, k'⟩, hm, e⟩ := List.mem_map.mp m
  simp only at e
  split at e
  · rename_i hc
    cases e
    have : k' = NameKind.free := by simp at hc; exact hc.1.1
    subst this
    exact .inr ⟨rfl, hm⟩
  · cases e; exact .inl hm

theorem nodup_keys {names : List (Str × NameKind)} (nd : (names.map (·.1)).Nodup) {x : Str} {k k' : NameKind} (h : (x, k) ∈ names) (h' : (x, k') ∈ names) : k = k' := by
  induction names with
  | nil => cases h
  | cons p r ih =>
    rw [List.map_cons, List.nodup_cons] at nd
    rcases List.mem_cons.mp h with e | h <;> rcases List.mem_cons.mp h' with e' | h'
    · rw [← e'] at e; cases e; rfl
    · exact absurd (List.mem_map.mpr ⟨_, h', by rw [← e]⟩) nd.1
    · exact absurd (List.mem_map.mpr ⟨_, h, by rw [← e']⟩) nd.1
    · exact ih nd.2 h h'

section
variable {X : Cx} {pins : List (Addr × Obj)} {σ : St} {H : Hp} {s : Shared} {scope : Scope} {own cap : List Str} {ix : List Nat}

/-- the block begins: s stands behind the making of the accumulator -/
theorem Inv.block (I : Inv X pins σ H s) (B : BlkOk X scope own cap ix) {fp : List Addr} (hf : ∀ b ∈ fp, FpOk X pins H b) (ho : ∀ b ∈ fp, ∃ o, s.heap.get? b = some o) :
    Inv (cxC X scope s.heap.objs.size (own ++ cap) fp s H) [] (blkσ own.length ix σ) H { s with heap := pushCells (s.heap.push { cls := .type "dict", data := .dict #[] }) scope.names } := by
  have has : ∀ x ∈ scope.names, x.2 = .free → (X.env.cells.lookup x.1).isSome = true := fun x hx hk => by
    obtain ⟨c, e⟩ := I.ok.has x.1 (B.frees x hx hk)
    rw [e]; rfl
  have keep : ∀ b o, s.heap.get? b = some o → (pushCells (s.heap.push { cls := .type "dict", data := .dict #[] }) scope.names).get? b = some o := fun b o e => pushCells_keeps _ _ b o (Heap.get?_push_of_some _ e)
  have old : ∀ x c, X.env.cells.lookup x = some c → c < s.heap.objs.size := fun x c e => let ⟨v, q⟩ := I.cell x c e; q.lt
  have cs_look : ∀ x c, (cellsFrom (s.heap.objs.size + 1) scope.names (cloF X.env scope.names [])).lookup x = some c → s.heap.objs.size + 1 ≤ c ∨ (X.env.cells.lookup x = some c ∧ (x, NameKind.cell) ∉ scope.names) := fun x c e => by
    rcases cf_look _ _ _ e with q | ⟨q, nm⟩
    · exact .inl q
    · rcases clo_look _ _ has q with q | q
      · exact .inr ⟨q, nm⟩
      · cases q
  have clo_mem : ∀ p ∈ cloF X.env scope.names [], X.env.cells.lookup p.1 = some p.2 := by
    have aux : ∀ (names : List (Str × NameKind)) (acc : List (Str × Addr)), (∀ x ∈ names, x.2 = .free → (X.env.cells.lookup x.1).isSome = true) → (∀ p ∈ acc, X.env.cells.lookup p.1 = some p.2) → ∀ p ∈ cloF X.env names acc, X.env.cells.lookup p.1 = some p.2 := by
      intro names
      induction names with
      | nil => intro acc _ h p hp; exact h p hp
      | cons y r ih =>
        intro acc h h2 p hp
        obtain ⟨n, k⟩ := y
        unfold cloF at hp
        by_cases hk : (k == NameKind.free) = true
        · rw [if_pos hk] at hp
          refine ih _ (fun x hx => h x (List.mem_cons_of_mem _ hx)) (fun q hq => ?_) p hp
          rcases List.mem_cons.mp hq with rfl | hq
          · obtain ⟨c, e⟩ := Option.isSome_iff_exists.mp (h (n, k) List.mem_cons_self (by simpa using hk))
            simp only at e ⊢
            rw [e]; rfl
          · exact h2 q hq
        · rw [if_neg hk] at hp
          exact ih _ (fun x hx => h x (List.mem_cons_of_mem _ hx)) h2 p hp
    exact aux _ _ has (fun p hp => nomatch hp)
  have cinj : ∀ x y c, (cellsFrom (s.heap.objs.size + 1) scope.names (cloF X.env scope.names [])).lookup x = some c → (cellsFrom (s.heap.objs.size + 1) scope.names (cloF X.env scope.names [])).lookup y = some c → x = y := fun x y c e1 e2 =>
    cf_inj scope.names (s.heap.objs.size + 1) (cloF X.env scope.names []) (fun p hp => Nat.lt_succ_of_lt (old p.1 p.2 (clo_mem p hp)))
      (fun p q hp hq e => I.ok.inj p.1 q.1 p.2 (clo_mem p hp) (by rw [e]; exact clo_mem q hq)) (x, c) (y, c) (PySem.mem_of_lookup e1) (PySem.mem_of_lookup e2) rfl
  have ccell : ∀ x c, (cellsFrom (s.heap.objs.size + 1) scope.names (cloF X.env scope.names [])).lookup x = some c → ∃ v, (pushCells (s.heap.push { cls := .type "dict", data := .dict #[] }) scope.names).IsCell c v := fun x c e => by
    have m := PySem.mem_of_lookup e
    have hs : (s.heap.push { cls := .type "dict", data := .dict #[] }).objs.size = s.heap.objs.size + 1 := Heap.size_push ..
    rw [← hs] at m
    rcases cf_cell _ _ _ _ m with q | ⟨q, _⟩
    · obtain ⟨v, z⟩ := I.cell _ _ (clo_mem _ q)
      exact ⟨v, z.keeps keep⟩
    · exact ⟨none, q⟩
  have fplt : ∀ b ∈ fp, b < s.heap.objs.size := fun b hb => let ⟨o, e⟩ := ho b hb; Heap.lt_size e
  refine ⟨⟨I.ok.mod, ?_, I.ok.glob, I.ok.blt, Nat.le_refl _, cinj, fun x hx => ?_, fun x c hfx e => ?_, I.ok.hd, I.ok.frames, .inl rfl, fun b hb => ⟨?_, fun x c e => ?_⟩, I.bs, Nat.le_trans I.ok.bsz I.sz, fun b o e hb => ?_, fun b hb hz => ?_, I.stack, I.stkFree⟩,
    rfl, I.bare, Un.kept keep, ⟨fun _ => none, (Heap.Ns.new s.heap (.type "dict")).keeps (pushCells_keeps _ _), fun i x v h1 h2 h3 => ?_⟩, ccell, I.hok.fresh (Nat.le_refl _), fun x c e => ?_, fun p hp => absurd (show p ∈ ([] : List (Addr × Obj)) from hp) (by simp), I.hok.kept keep, ?_⟩
  · exact B.kind
  · have hx' : (relabel scope X.env).names.lookup x = some .cell ∨ (relabel scope X.env).names.lookup x = some .free := hx
    have : ((cellsFrom (s.heap.objs.size + 1) scope.names (cloF X.env scope.names [])).lookup x).isSome = true := by
      have fr : (x, NameKind.free) ∈ scope.names → ((cellsFrom (s.heap.objs.size + 1) scope.names (cloF X.env scope.names [])).lookup x).isSome = true := fun z => PySem.W.cellsFrom_some _ _ _ (.inr (clo_some _ _ (.inl z)))
      have ce : (x, NameKind.cell) ∈ scope.names → ((cellsFrom (s.heap.objs.size + 1) scope.names (cloF X.env scope.names [])).lookup x).isSome = true := fun z => by
        have aux : ∀ (names : List (Str × NameKind)) (k : Nat) (acc : List (Str × Addr)), (x, NameKind.cell) ∈ names → ((cellsFrom k names acc).lookup x).isSome = true := by
          intro names
          induction names with
          | nil => intro _ _ z; cases z
          | cons y r ih =>
            intro k acc z
            obtain ⟨n, kd⟩ := y
            unfold cellsFrom
            by_cases hk : (kd == NameKind.cell) = true
            · rw [if_pos hk]
              rcases List.mem_cons.mp z with e | z
              · cases e
                exact PySem.W.cellsFrom_some _ _ _ (.inr (by rw [List.lookup_cons]; simp))
              · exact ih _ _ z
            · rw [if_neg hk]
              rcases List.mem_cons.mp z with e | z
              · cases e; exact absurd (by decide) hk
              · exact ih _ _ z
        exact aux _ _ _ z
      rcases hx' with q | q
      · rcases relabel_look q with q | ⟨_, q⟩
        · exact ce q
        · exact fr q
      · rcases relabel_look q with q | ⟨e, _⟩
        · exact fr q
        · cases e
    exact Option.isSome_iff_exists.mp this
  · have hm : (x, NameKind.cell) ∈ scope.names := of_decide_eq_true hfx
    rcases cs_look x c e with q | ⟨_, nm⟩
    · exact Nat.le_trans (Nat.le_succ _) q
    · exact absurd hm nm
  · exact Nat.ne_of_lt (fplt b hb)
  · rcases cs_look x c e with q | ⟨q, _⟩
    · exact Nat.ne_of_gt (Nat.lt_of_lt_of_le (fplt b hb) (Nat.le_trans (Nat.le_succ _) q))
    · exact (hf b hb).2.2.2.2.1 x c q
  · rcases (hf b hb).2.2.2.1 with z | z
    · exact I.ok.noex b o e z
    · exact absurd (Nat.lt_of_lt_of_le (Heap.lt_size e) (Nat.le_trans I.ok.bsz z)) (Nat.lt_irrefl _)
  · rcases List.mem_cons.mp (I.stkSub b hz) with e | z
    · exact (hf b hb).2.1 e
    · exact (hf b hb).2.2.1 z
  · -- a captured name
    have h1 : (own ++ cap)[i]? = some x := h1
    have hi : own.length ≤ i := by
      by_cases hi : i < own.length
      · unfold blkσ at h2
        rw [List.getElem?_append_left (by simpa using hi), List.getElem?_replicate, if_pos hi] at h2
        cases h2
      · omega
    rw [List.getElem?_append_right hi] at h1
    unfold blkσ at h2
    rw [List.getElem?_append_right (by simpa using hi), List.length_replicate, List.getElem?_map] at h2
    obtain ⟨j, hj, hN⟩ := B.at' _ _ h1
    rw [hj] at h2
    simp only [Option.map_some, Option.some.injEq] at h2
    have h2' : σ[j]? = some (some v) := by
      cases q : σ[j]? with
      | none => rw [q] at h2; simp at h2
      | some o => rw [q] at h2; simp at h2; rw [h2]
    have fm := B.caps _ _ h1
    have kd := B.frees _ fm rfl
    obtain ⟨m, hn, hl⟩ := I.loc
    obtain ⟨u, r, l⟩ := hl j x v hN h2' (by rcases kd with k | k; exact .inr (.inl k); exact .inr (.inr k))
    refine ⟨u, r, .inr ?_⟩
    have cellx : ∃ c, X.env.cells.lookup x = some c ∧ s.heap.IsCell c (some u) := by
      rcases l with ⟨k, _⟩ | ⟨_, c, e, z⟩
      · simp only at kd; rw [k] at kd; rcases kd with k | k <;> cases k
      · exact ⟨c, e, z⟩
    obtain ⟨c, ec, zc⟩ := cellx
    have ncell : (x, NameKind.cell) ∉ scope.names := fun z => by have := nodup_keys B.nd z fm; cases this
    refine ⟨?_, c, ?_, zc.keeps keep⟩
    · have h3' : (relabel scope X.env).names.lookup x = some .local ∨ (relabel scope X.env).names.lookup x = some .cell ∨ (relabel scope X.env).names.lookup x = some .free := h3
      rcases h3' with q | q | q
      · rcases relabel_look q with q | ⟨e, _⟩
        · have := nodup_keys B.nd q fm; cases this
        · cases e
      · exact .inl q
      · exact .inr q
    · show (cellsFrom (s.heap.objs.size + 1) scope.names (cloF X.env scope.names [])).lookup x = some c
      obtain ⟨c', e'⟩ := Option.isSome_iff_exists.mp (PySem.W.cellsFrom_some (x := x) scope.names (s.heap.objs.size + 1) (cloF X.env scope.names []) (.inr (clo_some _ _ (.inl fm))))
      rw [e']
      rcases cf_look _ _ _ e' with q | ⟨q, _⟩
      · exfalso
        have m := PySem.mem_of_lookup e'
        have aux : ∀ (names : List (Str × NameKind)) (k : Nat) (acc : List (Str × Addr)), (x, NameKind.cell) ∉ names → (cellsFrom k names acc).lookup x = acc.lookup x := by
          intro names
          induction names with
          | nil => intro _ _ _; rfl
          | cons y r ih =>
            intro k acc nm
            obtain ⟨n, kd⟩ := y
            unfold cellsFrom
            by_cases hk : (kd == NameKind.cell) = true
            · rw [if_pos hk, ih _ _ (fun z => nm (List.mem_cons_of_mem _ z)), List.lookup_cons]
              have : (x == n) = false := by
                simp only [beq_eq_false_iff_ne]
                intro e; subst e
                have : kd = .cell := by simpa using hk
                subst this
                exact nm List.mem_cons_self
              rw [this]
            · rw [if_neg hk, ih _ _ (fun z => nm (List.mem_cons_of_mem _ z))]
        rw [aux _ _ _ ncell] at e'
        rcases clo_look _ _ has e' with z | z
        · exact absurd (Nat.lt_of_lt_of_le (old _ _ z) (Nat.le_trans (Nat.le_succ _) q)) (Nat.lt_irrefl _)
        · cases z
      · rcases clo_look _ _ has q with z | z
        · rw [ec] at z; rw [z]
        · cases z
  · rcases cs_look x c e with q | ⟨q, _⟩
    · exact I.hok.fresh (Nat.le_trans (Nat.le_succ _) q)
    · exact I.freeC x c q
  · unfold blkσ
    show _ = (own ++ cap).length
    rw [List.length_append, List.length_append, List.length_replicate, List.length_map, B.len]
end
end L2

set_option Elab.async false
set_option linter.all false
set_option maxRecDepth 100000
namespace L2
open PySem PySem.Spec PyProof.Rows

def tCompN (g : TG) (tt : TT) (te : TE) (J : It) (acc : Addr) (σ₀ : St) (H₀ : Hp) (Q : VK) : Prop :=
  ∃ W : Nat → Nat → St → Hp → Prop, (∃ m, W 0 m σ₀ (upd H₀ acc (.lst []))) ∧ ∀ i m σ' H', W i m σ' H' →
    (J.stop i H' ∧ Q (.ref acc) H') ∨
    (J.go i H' ∧ ∃ N : St → Hp → Prop, (∀ σ2 H2, N σ2 H2 → ∃ m', m' < m ∧ W (i + 1) m' σ2 H2) ∧ ∀ x H2, J.yld i H' x H2 → g x σ' H2 fun σ3 H3 => tt σ3 H3 fun b H4 =>
      if b = true then te σ3 H4 fun y H5 => ∃ ys, H5 acc = some (.lst ys) ∧ ys.length < sizeLine ∧ N σ3 (upd H5 acc (.lst (ys ++ [y]))) else N σ3 H4)
/-- [elt for tg in iter if ..]: the accumulator stands at acc -/
def tComp (wi : TI) (g : TG) (tt : TT) (te : TE) (own : Nat) (ix : List Nat) : TE := fun σ H Q => wi σ H fun J H1 => ∀ acc, H1 acc = none → tCompN g tt te J acc (blkσ own ix σ) H1 Q

section
variable {X : Cx} {scope : Scope} {own cap : List Str} {ix : List Nat} {tg iter elt : Expr} {ifs : List Expr} {wi : TI} {g : TG} {tt : TT} {te : TE} {pos : Pos}

theorem comp_core {pins : List (Addr × Obj)} {σ : St} {H2 : Hp} {s2 : Shared} {it : Addr} {fp : List Addr} {tn : Nat → Heap → Prop} {J : It} {Q : VK} {RR : Value → Addr → Result → Shared → Prop} {E : Value → Shared → Prop}
    (B : BlkOk X scope own cap ix) (hc : X.calm = true)
    (hb : ∀ C fp s H, PG (cxC X scope C (own ++ cap) fp s H) tg g ∧ PIfs (cxC X scope C (own ++ cap) fp s H) ifs tt ∧ PE (cxC X scope C (own ++ cap) fp s H) elt te)
    (I2 : Inv X pins σ H2 s2) (T : Turn X.prog X.w X.K tg J fp it tn) (st2 : tn 0 s2.heap) (f2 : ∀ b ∈ fp, FpOk X pins H2 b)
    (q : ∀ acc, H2 acc = none → tCompN g tt te J acc (blkσ own.length ix σ) H2 Q)
    (hRR : ∀ D C H' s' m, Inv X pins σ H' s' → Q (.ref D) H' → s'.heap.Ns C m → FpOk X pins H' C → RR (.ref D) C (.ok .next) s') :
    wpAny (model X.prog X.w) X.A (newList []) (fun acc s₃ => wpAny (model X.prog X.w) X.A (newFunctionEnv scope X.env.globals (cloF X.env scope.names []) [] X.env.qual none .none (some X.env)) (fun cenv s₄ =>
      codeAny (model X.prog X.w) X.A (.compStart (.ListComp elt [⟨tg, iter, ifs, 0⟩] scope pos) 0 (.ref it) acc { cenv with scope := relabel scope X.env }) (RR acc cenv.locals) s₄) E s₃) E s2 := by
  refine wpAny_newObj_type (newEnv_comp ?_)
  have I3 : Inv X pins σ (upd H2 s2.heap.objs.size (.lst [])) { s2 with heap := s2.heap.push { cls := .type "list", dict := none, data := .seq ([] : List Value).toArray } } := I2.lnew (its := []) (ys := []) (t' := s2.toks) .nil (Nat.zero_le _)
  obtain ⟨W, ⟨m0, w0⟩, turn⟩ := q s2.heap.objs.size I2.fresh
  generalize hD : s2.heap.objs.size = D at I3 w0 turn ⊢
  have hlt : ∀ b ∈ fp, b < D := fun b hbm => by
    obtain ⟨o, e, _⟩ := T.obj 0 _ st2 b hbm
    rw [← hD]; exact Heap.lt_size e
  generalize hs3 : ({ s2 with heap := s2.heap.push { cls := .type "list", dict := none, data := .seq ([] : List Value).toArray } } : Shared) = s3 at I3 ⊢
  have keep3 : ∀ b o, s2.heap.get? b = some o → s3.heap.get? b = some o := fun b o e => by rw [← hs3]; exact Heap.get?_push_of_some _ e
  have f3 : ∀ b ∈ fp, FpOk X pins (upd H2 D (.lst [])) b := fun b hbm => ⟨by rw [upd_ne (Nat.ne_of_lt (hlt b hbm))]; exact (f2 b hbm).1, (f2 b hbm).2⟩
  have o3 : ∀ b ∈ fp, ∃ o, s3.heap.get? b = some o := fun b hbm => let ⟨o, e, _⟩ := T.obj 0 _ st2 b hbm; ⟨o, keep3 b o e⟩
  have I4 := I3.block B f3 o3
  have st4 : tn 0 (pushCells (s3.heap.push { cls := .type "dict", data := .dict #[] }) scope.names) := T.keep 0 _ _ st2 fun b _ o e => pushCells_keeps _ _ b o (Heap.get?_push_of_some _ (keep3 b o e))
  obtain ⟨hg, hif, he⟩ := hb s3.heap.objs.size fp s3 (upd H2 D (.lst []))
  generalize hX' : cxC X scope s3.heap.objs.size (own ++ cap) fp s3 (upd H2 D (.lst [])) = X' at I4 hg hif he
  have eP : X'.prog = X.prog := by rw [← hX']; rfl
  have eW : X'.w = X.w := by rw [← hX']; rfl
  have eK : X'.K = X.K := by rw [← hX']; rfl
  have eA : X'.A = X.A := by rw [← hX']; rfl
  have eE : X'.env = compE scope s3.heap.objs.size X.env := by rw [← hX']; rfl
  have ex : X'.xe = fun _ _ => False := by rw [← hX']; rfl
  have hc' : X'.calm = true := by rw [← hX']; exact hc
  have stat : ∀ {H' : Hp}, (∀ b ∈ fp, H' b = none) → ∀ b ∈ fp, FpOk X' [] H' b := fun hn b hbm => by
    subst hX'
    exact ⟨hn b hbm, (I4.ok.exf b hbm).1, I4.ok.exfs b hbm, .inl hbm, (I4.ok.exf b hbm).2, fun p hp => absurd (show p ∈ ([] : List (Addr × Obj)) from hp) (by simp)⟩
  have loop : ∀ s4 : Shared, s4 = { s3 with heap := pushCells (s3.heap.push { cls := .type "dict", data := .dict #[] }) scope.names } →
      codeAny (model X.prog X.w) X.A (.compLoop (.ListComp elt [⟨tg, iter, ifs, 0⟩] scope pos) 0 (.ref it) (.ref D) (compE scope s3.heap.objs.size X.env)) (RR (.ref D) s3.heap.objs.size) s4 := by
    rintro s4 rfl
    refine comp_loop (fun n s' => ∃ i σ' H', Inv X' [] σ' H' s' ∧ tn i s'.heap ∧ (∀ b ∈ fp, H' b = none) ∧ W i n σ' H') ?_ m0 ⟨0, _, _, I4, st4, fun b hbm => (f3 b hbm).1, w0⟩
    rintro n s5 ⟨i, σ5, H5, I5, st5, fr5, w5⟩
    rcases turn i n σ5 H5 w5 with ⟨stop, qn⟩ | ⟨go, N, hN, step⟩
    · have := T.done X' eP eW eK hc' i [] s5 σ5 H5 (fun _ _ => False) I5 (stat fr5) st5 stop
      rw [eA] at this
      refine thn this fun r s6 ⟨hr, I6⟩ => ?_
      subst hr
      subst hX'
      have J6 : Inv X pins σ H5 s6 := I3.call' (ch := fp) I6.os I6.base I6.hok I6.bare fun b hbm => ⟨(f3 b hbm).2.2.2.1, (f3 b hbm).2.1, (f3 b hbm).2.2.2.2.1, (f3 b hbm).2.2.2.2.2⟩
      obtain ⟨m, hn, _⟩ := I6.loc
      exact hRR D _ H5 s6 m J6 qn hn (I3.fpOk (Nat.le_refl _) I6.free)
    · have := T.item X' eP eW eK hc' i [] s5 σ5 H5 (fun _ _ => False) I5 (stat fr5) st5 go
      rw [eA] at this
      refine thn this fun r s6 ⟨u, hr, h6⟩ => ?_
      subst hr
      refine thn h6 fun _ s7 ⟨x, H7, I7, r7, y7, st7, fr7⟩ => ?_
      have I7' := I7.pinned (stat fr7) (T.obj _ _ st7)
      have a1 := hg _ s7 σ5 H7 x u _ I7' r7 (step x H7 y7)
      rw [eP, eW, eA, eE, ex] at a1
      refine thn a1 fun _ s8 ⟨σ8, H8, I8, q8⟩ => ?_
      have a2 := hif _ s8 σ8 H8 _ I8 q8
      rw [eP, eW, eA, eE, ex] at a2
      refine thn a2 fun b s9 ⟨H9, I9, q9⟩ => ?_
      have again : ∀ {s' : Shared} {σ' : St} {H' : Hp}, Inv X' ([] ++ pinsAt fp s7.heap) σ' H' s' → N σ' H' → ∃ m, m < n ∧ ∃ i σ' H', Inv X' [] σ' H' s' ∧ tn i s'.heap ∧ (∀ b ∈ fp, H' b = none) ∧ W i m σ' H' := fun {s' σ' H'} I' n' => by
        obtain ⟨m', hm, w'⟩ := hN σ' H' n'
        refine ⟨m', hm, i + 1, σ', H', I'.unpinned, T.keep _ _ _ st7 fun b hbm o e => (I'.pin (b, o) (List.mem_append_right _ (List.mem_append_right _ (mem_pinsAt hbm e)))).1, fun b hbm => ?_, w'⟩
        obtain ⟨o, e, d⟩ := T.obj _ _ st7 b hbm
        exact (I'.pin (b, o) (List.mem_append_right _ (List.mem_append_right _ (mem_pinsAt hbm e)))).2.1
      cases b with
      | false => exact again I9 q9
      | true =>
        rw [if_pos rfl] at q9 ⊢
        have a3 := he _ s9 σ8 H9 _ I9 q9
        rw [eP, eW, eA, eE, ex] at a3
        refine thn a3 fun yv s10 ⟨y, H10, I10, r10, ys, hys, hz, q10⟩ => ?_
        have a4 := mt_append (X := X') _ s10 σ8 H10 (.ref D) [y] (.ref D) [yv] (fun v H' => v = .non ∧ N σ8 H') I10 rfl (.cons r10 .nil) ⟨D, ys, y, rfl, rfl, hys, hz, rfl, q10⟩
        rw [eP, eW, eA, ex] at a4
        refine thn a4 fun _ s11 ⟨_, H11, I11, _, _, q11⟩ => again I11 q11
  exact codeAny_compStart_list (loop _ rfl) (T.self X.A 0 _ _ _ st4 (loop _ rfl))

theorem pe_comp (B : BlkOk X scope own cap ix) (hc : X.calm = true) (hi : PI X tg iter wi)
    (hb : ∀ C fp s H, PG (cxC X scope C (own ++ cap) fp s H) tg g ∧ PIfs (cxC X scope C (own ++ cap) fp s H) ifs tt ∧ PE (cxC X scope C (own ++ cap) fp s H) elt te)
    (hs : ∀ x, foldedSetIterable iter X.env x = pure x := by intro _; rfl) : PE X (.ListComp elt [⟨tg, iter, ifs, 0⟩] scope pos) (tComp wi g tt te own.length ix) := by
  intro pins s σ H Q I h
  rw [eval_ListComp]
  have has : ∀ x ∈ scope.names, x.2 = .free → (X.env.cells.lookup x.1).isSome = true := fun x hx hk => by
    obtain ⟨c, e⟩ := I.ok.has x.1 (B.frees x hx hk)
    rw [e]; rfl
  refine wpAny_comprehension_free (use := none) rfl hs (closureFor_cells has) B.kind B.names ?_
  show wpAny _ _ (eval iter X.env) _ _ s
  refine thn (hi pins s σ H _ I h) fun v s1 h1 => thn h1 fun itv s2 h2 => ?_
  obtain ⟨it, fp, tn, J, H2, e, I2, T, st2, f2, q⟩ := h2
  subst e
  refine comp_core (RR := fun acc C => compPost (model X.prog X.w) X.A X.xe none (EP X pins σ Q) acc C) B hc hb I2 T st2 f2 q ?_
  intro D C H' s' m I' q' hn fC
  refine ⟨m, hn, fun h' hsb => ⟨.ref D, H', ?_, rfl, q'⟩⟩
  exact I'.turned (t' := s'.toks) (it := C) (fun b o hbC e => (hsb.2 b hbC).trans e) fC.1 fC.2.1 fC.2.2.2.1 fC.2.2.2.2.1 fC.2.2.2.2.2

/-- name = [.. for ..], the name a plain local on the comprehension's row -/
theorem ps_setC {i : Nat} {y : Str} {py spos : Pos} (hN : X.N.Nodup) (hiN : X.N[i]? = some y) (hx : X.env.scope.names.lookup y = some .local) (B : BlkOk X scope own cap ix) (hc : X.calm = true) (hi : PI X tg iter wi)
    (hb : ∀ C fp s H, PG (cxC X scope C (own ++ cap) fp s H) tg g ∧ PIfs (cxC X scope C (own ++ cap) fp s H) ifs tt ∧ PE (cxC X scope C (own ++ cap) fp s H) elt te)
    (hsw : swapsWith (.ListComp elt [⟨tg, iter, ifs, 0⟩] scope pos) (some (.Name y py)) spos.line X.env = pure true := by rfl)
    (hs : ∀ x, foldedSetIterable iter X.env x = pure x := by intro _; rfl) : PS X (.Assign [.Name y py] (.ListComp elt [⟨tg, iter, ifs, 0⟩] scope pos) spos) (tAsg (tComp wi g tt te own.length ix) (gName i)) := by
  intro pins s σ H D I h
  rw [exec_Assign_Name_used _ _ _ _ hsw]
  have has : ∀ x ∈ scope.names, x.2 = .free → (X.env.cells.lookup x.1).isSome = true := fun x hx hk => by
    obtain ⟨c, e⟩ := I.ok.has x.1 (B.frees x hx hk)
    rw [e]; rfl
  refine wpAny_bind (wpAny_standAt (wpAny_bind ?_))
  show wpAny _ X.A (do let _ ← comprehension (.ListComp elt [⟨tg, iter, ifs, 0⟩] scope pos) scope X.env _ (newList []) false (eval iter X.env) (some (assign (.Name y py) X.env))) _ _ s
  refine wpAny_bind (wpAny_mono (wpAny_comprehension_free (use := some (assign (.Name y py) X.env)) (Q := fun _ s' => SP X pins D .next s') rfl hs (closureFor_cells has) B.kind B.names ?_) (fun _ s' hq => wpAny_pure (wpAny_pure hq)) fun _ _ e => e)
  refine thn (hi pins s σ H _ I h) fun v s1 h1 => thn h1 fun itv s2 h2 => ?_
  obtain ⟨it, fp, tn, J, H2, e, I2, T, st2, f2, q⟩ := h2
  subst e
  refine comp_core (RR := fun acc C => compPost (model X.prog X.w) X.A X.xe (some (assign (.Name y py) X.env)) (fun _ s' => SP X pins D .next s') acc C) B hc hb I2 T st2 f2 q ?_
  intro Da C H' s' m I' q' hn fC
  show wpAny _ X.A (assign (.Name y py) X.env (.ref Da)) _ _ s'
  obtain ⟨oC, es, ep, hoC, hdC, r⟩ := id hn
  have Ip : Inv X (pins ++ [(C, oC)]) σ H' s' := I'.pins_of fun p hp => by
    rcases List.mem_append.mp hp with z | z
    · exact I'.pin p (List.mem_append_right _ z)
    · obtain rfl : p = (C, oC) := by simpa using z
      exact ⟨hoC, fC.1, fC.2.1, fC.2.2.1, fun v e => by rw [hdC] at e; cases e⟩
  refine wpAny_assign_Name (store_ok Ip hN hiN (.inl hx) (v := .ref Da) rfl (fun s'' I'' => ?_) (.inr hx))
  have pC := (I''.pin (C, oC) (List.mem_append_right _ (List.mem_append_right _ (by simp)))).1
  refine ⟨m, ⟨oC, es, ep, pC, hdC, r⟩, fun h' hsb => ⟨_, H', ?_, q'⟩⟩
  exact I''.unpinned.turned (t' := s''.toks) (it := C) (fun b o hbC e => (hsb.2 b hbC).trans e) fC.1 fC.2.1 fC.2.2.2.1 fC.2.2.2.2.1 fC.2.2.2.2.2
end
end L2

set_option Elab.async false
set_option linter.all false
set_option maxRecDepth 100000
namespace L2
open PySem PySem.Spec PyProof.Rows

/-! ### any, all, sum, max over a list or a tuple of plain values -/
section
variable {X : Cx}
end

/-! ### isinstance(x, T), T a name -/
def tIsi (K : PySem.W.Frag) (c : Value) (te : TE) : TE := fun σ H Q => te σ H fun x H1 => ∃ t b, TyOf K H1 x t ∧ PySem.W.kitOne K t c = some b ∧ Q (.bl b) H1
section
variable {X : Cx} {e : Expr} {te : TE}
theorem spl2 {a b : Expr} {ta : TE} {pos : Pos} {pins : List (Addr × Obj)} {s : Shared} {σ : St} {H : Hp} {Q : List Value → Shared → Prop} (ha : PE X a ta) (I : Inv X pins σ H s) {R : V → Hp → Prop} (h : ta σ H R)
    (hs : starEach [a, b] X.env = [(false, eval a X.env), (false, eval b X.env)]) (k : ∀ u s1 x H1, Inv X pins σ H1 s1 → RelV x u → R x H1 → wpAny (model X.prog X.w) X.A (eval b X.env) (fun v s2 => Q [u, v] s2) X.xe s1) :
    wpAny (model X.prog X.w) X.A (spliced (backTo pos (starEach [a, b] X.env))) Q X.xe s := by
  rw [hs]
  refine Calls.spliced_cons (thn (ha pins s σ H _ I h) fun u s1 ⟨x, H1, I1, r, q⟩ => ?_)
  exact Calls.spliced_cons (thn (k u s1 x H1 I1 r q) fun v s2 h2 => Calls.spliced_nil h2)
/-- T a built-in type's name -/
theorem pe_isiB {T : Str} {n : String} {p p2 pos : Pos} (he : PE X e te) (hg : Gl X "isinstance") (hm : X.mg "isinstance" = none) (hgT : Gl X T) (hmT : X.mg T = none) (hv : bootBuiltins T = some (.type n))
    (hb : bootBuiltins "isinstance" = some (.builtin "isinstance")) (hnT : T ≠ "__name__" := by decide) (hdT : (T == ("__debug__" : Str)) = false := by decide)
    (hs : starEach [e, .Name T p2] X.env = [(false, eval e X.env), (false, eval (.Name T p2) X.env)] := by rfl)
    (hpl : (backTo pos (starEach [.Name T p2] X.env)).any (·.1) = false := by rfl) : PE X (.Call (.Name "isinstance" p) [e, .Name T p2] [] pos) (tIsi X.K (.type n) te) := by
  intro pins s σ H Q I h
  refine Call_ (ld_blt I hg hm hb (PyProof.Rows.callWith_builtin1 (spl2 (Q := fun us s1 => wpAny (model X.prog X.w) X.A (call (.builtin "isinstance") us) (EP X pins σ Q) X.xe s1) he I h hs fun u s1 x H1 I1 r q => ?_) ?_ hpl))
  · refine ld_blt I1 hgT hmT hv ?_ hnT hdT
    obtain ⟨t, b, ty, ek, q⟩ := q
    exact isinst_ok I1 r ty ek fun tk => ⟨.bl b, H1, I1.tok tk, rfl, q⟩
  · rw [hs]; rfl
end

/-! ### == and != of nested data -/
mutual
inductive DtV (K : PySem.W.Frag) (H : Hp) : V → PyData → Prop
  | non : DtV K H .non .none
  | bl (b : Bool) : DtV K H (.bl b) (.bool b)
  | int (i : Int) : DtV K H (.int i) (.int i)
  | str (x : Str) (ok : (PyData.str x).canLay0 = true) : DtV K H (.str x) (.str x)
  | lst {a : Addr} {xs : List V} {ds : List PyData} : SqL K H a xs → DtVs K H xs ds → DtV K H (.ref a) (.list ds)
  | tup {a : Addr} {xs : List V} {ds : List PyData} : SqT K H a xs → DtVs K H xs ds → DtV K H (.ref a) (.tuple ds)
inductive DtVs (K : PySem.W.Frag) (H : Hp) : List V → List PyData → Prop
  | nil : DtVs K H [] []
  | cons {x : V} {xs : List V} {d : PyData} {ds : List PyData} : DtV K H x d → DtVs K H xs ds → DtVs K H (x :: xs) (d :: ds)
end
section
variable {X : Cx} {pins : List (Addr × Obj)} {σ : St} {H : Hp} {s : Shared}
mutual
theorem DtV.reads (I : Inv X pins σ H s) : ∀ {x : V} {d : PyData} {u : Value}, DtV X.K H x d → RelV x u → ∃ as, Reads s.heap u d as
  | _, _, _, .non, r => by cases r; exact ⟨_, .none⟩
  | _, _, _, .bl b, r => by cases r; exact ⟨_, .bool b⟩
  | _, _, _, .int i, r => by obtain ⟨t, rfl⟩ := r; exact ⟨_, .int i t⟩
  | _, _, _, .str x _, r => by obtain ⟨t, rfl⟩ := r; exact ⟨_, .str x t⟩
  | _, _, _, .lst hq h, r => by
    cases r
    obtain ⟨its, rv, ⟨o, n, e, c, _, d⟩, _⟩ := I.list hq
    obtain ⟨as, ra⟩ := DtVs.reads I h rv
    exact ⟨_, .list e c d (by simpa using ra)⟩
  | _, _, _, .tup hq h, r => by
    cases r
    obtain ⟨its, rv, ⟨o, e, c, n, d⟩, _⟩ := I.tuple hq
    obtain ⟨as, ra⟩ := DtVs.reads I h rv
    exact ⟨_, .tuple e c d (by simpa using ra)⟩
theorem DtVs.reads (I : Inv X pins σ H s) : ∀ {xs : List V} {ds : List PyData} {us : List Value}, DtVs X.K H xs ds → Vals xs us → ∃ as, ReadsAll s.heap us ds as
  | _, _, _, .nil, r => by cases r; exact ⟨_, .nil⟩
  | _, _, _, .cons h t, r => by
    cases r with
    | cons r1 r2 =>
      obtain ⟨as, ra⟩ := DtV.reads I h r1
      obtain ⟨bs, rb⟩ := DtVs.reads I t r2
      exact ⟨_, .cons ra rb⟩
end
mutual
theorem DtV.lay {K : PySem.W.Frag} : ∀ {x : V} {d : PyData}, DtV K H x d → d.canLay0 = true
  | _, _, .non => rfl
  | _, _, .bl b => rfl
  | _, _, .int i => rfl
  | _, _, .str x ok => ok
  | _, _, .lst hq h => by have := DtVs.lay h; simpa [PyData.canLay0] using this
  | _, _, .tup hq h => by have := DtVs.lay h; simpa [PyData.canLay0] using this
theorem DtVs.lay {K : PySem.W.Frag} : ∀ {xs : List V} {ds : List PyData}, DtVs K H xs ds → PyData.canLayAll0 ds = true
  | _, _, .nil => rfl
  | _, _, .cons h t => by have h1 := DtV.lay h; have h2 := DtVs.lay t; simp [PyData.canLayAll0, h1, h2]
end
end
section
variable {X : Cx}
def rEqD (K : PySem.W.Frag) : R2 := fun x y H Q => ∃ dx dy, DtV K H x dx ∧ DtV K H y dy ∧ min dx.depth dy.depth ≤ 60 ∧ Q (.bl (PyData.eqv dx dy)) H
def rNeD (K : PySem.W.Frag) : R2 := fun x y H Q => ∃ dx dy, DtV K H x dx ∧ DtV K H y dy ∧ min dx.depth dy.depth ≤ 60 ∧ Q (.bl (!PyData.eqv dx dy)) H
theorem op_eqD (hu : X.A.units + 64 < cLine) : OpR X (compareOp .Eq) (rEqD X.K) := by
  intro pins s σ H x y v u Q I rx ry h
  obtain ⟨dx, dy, hx, hy, hd, q⟩ := h
  obtain ⟨as, ra⟩ := hx.reads I rx
  obtain ⟨bs, rb⟩ := hy.reads I ry
  exact SeqAt.eqOverData X.prog X.w X.A X.xe s v u dx dy as bs _ ra rb hx.lay hy.lay (by omega) ⟨.bl (PyData.eqv dx dy), H, I, rfl, q⟩
theorem op_neD (hu : X.A.units + 64 < cLine) : OpR X (compareOp .NotEq) (rNeD X.K) := by
  intro pins s σ H x y v u Q I rx ry h
  obtain ⟨dx, dy, hx, hy, hd, q⟩ := h
  obtain ⟨as, ra⟩ := hx.reads I rx
  obtain ⟨bs, rb⟩ := hy.reads I ry
  exact SeqAt.neOverData X.prog X.w X.A X.xe s v u dx dy as bs _ ra rb hx.lay hy.lay (by omega) ⟨.bl (!PyData.eqv dx dy), H, I, rfl, q⟩
end
end L2

set_option Elab.async false
set_option linter.all false
set_option maxRecDepth 100000
namespace PySem
open AutoSeq1 (wpAny_loadPart')
end PySem
namespace PySem
end PySem

set_option Elab.async false
set_option linter.all false
set_option maxRecDepth 100000
namespace PySem
open AutoSeq1 (wpAny_loadPart')
end PySem
namespace L2
open PySem PySem.Spec PyProof.Rows
section
variable {X : Cx}
/-! ### enumerate of a tuple, unpacked at once -/
end
end L2

set_option Elab.async false
set_option linter.all false
set_option maxRecDepth 100000
namespace L2
open PySem PySem.Spec PyProof.Rows
def Cn (σ₀ : St) (acc : Addr) (P : List V → Hp → Prop) (σ : St) (H : Hp) : Prop := (∀ v, σ.set 0 v = σ₀.set 0 v) ∧ ∃ ys, H acc = some (.lst ys) ∧ P ys H
theorem Cn.of {σ₀ : St} {acc : Addr} {P : List V → Hp → Prop} {w : Option V} {H : Hp} {ys : List V} (h : H acc = some (.lst ys)) (p : P ys H) : Cn σ₀ acc P (σ₀.set 0 w) H := ⟨fun v => by rw [List.set_set], ys, h, p⟩
/-- a block's facts, decided -/
def capOk (outer : List (Str × NameKind)) (N : List Str) (scope : Scope) (cap : List Str) (ix : List Nat) : Bool :=
  (scope.kind == .function) && (scope.names.all fun x => x.2 != .local || scope.names.lookup x.1 == some .local) && decide (scope.names.map (·.1)).Nodup &&
  (scope.names.all fun x => x.2 != .free || outer.lookup x.1 == some .cell || outer.lookup x.1 == some .free) && (cap.all fun x => decide ((x, NameKind.free) ∈ scope.names)) && (cap.zip ix).all (fun p => N[p.2]? == some p.1) && cap.length == ix.length
theorem BlkOk.of {X : Cx} {scope : Scope} {own cap : List Str} {ix : List Nat} (outer : List (Str × NameKind)) (N : List Str) (hsc : X.env.scope.names = outer := by rfl) (hN : X.N = N := by rfl) (h : capOk outer N scope cap ix = true := by decide +kernel) : BlkOk X scope own cap ix := by
  unfold capOk at h
  simp only [Bool.and_eq_true, List.all_eq_true, beq_iff_eq, decide_eq_true_eq, Bool.or_eq_true, bne_iff_ne, ne_eq] at h
  obtain ⟨⟨⟨⟨⟨⟨h1, h2⟩, h3⟩, h4⟩, h5⟩, h6⟩, h7⟩ := h
  refine ⟨h1, fun x hx hl => ?_, h3, fun x hx hl => ?_, fun j x e => h5 x (List.mem_of_getElem? e), fun j x e => ?_, h7⟩
  · rcases h2 x hx with z | z
    · exact absurd hl z
    · exact z
  · show X.env.scope.names.lookup x.1 = _ ∨ X.env.scope.names.lookup x.1 = _
    rw [hsc]
    rcases h4 x hx with (z | z) | z
    · exact absurd hl z
    · exact .inl z
    · exact .inr z
  · have hj : j < cap.length := (List.getElem?_eq_some_iff.mp e).1
    have hj' : j < ix.length := by omega
    refine ⟨ix[j], List.getElem?_eq_getElem hj', ?_⟩
    rw [hN]
    have hz : (cap.zip ix)[j]? = some (x, ix[j]) := by
      rw [List.getElem?_zip_eq_some]
      exact ⟨e, List.getElem?_eq_getElem hj'⟩
    exact h6 _ (List.mem_of_getElem? hz)
section
variable {K : PySem.W.Frag} {lo : Int} {n : Nat} {tt : TT} {te : TE} {acc a : Addr} {xs : List V} {σ₀ : St} {H₀ : Hp} {Q : VK}
theorem comp_range (Pv : Nat → List V → Hp → Prop) (h0 : Pv 0 [] (upd H₀ acc (.lst [])))
    (hs : ∀ (i : Nat) ys H, i < n → H acc = some (.lst ys) → Pv i ys H → tt (σ₀.set 0 (some (.int (lo + i)))) H fun b H4 =>
      if b = true then te (σ₀.set 0 (some (.int (lo + i)))) H4 fun y H5 => ∃ zs, H5 acc = some (.lst zs) ∧ zs.length < sizeLine ∧ Cn σ₀ acc (Pv (i + 1)) (σ₀.set 0 (some (.int (lo + i)))) (upd H5 acc (.lst (zs ++ [y]))) else Cn σ₀ acc (Pv (i + 1)) (σ₀.set 0 (some (.int (lo + i)))) H4)
    (hd : ∀ ys H, H acc = some (.lst ys) → Pv n ys H → Q (.ref acc) H) : tCompN (gName 0) tt te (Itr lo n) acc σ₀ H₀ Q := by
  refine ⟨fun i m σ H => m = n - i ∧ i ≤ n ∧ Cn σ₀ acc (Pv i) σ H, ⟨n, by simp, Nat.zero_le _, fun _ => rfl, [], upd_same, h0⟩, ?_⟩
  rintro i m σ H ⟨rfl, hi, hσ, ys, hy, p⟩
  by_cases hlt : i < n
  · refine .inr ⟨hlt, Cn σ₀ acc (Pv (i + 1)), fun σ' H' c => ⟨n - (i + 1), by omega, rfl, hlt, c⟩, fun x H' y => ?_⟩
    obtain ⟨e, y⟩ := y
    subst e y
    show tt (σ.set 0 _) _ _
    rw [hσ]
    exact hs i ys _ hlt hy p
  · have e : i = n := by omega
    subst e
    exact .inl ⟨Nat.le_refl _, hd ys H hy p⟩
end
end L2

set_option Elab.async false
set_option linter.all false
set_option maxRecDepth 100000
namespace L2
open PySem PySem.Spec PyProof.Rows
/-! the rules that name the fragment, with the fragment said: for use inside a comprehension's block -/
section
variable {X : Cx} {tg l : Expr} {tl : TE}
theorem cLen (K : PySem.W.Frag) (h : X.K = K := by rfl) : CallR X (.builtin "len") (fun xs H Q => ∃ p ys, xs = [.ref p] ∧ (SqL K H p ys ∨ SqT K H p ys) ∧ Q (.int ys.length) H) := by subst h; exact call_len_seq
end
end L2

set_option Elab.async false
set_option linter.all false
set_option maxRecDepth 100000
set_option maxHeartbeats 4000000
namespace KG
open PySem L2
theorem boot_tuple : bootBuiltins "tuple" = some (.type "tuple") := by first | rfl | kernel_rfl | decide +kernel
theorem boot_int : bootBuiltins "int" = some (.type "int") := by first | rfl | kernel_rfl | decide +kernel
theorem boot_abs : bootBuiltins "abs" = some (.builtin "abs") := by first | rfl | kernel_rfl | decide +kernel
theorem boot_min : bootBuiltins "min" = some (.builtin "min") := by first | rfl | kernel_rfl | decide +kernel
theorem boot_isinstance : bootBuiltins "isinstance" = some (.builtin "isinstance") := by first | rfl | kernel_rfl | decide +kernel
theorem boot_bool : bootBuiltins "bool" = some (.type "bool") := by first | rfl | kernel_rfl | decide +kernel
/-! ### data -/
def Bag (H : Hp) (b : Addr) : Prop := ∃ c d : Int, H b = some (.lst [.int c, .int d])
/-- all but the bag stays -/
def Kp (b : Addr) (H H' : Hp) : Prop := ∀ a o, a ≠ b → H a = some o → H' a = some o
theorem Kp.refl (b : Addr) (H : Hp) : Kp b H H := fun _ _ _ h => h
theorem Kp.bag {b : Addr} {H H' : Hp} {o : HO} (x : Kp b H H') : Kp b H (upd H' b o) := fun a u n h => by rw [upd_ne n]; exact x a u n h
theorem Bag.new {b p : Addr} {H : Hp} {o : HO} (h : Bag H b) (hp : H p = none) : Bag (upd H p o) b := by
  obtain ⟨c, d, e⟩ := h
  exact ⟨c, d, by rw [upd_ne (ne_of_none e hp)]; exact e⟩
theorem Bag.ne {b p : Addr} {H : Hp} (h : Bag H b) (hp : H p = none) : b ≠ p := by
  obtain ⟨c, d, e⟩ := h
  exact ne_of_none e hp
def spBag (K : PySem.W.Frag) : Sp := fun vs H Q _ => ∃ (a : Addr) (ns : List Int) (k : Int), vs = [.ref a, .int k] ∧ SqL K H a (ns.map V.int) ∧ 0 ≤ k ∧ k < 100 ∧ ∀ (p : Addr) (c d : Int), H p = none → Q (.ref p) (upd H p (.lst [.int c, .int d]))
/-- a def as it is called -/
structure Cal (K : PySem.W.Frag) (mg : Str → Option Value) (P : Program) (w : World) (base : Heap) (x : Str) (k : Nat) (ps : List Str) (sp : Sp) (f : Addr) (fd : FuncData) : Prop where
  ok : FnOk P w K mg base CX0 k f fd ps sp
  mg : mg x = some (.ref f)
  kp : PySem.W.keepIn K (.ref f) = true
  bd : Binds K fd ps []
theorem sz : sizeLine = 16777216 := PySem.sizeLine_eq

theorem Bag.acc {b p : Addr} {H : Hp} {o : HO} (h : Bag H b) (hp : b ≠ p) : Bag (upd H p o) b := by
  obtain ⟨c, d, e⟩ := h
  exact ⟨c, d, by rw [upd_ne hp]; exact e⟩
/-- all that was tracked stays -/
def Stay (H H' : Hp) : Prop := ∀ a o, H a = some o → H' a = some o
theorem Stay.refl (H : Hp) : Stay H H := fun _ _ h => h
theorem Stay.trans {H H1 H2 : Hp} (a : Stay H H1) (b : Stay H1 H2) : Stay H H2 := fun x o h => b x o (a x o h)
theorem Stay.new {H H' : Hp} {p : Addr} {o : HO} (a : Stay H H') (hp : H' p = none) : Stay H (upd H' p o) := fun x u h => by rw [upd_ne (ne_of_none (a x u h) hp)]; exact a x u h
theorem Stay.acc {H H' : Hp} {p : Addr} {o : HO} (a : Stay H H') (hp : H p = none) : Stay H (upd H' p o) := fun x u h => by rw [upd_ne (ne_of_none h hp)]; exact a x u h
theorem filter_succ (f : Nat → Bool) (n : Nat) : (List.range (n + 1)).filter f = (List.range n).filter f ++ if f n = true then [n] else [] := by
  rw [List.range_succ, List.filter_append]
  congr 1
  by_cases h : f n = true
  · simp [h]
  · simp [h]
def spLaw (K : PySem.W.Frag) : Sp := fun vs H Q _ => ∃ (a : Addr) (ns : List Int), vs = [.ref a] ∧ SqL K H a (ns.map V.int) ∧ ns.length ≤ 63 ∧ ∀ H', Q (.bl true) H'
theorem SqL.stay {K : PySem.W.Frag} {H H' : Hp} {a : Addr} {xs : List V} (h : SqL K H a xs) (s : Stay H H') : SqL K H' a xs := by
  rcases h with (h | ⟨o, h⟩) | h
  · exact .inl (.inl (s _ _ h))
  · exact .inl (.inr ⟨o, s _ _ h⟩)
  · exact .inr h

/-! a thing made of plain data, none of it the bag -/
mutual
inductive TrV (b : Addr) (H : Hp) : V → PyData → Prop
  | non : TrV b H .non .none
  | bl (c : Bool) : TrV b H (.bl c) (.bool c)
  | int (i : Int) : TrV b H (.int i) (.int i)
  | str (x : Str) (ok : (PyData.str x).canLay0 = true) : TrV b H (.str x) (.str x)
  | lst {a : Addr} {xs : List V} {ds : List PyData} : a ≠ b → H a = some (.lst xs) → TrVs b H xs ds → TrV b H (.ref a) (.list ds)
  | tup {a : Addr} {xs : List V} {ds : List PyData} : H a = some (.tup xs) → TrVs b H xs ds → TrV b H (.ref a) (.tuple ds)
inductive TrVs (b : Addr) (H : Hp) : List V → List PyData → Prop
  | nil : TrVs b H [] []
  | cons {x : V} {xs : List V} {d : PyData} {ds : List PyData} : TrV b H x d → TrVs b H xs ds → TrVs b H (x :: xs) (d :: ds)
end
mutual
theorem TrV.stay {b : Addr} {H H' : Hp} (k : Stay H H') : ∀ {v : V} {d : PyData}, TrV b H v d → TrV b H' v d
  | _, _, .non => .non
  | _, _, .bl c => .bl c
  | _, _, .int i => .int i
  | _, _, .str x ok => .str x ok
  | _, _, .lst n h t => .lst n (k _ _ h) (TrVs.stay k t)
  | _, _, .tup h t => .tup (k _ _ h) (TrVs.stay k t)
theorem TrVs.stay {b : Addr} {H H' : Hp} (k : Stay H H') : ∀ {vs : List V} {ds : List PyData}, TrVs b H vs ds → TrVs b H' vs ds
  | _, _, .nil => .nil
  | _, _, .cons h t => .cons (TrV.stay k h) (TrVs.stay k t)
end
theorem TrVs.len {b : Addr} {H : Hp} : ∀ {vs : List V} {ds : List PyData}, TrVs b H vs ds → vs.length = ds.length
  | _, _, .nil => rfl
  | _, _, .cons _ t => congrArg (· + 1) (TrVs.len t)
/-! ### the mirrors -/
def isWhole : PyData → Bool
  | .int _ => true
  | _ => false
def isFrac : PyData → Bool
  | .tuple [.int t, .int u] => decide (1 ≤ u) && decide (Int.gcd t u = 1)
  | _ => false
/-! all numbers within are small -/
end KG

set_option Elab.async false
set_option linter.all false
set_option maxRecDepth 100000
set_option maxHeartbeats 4000000
namespace HT
open PySem PySem.Spec PyProof.Rows
section
variable {prog : Program} {w : World} {A : Around} {E : Value → Shared → Prop} {s : Shared}
end
end HT
namespace L2
open PySem PySem.Spec PyProof.Rows
section
variable {X : Cx}
/-- t + u, any two tuples -/
def rCatA : R2 := fun x y H Q => ∃ a b xs ys, x = .ref a ∧ y = .ref b ∧ H a = some (.tup xs) ∧ H b = some (.tup ys) ∧ xs.length + ys.length ≤ sizeLine ∧ ∀ p H', KG.Stay H H' → H' p = some (.tup (xs ++ ys)) → Q (.ref p) H'
theorem op_catA : OpR X (binaryOp .Add) rCatA := by
  intro pins s σ H x y v u Q I rx ry h
  obtain ⟨a, b, xs, ys, rfl, rfl, ha, hb, hz, q⟩ := h
  by_cases hx : xs = []
  · cases rx
    cases ry
    obtain ⟨its, r1, p1, _⟩ := I.tuple (SqT.of ha)
    obtain ⟨its2, r2, p2, _⟩ := I.tuple (SqT.of hb)
    obtain ⟨⟨cls, dd, data, sl⟩, ho, hc, n, hd⟩ := id p1
    obtain ⟨⟨cls2, dd2, data2, sl2⟩, ho2, hc2, n2, hd2⟩ := id p2
    simp only at hc hd hc2 hd2
    subst hc hd hc2 hd2
    have e0 : its = [] := r1.nil_iff.mpr hx
    exact concat_meets ⟨_, ho, rfl⟩ ⟨_, ho2, rfl⟩ noFill_tuple_add seq_tuple_add PySem.F.slot_tuple_add PySem.F.entry_tuple_add (PySem.F.args_tuple_add_2 _ _)
      (tuple_addW0 a b its.toArray its2.toArray n n2 dd dd2 sl sl2 (by simp [e0])) ⟨ho, ho2, ⟨.ref b, H, I, rfl, q b H (KG.Stay.refl H) (by rw [hx]; exact hb)⟩⟩
  · refine op_catT pins s σ H _ _ v u Q I rx ry ⟨a, b, xs, ys, rfl, rfl, SqT.of ha, SqT.of hb, hx, hz, fun e => q a H (KG.Stay.refl H) (by rw [e, List.append_nil]; exact ha), fun _ p hp => q p _ ((KG.Stay.refl H).new hp) upd_same⟩
end
end L2

set_option Elab.async false
set_option linter.all false
set_option maxRecDepth 100000
set_option maxHeartbeats 1000000
namespace L2
open PySem PySem.Spec PyProof.Rows KG
def litL (f : Expr → Option PyData) : List Expr → Option (List PyData)
  | [] => some []
  | e :: es => match f e, litL f es with
    | some d, some ds => some (d :: ds)
    | _, _ => none
def litS (nm : Str → Option Int) (f : Expr → Option PyData) : Expr → Option PyData
  | .Name x _ => (nm x).map .int
  | .Constant (.int i) _ _ => some (.int i)
  | .Constant (.bool c) _ _ => some (.bool c)
  | .Constant .none _ _ => some .none
  | .Constant (.str x) _ _ => if (PyData.str x).canLay0 = true then some (.str x) else none
  | .UnaryOp .USub a _ => match f a with
    | some (.int i) => some (.int (-i))
    | _ => none
  | .BinOp a .Add b _ => match f a, f b with
    | some (.int i), some (.int j) => some (.int (i + j))
    | _, _ => none
  | .BinOp a .Sub b _ => match f a, f b with
    | some (.int i), some (.int j) => some (.int (i - j))
    | _, _ => none
  | .BinOp a .Pow b _ => match f a, f b with
    | some (.int i), some (.int j) => if 0 ≤ j ∧ j ≤ 1000000 ∧ i.natAbs < 2 ^ 64 then some (.int (i ^ j.toNat)) else none
    | _, _ => none
  | .Tuple es _ _ => if es.length ≤ 1000 then (litL f es).map .tuple else none
  | .List es _ => if es.length ≤ 1000 then (litL f es).map .list else none
  | _ => none
def lit (nm : Str → Option Int) : Nat → Expr → Option PyData
  | 0 => fun _ => none
  | n + 1 => litS nm (lit nm n)
/-- a written thing: its data, newly laid -/
def tLit (C : St → Prop) (d : PyData) : TE := fun σ H Q => C σ ∧ ∀ v H', Stay H H' → (∀ b, H b ≠ none → TrV b H' v d) → (∀ i, d = .int i → v = .int i) → Q v H'
def tLits (C : St → Prop) (ds : List PyData) : TA := fun σ H Q => C σ ∧ ∀ vs H', Stay H H' → (∀ b, H b ≠ none → TrVs b H' vs ds) → vs.length = ds.length → Q vs H'
theorem PE.weak {X : Cx} {e : Expr} {t t' : TE} (h : PE X e t) (hw : ∀ σ H Q, t' σ H Q → t σ H Q) : PE X e t' := fun pins s σ H Q I q => h pins s σ H Q I (hw σ H Q q)
theorem PA.weak {X : Cx} {es : List Expr} {t t' : TA} (h : PA X es t) (hw : ∀ σ H Q, t' σ H Q → t σ H Q) : PA X es t' := fun pos pins s σ H Q I q => h pos pins s σ H Q I (hw σ H Q q)
theorem lit_star {X : Cx} {nm : Str → Option Int} {n : Nat} {e : Expr} {es : List Expr} {d : PyData} (h : lit nm n e = some d) : starEach (e :: es) X.env = (false, eval e X.env) :: starEach es X.env := by
  cases n with
  | zero => cases h
  | succ n =>
    have h : litS nm (lit nm n) e = some d := h
    cases e <;> first | rfl | (unfold litS at h; cases h)
theorem litL_len {f : Expr → Option PyData} : ∀ {es : List Expr} {ds : List PyData}, litL f es = some ds → ds.length = es.length
  | [], ds, h => by simp [litL] at h; subst h; rfl
  | e :: es, ds, h => by
    unfold litL at h
    split at h
    · next d ds' h1 h2 => cases h; simp [litL_len h2]
    · cases h
theorem ne_stay {H H' : Hp} {b : Addr} (s : Stay H H') (h : H b ≠ none) : H' b ≠ none := by
  cases e : H b with
  | none => exact absurd e h
  | some o => rw [s _ _ e]; simp
theorem pa_lits {X : Cx} {nm : Str → Option Int} {C : St → Prop} {n : Nat} (ih : ∀ (e : Expr) (d : PyData), lit nm n e = some d → PE X e (tLit C d)) : ∀ (es : List Expr) (ds : List PyData), litL (lit nm n) es = some ds → PA X es (tLits C ds)
  | [], ds, h => by
    simp [litL] at h; subst h
    exact PA.weak pa_nil fun σ H Q q => q.2 [] H (Stay.refl H) (fun b _ => .nil) rfl
  | e :: es, ds, h => by
    unfold litL at h
    split at h
    · next d ds' h1 h2 =>
      cases h
      refine PA.weak (pa_cons (ih e d h1) (pa_lits ih es ds' h2) (lit_star h1)) fun σ H Q q => ⟨q.1, fun v H1 s1 t1 _ => ⟨q.1, ?_⟩⟩
      intro vs H2 s2 t2 l2
      exact q.2 (v :: vs) H2 (s1.trans s2) (fun b hb => .cons ((t1 b hb).stay s2) (t2 b (ne_stay s1 hb))) (by simp [l2])
    · cases h
/-- some address that is laid -/
theorem pe_litC {X : Cx} (nm : Str → Option Int) (C : St → Prop) (hnm : ∀ x i pos, nm x = some i → PE X (.Name x pos) (fun σ H Q => C σ ∧ Q (.int i) H)) : ∀ (n : Nat) (e : Expr) (d : PyData), lit nm n e = some d → PE X e (tLit C d) := by
  intro n
  induction n with
  | zero => intro e d h; cases h
  | succ n ih =>
    intro e d h
    have h : litS nm (lit nm n) e = some d := h
    unfold litS at h
    split at h
    · obtain ⟨i, e1, rfl⟩ := Option.map_eq_some_iff.mp h
      exact PE.weak (hnm _ i _ e1) fun σ H Q q => ⟨q.1, q.2 _ H (Stay.refl H) (fun b _ => .int _) (fun i e => by cases e; rfl)⟩
    · cases h; exact PE.weak pe_int fun σ H Q q => q.2 _ H (Stay.refl H) (fun b _ => .int _) (fun i e => by cases e; rfl)
    · cases h; exact PE.weak pe_bl fun σ H Q q => q.2 _ H (Stay.refl H) (fun b _ => .bl _) (fun i e => by cases e)
    · cases h; exact PE.weak pe_non fun σ H Q q => q.2 _ H (Stay.refl H) (fun b _ => .non) (fun i e => by cases e)
    · split at h
      · next ok => cases h; exact PE.weak pe_str fun σ H Q q => q.2 _ H (Stay.refl H) (fun b _ => .str _ ok) (fun i e => by cases e)
      · cases h
    · split at h
      · next i e1 =>
        cases h
        exact PE.weak (pe_un un_neg (ih _ _ e1)) fun σ H Q q => ⟨q.1, fun v H1 s1 t1 i1 => ⟨_, i1 _ rfl, q.2 _ H1 s1 (fun b _ => .int _) (fun i e => by cases e; rfl)⟩⟩
      · cases h
    · split at h
      · next i j e1 e2 =>
        cases h
        exact PE.weak (pe_op op_add (ih _ _ e1) (ih _ _ e2)) fun σ H Q q => ⟨q.1, fun v H1 s1 t1 i1 => ⟨q.1, fun v2 H2 s2 t2 i2 => ⟨_, _, i1 _ rfl, i2 _ rfl, q.2 _ H2 (s1.trans s2) (fun b _ => .int _) (fun i e => by cases e; rfl)⟩⟩⟩
      · cases h
    · split at h
      · next i j e1 e2 =>
        cases h
        exact PE.weak (pe_op op_sub (ih _ _ e1) (ih _ _ e2)) fun σ H Q q => ⟨q.1, fun v H1 s1 t1 i1 => ⟨q.1, fun v2 H2 s2 t2 i2 => ⟨_, _, i1 _ rfl, i2 _ rfl, q.2 _ H2 (s1.trans s2) (fun b _ => .int _) (fun i e => by cases e; rfl)⟩⟩⟩
      · cases h
    · split at h
      · next i j e1 e2 =>
        split at h
        · next hc =>
          cases h
          exact PE.weak (pe_op op_pow (ih _ _ e1) (ih _ _ e2)) fun σ H Q q => ⟨q.1, fun v H1 s1 t1 i1 => ⟨q.1, fun v2 H2 s2 t2 i2 => ⟨_, _, i1 _ rfl, i2 _ rfl, hc, q.2 _ H2 (s1.trans s2) (fun b _ => .int _) (fun i e => by cases e; rfl)⟩⟩⟩
        · cases h
      · cases h
    · split at h
      · next hl =>
        obtain ⟨ds, e1, rfl⟩ := Option.map_eq_some_iff.mp h
        refine PE.weak (pe_tup (pa_lits ih _ _ e1)) fun σ H Q q => ⟨q.1, fun vs H1 s1 t1 l1 => ⟨?_, fun p hp => ?_⟩⟩
        · rw [l1, litL_len e1, sz]; omega
        · exact q.2 _ _ (s1.new hp) (fun b hb => .tup upd_same ((t1 b hb).stay ((Stay.refl H1).new hp))) (fun i e => by cases e)
      · cases h
    · split at h
      · next hl =>
        obtain ⟨ds, e1, rfl⟩ := Option.map_eq_some_iff.mp h
        refine PE.weak (pe_lst (pa_lits ih _ _ e1)) fun σ H Q q => ⟨q.1, fun vs H1 s1 t1 l1 => ⟨?_, fun p hp => ?_⟩⟩
        · rw [l1, litL_len e1, sz]; omega
        · exact q.2 _ _ (s1.new hp) (fun b hb => .lst (fun z => ne_stay s1 hb (z ▸ hp)) upd_same ((t1 b hb).stay ((Stay.refl H1).new hp))) (fun i e => by cases e)
      · cases h
    · cases h
/-- without names -/
theorem pe_lit {X : Cx} (n : Nat) (e : Expr) (d : PyData) (h : lit (fun _ => none) n e = some d) : PE X e (fun _ H Q => ∀ v H', Stay H H' → (∀ b, H b ≠ none → TrV b H' v d) → (∀ i, d = .int i → v = .int i) → Q v H') :=
  PE.weak (pe_litC (fun _ => none) (fun _ => True) (fun x i pos e => by cases e) n e d h) fun σ H Q q => ⟨trivial, q⟩
end L2

set_option Elab.async false
set_option linter.all false
set_option maxRecDepth 100000
set_option maxHeartbeats 1000000
/-! an exception of an own class in the air: what it touches -/
namespace EX
open PySem PySem.Spec PyProof.Rows
def excO (C t : Addr) (hd : Value) : Obj := { cls := .ref C, data := .fields #[.ref t, hd, .none, .none, .bool false, .none] }
/-- the traceback's head -/
def Hd (B : Heap) (e : Addr) (h : Heap) (v : Value) : Prop := v = .none ∨ ∃ T oT ts, v = .ref T ∧ B.get? T = none ∧ T ≠ e ∧ h.get? T = some oT ∧ oT.data = .fields ts ∧ 3 < ts.size
structure Air (B : Heap) (l : List Env) (e C t : Addr) (h : Heap) : Prop where
  st : B.StaysIn h
  ne : B.get? e = none
  ff : h.FunFrames B l
  ob : ∃ hd, h.get? e = some (excO C t hd) ∧ Hd B e h hd
theorem Air.tail {B : Heap} {env : Env} {l : List Env} {e C t : Addr} {h : Heap} (a : Air B (env :: l) e C t h) : Air B l e C t h := ⟨a.st, a.ne, a.ff.2.2, a.ob⟩
section
variable {M : Model} {A : Around} {E : Value → Shared → Prop} {s : Shared} {B : Heap} {env : Env} {outer : List Env} {L e C t : Addr} {Q : Unit → Shared → Prop}
theorem air_entry {head : Value} {hn : Bool} (a : Air B (env :: outer) e C t s.heap) (hfr : A.frames = some (env :: outer)) (hf : env.frame = some L)
    (k : ∀ h', Air B (env :: outer) e C t h' → s.heap.UpToSlots h' → Q () { s with heap := h' }) :
    wpAny M A (do let fr ← frameOf env; let pl ← entryPlaceOf L hn; let x ← EntryCells.newEntry head fr .none (rawInt L) .none pl; setField (.ref e) 1 x) Q E s := by
  obtain ⟨hd, he, _⟩ := a.ob
  refine wpAny_bind (wpAny_frameOf_fun hfr a.ff hf fun g so => ?_)
  obtain ⟨_, so2, so3⟩ := so
  have nfr : e ∉ (env :: outer).filterMap (·.frame) := fun m => by
    obtain ⟨_, o, ho, nf⟩ := a.ff.mem m
    rw [he] at ho
    cases ho
    exact nf _ rfl
  have ge : g.get? e = some (excO C t hd) := (so2 e nfr).trans he
  have gB : B.StaysIn g := fun b o q => (so2 b fun m => by rw [(a.ff.mem m).1] at q; cases q).trans (a.st b o q)
  refine wpAny_bind (wpAny_entryPlaceOf fun pl ipl => ?_)
  unfold EntryCells.newEntry newFields
  refine wpAny_bind (wpAny_newObj_type ?_ (ipl.sizeOk5 _ _ _ _ _))
  generalize hN : ({ cls := .type "traceback", dict := none, data := .fields ([head, .ref L, .none, rawInt L, .none] ++ (if pl.isEmpty then List.replicate 6 Value.none else pl)).toArray } : Obj) = oN
  have g2 : (g.push oN).get? e = some (excO C t hd) := Heap.get?_push_of_some _ ge
  have gT : (g.push oN).get? g.objs.size = some oN := Heap.get?_push_size g (by rw [← hN]; rfl)
  have Te : g.objs.size ≠ e := Nat.ne_of_gt (Heap.lt_size ge)
  have nBT : B.get? g.objs.size = none := by
    cases q : B.get? g.objs.size with
    | none => rfl
    | some o => exact absurd (Heap.lt_size (gB _ o q)) (Nat.lt_irrefl _)
  refine wpAny_setField g2 rfl (by show 1 < 6; decide) (k _ ?_ ?_)
  · refine ⟨fun b o q => ?_, a.ne, ?_, .ref g.objs.size, ?_, .inr ⟨g.objs.size, oN, _, rfl, nBT, Te, ?_, by rw [← hN], ?_⟩⟩
    · rw [Heap.get?_update_other _ _ (fun z => by rw [← z, a.ne] at q; cases q)]
      exact Heap.get?_push_of_some _ (gB b o q)
    · refine a.ff.of_keeps fun b o q nf => ?_
      obtain ⟨sl, q2⟩ := so3 b o q
      refine ⟨{ o with slots := sl }, ?_, rfl⟩
      rw [Heap.get?_update_other _ _ (fun z => by rw [← z, he] at q; cases q; exact nf _ rfl)]
      exact Heap.get?_push_of_some _ q2
    · exact Heap.get?_update_self _ g2 rfl
    · rw [Heap.get?_update_other _ _ Te.symm]; exact gT
    · simp only [List.size_toArray, List.length_append, List.length_cons]; omega
  · intro b o q nf
    obtain ⟨sl, q2⟩ := so3 b o q
    refine ⟨sl, ?_⟩
    rw [Heap.get?_update_other _ _ (fun z => by rw [← z, he] at q; cases q; exact nf _ rfl)]
    exact Heap.get?_push_of_some _ q2
theorem air_head {T : Addr} {oT : Obj} {ts : Array Value} {v : Value} (a : Air B outer e C t s.heap) (nT : B.get? T = none) (Te : T ≠ e) (hT : s.heap.get? T = some oT) (dT : oT.data = .fields ts) (h3 : 3 < ts.size)
    (k : ∀ h', Air B outer e C t h' → s.heap.UpToSlots h' → Q () { s with heap := h' }) : wpAny M A (setField (.ref T) 3 v) Q E s := by
  obtain ⟨hd, he, hh⟩ := a.ob
  refine wpAny_setField hT dT h3 ?_
  have oth : ∀ b, b ≠ T → (s.heap.update T (Obj.mapFields (·.setIfInBounds 3 v))).get? b = s.heap.get? b := fun b n => Heap.get?_update_other _ _ (Ne.symm n)
  have isf : ∀ b o, s.heap.get? b = some o → (∀ vs, o.data ≠ .fields vs) → b ≠ T := fun b o q nf z => by
    rw [z, hT] at q; cases q; exact nf _ dT
  refine k _ ⟨fun b o q => ?_, a.ne, a.ff.of_keeps fun b o q nf => ⟨o, (oth b (isf b o q nf)).trans q, rfl⟩, hd, (oth e Te.symm).trans he, ?_⟩ fun b o q nf => ⟨o.slots, (oth b (isf b o q nf)).trans q⟩
  · exact (oth b fun z => by rw [z, nT] at q; cases q).trans (a.st b o q)
  · rcases hh with z | ⟨T2, o2, t2, z, n2, e2, h2, d2, s2⟩
    · exact .inl z
    · by_cases w : T2 = T
      · subst w
        rw [hT] at h2; cases h2
        have := Obj.data_mapFields dT (·.setIfInBounds 3 v)
        exact .inr ⟨T2, _, _, z, n2, e2, Heap.get?_update_self _ hT (Obj.isFreed_of_fields this), this, by simpa using h3⟩
      · exact .inr ⟨T2, o2, t2, z, n2, e2, (oth T2 w).trans h2, d2, s2⟩
theorem air_note (a : Air B (env :: outer) e C t s.heap) (hfr : A.frames = some (env :: outer)) (hf : env.frame = some L)
    (k : ∀ h', Air B (env :: outer) e C t h' → s.heap.UpToSlots h' → Q () { s with heap := h' }) : wpAny M A (noteFrame (.ref e) env) Q E s := by
  obtain ⟨hd, he, hh⟩ := a.ob
  unfold noteFrame
  simp only [hf]
  refine wpAny_bind (wpAny_field he rfl (x := hd) rfl ?_)
  rcases hh with rfl | ⟨T, oT, ts, rfl, nT, Te, hT, dT, h3⟩
  · rw [if_neg (by decide)]
    exact air_entry a hfr hf k
  · rw [if_pos (show (Value.ref T != Value.none) = true from by simp)]
    refine wpAny_bind (wpAny_field hT dT (x := ts[3]) (by rw [Array.getElem?_eq_getElem h3]) ?_)
    by_cases hv : (ts[3] == rawInt L) = true
    · rw [if_pos hv]
      exact wpAny_pure (k s.heap a (Heap.UpToSlots.refl _))
    · rw [if_neg hv]
      refine wpAny_bind (air_head a nT Te hT dT h3 fun h1 a1 u1 => ?_)
      exact air_entry (s := { s with heap := h1 }) a1 hfr hf fun h2 a2 u2 => k h2 a2 (u1.trans u2)
theorem air_land (a : Air B outer e C t s.heap) (k : ∀ h', Air B outer e C t h' → s.heap.UpToSlots h' → Q () { s with heap := h' }) : wpAny M A (setFlight (.ref e) none) Q E s := by
  obtain ⟨hd, he, hh⟩ := a.ob
  unfold setFlight
  refine wpAny_bind (wpAny_field he rfl (x := hd) rfl ?_)
  rcases hh with rfl | ⟨T, oT, ts, rfl, nT, Te, hT, dT, h3⟩
  · rw [if_neg (by decide)]
    exact wpAny_pure (k s.heap a (Heap.UpToSlots.refl _))
  · rw [if_pos (show (Value.ref T != Value.none) = true from by simp)]
    exact air_head a nT Te hT dT h3 k
theorem air_leave (a : Air B (env :: outer) e C t s.heap) (hfr : A.frames = some (env :: outer)) (hf : env.frame = some L)
    (k : ∀ h', Air B outer e C t h' → s.heap.UpToSlots h' → Q () { s with heap := h' }) : wpAny M A (leaving env (.ref e)) Q E s := by
  unfold leaving
  refine wpAny_bind (air_note a hfr hf fun h1 a1 u1 => ?_)
  exact air_land (s := { s with heap := h1 }) a1.tail fun h2 a2 u2 => k h2 a2 (u1.trans u2)
end
end EX

set_option Elab.async false
set_option linter.all false
set_option maxRecDepth 100000
set_option maxHeartbeats 1000000
namespace L2
open PySem PySem.Spec PyProof.Rows EX
theorem obj_is {P : Program} {w : World} {H : Hp} {h : Heap} {a : Addr} {o : HO} (x : ObjOk P w H h a o) : ∃ u, h.get? a = some u := by
  cases o with
  | lst xs => obtain ⟨_, _, _, _, q⟩ := x; exact ⟨_, q⟩
  | tup xs => obtain ⟨_, _, _, ⟨_, q, _⟩⟩ := x; exact ⟨_, q⟩
  | dK kvs => obtain ⟨_, _, _, _, _, _, _, q, _⟩ := x; exact ⟨_, q⟩
  | dT kvs => obtain ⟨_, _, _, _, _, _, _, q, _⟩ := x; exact ⟨_, q⟩
  | set S n => obtain ⟨_, _, _, _, q, _⟩ := x; exact ⟨_, q⟩
  | ins C dx fs => obtain ⟨_, _, _, q, _⟩ := x; exact ⟨_, q⟩
  | own y => exact x
  | xd fs => obtain ⟨_, ⟨_, _, _, q, _⟩, _⟩ := x; exact ⟨_, q⟩
  | rng lo hi => obtain ⟨_, _, _, q⟩ := x; exact ⟨_, q⟩
  | frz ob u => exact ⟨_, x.1⟩
  | tbl ps => exact ⟨_, x⟩
  | met f y => exact ⟨_, x⟩
  | ext φ => exact x.2.1
theorem ff_base {h base B : Heap} : ∀ {l : List Env}, (∀ b ∈ frs l, B.get? b = none) → h.FunFrames base l → h.FunFrames B l
  | [], _, _ => trivial
  | env :: r, hB, ⟨hk, ⟨L, o, hf, hn, ho, hd⟩, hr⟩ =>
    ⟨hk, ⟨L, o, hf, hB L (by unfold frs; rw [List.filterMap_cons, hf]; exact List.mem_cons_self), ho, hd⟩,
      ff_base (fun b hb => hB b (by unfold frs; rw [List.filterMap_cons, hf]; exact List.mem_cons_of_mem _ hb)) hr⟩
/-- an exception of an own class that left a def: all that was there stands in B, but the frames -/
def CXF (P : Program) (w : World) : CXT := fun outer H s E e s' => ∃ (a C t : Addr) (B : Heap) (H' : Hp), e = .ref a ∧ s'.os = s.os ∧ AllBare s'.gens ∧ Un (frs outer) [] H H' s.heap s'.heap ∧ HOk P w H' B ∧
  (∀ b o, s.heap.get? b = some o → b ∉ frs outer → (∃ o', B.get? b = some o') ∧ (H b = none → B.get? b = some o)) ∧ Air B outer a C t s'.heap ∧ s.heap.get? a = none ∧ H' a = none ∧ E (.ref C) none H'
section
variable {P : Program} {w : World} {K : PySem.W.Frag} {mg : Str → Option Value} {base : Heap} {N : List Str} {qual : Str} {scope : Scope} {f : Addr} {cd : Value} {A : Around} {outer : List Env} {s₀ : Shared} {H₀ : Hp} {E : XK}
/-- from the state at the raise (or at the callee's end) to the def's caller -/
theorem fly_out {pins : List (Addr × Obj)} {σ : St} {H H' : Hp} {s s' : Shared} {a C t : Addr} {B h' : Heap} (I : Inv (cxOf (CXF P w) P w K mg base N qual scope f cd A outer s₀ H₀ E) pins σ H s)
    (os : s'.os = s.os) (bare : AllBare s'.gens) (un : Un (envOfC qual scope s₀.heap.objs.size f cd :: outer |> frs) [] H H' s.heap s'.heap) (hok : HOk P w H' B)
    (third : ∀ b o, s.heap.get? b = some o → b ∉ frs (envOfC qual scope s₀.heap.objs.size f cd :: outer) → (∃ o', B.get? b = some o') ∧ (H b = none → B.get? b = some o))
    (ff : s'.heap.FunFrames B (envOfC qual scope s₀.heap.objs.size f cd :: outer)) (air : Air B outer a C t h') (up : s'.heap.UpToSlots h') (na : s.heap.get? a = none) (na' : H' a = none) (he : E (.ref C) none H') : CXF P w outer H₀ s₀ E (.ref a) { s' with heap := h' } := by
  have stk : ∀ b o, s₀.heap.get? b = some o → b ∉ frs outer → b ∉ frs (envOfC qual scope s₀.heap.objs.size f cd :: outer) := fun b o q n m => by
    rcases List.mem_cons.mp (I.stkSub b m) with z | z
    · have : b < s₀.heap.objs.size := Heap.lt_size q
      have h2 : s₀.heap.objs.size ≤ b := by rw [z]; exact I.ok.above
      exact absurd (Nat.lt_of_lt_of_le this h2) (Nat.lt_irrefl _)
    · exact n z
  have infr : ∀ b, b ∈ frs outer → b ∈ frs (envOfC qual scope s₀.heap.objs.size f cd :: outer) := fun b m => by
    unfold frs; rw [List.filterMap_cons]; exact List.mem_cons_of_mem _ m
  have ub : Un (frs outer) [] H₀ H s₀.heap s.heap := I.base
  refine ⟨a, C, t, B, H', rfl, os.trans I.os, bare, ⟨fun b o q n nf _ => ?_, fun b o q n m _ => ?_, fun b o q n _ => ?_, fun b o q _ => ?_, fun b xs q => un.tups b xs (ub.tups b xs q), fun b o u q => un.frzs b o u (ub.frzs b o u q), fun b ps q => ?_⟩, hok, fun b o q nf => ?_, air, ?_, na', he⟩
  · exact air.st b o ((third b o (ub.keep b o q n nf (by simp)) (stk b o q nf)).2 (ub.free b o q n (by simp)))
  · obtain ⟨sl, q1⟩ := ub.slot b o q n m (by simp)
    obtain ⟨sl2, q2⟩ := un.slot b _ q1 (ub.free b o q n (by simp)) (infr b m) (by simp)
    obtain ⟨_, o3, q3, nf⟩ := ff.mem (infr b m)
    rw [q2] at q3
    cases q3
    obtain ⟨sl3, q4⟩ := up b _ q2 nf
    exact ⟨sl3, q4⟩
  · obtain ⟨o', q1⟩ := ub.there b o q (by simp)
    exact un.free b o' q1 (ub.free b o q n (by simp)) (by simp)
  · obtain ⟨o', q1⟩ := ub.there b o q (by simp)
    by_cases m : b ∈ frs outer
    · obtain ⟨_, o3, q3, nf⟩ := ff.mem (infr b m)
      obtain ⟨sl3, q4⟩ := up b _ q3 nf
      exact ⟨_, q4⟩
    · obtain ⟨o2, q2⟩ := (third b o' q1 (stk b o q m)).1
      exact ⟨o2, air.st b o2 q2⟩
  · obtain ⟨m1, e1⟩ := ub.tbls b ps q
    obtain ⟨m2, e2⟩ := un.tbls b _ e1
    exact ⟨m1 ++ m2, by rw [e2, Array.append_assoc]⟩
  · obtain ⟨o', q1⟩ := ub.there b o q (by simp)
    refine ⟨(third b o' q1 (stk b o q nf)).1, fun n => ?_⟩
    have q2 := ub.keep b o q n nf (by simp)
    exact (third b o q2 (stk b o q nf)).2 (ub.free b o q n (by simp))
  · cases q : s₀.heap.get? a with
    | none => rfl
    | some o =>
      obtain ⟨o', q1⟩ := ub.there a o q (by simp)
      rw [na] at q1; cases q1
/-- a callee's exception passes on -/
theorem passF : Passes (CXF P w) (cxOf (CXF P w) P w K mg base N qual scope f cd A outer s₀ H₀ E) E := by
  intro pins σ H s e s' I h
  obtain ⟨a, C, t, B, H', rfl, os, bare, un, hok, third, air, na, na', he⟩ := h
  refine air_leave (L := s₀.heap.objs.size) air I.ok.frames rfl fun h' air' up => ?_
  exact fly_out I os bare un hok third air.ff air' up na na' he
/-- a raise -/
theorem raiseF {pins : List (Addr × Obj)} {σ : St} {H : Hp} {s : Shared} {h1 : Heap} {a C : Addr} {args : List Value} (I : Inv (cxOf (CXF P w) P w K mg base N qual scope f cd A outer s₀ H₀ E) pins σ H s) (mk : Heap.MadeExcOf s.heap h1 a (.ref C) args) (he : E (.ref C) none H) :
    (cxOf (CXF P w) P w K mg base N qual scope f cd A outer s₀ H₀ E).xe (.ref a) { s with heap := h1 } := by
  obtain ⟨t, ht, htn, _⟩ := mk.there
  have nofr : ∀ b u, H b = some u → b ∉ frs (envOfC qual scope s₀.heap.objs.size f cd :: outer) := fun b u q m => by
    have := I.stkFree b m
    rw [q] at this; cases this
  have hB : ∀ b ∈ frs (envOfC qual scope s₀.heap.objs.size f cd :: outer), (PySem.W.hideAll s.heap (frs (envOfC qual scope s₀.heap.objs.size f cd :: outer))).get? b = none := fun b m => PySem.W.hideAll_none _ m
  have hokB : HOk P w H (PySem.W.hideAll s.heap (frs (envOfC qual scope s₀.heap.objs.size f cd :: outer))) := fun b u q =>
    (I.hok b u q).stay (fun c v hc qc => PySem.W.hideAll_get _ qc (by
      rcases hc with z | z
      · rw [z]; exact nofr b u q
      · exact nofr c _ z)) (fun _ z => z) fun _ _ z => z
  have na' : H a = none := by
    cases q : H a with
    | none => rfl
    | some u =>
      obtain ⟨o, ho⟩ := obj_is (I.hok a u q)
      rw [mk.new] at ho; cases ho
  have air0 : Air (PySem.W.hideAll s.heap (frs (envOfC qual scope s₀.heap.objs.size f cd :: outer))) (envOfC qual scope s₀.heap.objs.size f cd :: outer) a C t h1 := by
    refine ⟨fun b o q => mk.keeps b o (PySem.W.of_hideAll _ q), ?_, (ff_base hB I.stack).of_keeps fun b o q _ => ⟨o, mk.keeps b o q, rfl⟩, .none, ht, .inl rfl⟩
    cases q : (PySem.W.hideAll s.heap (frs (envOfC qual scope s₀.heap.objs.size f cd :: outer))).get? a with
    | none => rfl
    | some o => have := PySem.W.of_hideAll _ q; rw [mk.new] at this; cases this
  refine air_leave (s := { s with heap := h1 }) (L := s₀.heap.objs.size) air0 I.ok.frames rfl fun h' air' up => ?_
  exact fly_out (s' := { s with heap := h1 }) I rfl I.bare (Un.kept mk.keeps) hokB (fun b o q n => ⟨⟨o, PySem.W.hideAll_get _ q n⟩, fun _ => PySem.W.hideAll_get _ q n⟩) air0.ff air' up mk.new na' he
/-- THE RULE for a def that may raise -/
theorem Fun.okX {x qual : Str} {st : Stmt} {f : Addr} {fd : FuncData} {N ps : List Str} {k : Nat} {sp : Sp} (F : Fun K x qual st f fd) (S : FnScope N ps (defScope st)) (len : ∀ vs H Q E, sp vs H Q E → vs.length = ps.length)
    (hbody : ∀ (cdv : Value) (A : Around) (outer : List Env) (s : Shared) (H : Hp) (vs : List V) (Q : VK) (E : XK), Room k (A.deeper (envOfC qual (defScope st) s.heap.objs.size f cdv)) → sp vs H Q E →
      ∃ t, PSs (cxOf (CXF P w) P w K mg base N qual (defScope st) f cdv A outer s H E) (defBody st) t ∧ t { nx := fun _ H' => Q .non H', rt := Q } (start N vs) H) : FnOk P w K mg base (CXF P w) (k + 1) f fd ps sp := by
  obtain ⟨oc, od, kV, doc, pm, an, cdv, ct, osl, rfl, lk, hcd⟩ := F.ex
  exact fn_of lk hcd S len fun A outer s H vs Q E hr hsp => hbody cdv A outer s H vs Q E hr hsp
end
/-- what a raise asks -/
def tRaise (E : XK) (C : Addr) (t : TA) : TS := fun _ σ H => t σ H fun vs H1 => vs.length ≤ sizeLine ∧ E (.ref C) none H1
/-- raise C(e, ..), C an own class below ValueError -/
theorem ps_raise {P : Program} {w : World} {K : PySem.W.Frag} {mg : Str → Option Value} {base : Heap} {N : List Str} {qual : Str} {scope : Scope} {f : Addr} {cd : Value} {A : Around} {outer : List Env} {s₀ : Shared} {H₀ : Hp} {E : XK}
    {x : Str} {C : Addr} {e : Expr} {es : List Expr} {t : TA} {np cpos pos : Pos} {bmB : List Value} {B newId initId : String} (FB : ExcBaseFacts B newId initId bmB) (hg : Gl (cxOf (CXF P w) P w K mg base N qual scope f cd A outer s₀ H₀ E) x) (hm : mg x = some (.ref C)) (hx : PySem.W.excIn K C bmB newId = true)
    (ha : PA (cxOf (CXF P w) P w K mg base N qual scope f cd A outer s₀ H₀ E) (e :: es) t) (hd : (x == ("__debug__" : Str)) = false := by decide)
    (he : starEach (e :: es) (envOfC qual scope s₀.heap.objs.size f cd) = (false, eval e (envOfC qual scope s₀.heap.objs.size f cd)) :: starEach es (envOfC qual scope s₀.heap.objs.size f cd) := by rfl)
    (hpl : (backTo cpos (starEach es (envOfC qual scope s₀.heap.objs.size f cd))).any (·.1) = false := by rfl) :
    PS (cxOf (CXF P w) P w K mg base N qual scope f cd A outer s₀ H₀ E) (.Raise (some (.Call (.Name x np) (e :: es) [] cpos)) none pos) (tRaise E C t) := by
  intro pins s σ H D I h
  unfold PySem.W.excIn at hx
  split at hx
  · rename_i dd cdd sl ho
    split at hx
    · rename_i C' bm k0 k1 k2 k3 n k5 hmro hs
      simp only [Bool.and_eq_true, beq_iff_eq, Bool.not_eq_true'] at hx
      obtain ⟨⟨⟨⟨⟨rfl, rfl⟩, hdel⟩, ht⟩, hok⟩, hni⟩ := hx
      obtain ⟨nm, bs, mro, ns, qn, hdd, sn, sub, ab, col, del⟩ := cdd
      dsimp only at hmro hdel hok hni
      subst hmro hdel
      have hsl : sl = #[k0, k1, k2, k3, some (.builtin n), k5] := by
        obtain ⟨l⟩ := sl
        simp only at hs
        rw [hs]
      subst hsl
      have kb : K.In base := I.ok.mod.kin
      have nsB := Heap.Ns.of_isNs (PySem.W.isNs_of_in kb hok)
      refine wpAny_Raise_call_subT FB (C := C') (nm := nm) (q := qn) (N := ns) (bs := bs) (bm := bm) (hdct := hdd) (sn := sn) (sub := sub) (ab := ab) (col := col) (dd := dd) (k0 := k0) (k1 := k1) (k2 := k2) (k3 := k3) (k5 := k5) (mN := base.nsMap ns)
        ((PySem.W.tail_of_in kb ht).hasType FB.hasBase) (I.ok.hd rfl) ?_ (PySem.W.nsMap_none_of_in kb hok hni) ?_
      · show (backTo cpos (starEach (e :: es) (envOfC qual scope s₀.heap.objs.size f cd))).any (·.1) = false
        rw [he]
        show (false || (backTo cpos (starEach es (envOfC qual scope s₀.heap.objs.size f cd))).any (·.1)) = false
        rw [hpl]; rfl
      · refine ld_glob I hg hm ⟨rfl, ?_⟩ hd
        show wpAny _ _ (evalArgs (.ref C') true (backTo cpos (starEach (e :: es) (envOfC qual scope s₀.heap.objs.size f cd))) []) _ _ s
        have ha' := ha cpos pins s σ H _ I h
        have ha2 : wpAny (model P w) (A.deeper (envOfC qual scope s₀.heap.objs.size f cd)) (spliced (backTo cpos (starEach (e :: es) (envOfC qual scope s₀.heap.objs.size f cd)))) _ _ s := ha'
        rw [he] at ha2 ⊢
        refine Calls.evalArgs_plain (thn ha2 fun us s2 ⟨vs, H2, I2, r, z, q⟩ => ?_)
        exact ⟨rfl, by rw [← r.length]; exact z, I2.bk _ _ (kb _ _ ho), nsB.keeps I2.bk, (PySem.W.tail_of_in kb ht).keeps I2.bk, fun h' a mk => raiseF I2 mk q⟩
    · cases hx
  · cases hx
end L2

set_option Elab.async false
set_option linter.all false
set_option maxRecDepth 100000
set_option maxHeartbeats 1000000
namespace EX
open PySem PySem.Spec PyProof.Rows
theorem entry_unchain : entryFor table "proto.unchain" = some Builtin.«proto.unchain» := entryFor_of_tree (by kernel_rfl)
section
variable {prog : Program} {w : World} {A : Around} {E : Value → Shared → Prop} {s : Shared}
/-- a raise within an except suite: the one that is handled has no context -/
theorem raiseNew_some {α : Type} {Q : α → Shared → Prop} {a hA C t : Addr} {hd : Value} {oa : Obj} {vs : Array Value} (hh : A.handled = some (.ref hA)) (ne : hA ≠ a) (hH : s.heap.get? hA = some (excO C t hd)) (ha : s.heap.get? a = some oa) (da : oa.data = .fields vs) (hz : 2 < vs.size)
    (h : E (.ref a) { s with heap := s.heap.update a (Obj.mapFields (·.setIfInBounds 2 (.ref hA))) }) : wpAny (model prog w) A (raiseNew (.ref a) : Sem α) Q E s := by
  unfold raiseNew
  refine wpAny_bind (wpAny_handled ?_)
  rw [hh]
  have n : ((Value.ref hA != Value.ref a) = true) := by simp [ne]
  simp only [n, if_true]
  refine wpAny_bind (wpAny_holding (wpAny_runValue (codeAny_builtin entry_unchain ?_)))
  unfold Builtin.«proto.unchain»
  refine wpAny_bind (wpAny_field hH rfl (x := .none) rfl ?_)
  rw [if_pos (by decide)]
  have back : wpAny (model prog w) A (do updateField a 2 (Value.ref hA); throw (Value.ref a) : Sem α) Q E s := by
    unfold updateField
    refine wpAny_bind (wpAny_bind (wpAny_load ha ?_))
    rw [da]
    show wpAny _ _ (if 2 < vs.size then _ else _) _ _ s
    rw [if_pos hz]
    exact wpAny_update ha (wpAny_throw h)
  first
    | exact wpAny_pure back
    | exact wpAny_bind (wpAny_pure (wpAny_pure back))
    | exact wpAny_bind (wpAny_pure back)
    | (wp_walk; exact back)
/-- a range iterator at its end, within an except suite -/
theorem range_end_h {hA C t : Addr} {hd : Value} {it : Addr} {x left step : Int} {Q : Option Value → Shared → Prop} (hh : A.handled = some (.ref hA)) (hH : s.heap.get? hA = some (excO C t hd)) (hit : IsRangeIter s.heap it x left step) (hl : left ≤ 0)
    (k : ∀ h', Heap.ExtBut it s.heap h' → Q none { s with heap := h' }) : wpAny (model prog w) A (pyNext (.ref it)) Q E s := by
  have ty : s.TypeIs (.ref it) "range_iterator" := ⟨_, hit, rfl⟩
  unfold pyNext
  refine wpAny_bind (wpAny_attempt (wpAny_callSpecial?_slot (name := Str.ofString "__next__") ty F.slot_range_iterator_next (wpAny_call_entry F.slot_range_iterator_next ty F.entry_range_iterator_next ?_ (F.args_range_iterator_next_1 _))))
  show wpAny _ _ (field (.ref it) 0 >>= _) _ _ s; refine wpAny_bind (wpAny_field hit rfl (x := rawInt x) rfl ?_)
  show wpAny _ _ (field (.ref it) 1 >>= _) _ _ s; refine wpAny_bind (wpAny_field hit rfl (x := rawInt left) rfl ?_)
  show wpAny _ _ (field (.ref it) 2 >>= _) _ _ s; refine wpAny_bind (wpAny_field hit rfl (x := rawInt step) rfl ?_)
  show wpAny _ _ (if left ≤ 0 then _ else _) _ _ s
  rw [if_pos hl]
  refine wpAny_bind (wpAny_rule (wpAny_bind ?_))
  show wpAny _ _ (newExc (.type "StopIteration") [] >>= _) _ _ _; refine wpAny_bind ?_
  simp only [newExc, newTuple]
  refine wpAny_bind (wpAny_newObj_type ?_ (by size_fits))
  refine wpAny_bind (m := firstArgMember _ _) (wpAny_of_eq (a := Value.none) (by first | rfl | (simp only [firstArgMember]; rfl)) ?_)
  refine wpAny_newObj_type ?_ (by size_fits)
  refine raiseNew_some (hA := hA) (C := C) (t := t) (hd := hd) (by first | exact hh | (show A.in1.handled = _; exact hh)) ?_ (Heap.get?_push_of_some _ (Heap.get?_push_of_some _ hH)) (Heap.get?_push_size _ rfl) rfl ?_ ?_
  · exact Nat.ne_of_lt (Nat.lt_of_lt_of_le (Heap.lt_size hH) (by rw [Heap.size_push]; exact Nat.le_succ _))
  · simp only [List.size_toArray, List.length_append, List.length_cons, Array.size_append]; first | omega | (simp; omega) | decide
  · refine wpAny_bind (wpAny_isInstance (T := "StopIteration") (b := true) ⟨_, Heap.get?_update_self _ (Heap.get?_push_size _ rfl) ?_, Obj.cls_mapFields _ _⟩ isSubtype_stop ?_)
    · exact Obj.isFreed_of_fields (Obj.data_mapFields rfl _)
    · refine wpAny_pure (k _ fun b o nb q => ?_)
      have lt := Heap.lt_size q
      refine (Heap.get?_update_other _ _ ?_).trans (Heap.get?_push_of_some _ (Heap.get?_push_of_some _ q))
      exact Nat.ne_of_gt (Nat.lt_of_lt_of_le lt (by rw [Heap.size_push]; exact Nat.le_succ _))
end
end EX

set_option Elab.async false
set_option linter.all false
set_option maxRecDepth 100000
set_option maxHeartbeats 2000000
namespace L2
open PySem PySem.Spec PyProof.Rows EX
/-- no exception is handled, or one without a context, which is pinned -/
def Qt (X : Cx) : Prop := X.calm = true ∨ ∃ hA C t hd, X.A.handled = some (.ref hA) ∧ (hA, excO C t hd) ∈ X.pn
def cxCR (X : Cx) (scope : Scope) (C : Addr) (N : List Str) (fp : List Addr) (s : Shared) (H : Hp) : Cx := { cxC X scope C N fp s H with pn := X.pn }
theorem Inv.blockR {X : Cx} {scope : Scope} {own cap : List Str} {ix : List Nat} {pins : List (Addr × Obj)} {σ : St} {H : Hp} {s : Shared} (I : Inv X pins σ H s) (B : BlkOk X scope own cap ix) {fp : List Addr} (hf : ∀ b ∈ fp, FpOk X pins H b) (ho : ∀ b ∈ fp, ∃ o, s.heap.get? b = some o) :
    Inv (cxCR X scope s.heap.objs.size (own ++ cap) fp s H) [] (blkσ own.length ix σ) H { s with heap := pushCells (s.heap.push { cls := .type "dict", data := .dict #[] }) scope.names } := by
  have J := I.block B hf ho
  refine ⟨⟨J.ok.mod, J.ok.kind, J.ok.glob, J.ok.blt, J.ok.above, J.ok.inj, J.ok.has, J.ok.cab, J.ok.hd, J.ok.frames, J.ok.stk, J.ok.exf, J.ok.bs, J.ok.bsz, J.ok.noex, J.ok.exfs, J.ok.funs, J.ok.frf⟩, J.os, J.bare, J.base, J.loc, J.cell, J.free, J.freeC, fun p hp => ?_, J.hok, J.len⟩
  have hp' : p ∈ X.pn := by simpa using (show p ∈ X.pn ++ [] from hp)
  obtain ⟨q1, q2, q3, q4, q5⟩ := I.pin p (List.mem_append_left _ hp')
  refine ⟨pushCells_keeps _ _ _ _ (Heap.get?_push_of_some _ q1), q2, ?_, ?_, q5⟩
  · exact Nat.ne_of_lt (Heap.lt_size q1)
  · intro z
    rcases List.mem_cons.mp (I.stkSub p.1 z) with e | e
    · exact q3 e
    · exact q4 e
structure TurnR (P : Program) (w : World) (K : PySem.W.Frag) (tg : Expr) (J : It) (fp : List Addr) (it : Addr) (tn : Nat → Heap → Prop) : Prop where
  mem : it ∈ fp
  obj : ∀ i h, tn i h → ∀ b ∈ fp, ∃ o, h.get? b = some o ∧ ∀ v, o.data ≠ .cell v
  keep : ∀ i h h', tn i h → (∀ b ∈ fp, ∀ o, h.get? b = some o → h'.get? b = some o) → tn i h'
  item : ∀ (X : Cx), X.prog = P → X.w = w → X.K = K → Qt X → ∀ (i : Nat) (pins : List (Addr × Obj)) (s : Shared) (σ : St) (H : Hp) (E : Value → Shared → Prop), Inv X pins σ H s → (∀ b ∈ fp, FpOk X pins H b) → tn i s.heap → J.go i H →
    wpAny (model P w) X.A (pyNext (.ref it)) (fun r s1 => ∃ u, r = some u ∧
      wpAny (model P w) X.A (letOwnedTupleGo tg (.ref it) u) (fun _ s2 => ∃ x H', Inv X pins σ H' s2 ∧ RelV x u ∧ J.yld i H x H' ∧ tn (i + 1) s2.heap ∧ ∀ b ∈ fp, H' b = none) E s1) E s
  done : ∀ (X : Cx), X.prog = P → X.w = w → X.K = K → Qt X → ∀ (i : Nat) (pins : List (Addr × Obj)) (s : Shared) (σ : St) (H : Hp) (E : Value → Shared → Prop), Inv X pins σ H s → (∀ b ∈ fp, FpOk X pins H b) → tn i s.heap → J.stop i H →
    wpAny (model P w) X.A (pyNext (.ref it)) (fun r s1 => r = none ∧ Inv X pins σ H s1) E s
  self : ∀ (A : Around) (i : Nat) (s : Shared) (Q : Value → Shared → Prop) (E : Value → Shared → Prop), tn i s.heap → Q (.ref it) s → wpAny (model P w) A (pyIter (.ref it)) Q E s
/-- an iterator has come -/
def PIER (X : Cx) (pins : List (Addr × Obj)) (σ : St) (tg : Expr) (R : It → Hp → Prop) (itv : Value) (s2 : Shared) : Prop :=
  ∃ (it : Addr) (fp : List Addr) (tn : Nat → Heap → Prop) (J : It) (H' : Hp), itv = .ref it ∧ Inv X pins σ H' s2 ∧ TurnR X.prog X.w X.K tg J fp it tn ∧ tn 0 s2.heap ∧ (∀ b ∈ fp, FpOk X pins H' b) ∧ R J H'
def PIR (X : Cx) (tg iter : Expr) (wi : TI) : Prop :=
  ∀ (pins : List (Addr × Obj)) (s : Shared) (σ : St) (H : Hp) (R : It → Hp → Prop), Inv X pins σ H s → wi σ H R →
    wpAny (model X.prog X.w) X.A (eval iter X.env) (fun v s1 => wpAny (model X.prog X.w) X.A (pyIter v) (PIER X pins σ tg R) X.xe s1) X.xe s

theorem turn_rangeR {P : Program} {w : World} {K : PySem.W.Frag} {tg : Expr} (it : Addr) (lo : Int) (n : Nat) : TurnR P w K tg (Itr lo n) [it] it (fun i h => IsRangeIter h it (lo + (i : Nat) * 1) ((n : Int) - (i : Nat)) 1) where
  mem := by simp
  obj := fun i h st b hb => by
    have e : b = it := by simpa using hb
    subst e
    exact ⟨_, st, fun v z => by
      have z' : Data.fields _ = Data.cell v := z
      cases z'⟩
  keep := fun i h h' st k => k it (by simp) _ st
  item := by
    intro X hP hw hK hc i pins s σ H E I hf st hg
    subst hP hw hK
    obtain ⟨f0, f1, f2, f3, f4, f5⟩ := hf it (by simp)
    have hgo : i < n := hg
    refine wpAny_pyNext_range_item st (by omega) fun h' st' kk => ?_
    have I1 : Inv X pins σ H { s with heap := h', toks := s.toks + 1 } := I.turned (fun b o hb e => (kk.2 b hb).trans e) f0 f1 f3 f4 f5
    have st2 : IsRangeIter h' it (lo + ((i + 1 : Nat) : Int) * 1) ((n : Int) - ((i + 1 : Nat) : Int)) 1 := by
      have e1 : lo + ((i + 1 : Nat) : Int) * 1 = lo + (i : Int) * 1 + 1 := by omega
      have e2 : (n : Int) - ((i + 1 : Nat) : Int) = (n : Int) - (i : Int) - 1 := by omega
      rw [e1, e2]; exact st'
    refine ⟨_, rfl, go_of (s := { s with heap := h', toks := s.toks + 1 }) (n := "range_iterator") st2 rfl rfl (by decide) ⟨.int (lo + i), H, I1, ⟨s.toks, ?_⟩, ⟨rfl, rfl⟩, st2, fun b hb => (hf b hb).1⟩⟩
    rw [Int.mul_one]
  done := by
    intro X hP hw hK hc i pins s σ H E I hf st hg
    subst hP hw hK
    obtain ⟨f0, f1, f2, f3, f4, f5⟩ := hf it (by simp)
    rcases hc with hc | ⟨hA, C, t, hd, hh, hp⟩
    · exact wpAny_pyNext_range_end (I.ok.hd hc) st (by have : n ≤ i := hg; omega) fun h' eb => ⟨rfl, I.turned (t' := s.toks) (fun b o hb e => eb b o hb e) f0 f1 f3 f4 f5⟩
    exact EX.range_end_h hh (I.pin _ (List.mem_append_left _ hp)).1 st (by have : n ≤ i := hg; omega) fun h' eb => ⟨rfl, I.turned (t' := s.toks) (fun b o hb e => eb b o hb e) f0 f1 f3 f4 f5⟩
  self := fun _ _ _ _ _ st h => wpAny_pyIter_rangeiter st h
section
variable {X : Cx} {tg : Expr}
/-- a range object just made, walked -/
theorem range_itR {pins : List (Addr × Obj)} {σ : St} {H : Hp} {s : Shared} {R : It → Hp → Prop} {E : Value → Shared → Prop} {lo hi : Int} {t u v : Tok} {tk : Nat} (I : Inv X pins σ H s) (h1 : -(2 ^ 62) ≤ lo) (h2 : lo < 2 ^ 62) (h3 : -(2 ^ 62) ≤ hi) (h4 : hi < 2 ^ 62)
    (q : R (Itr lo (hi - lo).toNat) H) : wpAny (model X.prog X.w) X.A (pyIter (.ref s.heap.objs.size)) (PIER X pins σ tg R) E { s with heap := s.heap.push { cls := .type "range", data := .fields #[.int lo t, .int hi u, .int 1 v] }, toks := tk } := by
  refine wpAny_pyIter_range (IsRange.new ..) (small_one h1 h2 h3 h4) ?_
  have I1 : Inv X pins σ H { s with heap := s.heap.push { cls := .type "range", data := .fields #[.int lo t, .int hi u, .int 1 v] }, toks := tk } := I.kept fun b o e => Heap.get?_push_of_some _ e
  refine ⟨(s.heap.push { cls := .type "range", data := .fields #[.int lo t, .int hi u, .int 1 v] }).objs.size, [(s.heap.push { cls := .type "range", data := .fields #[.int lo t, .int hi u, .int 1 v] }).objs.size], _, _, H, rfl,
    I1.kept (t' := tk) fun b o e => Heap.get?_push_of_some _ e, turn_rangeR _ lo (hi - lo).toNat, ?_, fun b hb => ?_, q⟩
  · have e1 : lo + ((0 : Nat) : Int) * 1 = lo := by simp
    have e2 : (((hi - lo).toNat : Nat) : Int) - ((0 : Nat) : Int) = Builtin.Range.rangeSize lo hi 1 := by rw [rangeSize_one]; split <;> omega
    show IsRangeIter _ _ (lo + ((0 : Nat) : Int) * 1) ((((hi - lo).toNat : Nat) : Int) - ((0 : Nat) : Int)) 1
    rw [e1, e2]
    exact Heap.get?_push_size _ rfl
  · have e : b = (s.heap.push { cls := .type "range", data := .fields #[.int lo t, .int hi u, .int 1 v] }).objs.size := by simpa using hb
    subst e
    exact I1.fpOk (Nat.le_refl _) (I1.hok.fresh (Nat.le_refl _))
theorem piR_range1 {a : Expr} {ta : TA} {p pos : Pos} (hg : Gl X "range") (hm : X.mg "range" = none) (ha : PA X [a] ta) (hs : starEach [a] X.env = [(false, eval a X.env)] := by rfl) : PIR X tg (.Call (.Name "range" p) [a] [] pos) (iRng1 ta) := by
  intro pins s σ H R I h
  refine Call_ (ld_blt I hg hm boot_range (PyProof.Rows.callWith_type1 (thn (ha pos pins s σ H _ I h) fun us s1 ⟨vs, H1, I1, r1, q1⟩ => ?_) hs rfl))
  obtain ⟨j, e, q1, q2, q⟩ := q1
  subst e
  cases r1 with
  | cons r rr =>
    cases rr
    obtain ⟨t, rfl⟩ := r
    exact call_range_1 (range_itR I1 (by omega) (by omega) q1 q2 (by simpa using q))
end
section
variable {X : Cx} {scope : Scope} {own cap : List Str} {ix : List Nat} {tg iter elt : Expr} {ifs : List Expr} {wi : TI} {g : TG} {tt : TT} {te : TE} {pos : Pos}
theorem comp_coreR {pins : List (Addr × Obj)} {σ : St} {H2 : Hp} {s2 : Shared} {it : Addr} {fp : List Addr} {tn : Nat → Heap → Prop} {J : It} {Q : VK} {RR : Value → Addr → Result → Shared → Prop} {E : Value → Shared → Prop}
    (B : BlkOk X scope own cap ix) (hc : Qt X)
    (hb : ∀ C fp s H, PG (cxCR X scope C (own ++ cap) fp s H) tg g ∧ PIfs (cxCR X scope C (own ++ cap) fp s H) ifs tt ∧ PE (cxCR X scope C (own ++ cap) fp s H) elt te)
    (I2 : Inv X pins σ H2 s2) (T : TurnR X.prog X.w X.K tg J fp it tn) (st2 : tn 0 s2.heap) (f2 : ∀ b ∈ fp, FpOk X pins H2 b)
    (q : ∀ acc, H2 acc = none → tCompN g tt te J acc (blkσ own.length ix σ) H2 Q)
    (hRR : ∀ D C H' s' m, Inv X pins σ H' s' → Q (.ref D) H' → s'.heap.Ns C m → FpOk X pins H' C → RR (.ref D) C (.ok .next) s') :
    wpAny (model X.prog X.w) X.A (newList []) (fun acc s₃ => wpAny (model X.prog X.w) X.A (newFunctionEnv scope X.env.globals (cloF X.env scope.names []) [] X.env.qual none .none (some X.env)) (fun cenv s₄ =>
      codeAny (model X.prog X.w) X.A (.compStart (.ListComp elt [⟨tg, iter, ifs, 0⟩] scope pos) 0 (.ref it) acc { cenv with scope := relabel scope X.env }) (RR acc cenv.locals) s₄) E s₃) E s2 := by
  refine wpAny_newObj_type (newEnv_comp ?_)
  have I3 : Inv X pins σ (upd H2 s2.heap.objs.size (.lst [])) { s2 with heap := s2.heap.push { cls := .type "list", dict := none, data := .seq ([] : List Value).toArray } } := I2.lnew (its := []) (ys := []) (t' := s2.toks) .nil (Nat.zero_le _)
  obtain ⟨W, ⟨m0, w0⟩, turn⟩ := q s2.heap.objs.size I2.fresh
  generalize hD : s2.heap.objs.size = D at I3 w0 turn ⊢
  have hlt : ∀ b ∈ fp, b < D := fun b hbm => by
    obtain ⟨o, e, _⟩ := T.obj 0 _ st2 b hbm
    rw [← hD]; exact Heap.lt_size e
  generalize hs3 : ({ s2 with heap := s2.heap.push { cls := .type "list", dict := none, data := .seq ([] : List Value).toArray } } : Shared) = s3 at I3 ⊢
  have keep3 : ∀ b o, s2.heap.get? b = some o → s3.heap.get? b = some o := fun b o e => by rw [← hs3]; exact Heap.get?_push_of_some _ e
  have f3 : ∀ b ∈ fp, FpOk X pins (upd H2 D (.lst [])) b := fun b hbm => ⟨by rw [upd_ne (Nat.ne_of_lt (hlt b hbm))]; exact (f2 b hbm).1, (f2 b hbm).2⟩
  have o3 : ∀ b ∈ fp, ∃ o, s3.heap.get? b = some o := fun b hbm => let ⟨o, e, _⟩ := T.obj 0 _ st2 b hbm; ⟨o, keep3 b o e⟩
  have I4 := I3.blockR B f3 o3
  have st4 : tn 0 (pushCells (s3.heap.push { cls := .type "dict", data := .dict #[] }) scope.names) := T.keep 0 _ _ st2 fun b _ o e => pushCells_keeps _ _ b o (Heap.get?_push_of_some _ (keep3 b o e))
  obtain ⟨hg, hif, he⟩ := hb s3.heap.objs.size fp s3 (upd H2 D (.lst []))
  generalize hX' : cxCR X scope s3.heap.objs.size (own ++ cap) fp s3 (upd H2 D (.lst [])) = X' at I4 hg hif he
  have eP : X'.prog = X.prog := by rw [← hX']; rfl
  have eW : X'.w = X.w := by rw [← hX']; rfl
  have eK : X'.K = X.K := by rw [← hX']; rfl
  have eA : X'.A = X.A := by rw [← hX']; rfl
  have eE : X'.env = compE scope s3.heap.objs.size X.env := by rw [← hX']; rfl
  have ex : X'.xe = fun _ _ => False := by rw [← hX']; rfl
  have hc' : Qt X' := by rw [← hX']; exact hc
  have stat : ∀ {H' : Hp}, (∀ b ∈ fp, H' b = none) → ∀ b ∈ fp, FpOk X' [] H' b := fun hn b hbm => by
    subst hX'
    exact ⟨hn b hbm, (I4.ok.exf b hbm).1, I4.ok.exfs b hbm, .inl hbm, (I4.ok.exf b hbm).2, fun p hp => (f3 b hbm).2.2.2.2.2 p (List.mem_append_left _ (by simpa using (show p ∈ X.pn ++ [] from hp)))⟩
  have loop : ∀ s4 : Shared, s4 = { s3 with heap := pushCells (s3.heap.push { cls := .type "dict", data := .dict #[] }) scope.names } →
      codeAny (model X.prog X.w) X.A (.compLoop (.ListComp elt [⟨tg, iter, ifs, 0⟩] scope pos) 0 (.ref it) (.ref D) (compE scope s3.heap.objs.size X.env)) (RR (.ref D) s3.heap.objs.size) s4 := by
    rintro s4 rfl
    refine comp_loop (fun n s' => ∃ i σ' H', Inv X' [] σ' H' s' ∧ tn i s'.heap ∧ (∀ b ∈ fp, H' b = none) ∧ W i n σ' H') ?_ m0 ⟨0, _, _, I4, st4, fun b hbm => (f3 b hbm).1, w0⟩
    rintro n s5 ⟨i, σ5, H5, I5, st5, fr5, w5⟩
    rcases turn i n σ5 H5 w5 with ⟨stop, qn⟩ | ⟨go, N, hN, step⟩
    · have := T.done X' eP eW eK hc' i [] s5 σ5 H5 (fun _ _ => False) I5 (stat fr5) st5 stop
      rw [eA] at this
      refine thn this fun r s6 ⟨hr, I6⟩ => ?_
      subst hr
      subst hX'
      have J6 : Inv X pins σ H5 s6 := I3.call' (ch := fp) I6.os I6.base I6.hok I6.bare fun b hbm => ⟨(f3 b hbm).2.2.2.1, (f3 b hbm).2.1, (f3 b hbm).2.2.2.2.1, (f3 b hbm).2.2.2.2.2⟩
      obtain ⟨m, hn, _⟩ := I6.loc
      exact hRR D _ H5 s6 m J6 qn hn (I3.fpOk (Nat.le_refl _) I6.free)
    · have := T.item X' eP eW eK hc' i [] s5 σ5 H5 (fun _ _ => False) I5 (stat fr5) st5 go
      rw [eA] at this
      refine thn this fun r s6 ⟨u, hr, h6⟩ => ?_
      subst hr
      refine thn h6 fun _ s7 ⟨x, H7, I7, r7, y7, st7, fr7⟩ => ?_
      have I7' := I7.pinned (stat fr7) (T.obj _ _ st7)
      have a1 := hg _ s7 σ5 H7 x u _ I7' r7 (step x H7 y7)
      rw [eP, eW, eA, eE, ex] at a1
      refine thn a1 fun _ s8 ⟨σ8, H8, I8, q8⟩ => ?_
      have a2 := hif _ s8 σ8 H8 _ I8 q8
      rw [eP, eW, eA, eE, ex] at a2
      refine thn a2 fun b s9 ⟨H9, I9, q9⟩ => ?_
      have again : ∀ {s' : Shared} {σ' : St} {H' : Hp}, Inv X' ([] ++ pinsAt fp s7.heap) σ' H' s' → N σ' H' → ∃ m, m < n ∧ ∃ i σ' H', Inv X' [] σ' H' s' ∧ tn i s'.heap ∧ (∀ b ∈ fp, H' b = none) ∧ W i m σ' H' := fun {s' σ' H'} I' n' => by
        obtain ⟨m', hm, w'⟩ := hN σ' H' n'
        refine ⟨m', hm, i + 1, σ', H', I'.unpinned, T.keep _ _ _ st7 fun b hbm o e => (I'.pin (b, o) (List.mem_append_right _ (List.mem_append_right _ (mem_pinsAt hbm e)))).1, fun b hbm => ?_, w'⟩
        obtain ⟨o, e, d⟩ := T.obj _ _ st7 b hbm
        exact (I'.pin (b, o) (List.mem_append_right _ (List.mem_append_right _ (mem_pinsAt hbm e)))).2.1
      cases b with
      | false => exact again I9 q9
      | true =>
        rw [if_pos rfl] at q9 ⊢
        have a3 := he _ s9 σ8 H9 _ I9 q9
        rw [eP, eW, eA, eE, ex] at a3
        refine thn a3 fun yv s10 ⟨y, H10, I10, r10, ys, hys, hz, q10⟩ => ?_
        have a4 := mt_append (X := X') _ s10 σ8 H10 (.ref D) [y] (.ref D) [yv] (fun v H' => v = .non ∧ N σ8 H') I10 rfl (.cons r10 .nil) ⟨D, ys, y, rfl, rfl, hys, hz, rfl, q10⟩
        rw [eP, eW, eA, ex] at a4
        refine thn a4 fun _ s11 ⟨_, H11, I11, _, _, q11⟩ => again I11 q11
  exact codeAny_compStart_list (loop _ rfl) (T.self X.A 0 _ _ _ st4 (loop _ rfl))

theorem pe_compR (B : BlkOk X scope own cap ix) (hc : Qt X) (hi : PIR X tg iter wi)
    (hb : ∀ C fp s H, PG (cxCR X scope C (own ++ cap) fp s H) tg g ∧ PIfs (cxCR X scope C (own ++ cap) fp s H) ifs tt ∧ PE (cxCR X scope C (own ++ cap) fp s H) elt te)
    (hs : ∀ x, foldedSetIterable iter X.env x = pure x := by intro _; rfl) : PE X (.ListComp elt [⟨tg, iter, ifs, 0⟩] scope pos) (tComp wi g tt te own.length ix) := by
  intro pins s σ H Q I h
  rw [eval_ListComp]
  have has : ∀ x ∈ scope.names, x.2 = .free → (X.env.cells.lookup x.1).isSome = true := fun x hx hk => by
    obtain ⟨c, e⟩ := I.ok.has x.1 (B.frees x hx hk)
    rw [e]; rfl
  refine wpAny_comprehension_free (use := none) rfl hs (closureFor_cells has) B.kind B.names ?_
  show wpAny _ _ (eval iter X.env) _ _ s
  refine thn (hi pins s σ H _ I h) fun v s1 h1 => thn h1 fun itv s2 h2 => ?_
  obtain ⟨it, fp, tn, J, H2, e, I2, T, st2, f2, q⟩ := h2
  subst e
  refine comp_coreR (RR := fun acc C => compPost (model X.prog X.w) X.A X.xe none (EP X pins σ Q) acc C) B hc hb I2 T st2 f2 q ?_
  intro D C H' s' m I' q' hn fC
  refine ⟨m, hn, fun h' hsb => ⟨.ref D, H', ?_, rfl, q'⟩⟩
  exact I'.turned (t' := s'.toks) (it := C) (fun b o hbC e => (hsb.2 b hbC).trans e) fC.1 fC.2.1 fC.2.2.2.1 fC.2.2.2.2.1 fC.2.2.2.2.2

end
end L2

set_option Elab.async false
set_option linter.all false
set_option maxRecDepth 100000
set_option maxHeartbeats 1000000
namespace EX
open PySem PySem.Spec PyProof.Rows PySem.W
/-- what isinstance asks of an own exception class -/
structure ExcK (K : Frag) (D : Addr) : Prop where
  ga : findIn K (.ref D) "__getattribute__" = some (some (.builtin "BaseException.__getattribute__"))
  gt : findIn K (.ref D) "__getattr__" = some none
  cl : findIn K (.ref D) "__class__" = some (some (.builtin "object.__class__"))
  get : specialIn K (.builtin "object.__class__") "__get__" = some (some (.builtin "getset_descriptor.__get__"))
  tk : takesIn K (.builtin "object.__class__") = some true
  ob : mroIn K D (.type "object") = some true
  be : mroIn K D (.type "BaseException") = some true
section
variable {prog : Program} {w : World} {A : Around} {E : Value → Shared → Prop} {s : Shared} {K : Frag} {x D t : Addr} {hd : Value}
theorem inst_exc {h : Heap} (hx : h.get? x = some (excO D t hd)) : PySem.W.InstAt h x (excO D t hd) D none := ⟨hx, rfl, rfl, trivial⟩
theorem exc_class {Q : Option Value → Shared → Prop} (Z : ExcK K D) (X : K.In s.heap) (hx : s.heap.get? x = some (excO D t hd)) (k : Q (some (.ref D)) { s with toks := s.toks + 1 }) : wpAny (model prog w) A (getAttr? (.ref x) "__class__") Q E s := by
  have I := inst_exc hx
  obtain ⟨hh, g, d, tt, os⟩ := s
  have L0 := I.type (M := model prog w)
  have L1 := looks_findIn (M := model prog w) X Z.ga
  have L2 := looks_findIn (M := model prog w) X Z.gt
  have hcls : ∃ cd, clsIn K D = some cd := by
    have := Z.ob
    unfold mroIn at this
    obtain ⟨cd, q, _⟩ := Option.bind_eq_some_iff.mp this
    exact ⟨cd, q⟩
  have hf : findObj K D none "__class__" = some (.bind (.builtin "getset_descriptor.__get__") (.builtin "object.__class__")) := by
    obtain ⟨cd, hc⟩ := hcls
    unfold findObj
    rw [hc, Option.bind_some, Z.cl, Option.bind_some]
    simp [Z.get, Z.tk]
  have L3 := looks_find (M := model prog w) X I hf
  have L4 := looks_mroIn (M := model prog w) X Z.be
  unfold getAttr? getAttrBy? getAttrBy
  refine wpAny_bind (wpAny_mkText (wpAny_bind (wpAny_attempt (wpAny_holding (wpAny_bind (L0.at (wpAny_bind (L1.at ?_))))))))
  show wpAny _ _ (if (onTheHeap (Value.ref D) && Value.builtin "BaseException.__getattribute__" == .builtin "object.__getattribute__") = true then _ else getAttrByItsOwn _ _ _ _ _ _) _ _ _
  rw [if_neg (by rw [show (Value.builtin "BaseException.__getattribute__" == Value.builtin "object.__getattribute__") = false by decide +kernel, Bool.and_false]; exact Bool.false_ne_true)]
  unfold getAttrByItsOwn hookBefore
  refine wpAny_bind (L2.at (wpAny_bind (wpAny_attempt (wpAny_holding ?_))))
  show wpAny _ _ (boundAndCalled _ _ _) _ _ _
  unfold boundAndCalled
  have f3 := F.attr_ValueError.ga.bind (.ref x)
  rw [f3]
  refine wpAny_bind (wpAny_pure (wpAny_call (codeAny_call_builtin F.attr_ValueError.ga.plain F.entry_bexc_ga ?_)))
  have hk : builtinKind "BaseException.__getattribute__" = some .slot := by decide +kernel
  have hsp : splitId "BaseException.__getattribute__" = some ("BaseException", "__getattribute__") := by decide +kernel
  have har := F.args_bexc_ga (.ref x) (.str "__class__" tt)
  simp only [checkBuiltinCall, hk, hsp]
  have LI : Looks (model prog w) hh (isInstance (.ref x) (.type "BaseException")) true := L0.andThen L4
  show wpAny _ _ (isInstance (.ref x) (.type "BaseException") >>= _) _ _ _
  refine wpAny_bind (LI.at ?_)
  simp only [Bool.not_true, Bool.false_eq_true, if_false]
  unfold argsOk at har
  show wpAny _ _ (match Manifest.signature? "BaseException.__getattribute__" with | some sig => Bind.checkArgs "BaseException.__getattribute__" sig ⟨[.ref x, .str "__class__" tt], []⟩ | x => pure ()) _ _ _
  refine wpAny_of_eq har ?_
  unfold Builtin.«object.__getattribute__»
  repeat (any_goals (first | with_reducible refine L0.at ?_ | with_reducible refine L3.at ?_ | wp_step))
  refine class_get (s := ⟨hh, g, d, tt + 1, os⟩) X I Z.ob ?_
  exact wpAny_pure (handed_on rfl (wpAny_pure k))
theorem kitx_exc (Z : ExcK K D) : KitX K (.ref x) (.ref D) (fun h => h.get? x = some (excO D t hd)) where
  ty := fun _ _ _ hx => (inst_exc hx).type
  it := fun M h X _ => by
    have := Z.ob
    unfold mroIn at this
    obtain ⟨cd, q, _⟩ := Option.bind_eq_some_iff.mp this
    unfold clsIn at q
    split at q
    · rename_i c' d' cd' sl' ho
      intro A' Q' E' s' k hq
      unfold isType loadHead
      exact wpAny_bind (wpAny_loadPart (k _ _ (X _ _ ho)) (wpAny_pure hq))
    · cases q
  ne := fun h tp dd its n sl X htp => by
    have := Z.ob
    unfold mroIn at this
    obtain ⟨cd, q, _⟩ := Option.bind_eq_some_iff.mp this
    refine Bool.eq_false_iff.mpr fun z => ?_
    have e : D = tp := Value.ref.inj (beq_iff_eq.mp z)
    subst e
    unfold clsIn at q
    split at q
    · rename_i c' d' cd' sl' ho
      have y := (X _ _ ho).symm.trans htp
      cases y
    · cases q
  ca := fun X hx k => exc_class Z X hx k
end
end EX
namespace L2
open PySem PySem.Spec PyProof.Rows EX
/-- isinstance(e, C) of a pinned exception, C a name -/
def tIsE (K : PySem.W.Frag) (D : Addr) (c : Value) (ea : Addr) (te : TE) : TE := fun σ H Q => te σ H fun x H1 => x = .ref ea ∧ ∃ b, PySem.W.kitOne K (.ref D) c = some b ∧ Q (.bl b) H1
section
variable {X : Cx} {e : Expr} {te : TE} {ea D t : Addr} {hd : Value}
theorem isE_at {pins : List (Addr × Obj)} {s : Shared} {σ : St} {H : Hp} {Q : VK} {c : Value} {b : Bool} (Z : ExcK X.K D) (hp : (ea, excO D t hd) ∈ X.pn) (I : Inv X pins σ H s) (ek : PySem.W.kitOne X.K (.ref D) c = some b) (q : Q (.bl b) H) :
    wpAny (model X.prog X.w) X.A (call (.builtin "isinstance") [.ref ea, c]) (EP X pins σ Q) X.xe s :=
  PySem.W.kia_one (kitx_exc (x := ea) (t := t) (hd := hd) Z) I.kIn (I.pin _ (List.mem_append_left _ hp)).1 ek (fun z => nomatch z) fun tk => ⟨.bl b, H, I.tok tk, rfl, q⟩
theorem pe_isEC {T : Str} {C : Addr} {p p2 pos : Pos} (Z : ExcK X.K D) (hp : (ea, excO D t hd) ∈ X.pn) (he : PE X e te) (hg : Gl X "isinstance") (hm : X.mg "isinstance" = none) (hgT : Gl X T) (hmT : X.mg T = some (.ref C))
    (hb : bootBuiltins "isinstance" = some (.builtin "isinstance")) (hdT : (T == ("__debug__" : Str)) = false := by decide)
    (hs : starEach [e, .Name T p2] X.env = [(false, eval e X.env), (false, eval (.Name T p2) X.env)] := by rfl)
    (hpl : (backTo pos (starEach [.Name T p2] X.env)).any (·.1) = false := by rfl) : PE X (.Call (.Name "isinstance" p) [e, .Name T p2] [] pos) (tIsE X.K D (.ref C) ea te) := by
  intro pins s σ H Q I h
  refine Call_ (ld_blt I hg hm hb (PyProof.Rows.callWith_builtin1 (spl2 (Q := fun us s1 => wpAny (model X.prog X.w) X.A (call (.builtin "isinstance") us) (EP X pins σ Q) X.xe s1) he I h hs fun u s1 x H1 I1 r q => ?_) ?_ hpl))
  · refine ld_glob I1 hgT hmT ?_ hdT
    obtain ⟨rfl, b, ek, q⟩ := q
    cases r
    exact isE_at Z hp I1 ek q
  · rw [hs]; rfl
theorem pe_isEB {T : Str} {n : String} {p p2 pos : Pos} (Z : ExcK X.K D) (hp : (ea, excO D t hd) ∈ X.pn) (he : PE X e te) (hg : Gl X "isinstance") (hm : X.mg "isinstance" = none) (hgT : Gl X T) (hmT : X.mg T = none) (hv : bootBuiltins T = some (.type n))
    (hb : bootBuiltins "isinstance" = some (.builtin "isinstance")) (hnT : T ≠ "__name__" := by decide) (hdT : (T == ("__debug__" : Str)) = false := by decide)
    (hs : starEach [e, .Name T p2] X.env = [(false, eval e X.env), (false, eval (.Name T p2) X.env)] := by rfl)
    (hpl : (backTo pos (starEach [.Name T p2] X.env)).any (·.1) = false := by rfl) : PE X (.Call (.Name "isinstance" p) [e, .Name T p2] [] pos) (tIsE X.K D (.type n) ea te) := by
  intro pins s σ H Q I h
  refine Call_ (ld_blt I hg hm hb (PyProof.Rows.callWith_builtin1 (spl2 (Q := fun us s1 => wpAny (model X.prog X.w) X.A (call (.builtin "isinstance") us) (EP X pins σ Q) X.xe s1) he I h hs fun u s1 x H1 I1 r q => ?_) ?_ hpl))
  · refine ld_blt I1 hgT hmT hv ?_ hnT hdT
    obtain ⟨rfl, b, ek, q⟩ := q
    cases r
    exact isE_at Z hp I1 ek q
  · rw [hs]; rfl
end
end L2

set_option Elab.async false
set_option linter.all false
set_option maxRecDepth 100000
set_option maxHeartbeats 1000000
namespace EX
open PySem PySem.Spec PyProof.Rows PySem.W
section
variable {prog : Program} {w : World} {A : Around} {E : Value → Shared → Prop} {s : Shared} {K : Frag} {e D C t : Addr} {hd : Value}
theorem exc_match {Q : Bool → Shared → Prop} {b : Bool} (X : K.In s.heap) (he : s.heap.get? e = some (excO D t hd)) (hty : typeIn K (.ref C) = some (.type "type")) (hb : mroIn K C (.type "BaseException") = some true) (hs : mroIn K D (.ref C) = some b) (k : Q b s) :
    wpAny (model prog w) A (excMatches (.ref e) (.ref C)) Q E s := by
  obtain ⟨hh, g, d, tt, os⟩ := s
  have L0 := (inst_exc he).type (M := model prog w)
  have L1 := looks_typeIn (M := model prog w) X hty
  have L2 := looks_mroIn (M := model prog w) X hb
  have L3 := looks_mroIn (M := model prog w) X hs
  have f := tc_notTuple
  have hC : ∃ o cd, K.lookup C = some o ∧ o.data = .cls cd := by
    have := hb
    unfold mroIn at this
    obtain ⟨cd, q, _⟩ := Option.bind_eq_some_iff.mp this
    unfold clsIn at q
    split at q
    · rename_i ho; exact ⟨_, _, ho, rfl⟩
    · cases q
  obtain ⟨oC, cdC, ho, hdC⟩ := hC
  have gC := X _ _ ho
  unfold excMatches
  repeat (any_goals (first | with_reducible refine L0.at ?_ | with_reducible refine L1.at ?_ | with_reducible refine L2.at ?_ | with_reducible refine L3.at ?_ | wp_step))
  cases b <;> (repeat (any_goals wp_step)) <;> exact k
end
end EX

namespace L2
open PySem PySem.Spec PyProof.Rows EX
/-! ### ''.join(words) -/
def rJoin (K : PySem.W.Frag) : V → List V → Hp → VK → Prop := fun x vs H Q => ∃ (y : Str) (p : Addr) (zs : List Str), x = .str y ∧ vs = [.ref p] ∧ SqL K H p (zs.map V.str) ∧ (∀ z ∈ zs, z.length ≤ 12) ∧ y.length ≤ 4 ∧ zs.length ≤ 1000 ∧ Q (.str (PySem.Txt.join y zs)) H
theorem carried_strs : ∀ {zs : List Str} {us : List Value}, Vals (zs.map V.str) us → CarriedAll us (zs.map fun z => PyData.str z)
  | [], _, r => by cases r; exact .nil
  | z :: zs, _, r => by
    rw [List.map_cons] at r
    cases r with
    | cons r1 r2 =>
      obtain ⟨t, rfl⟩ := r1
      exact .cons (.str _ t) (carried_strs r2)
theorem mt_join {X : Cx} (K : PySem.W.Frag) (hK : X.K = K := by rfl) : MtR X "str.join" (rJoin K) := by
  subst hK
  intro pins s σ H x vs v us Q I rx rv h
  obtain ⟨y, p, zs, rfl, rfl, hq, hB, hy, hn, q⟩ := h
  obtain ⟨t, rfl⟩ := rx
  obtain ⟨u, rfl, ru⟩ := rv.one
  cases ru
  obtain ⟨its, r, hl, _⟩ := I.list hq
  refine PySem.W.KT.join_B 12 hl.isList (l := zs) (g := fun z => z) (carried_strs r) hB (by omega) (by omega) fun t' k => ?_
  rw [List.map_id']
  exact ⟨.str _, H, I.tok k, ⟨_, rfl⟩, q⟩
end L2

set_option Elab.async false
set_option linter.all false
set_option maxRecDepth 100000
set_option maxHeartbeats 1000000
namespace L2
open PySem PySem.Spec PyProof.Rows EX
/-! ### a def called within an except suite -/
structure RoomH (k : Nat) (A : Around) (ea : Addr) : Prop where
  hd : A.handled = some (.ref ea)
  dp : A.depth + 3 * k + 5 < recursionLimit
  un : A.units + 16 * k + 200 < cLine
theorem RoomH.deeper {k : Nat} {A : Around} {ea : Addr} (r : RoomH (k + 1) A ea) (env : Env) : RoomH k (A.deeper env) ea :=
  ⟨r.hd, by have := r.dp; show A.depth + 1 + 3 * k + 5 < _; omega, by have := r.un; show A.units + 3 + 16 * k + 200 < _; omega⟩
def cxH (P : Program) (w : World) (K : PySem.W.Frag) (mg : Str → Option Value) (base : Heap) (N : List Str) (qual : Str) (scope : Scope) (f : Addr) (cd : Value) (A : Around) (outer : List Env) (s : Shared) (H : Hp) (ea D t : Addr) (hd : Value) : Cx :=
  { cxOf CX0 P w K mg base N qual scope f cd A outer s H E0 with calm := false, pn := [(ea, excO D t hd)], xe := fun _ _ => False }
structure FnH (P : Program) (w : World) (K : PySem.W.Frag) (mg : Str → Option Value) (base : Heap) (k : Nat) (f : Addr) (fd : FuncData) (ps : List Str) (sp : Addr → Addr → Sp) : Prop where
  len : ∀ ea D vs H Q E, sp ea D vs H Q E → vs.length = ps.length
  run : ∀ (A : Around) (outer : List Env) (s : Shared) (H : Hp) (args : Args) (us : List Value) (vs : List V) (Q : VK) (E : XK) (ea D t : Addr) (hd : Value), RoomH k A ea → Env0 P w K mg base A outer s H → s.heap.get? ea = some (excO D t hd) → H ea = none → ea ∉ frs outer →
    BindsTo s fd args (ps.zip us) → Vals vs us → sp ea D vs H Q E → codeAny (model P w) A (.call (.ref f) args) (CR CX0 outer P w H s Q E) s
section
variable {P : Program} {w : World} {K : PySem.W.Frag} {mg : Str → Option Value} {base : Heap}
theorem inv_startH {N ps : List Str} {qual : Str} {scope : Scope} {f : Addr} {cd : Value} {A : Around} {outer : List Env} {s s1 : Shared} {H : Hp} {us : List Value} {vs : List V} {ea D t : Addr} {hd : Value}
    (S : FnScope N ps scope) (e0 : Env0 P w K mg base A outer s H) (hl : vs.length = ps.length) (r : Vals vs us) (he : s.heap.get? ea = some (excO D t hd)) (hn : H ea = none) (hf : ea ∉ frs outer)
    (x : InCallC s s.heap.objs.size (bindL (envOfC qual scope s.heap.objs.size f cd).kindOf (ps.zip us) fun _ => none) (cellsFrom (s.heap.objs.size + 1) scope.names []) (bindC (envOfC qual scope s.heap.objs.size f cd).kindOf (ps.zip us) fun _ => none) s1) :
    Inv (cxH P w K mg base N qual scope f cd A outer s H ea D t hd) [] (start N vs) H s1 := by
  have e1 : Env0 P w K mg base { A with handled := none } outer s H := ⟨e0.frames, e0.mod, e0.bs, e0.bsz, e0.funs, e0.frf, e0.hok, e0.bare⟩
  have J := inv_start (CX := CX0) (E := E0) (A := { A with handled := none }) S rfl e1 hl r x
  have keep := x.toInCall.keep
  refine ⟨⟨J.ok.mod, J.ok.kind, J.ok.glob, J.ok.blt, J.ok.above, J.ok.inj, J.ok.has, J.ok.cab, fun z => (nomatch z), Around.frames_deeper e0.frames, J.ok.stk, J.ok.exf, J.ok.bs, J.ok.bsz, J.ok.noex, J.ok.exfs, J.ok.funs, J.ok.frf⟩, J.os, J.bare, J.base, J.loc, J.cell, J.free, J.freeC, fun p hp => ?_, J.hok, J.len⟩
  have hp' : p = (ea, excO D t hd) := by simpa using (show p ∈ [(ea, excO D t hd)] ++ [] from hp)
  subst hp'
  exact ⟨keep _ _ he, hn, Nat.ne_of_lt (Heap.lt_size he), hf, fun v z => by cases z⟩
theorem Fun.okH {x qual : Str} {st : Stmt} {f : Addr} {fd : FuncData} {N ps : List Str} {k : Nat} {sp : Addr → Addr → Sp} (F : Fun K x qual st f fd) (S : FnScope N ps (defScope st)) (len : ∀ ea D vs H Q E, sp ea D vs H Q E → vs.length = ps.length)
    (hbody : ∀ (cdv : Value) (A : Around) (outer : List Env) (s : Shared) (H : Hp) (vs : List V) (Q : VK) (E : XK) (ea D t : Addr) (hd : Value), RoomH k (A.deeper (envOfC qual (defScope st) s.heap.objs.size f cdv)) ea → sp ea D vs H Q E →
      ∃ t', PSs (cxH P w K mg base N qual (defScope st) f cdv A outer s H ea D t hd) (defBody st) t' ∧ t' { nx := fun _ H' => Q .non H', rt := Q } (start N vs) H) : FnH P w K mg base (k + 1) f fd ps sp := by
  obtain ⟨oc, od, kV, doc, pm, an, cdv, ct, osl, rfl, lk, hcd⟩ := F.ex
  refine ⟨len, fun A outer s H args us vs Q E ea D t hd hr e0 he hn hf hb r hsp => ?_⟩
  have hl := len _ _ _ _ _ _ hsp
  have KX : K.In s.heap := e0.mod.kin.keeps fun b o e => (e0.bs b o e).1
  have lim : s.heap.NoLimit := e0.mod.nolimit.keeps fun b o e => (e0.bs b o e).1
  have hkind : ∀ y ∈ ps.zip us, (defScope st).names.lookup y.1 = some .local ∨ ((defScope st).names.lookup y.1 = some .cell ∧ ((cellsFrom (s.heap.objs.size + 1) (defScope st).names []).lookup y.1).isSome = true) := fun ⟨n, v⟩ hy => by
    rcases S.par n (List.of_mem_zip hy).1 with q | q
    · exact .inl q
    · exact .inr ⟨q, PySem.W.cellsFrom_some _ _ _ (.inl q)⟩
  refine codeAny_call_function (by have := hr.dp; omega) (KX _ _ lk) rfl S.co S.gen rfl (PySem.W.codeRec_of KX hcd) (hb _ _ _ _ ?_)
  refine wpAny_newFunctionEnv_cells S.kind hkind fun env he' s1 x => ?_
  subst he'
  refine ⟨lim.keeps x.toInCall.keep, codeAny_func ?_⟩
  obtain ⟨t', ht, hq⟩ := hbody cdv A outer s H vs Q E ea D t hd (hr.deeper _) hsp
  have I := inv_startH (qual := qual) (f := f) (cd := cdv) S e0 hl r he hn hf x
  refine wpAny_mono (ht [] s1 (start N vs) H _ I hq) (fun fl s' hs => ?_) fun e s' hs => False.elim hs
  have fin : ∀ {σ' : St} {H' : Hp} {v : V} {u : Value}, Inv (cxH P w K mg base N qual (defScope st) f cdv A outer s H ea D t hd) [] σ' H' s' → RelV v u → Q v H' → CE outer P w H s Q u s' :=
    fun {σ' H' v u} J rv q => ⟨v, H', J.os, J.bare, J.base, J.hok, rv, q⟩
  cases fl with
  | ret u =>
    obtain ⟨v, σ', H', J, rv, q⟩ := hs
    exact fin J rv q
  | next =>
    obtain ⟨σ', H', J, q⟩ := hs
    exact fin (v := V.non) (u := Value.none) J rfl q
  | brk =>
    obtain ⟨_, _, _, q⟩ := hs
    exact False.elim q
  | cont =>
    obtain ⟨_, _, _, q⟩ := hs
    exact False.elim q
end
end L2

set_option Elab.async false
set_option linter.all false
set_option maxRecDepth 100000
set_option maxHeartbeats 2000000
namespace L2
open PySem PySem.Spec PyProof.Rows EX
theorem un_up {l : List Env} {H H' : Hp} {h h1 h2 B : Heap} {a C t : Addr} (un : Un (frs l) [] H H' h h1) (third : ∀ b o, h.get? b = some o → b ∉ frs l → (∃ o', B.get? b = some o') ∧ (H b = none → B.get? b = some o))
    (ff : h1.FunFrames B l) (air : Air B l a C t h2) (up : h1.UpToSlots h2) : Un (frs l) [] H H' h h2 := by
  refine ⟨fun b o q n nf _ => air.st b o ((third b o q nf).2 n), fun b o q n m _ => ?_, un.free, fun b o q _ => ?_, un.tups, un.frzs, un.tbls⟩
  · obtain ⟨sl, q1⟩ := un.slot b o q n m (by simp)
    obtain ⟨_, o3, q3, nf⟩ := ff.mem m
    rw [q1] at q3
    cases q3
    obtain ⟨sl3, q4⟩ := up b _ q1 nf
    exact ⟨sl3, q4⟩
  · by_cases m : b ∈ frs l
    · obtain ⟨_, o3, q3, nf⟩ := ff.mem m
      obtain ⟨sl3, q4⟩ := up b _ q3 nf
      exact ⟨_, q4⟩
    · obtain ⟨o2, q2⟩ := (third b o q m).1
      exact ⟨o2, air.st b o2 q2⟩
section
variable {X : Cx} {pins : List (Addr × Obj)} {σ : St} {H : Hp} {s : Shared}
/-- a name goes -/
theorem inv_goes {n : Str} {j : Nat} {m : Str → Option Value} {h' : Heap} {v : Option Value} {tk : Nat} (I : Inv X pins σ H s) (hN : X.N.Nodup) (hj : X.N[j]? = some n) (hn : s.heap.Ns X.env.locals m)
    (hl : ∀ (i : Nat) (x : Str) (v : V), X.N[i]? = some x → σ[i]? = some (some v) → Vis X.env.scope x → ∃ u, RelV v u ∧ Look X.env s.heap m x u)
    (hn' : h'.Ns X.env.locals (fun x => if x = n then v else m x)) (hs : Heap.SameBut X.env.locals s.heap h') : Inv X pins (σ.set j none) H { s with heap := h', toks := tk } := by
  have cne := I.cne
  have ltL : ∀ b o, X.s₀.heap.get? b = some o → b ≠ X.env.locals := fun b o e => Nat.ne_of_lt (Nat.lt_of_lt_of_le (Heap.lt_size e) I.ok.above)
  refine ⟨I.ok, I.os, I.bare, ⟨fun b o e n hb hx => (hs.2 b (ltL b o e)).trans (I.base.keep b o e n hb hx), fun b o e n hb hx => ?_, I.base.free, fun b o e hx => ?_, I.base.tups, I.base.frzs, I.base.tbls⟩, ⟨_, hn', fun i x v' e1 e2 e3 => ?_⟩, fun y c e => ?_, I.free, I.freeC, fun p hp => ?_, fun b ob e => ?_, by simpa using I.len⟩
  · obtain ⟨sl, e1⟩ := I.base.slot b o e n hb hx
    exact ⟨sl, (hs.2 b (ltL b o e)).trans e1⟩
  · obtain ⟨o', e1⟩ := I.base.there b o e hx
    exact ⟨o', (hs.2 b (ltL b o e)).trans e1⟩
  · by_cases hji : i = j
    · subst hji
      by_cases hlt : i < σ.length
      · rw [List.getElem?_set_self hlt] at e2; cases e2
      · rw [List.getElem?_eq_none (by simpa using hlt)] at e2; cases e2
    · rw [List.getElem?_set_ne (Ne.symm hji)] at e2
      obtain ⟨u, r, q⟩ := hl i x v' e1 e2 e3
      refine ⟨u, r, ?_⟩
      rcases q with ⟨kd, e⟩ | ⟨kd, c, e, z⟩
      · have : x ≠ n := fun z => hji (nodup_ix hN e1 (z ▸ hj))
        exact .inl ⟨kd, by simp [this, e]⟩
      · exact .inr ⟨kd, c, e, z.sameBut hs (cne x c e)⟩
  · obtain ⟨w', z⟩ := I.cell y c e
    exact ⟨w', z.sameBut hs (cne y c e)⟩
  · obtain ⟨e, n, ne, nf, d⟩ := I.pin p hp
    exact ⟨(hs.2 p.1 ne).trans e, n, ne, nf, d⟩
  · refine (I.hok b ob e).stay (fun c w' hc q => (hs.2 c ?_).trans q) (fun _ q => q) fun _ _ q => q
    rintro rfl
    rcases hc with z | z
    · rw [← z, I.free] at e; cases e
    · rw [I.free] at z; cases z
/-- the suite's context -/
def cxS (X : Cx) (ea D t : Addr) (hd : Value) : Cx := { X with A := X.A.mark (some (.ref ea)), calm := false, pn := (ea, excO D t hd) :: X.pn, xe := fun _ _ => False }
theorem Inv.suite {ea D t : Addr} {hd : Value} (I : Inv X pins σ H s) (he : s.heap.get? ea = some (excO D t hd)) (hn : H ea = none) (hL : ea ≠ X.env.locals) (hf : ea ∉ X.fs) : Inv (cxS X ea D t hd) pins σ H s := by
  refine ⟨⟨I.ok.mod, I.ok.kind, I.ok.glob, I.ok.blt, I.ok.above, I.ok.inj, I.ok.has, I.ok.cab, fun z => (nomatch z), I.ok.frames, I.ok.stk, I.ok.exf, I.ok.bs, I.ok.bsz, I.ok.noex, I.ok.exfs, I.ok.funs, I.ok.frf⟩, I.os, I.bare, I.base, I.loc, I.cell, I.free, I.freeC, fun p hp => ?_, I.hok, I.len⟩
  have hp' : p = (ea, excO D t hd) ∨ p ∈ X.pn ++ pins := List.mem_cons.mp (show p ∈ (ea, excO D t hd) :: (X.pn ++ pins) from hp)
  rcases hp' with z | z
  · subst z; exact ⟨he, hn, hL, hf, fun v z => by cases z⟩
  · exact I.pin p z
theorem Inv.unsuite {ea D t : Addr} {hd : Value} (ok : X.Ok) (I : Inv (cxS X ea D t hd) pins σ H s) : Inv X pins σ H s :=
  ⟨ok, I.os, I.bare, I.base, I.loc, I.cell, I.free, I.freeC, fun p hp => I.pin p (show p ∈ (ea, excO D t hd) :: (X.pn ++ pins) from List.mem_cons_of_mem _ hp), I.hok, I.len⟩
end
/-- f(e, ..) within an except suite -/
def tCallH (sp : Addr → Addr → Sp) (ea D : Addr) (t : TA) : TE := fun σ H Q => t σ H fun vs H1 => sp ea D vs H1 Q E0
theorem pe_callH {X : Cx} {k : Nat} {f ea D t : Addr} {hd : Value} {fd : FuncData} {ps : List Str} {sp : Addr → Addr → Sp} {x : Str} {p pos : Pos} {e : Expr} {es : List Expr} {ta : TA} (F : FnH X.prog X.w X.K X.mg X.base k f fd ps sp) (hr : RoomH k X.A ea) (hp : (ea, excO D t hd) ∈ X.pn)
    (hg : Gl X x) (hm : X.mg x = some (.ref f)) (hk : PySem.W.keepIn X.K (.ref f) = true) (hb : Binds X.K fd ps []) (ha : PA X (e :: es) ta) (hdb : (x == ("__debug__" : Str)) = false := by decide)
    (he : starEach (e :: es) X.env = (false, eval e X.env) :: starEach es X.env := by rfl) (hpl : (backTo pos (starEach es X.env)).any (·.1) = false := by rfl) : PE X (.Call (.Name x p) (e :: es) [] pos) (tCallH sp ea D ta) := by
  intro pins s σ H Q I h
  refine wpAny_Call_Name_kw (ld_glob I hg hm ?_ hdb)
  refine PySem.W.callWith_K (h₀ := X.base) I.ok.mod.kin hk (thn (ha pos pins s σ H _ I h) fun us s1 ⟨vs, H1, I1, r, q⟩ => ⟨I1.kIn, ?_⟩) he hpl
  obtain ⟨p1, p2, p3, p4, _⟩ := I1.pin _ (List.mem_append_left _ hp)
  have hl : us.length = ps.length := by rw [← r.length]; exact F.len _ _ _ _ _ _ q
  have hb' := hb s1 us I1.kIn (by rw [List.append_nil]; exact hl)
  rw [List.append_nil] at hb'
  refine wpAny_call (codeAny_mono (F.run X.A X.stack s1 H1 ⟨us, []⟩ us vs Q E0 ea D t hd hr I1.env0 p1 p2 (fun z => ?_) hb' r q) fun r s' hq => ?_)
  · rcases List.mem_cons.mp (I1.stkSub ea z) with e | e
    · exact p3 e
    · exact p4 e
  · cases r with
    | error e => exact False.elim hq
    | ok fl =>
      cases fl with
      | ret u => exact I1.after hq
      | next => exact False.elim hq
      | brk => exact False.elim hq
      | cont => exact False.elim hq
end L2

set_option Elab.async false
set_option linter.all false
set_option maxRecDepth 100000
set_option maxHeartbeats 2000000
namespace L2
open PySem PySem.Spec PyProof.Rows EX
/-- try: x = f(..) / except M as n: y = g(n) -/
def tTry (K : PySem.W.Frag) (sp : Sp) (spK : Addr → Addr → Sp) (M : Addr) (i j l : Nat) (ta : TA) : TS := fun D σ H => ta σ H fun vs H1 => sp vs H1 (fun v H2 => D.nx (σ.set i (some v)) H2)
  (fun c _ H2 => ∃ Dc, c = .ref Dc ∧ PySem.W.mroIn K Dc (.ref M) = some true ∧ ∀ ea, H2 ea = none → spK ea Dc [.ref ea] H2 (fun v H3 => D.nx (((σ.set j (some (.ref ea))).set l (some v)).set j none) H3) E0)
theorem ps_tryCall {X : Cx} {k kk : Nat} {f fK M : Addr} {fd fdK : FuncData} {ps psK : List Str} {sp : Sp} {spK : Addr → Addr → Sp} {x n y fn kf Cl : Str} {i j l : Nat} {e : Expr} {es : List Expr} {ta : TA} {px fp cpos apos np py kp np2 kpos ypos hpos pos : Pos}
    (F : FnOk X.prog X.w X.K X.mg X.base (CXF X.prog X.w) k f fd ps sp) (hr : Room k X.A) (hgf : Gl X fn) (hmf : X.mg fn = some (.ref f)) (hkf : PySem.W.keepIn X.K (.ref f) = true) (hbf : Binds X.K fd ps [])
    (G : FnH X.prog X.w X.K X.mg X.base kk fK fdK psK spK) (hr2 : Room kk X.A) (hgk : Gl X kf) (hmk : X.mg kf = some (.ref fK)) (hkk : PySem.W.keepIn X.K (.ref fK) = true) (hbk : Binds X.K fdK psK [])
    (hgC : Gl X Cl) (hmC : X.mg Cl = some (.ref M)) (tyM : PySem.W.typeIn X.K (.ref M) = some (.type "type")) (bM : PySem.W.mroIn X.K M (.type "BaseException") = some true)
    (hst : X.stack = X.env :: X.outer) (hfr : X.env.frame = some X.env.locals) (hN : X.N.Nodup) (hi : X.N[i]? = some x) (hj : X.N[j]? = some n) (hl : X.N[l]? = some y)
    (kx : X.env.scope.names.lookup x = some .local) (kn : X.env.scope.names.lookup n = some .local) (ky : X.env.scope.names.lookup y = some .local)
    (ha : ∀ E, PA (X.wish E) (e :: es) ta)
    (hs1 : swapsWith (.Call (.Name fn fp) (e :: es) [] cpos) (some (.Name x px)) apos.line X.env = pure false := by rfl)
    (hs2 : swapsWith (.Call (.Name kf kp) [.Name n np2] [] kpos) (some (.Name y py)) ypos.line X.env = pure false := by rfl)
    (d1 : (fn == ("__debug__" : Str)) = false := by decide) (d2 : (kf == ("__debug__" : Str)) = false := by decide) (d3 : (Cl == ("__debug__" : Str)) = false := by decide) (d4 : (n == ("__debug__" : Str)) = false := by decide) (d5 : (n == ("__classdict__" : Str)) = false := by decide)
    (he : starEach (e :: es) X.env = (false, eval e X.env) :: starEach es X.env := by rfl) (hpl : (backTo cpos (starEach es X.env)).any (·.1) = false := by rfl)
    (he2 : starEach [.Name n np2] X.env = [(false, eval (.Name n np2) X.env)] := by rfl) :
    PS X (.Try [.Assign [.Name x px] (.Call (.Name fn fp) (e :: es) [] cpos) apos] [.ExceptHandler (some (.Name Cl np)) (some n) [.Assign [.Name y py] (.Call (.Name kf kp) [.Name n np2] [] kpos) ypos] hpos] [] [] pos) (tTry X.K sp spK M i j l ta) := by
  intro pins s σ H D I h
  refine wpAny_Try_except (wpAny_execs_cons ?_)
  refine wpAny_Assign_Name ?_ hs1
  refine wpAny_Call_Name_kw (ld_glob I hgf hmf ?_ d1)
  generalize hEE : (fun (e : Value) (s₁ : Shared) => wpAny (model X.prog X.w) X.A (noteFrame e X.env) (fun _ s₂ => wpAny (model X.prog X.w) X.A (setFlight e none) (fun _ s₃ => wpAny (model X.prog X.w) X.A (handleBy e X.env [.ExceptHandler (some (.Name Cl np)) (some n) [.Assign [.Name y py] (.Call (.Name kf kp) [.Name n np2] [] kpos) ypos] hpos]) (SP X pins D) X.xe s₃) X.xe s₂) X.xe s₁) = EE
  refine PySem.W.callWith_K (h₀ := X.base) I.ok.mod.kin hkf (thn (ha EE cpos pins s σ H _ (I.wish EE) h) fun us s1 ⟨vs, H1, I1w, r, q⟩ => ?_) he hpl
  have I1 : Inv X pins σ H1 s1 := I1w.unwish
  refine ⟨I1.kIn, ?_⟩
  have hlen : us.length = ps.length := by rw [← r.length]; exact F.len _ _ _ _ q
  have hb' := hbf s1 us I1.kIn (by rw [List.append_nil]; exact hlen)
  rw [List.append_nil] at hb'
  refine wpAny_call (codeAny_mono (F.run X.A X.stack s1 H1 ⟨us, []⟩ us vs _ _ hr I1.env0 hb' r q) fun res s' hq => ?_)
  cases res with
  | ok fl =>
    cases fl with
    | ret u =>
      obtain ⟨v, H2, I2, rv, q2⟩ := I1.after hq
      refine store_ok I2 hN hi (.inl kx) rv (fun s3 I3 => ?_) (.inr kx)
      exact wpAny_execs_nil (wpAny_execs_nil ⟨_, H2, I3, q2⟩)
    | next => exact False.elim hq
    | brk => exact False.elim hq
    | cont => exact False.elim hq
  | error ev =>
    obtain ⟨a, C, t, B, H2, rfl, os, bare, un, hok, third, air, na, na', Dc, eC, hsub, hk⟩ := hq
    cases eC
    rw [← hEE]
    have ff := air.ff
    rw [hst] at air
    refine air_note (L := X.env.locals) air (by rw [← hst]; exact I.ok.frames) hfr fun h3 air3 up3 => ?_
    refine air_land (s := { s' with heap := h3 }) air3 fun h4 air4 up4 => ?_
    have up34 := up3.trans up4
    have ht : ∀ b o, s1.heap.get? b = some o → b ≠ a := fun b o q z => by rw [z, na] at q; cases q
    have aL : a ≠ X.env.locals := by
      obtain ⟨m, ⟨oL, _, _, hoL, _⟩, _⟩ := I1.loc
      exact (ht _ _ hoL).symm
    have aF : a ∉ X.fs := fun z => by
      obtain ⟨_, o, ho, _⟩ := I1.funs.mem z
      exact ht _ _ ho rfl
    have inv : ∀ (h' : Heap) (tk : Nat), Air B (X.env :: X.outer) a C t h' → s'.heap.UpToSlots h' → Inv X pins σ H2 { s' with heap := h' } := fun h' tk air' up' =>
      I1.call' (s' := { s' with heap := h' }) (ch := []) os (un_up un third ff (by rw [hst]; exact air') up') (hok.kept air'.st) bare (fun b z => absurd z (by simp))
    obtain ⟨hd4, he4, _⟩ := air4.ob
    have J4 := (inv h4 0 air4 up34).suite he4 na' aL aF
    refine wpAny_handleBy_cons (codeAny_handlers_test (ld_glob J4 hgC hmC ?_ d3)) (by intro z; cases z)
    refine exc_match (K := X.K) J4.kIn he4 tyM bM hsub ?_
    refine codeAny_handlers_suite_as ?_
    refine air_land (s := { s' with heap := h4 }) air4 fun h5 air5 up5 => ?_
    obtain ⟨hd5, he5, _⟩ := air5.ob
    have J5 := (inv h5 0 air5 (up34.trans up5)).suite he5 na' aL aF
    refine store_ok (X := cxS X a C t hd5) J5 hN hj (.inl kn) (v := .ref a) rfl (fun s6 J6 => ?_) (.inr kn)
    have rh : RoomH kk (cxS X a C t hd5).A a := ⟨rfl, hr2.dp, hr2.un⟩
    have body : PSs (cxS X a C t hd5) [.Assign [.Name y py] (.Call (.Name kf kp) [.Name n np2] [] kpos) ypos] _ :=
      pss_one (ps_set (i := l) hN hl (.inl ky) (pe_callH (X := cxS X a C t hd5) (D := C) (t := t) (hd := hd5) G rh List.mem_cons_self hgk hmk hkk hbk (pa_cons (pe_var (i := j) hj (.inl kn) d4 d5) pa_nil he2) d2 he2 rfl) hs2 (.inr ky))
    have hjl : j < σ.length := by rw [I1.len]; exact (List.getElem?_eq_some_iff.mp hj).1
    have run := body pins s6 (σ.set j (some (.ref a))) H2 { nx := fun σ3 H3 => D.nx (σ3.set j none) H3, rt := fun _ _ => False } J6 ⟨.ref a, by rw [List.getElem?_set_self hjl], hk a na'⟩
    refine wpAny_mono run (fun fl s7 hs7 => ?_) fun _ _ z => False.elim z
    cases fl with
    | ret u => obtain ⟨_, _, _, _, _, z⟩ := hs7; exact False.elim z
    | brk => obtain ⟨_, _, _, z⟩ := hs7; exact False.elim z
    | cont => obtain ⟨_, _, _, z⟩ := hs7; exact False.elim z
    | next =>
      obtain ⟨σ7, H7, J7, q7⟩ := hs7
      have I7 : Inv X pins σ7 H7 s7 := Inv.unsuite I.ok J7
      obtain ⟨m, hn, hlk⟩ := id I7.loc
      refine wpAny_nameGoes_keeps kn hn (by rw [I.ok.kind]; rfl) fun h8 v hn8 hs8 => ?_
      exact ⟨σ7.set j none, H7, inv_goes I7 hN hj hn hlk hn8 hs8, q7⟩
end L2

set_option Elab.async false
set_option linter.all false
set_option maxRecDepth 100000
set_option maxHeartbeats 1000000
namespace KG
open PySem
/-- within k bits -/
def Bd (k : Nat) (n : Int) : Prop := n.natAbs < 2 ^ k
theorem Bd.mono {j k : Nat} {n : Int} (h : Bd j n) (hj : j ≤ k) : Bd k n := Nat.lt_of_lt_of_le h (Nat.pow_le_pow_right (by decide) hj)
theorem Bd.le {k : Nat} {a b : Int} (h : Bd k b) (hl : a.natAbs ≤ b.natAbs) : Bd k a := Nat.lt_of_le_of_lt hl h
theorem Bd.log {k : Nat} {n : Int} (h : Bd k n) (hk : k ≤ 8999) : n.natAbs.log2 < 9000 := by
  by_cases h0 : n.natAbs = 0
  · rw [h0]; decide +kernel
  · exact (Nat.log2_lt h0).mpr (Nat.lt_of_lt_of_le h (Nat.pow_le_pow_right (by decide) (by omega)))
/-! lowest terms -/
def sg (t u : Int) : Int := if u < 0 then -(Int.gcd t u : Int) else (Int.gcd t u : Int)
def nx (t u : Int) : Int := t.fdiv (sg t u)
def ny (t u : Int) : Int := u.fdiv (sg t u)
theorem nf_spec {t u : Int} (h : u ≠ 0) : nx t u * u = t * ny t u ∧ 0 < ny t u ∧ Int.gcd (nx t u) (ny t u) = 1 ∧ sg t u ≠ 0 ∧ (nx t u).natAbs ≤ t.natAbs ∧ (ny t u).natAbs ≤ u.natAbs := by
  have g0 : 0 < Int.gcd t u := Int.gcd_pos_of_ne_zero_right t h
  obtain ⟨a, ha⟩ : (Int.gcd t u : Int) ∣ t := Int.gcd_dvd_left ..
  obtain ⟨b, hb⟩ : (Int.gcd t u : Int) ∣ u := Int.gcd_dvd_right ..
  generalize hg : Int.gcd t u = g at *
  have hc : Int.gcd a b = 1 := by
    have e : Int.gcd t u = Int.gcd ((g : Int) * a) ((g : Int) * b) := by rw [← ha, ← hb]
    rw [hg, Int.gcd_mul_left] at e
    simp at e
    have e2 : g * 1 = g * Int.gcd a b := by rw [Nat.mul_one]; exact e
    exact (Nat.eq_of_mul_eq_mul_left g0 e2).symm
  have gp : (0 : Int) < g := by omega
  have la : a.natAbs ≤ t.natAbs := by
    rw [ha, Int.natAbs_mul]; simp
    exact Nat.le_mul_of_pos_left _ g0
  have lb : b.natAbs ≤ u.natAbs := by
    rw [hb, Int.natAbs_mul]; simp
    exact Nat.le_mul_of_pos_left _ g0
  unfold nx ny sg
  rw [hg]
  by_cases hu : u < 0
  · rw [if_pos hu]
    have dn : (-(g : Int)) ≠ 0 := by omega
    have e1 : t.fdiv (-(g : Int)) = -a := by
      have : t = (-(g : Int)) * (-a) := by rw [Int.neg_mul_neg]; exact ha
      rw [this, Int.mul_fdiv_cancel_left _ dn]
    have e2 : u.fdiv (-(g : Int)) = -b := by
      have : u = (-(g : Int)) * (-b) := by rw [Int.neg_mul_neg]; exact hb
      rw [this, Int.mul_fdiv_cancel_left _ dn]
    rw [e1, e2]
    refine ⟨?_, ?_, by rw [Int.neg_gcd, Int.gcd_neg]; exact hc, dn, by rw [Int.natAbs_neg]; exact la, by rw [Int.natAbs_neg]; exact lb⟩
    · have q : a * u = t * b := by rw [hb, ha]; rw [Int.mul_left_comm, Int.mul_assoc]
      rw [Int.neg_mul, q, Int.mul_neg]
    · rcases Int.lt_or_le b 0 with z | z
      · omega
      · have : 0 ≤ (g : Int) * b := Int.mul_nonneg (by omega) z
        omega
  · rw [if_neg hu]
    have dn : (g : Int) ≠ 0 := by omega
    have e1 : t.fdiv (g : Int) = a := by rw [ha, Int.mul_fdiv_cancel_left _ dn]
    have e2 : u.fdiv (g : Int) = b := by rw [hb, Int.mul_fdiv_cancel_left _ dn]
    rw [e1, e2]
    refine ⟨?_, ?_, hc, dn, la, lb⟩
    · rw [hb, ha, Int.mul_left_comm, Int.mul_assoc]
    · rcases Int.lt_or_le 0 b with z | z
      · exact z
      · have : (g : Int) * b ≤ 0 := Int.mul_nonpos_of_nonneg_of_nonpos (by omega) z
        omega
theorem fmod_lt {a c : Int} (h : c ≠ 0) : (a.fmod c).natAbs < c.natAbs := by
  rcases Int.lt_or_gt_of_ne h with z | z
  · have e : (-a).fmod (-c) = -(a.fmod c) := Int.neg_fmod_neg a c
    have h1 := Int.fmod_nonneg_of_pos (-a) (show 0 < -c by omega)
    have h2 := Int.fmod_lt_of_pos (-a) (show 0 < -c by omega)
    omega
  · have h1 := Int.fmod_nonneg_of_pos a z
    have h2 := Int.fmod_lt_of_pos a z
    omega
theorem gcd_fmod {a c : Int} : Int.gcd c (a.fmod c) = Int.gcd a c := by
  rw [Int.gcd_comm a c, Int.fmod_def, Int.gcd_sub_mul_left_right]
end KG
namespace L2
open PySem PySem.Spec PyProof.Rows KG
section
variable {X : Cx}
theorem op_fdivB : OpR X (binaryOp .FloorDiv) (rI (fun _ j => 0 < j ∧ Bd 8000 j) fun i j => .int (i / j)) := opI fun i j _ _ _ _ _ hc q => by
  have h1 : (0 : Int) < j := hc.1
  exact floordiv_int (by omega) (by rw [Int.fdiv_eq_ediv_of_nonneg i (by omega)]; exact q) (.inl (PyProof.noPylong_of_log2 (hc.2.log (by decide))))
theorem op_fdivBN : OpR X (binaryOp .FloorDiv) (rI (fun _ j => j ≠ 0 ∧ Bd 8000 j) fun i j => .int (i.fdiv j)) := opI fun _ _ _ _ _ _ _ hc q => floordiv_int hc.1 q (.inl (PyProof.noPylong_of_log2 (hc.2.log (by decide))))
theorem op_mulB : OpR X (binaryOp .Mult) (rI (fun i j => Bd 8000 i ∧ Bd 8000 j) fun i j => .int (i * j)) := opI fun i j _ _ _ _ _ hc q => mul_int q (IntMulOk.of_bits (Nat.le_trans (intBits_le hc.1) (by decide)) (Nat.le_trans (intBits_le hc.2) (by decide)))
end
end L2

set_option Elab.async false
set_option linter.all false
set_option maxRecDepth 100000
set_option maxHeartbeats 1000000
namespace KG
open PySem L2
end KG
namespace L2
open PySem PySem.Spec PyProof.Rows
/-- (a, b, ..) = a list of that length -/
def gLst (K : PySem.W.Frag) (n : Nat) (t : TGs) : TG := fun v σ H Q => ∃ a xs, v = .ref a ∧ SqL K H a xs ∧ xs.length = n ∧ t xs σ H Q
theorem pg_lst {X : Cx} {es : List Expr} {k : Nat} {t : TGs} {n : Nat} {pos : Pos} (hc : X.calm = true) (h : PGs X es t)
    (hn : (assignEach es X.env).length = n := by rfl) (hst : (assignEach es X.env).findIdx? (·.1) = none := by rfl) : PG X (.Tuple es k pos) (gLst X.K n t) := by
  intro pins s σ H v u Q I r hw
  obtain ⟨a, xs, e1, hq, hl, hw⟩ := hw
  subst e1
  cases r
  obtain ⟨its, rv, ht, hz⟩ := I.list hq
  rw [assign_Tuple]
  refine wpAny_bind (wpAny_standAt ?_)
  unfold unpack
  rw [hn, hst]
  have hsz : n = its.toArray.size := by rw [List.size_toArray, ← rv.length, hl]
  rw [hsz]
  refine wpAny_bind (wpAny_holding (PySem.W.kun_itemsOf (I.ok.hd hc) ht.isList fun h' hx => ?_))
  have I1 : Inv X pins σ H { s with heap := h' } := I.kept (t' := s.toks) fun b o e => hx b o (Nat.ne_of_lt (Heap.lt_size e)) e
  exact h pins _ σ H xs _ Q I1 (by simpa using rv) hw
theorem pIsi {X : Cx} {e : Expr} {te : TE} (K : PySem.W.Frag) {T : Str} {n : String} {p p2 pos : Pos} (he : PE X e te) (hg : Gl X "isinstance") (hm : X.mg "isinstance" = none) (hgT : Gl X T) (hmT : X.mg T = none) (hv : bootBuiltins T = some (.type n))
    (hb : bootBuiltins "isinstance" = some (.builtin "isinstance")) (h : X.K = K := by rfl) (hnT : T ≠ "__name__" := by decide) (hdT : (T == ("__debug__" : Str)) = false := by decide)
    (hs : starEach [e, .Name T p2] X.env = [(false, eval e X.env), (false, eval (.Name T p2) X.env)] := by rfl)
    (hpl : (backTo pos (starEach [.Name T p2] X.env)).any (·.1) = false := by rfl) : PE X (.Call (.Name "isinstance" p) [e, .Name T p2] [] pos) (tIsi K (.type n) te) := by
  subst h; exact pe_isiB he hg hm hgT hmT hv hb hnT hdT hs hpl
end L2

set_option Elab.async false
set_option linter.all false
set_option maxRecDepth 100000
set_option maxHeartbeats 2000000
namespace L2
open PySem PySem.Spec PyProof.Rows EX
/-! statements that may raise, the exception's wish by the names' values where it came -/
section
variable {X : Cx} {st : Stmt} {sts : List Stmt} {t u : TX}
end
end L2

set_option Elab.async false
set_option linter.all false
set_option maxRecDepth 100000
set_option maxHeartbeats 4000000
namespace KM
open PySem L2 KG EX
/-! ### kinds -/
def tyD : PyData → String
  | .none => "NoneType"
  | .bool _ => "bool"
  | .int _ => "int"
  | .str _ => "str"
  | .list _ => "list"
  | .tuple _ => "tuple"
  | .dict _ => "dict"
def isI : PyData → Bool
  | .int _ => true
  | .bool _ => true
  | _ => false
def isB : PyData → Bool
  | .bool _ => true
  | _ => false
def isT : PyData → Bool
  | .tuple _ => true
  | _ => false
structure IsK (K : PySem.W.Frag) : Prop where
  i1 : PySem.W.kitOne K (.type "NoneType") (.type "int") = some false
  i2 : PySem.W.kitOne K (.type "bool") (.type "int") = some true
  i3 : PySem.W.kitOne K (.type "int") (.type "int") = some true
  i4 : PySem.W.kitOne K (.type "str") (.type "int") = some false
  i5 : PySem.W.kitOne K (.type "list") (.type "int") = some false
  i6 : PySem.W.kitOne K (.type "tuple") (.type "int") = some false
  b1 : PySem.W.kitOne K (.type "NoneType") (.type "bool") = some false
  b2 : PySem.W.kitOne K (.type "bool") (.type "bool") = some true
  b3 : PySem.W.kitOne K (.type "int") (.type "bool") = some false
  b4 : PySem.W.kitOne K (.type "str") (.type "bool") = some false
  b5 : PySem.W.kitOne K (.type "list") (.type "bool") = some false
  b6 : PySem.W.kitOne K (.type "tuple") (.type "bool") = some false
  t1 : PySem.W.kitOne K (.type "NoneType") (.type "tuple") = some false
  t2 : PySem.W.kitOne K (.type "bool") (.type "tuple") = some false
  t3 : PySem.W.kitOne K (.type "int") (.type "tuple") = some false
  t4 : PySem.W.kitOne K (.type "str") (.type "tuple") = some false
  t5 : PySem.W.kitOne K (.type "list") (.type "tuple") = some false
  t6 : PySem.W.kitOne K (.type "tuple") (.type "tuple") = some true
theorem isi {K : PySem.W.Frag} (Z : IsK K) {b : Addr} {H : Hp} {v : V} {d : PyData} (h : TrV b H v d) : ∃ t, TyOf K H v t ∧ PySem.W.kitOne K t (.type "int") = some (isI d) := by
  cases h with
  | non => exact ⟨_, .non, Z.i1⟩
  | bl c => exact ⟨_, .bl _, Z.i2⟩
  | int c => exact ⟨_, .int _, Z.i3⟩
  | str x ok => exact ⟨_, .str _, Z.i4⟩
  | lst n e t => exact ⟨_, .lst e, Z.i5⟩
  | tup e t => exact ⟨_, .tup e, Z.i6⟩
theorem isb {K : PySem.W.Frag} (Z : IsK K) {b : Addr} {H : Hp} {v : V} {d : PyData} (h : TrV b H v d) : ∃ t, TyOf K H v t ∧ PySem.W.kitOne K t (.type "bool") = some (isB d) := by
  cases h with
  | non => exact ⟨_, .non, Z.b1⟩
  | bl c => exact ⟨_, .bl _, Z.b2⟩
  | int c => exact ⟨_, .int _, Z.b3⟩
  | str x ok => exact ⟨_, .str _, Z.b4⟩
  | lst n e t => exact ⟨_, .lst e, Z.b5⟩
  | tup e t => exact ⟨_, .tup e, Z.b6⟩
theorem ist {K : PySem.W.Frag} (Z : IsK K) {b : Addr} {H : Hp} {v : V} {d : PyData} (h : TrV b H v d) : ∃ t, TyOf K H v t ∧ PySem.W.kitOne K t (.type "tuple") = some (isT d) := by
  cases h with
  | non => exact ⟨_, .non, Z.t1⟩
  | bl c => exact ⟨_, .bl _, Z.t2⟩
  | int c => exact ⟨_, .int _, Z.t3⟩
  | str x ok => exact ⟨_, .str _, Z.t4⟩
  | lst n e t => exact ⟨_, .lst e, Z.t5⟩
  | tup e t => exact ⟨_, .tup e, Z.t6⟩
theorem tupCase {b : Addr} {H : Hp} {v : V} {d : PyData} (h : TrV b H v d) : isT d = false ∨ ∃ a xs ds, v = .ref a ∧ d = .tuple ds ∧ H a = some (.tup xs) ∧ TrVs b H xs ds := by
  cases h with
  | non => exact .inl rfl
  | bl c => exact .inl rfl
  | int c => exact .inl rfl
  | str x ok => exact .inl rfl
  | lst n e t => exact .inl rfl
  | tup e t => exact .inr ⟨_, _, _, rfl, rfl, e, t⟩
theorem intCase {b : Addr} {H : Hp} {v : V} {d : PyData} (h : TrV b H v d) : isWhole d = false ∨ ∃ i, v = .int i ∧ d = .int i := by
  cases h with
  | non => exact .inl rfl
  | bl c => exact .inl rfl
  | int c => exact .inr ⟨_, rfl, rfl⟩
  | str x ok => exact .inl rfl
  | lst n e t => exact .inl rfl
  | tup e t => exact .inl rfl
theorem isWhole_eq (d : PyData) : isWhole d = (isI d && !isB d) := by cases d <;> rfl
theorem isFrac_no {d : PyData} (h : isT d = false) : isFrac d = false := by cases d <;> first | rfl | cases h
/-! ### contracts -/
def spT (m : PyData → Bool) : Sp := fun vs H Q _ => ∃ (b : Addr) (v : V) (d : PyData), vs = [v] ∧ TrV b H v d ∧ ∀ H', Stay H H' → Q (.bl (m d)) H'
def spGcd : Sp := fun vs H Q _ => ∃ (t u : Int), vs = [.int t, .int u] ∧ 0 ≤ u ∧ Q (.int (Int.gcd t u)) H
theorem gcd_emod {a c : Int} : Int.gcd c (a % c) = Int.gcd a c := by
  rw [Int.gcd_comm a c, Int.emod_def, Int.gcd_sub_mul_left_right]
theorem abs_gcd {a : Int} : (if a < 0 then -a else a) = (Int.gcd a 0 : Int) := by
  rw [Int.gcd_zero_right]
  split <;> omega
theorem isFrac_len {ds : List PyData} (h : ds.length ≠ 2) : isFrac (.tuple ds) = false := by
  unfold isFrac
  split
  · next heq => injection heq with heq; subst heq; exact absurd rfl h
  · rfl
theorem vint_ne {a b : Nat} (h : a ≠ b) : (!decide (V.int (a : Int) = V.int (b : Int))) = true := by
  have : (a : Int) ≠ b := by omega
  simp [this]
theorem Bag.stay {b : Addr} {H H' : Hp} (h : Bag H b) (s : Stay H H') : Bag H' b := by obtain ⟨c, d, e⟩ := h; exact ⟨c, d, s _ _ e⟩
end KM

set_option Elab.async false
set_option linter.all false
set_option maxRecDepth 100000
set_option maxHeartbeats 4000000
namespace KM
open PySem L2 KG EX
/-- the built-ins are the interpreter's own -/
structure Nm (mg : Str → Option Value) : Prop where
  len : mg "len" = none
  range : mg "range" = none
  tuple : mg "tuple" = none
  list : mg "list" = none
  all : mg "all" = none
  any : mg "any" = none
  max : mg "max" = none
  min : mg "min" = none
  sum : mg "sum" = none
  abs : mg "abs" = none
  int : mg "int" = none
  isinstance : mg "isinstance" = none
  bool : mg "bool" = none
  enumerate : mg "enumerate" = none
  valueError : mg "ValueError" = none
theorem boot_value : bootBuiltins "ValueError" = some (.type "ValueError") := by first | rfl | kernel_rfl | decide +kernel
structure CalX (K : PySem.W.Frag) (mg : Str → Option Value) (P : Program) (w : World) (base : Heap) (x : Str) (k : Nat) (ps : List Str) (sp : Sp) (f : Addr) (fd : FuncData) : Prop where
  ok : FnOk P w K mg base (CXF P w) k f fd ps sp
  mg : mg x = some (.ref f)
  kp : PySem.W.keepIn K (.ref f) = true
  bd : Binds K fd ps []
structure CalH (K : PySem.W.Frag) (mg : Str → Option Value) (P : Program) (w : World) (base : Heap) (x : Str) (k : Nat) (ps : List Str) (sp : Addr → Addr → Sp) (f : Addr) (fd : FuncData) : Prop where
  ok : FnH P w K mg base k f fd ps sp
  mg : mg x = some (.ref f)
  kp : PySem.W.keepIn K (.ref f) = true
  bd : Binds K fd ps []
end KM

set_option Elab.async false
set_option linter.all false
set_option maxRecDepth 100000
namespace L2
open PySem PySem.Spec PyProof.Rows

/-! ### lists of pairs as tables -/
section
variable {κ : Type} [DecidableEq κ]
end


/-! ### a tracked dict, its keys ints and texts or tuples of these -/
section
variable {P : Program} {w : World} {H : Hp} {h : Heap} {a : Addr}
end

section
variable {X : Cx} {pins : List (Addr × Obj)} {σ : St} {H : Hp} {s : Shared} {a : Addr} {y v : V} {u r : Value} {o : Option V} {A : Around} {E : Value → Shared → Prop}

end

section
variable {X : Cx} {pins : List (Addr × Obj)} {σ : St} {H : Hp} {s : Shared} {a : Addr} {kvs : List (Key × V)} {k : Key} {u : Value} {A : Around} {E : Value → Shared → Prop}
end


/-! ### readings and rules -/
section
variable {X : Cx} {o i e value : Expr} {pos pos' tpos : Pos} {td ty tv : TE}
end


/-! ### displays -/
section
variable {X : Cx} {pos : Pos}
end

/-! ### methods -/
section
variable {X : Cx} {pins : List (Addr × Obj)} {σ : St} {H : Hp} {s : Shared} {a : Addr} {y d : V} {u r : Value} {o : Option V} {A : Around} {E : Value → Shared → Prop}
end

section
variable {X : Cx} {o e f : Expr} {apos cpos : Pos} {td ty tx : TE}
end

/-! ### dict(d): a copy -/
section
variable {X : Cx} {pins : List (Addr × Obj)} {σ : St} {H : Hp} {s : Shared} {a : Addr} {kvs : List (Key × V)} {A : Around} {E : Value → Shared → Prop}
end


section
variable {X : Cx} {pins : List (Addr × Obj)} {σ : St} {H : Hp} {s : Shared} {a : Addr} {y : V} {u : Value} {A : Around} {E : Value → Shared → Prop}
end
end L2
namespace L2
open PySem PySem.Spec PyProof.Rows
section
variable {X : Cx}
end
section
variable {κ : Type} [DecidableEq κ]
end
end L2

set_option Elab.async false
set_option linter.all false
set_option maxRecDepth 100000
namespace L2
open PySem PySem.Spec PyProof.Rows

/-! ### a dict comprehension, keys ints and texts -/
section
variable {X : Cx} {scope : Scope} {own cap : List Str} {ix : List Nat} {tg iter kx vx : Expr} {ifs : List Expr} {wi : TI} {g : TG} {tt : TT} {tk tv : TE} {pos : Pos}

end
end L2

set_option Elab.async false
set_option linter.all false
set_option maxRecDepth 100000
namespace L2
open PySem PySem.Spec PyProof.Rows
section
variable {X : Cx}

/-! ### d.values(), list(d.values()) -/
/-! ### for k in d: the dict stands frozen from there on -/
end
end L2

set_option Elab.async false
set_option linter.all false
set_option maxRecDepth 100000
namespace PySem
/-! ### zip of two tuples -/
section
variable {prog : Program} {w : World} {A : Around} {E : Value → Shared → Prop} {s : Shared} {z TI TO i1 i2 l1 l2 : Addr} {k1 k2 : Nat} {xs ys : Array Value} {x y a b : Value}
end
end PySem
namespace L2
open PySem PySem.Spec PyProof.Rows
section
variable {X : Cx}
end
end L2

set_option Elab.async false
set_option linter.all false
set_option maxRecDepth 100000
namespace L2
open PySem PySem.Spec PyProof.Rows KG
section
variable {K : PySem.W.Frag} {tt : TT} {te tk tv : TE} {acc a b : Addr} {xs ys : List V} {σ₀ : St} {H₀ : Hp} {Q : VK} {o : Obj} {kvs : List (Key × V)}
end
/-! the same rules with the fragment said -/
section
variable {X : Cx}
end
end L2

set_option Elab.async false
set_option linter.all false
set_option maxRecDepth 100000
namespace L2
open PySem PySem.Spec PyProof.Rows
/-! the rules with the empty fragment: their readings have no letter of the fragment, so they stay alike at all depths -/
def K0 : PySem.W.Frag := []
section
variable {K : PySem.W.Frag} {H : Hp} {a : Addr} {xs : List V}
theorem SqL.k0 (h : SqL K0 H a xs) : SqL K H a xs := by
  rcases h with h | ⟨o, its, n, hk, _⟩
  · exact .inl h
  · exact absurd hk (by show ¬ (none = some o); simp)
theorem SqT.k0 (h : SqT K0 H a xs) : SqT K H a xs := by
  rcases h with h | ⟨o, its, n, hk, _⟩
  · exact .inl h
  · exact absurd hk (by show ¬ (none = some o); simp)
theorem Sq.k0 (h : SqL K0 H a xs ∨ SqT K0 H a xs) : SqL K H a xs ∨ SqT K H a xs := h.elim (fun z => .inl z.k0) fun z => .inr z.k0
mutual
theorem DtV.k0 : ∀ {v : V} {d : PyData}, DtV K0 H v d → DtV K H v d
  | _, _, .non => .non
  | _, _, .bl b => .bl b
  | _, _, .int i => .int i
  | _, _, .str x ok => .str x ok
  | _, _, .lst h t => .lst h.k0 (DtVs.k0 t)
  | _, _, .tup h t => .tup h.k0 (DtVs.k0 t)
theorem DtVs.k0 : ∀ {vs : List V} {ds : List PyData}, DtVs K0 H vs ds → DtVs K H vs ds
  | _, _, .nil => .nil
  | _, _, .cons h t => .cons (DtV.k0 h) (DtVs.k0 t)
end
end
section
variable {X : Cx} {tg l : Expr} {tl : TE}
theorem OpR.imp {f : Value → Value → Sem Value} {r r' : R2} (h : OpR X f r) (hi : ∀ x y H Q, r' x y H Q → r x y H Q) : OpR X f r' := fun pins s σ H x y v u Q I rx ry q => h pins s σ H x y v u Q I rx ry (hi _ _ _ _ q)
theorem CallR.imp {f : Value} {r r' : List V → Hp → VK → Prop} (h : CallR X f r) (hi : ∀ xs H Q, r' xs H Q → r xs H Q) : CallR X f r' := fun pins s σ H xs us Q I rx q => h pins s σ H xs us Q I rx (hi _ _ _ q)
theorem IxR.imp {r r' : R2} (h : IxR X r) (hi : ∀ x y H Q, r' x y H Q → r x y H Q) : IxR X r' := fun a b pins s σ H x y v u Q I rx ry q => h a b pins s σ H x y v u Q I rx ry (hi _ _ _ _ q)
theorem ixL0 : IxR X (rIxL K0) := ix_list.imp fun _ _ _ _ ⟨p, xs, i, v, e1, e2, h, e3, q⟩ => ⟨p, xs, i, v, e1, e2, h.k0, e3, q⟩
theorem ixT0 : IxR X (rIxT K0) := ix_tup.imp fun _ _ _ _ ⟨p, xs, i, v, e1, e2, h, e3, q⟩ => ⟨p, xs, i, v, e1, e2, h.k0, e3, q⟩
def rLen0 : List V → Hp → VK → Prop := fun xs H Q => ∃ p ys, xs = [.ref p] ∧ (SqL K0 H p ys ∨ SqT K0 H p ys) ∧ Q (.int ys.length) H
def rTup0 : List V → Hp → VK → Prop := fun xs H Q => ∃ p ys, xs = [.ref p] ∧ ((SqL K0 H p ys ∧ ∀ l, H l = none → Q (.ref l) (upd H l (.tup ys))) ∨ (SqT K0 H p ys ∧ Q (.ref p) H))
theorem cLen0 : CallR X (.builtin "len") rLen0 := call_len_seq.imp fun _ _ _ ⟨p, ys, e, h, q⟩ => ⟨p, ys, e, Sq.k0 h, q⟩
theorem cTup0 : CallR X (.type "tuple") rTup0 := call_tuple_of.imp fun _ _ _ ⟨p, ys, e, h⟩ => ⟨p, ys, e, h.elim (fun z => .inl ⟨z.1.k0, z.2⟩) fun z => .inr ⟨z.1.k0, z.2⟩⟩
theorem opEqD0 (hu : X.A.units + 64 < cLine) : OpR X (compareOp .Eq) (rEqD K0) := (op_eqD hu).imp fun _ _ _ _ ⟨dx, dy, h1, h2, q⟩ => ⟨dx, dy, h1.k0, h2.k0, q⟩
theorem opNeD0 (hu : X.A.units + 64 < cLine) : OpR X (compareOp .NotEq) (rNeD K0) := (op_neD hu).imp fun _ _ _ _ ⟨dx, dy, h1, h2, q⟩ => ⟨dx, dy, h1.k0, h2.k0, q⟩
theorem opIn0 : OpR X (compareOp .In) (rIn K0 false) := op_in_seq.imp fun _ _ _ _ ⟨p, xs, e, h, q⟩ => ⟨p, xs, e, Sq.k0 h, q⟩
/-- iterators -/
structure It.Le (J J' : It) : Prop where
  go : ∀ i H, J'.go i H → J.go i H
  yld : ∀ i H x H', J.yld i H x H' → J'.yld i H x H'
  stop : ∀ i H, J'.stop i H → J.stop i H
theorem Turn.le {P : Program} {w : World} {K : PySem.W.Frag} {tg : Expr} {J J' : It} {fp : List Addr} {it : Addr} {tn : Nat → Heap → Prop} (T : Turn P w K tg J fp it tn) (l : J.Le J') : Turn P w K tg J' fp it tn where
  mem := T.mem
  obj := T.obj
  keep := T.keep
  item := fun X hP hw hK hc i pins s σ H E I hf st hg => thn (T.item X hP hw hK hc i pins s σ H E I hf st (l.go i H hg)) fun r s1 ⟨u, hr, h⟩ => ⟨u, hr, thn h fun _ s2 ⟨x, H', a1, a2, a3, a4⟩ => ⟨x, H', a1, a2, l.yld _ _ _ _ a3, a4⟩⟩
  done := fun X hP hw hK hc i pins s σ H E I hf st hg => T.done X hP hw hK hc i pins s σ H E I hf st (l.stop i H hg)
  self := T.self
theorem le_list {K : PySem.W.Frag} {a : Addr} : (Itl K a).Le (Itl K0 a) := ⟨fun i H ⟨xs, x, h, e⟩ => ⟨xs, x, h.k0, e⟩, fun i H x H' ⟨e, h⟩ => ⟨e, fun xs hx => h xs hx.k0⟩, fun i H ⟨xs, h, e⟩ => ⟨xs, h.k0, e⟩⟩
theorem le_tup {K : PySem.W.Frag} {a : Addr} : (Itt K a).Le (Itt K0 a) := ⟨fun i H ⟨xs, x, h, e⟩ => ⟨xs, x, h.k0, e⟩, fun i H x H' ⟨e, h⟩ => ⟨e, fun xs hx => h xs hx.k0⟩, fun i H ⟨xs, h, e⟩ => ⟨xs, h.k0, e⟩⟩
theorem pgTup0 {es : List Expr} {k : Nat} {t : TGs} {n : Nat} {pos : Pos} (hc : X.calm = true) (h : PGs X es t) (hn : (assignEach es X.env).length = n := by rfl) (hst : (assignEach es X.env).findIdx? (·.1) = none := by rfl) : PG X (.Tuple es k pos) (gTup K0 n t) :=
  fun pins s σ H v u Q I r ⟨a, xs, e, hq, q⟩ => pg_tup hc h hn hst pins s σ H v u Q I r ⟨a, xs, e, hq.k0, q⟩
theorem pgLst0 {es : List Expr} {k : Nat} {t : TGs} {n : Nat} {pos : Pos} (hc : X.calm = true) (h : PGs X es t) (hn : (assignEach es X.env).length = n := by rfl) (hst : (assignEach es X.env).findIdx? (·.1) = none := by rfl) : PG X (.Tuple es k pos) (gLst K0 n t) :=
  fun pins s σ H v u Q I r ⟨a, xs, e, hq, q⟩ => pg_lst hc h hn hst pins s σ H v u Q I r ⟨a, xs, e, hq.k0, q⟩
theorem tyV.k0 {K : PySem.W.Frag} {T : String} {x : V} {H : Hp} (h : tyV K0 T x H) : tyV K T x H := by
  cases x with
  | ref p =>
    rcases h with ⟨e, xs, h⟩ | ⟨e, o, hk, _⟩ | h | h
    · exact .inl ⟨e, xs, h.k0⟩
    · exact absurd hk (by show ¬ (none = some o); simp)
    · exact .inr (.inr (.inl h))
    · exact .inr (.inr (.inr h))
  | _ => exact h
variable {o e : Expr} {es : List Expr} {to : TE} {t : TA} {name : Str} {apos cpos : Pos} {T id : String} {r : V → List V → Hp → VK → Prop}
theorem peBm0 (pa : PlainAttrs T) (slot : Slot T name id) (hty : typeOf (.builtin id) = pure (.type "method_descriptor")) (hm : MtR X id r) (ho : PE X o to) (ha : PA X (e :: es) t)
    (hbase : attributeBase o name X.env (eval o X.env) = eval o X.env := by rfl)
    (hfew : ((backTo cpos (starEach (e :: es) X.env)).all (fun x => !x.1) && (backToKw cpos (keywordEach [] X.env)).all (fun x => x.1.isSome)
      && decide ((e :: es).length + ([] : List Keyword).length + (if ([] : List Keyword).isEmpty then 0 else 1) < 30)) = true := by rfl)
    (hline : (apos.endLine == cpos.line) = true := by rfl) (hs : starEach (e :: es) X.env = (false, eval e X.env) :: starEach es X.env := by rfl) (hplain : (backTo cpos (starEach es X.env)).any (·.1) = false := by rfl) :
    PE X (.Call (.Attribute o name apos) (e :: es) [] cpos) (tBM K0 T r to t) := by
  intro pins s σ H Q I h
  refine wpAny_Call_method_late hbase hfew hline rfl (thn (ho pins s σ H _ I h) fun v s1 ⟨x, H1, I1, r1, ty, q1⟩ => ?_)
  obtain ⟨h1, h2⟩ := tyV_is I1 r1 ty.k0
  refine ⟨T, id, pa, slot, hty, h1, h2, ?_⟩
  have hA := ha cpos pins s1 σ H1 _ I1 q1
  rw [hs] at hA ⊢
  exact Calls.callWith_builtin (by show (false || (backTo cpos (starEach es X.env)).any (·.1)) = false; rw [hplain] <;> rfl) (Calls.evalArgs_plain (thn hA fun us s2 ⟨vs, H2, I2, r2, q2⟩ => hm pins s2 σ H2 x vs v us Q I2 r1 r2 q2))
end
end L2

set_option Elab.async false
set_option linter.all false
set_option maxRecDepth 100000
set_option maxHeartbeats 4000000
namespace K32
open PySem L2 KG EX KM
def top (i : Nat) : Stmt := PySem.Challenge.pw_wishmart_k32_fractions_as_texts.main.body.getD i (.Pass ⟨0, 0, 0, 0⟩)
section
variable {P : Program} {w : World} {K : PySem.W.Frag} {mg : Str → Option Value} {base : Heap}
theorem scWhole : FnScope ["thing"] ["thing"] (defScope (top 14)) := ⟨rfl, rfl, rfl, by decide +kernel, rfl, by decide +kernel, by decide +kernel⟩
theorem ok_whole {f : Addr} {fd : FuncData} (F : Fun K "is_whole" "is_whole" (top 14) f fd) (N : Nm mg) (Z : IsK K) : FnOk P w K mg base CX0 1 f fd ["thing"] (spT isWhole) := by
  refine F.ok scWhole (fun vs H Q E h => ?_) (fun cdv A outer s H vs Q E hr h => ?_)
  · obtain ⟨b, v, d, rfl, _⟩ := h; rfl
  · obtain ⟨b, v, d, rfl, hT, k⟩ := h
    refine ⟨_, pss_one (ps_ret (pe_and (pIsi K (pv 0) rfl N.isinstance rfl N.int boot_int boot_isinstance) (pe_one (pe_not (pIsi K (pv 0) rfl N.isinstance rfl N.bool boot_bool boot_isinstance))))), ?_⟩
    obtain ⟨t1, ty1, e1⟩ := isi Z hT
    obtain ⟨t2, ty2, e2⟩ := isb Z hT
    refine ⟨_, rfl, t1, _, ty1, e1, _, rfl, ?_⟩
    have hk := k H (Stay.refl H)
    rw [isWhole_eq] at hk
    cases hi : isI d with
    | true =>
      rw [hi] at hk
      refine iteT ⟨_, rfl, t2, _, ty2, e2, _, rfl, hk⟩
    | false =>
      rw [hi] at hk
      exact iteF hk
theorem scGcd : FnScope ["one", "other"] ["one", "other"] (defScope (top 16)) := ⟨rfl, rfl, rfl, by decide +kernel, rfl, by decide +kernel, by decide +kernel⟩
theorem ok_gcd {f : Addr} {fd : FuncData} (F : Fun K "common_divisor" "common_divisor" (top 16) f fd) (N : Nm mg) : FnOk P w K mg base CX0 1 f fd ["one", "other"] spGcd := by
  refine F.ok scGcd (fun vs H Q E h => ?_) (fun cdv A outer s H vs Q E hr h => ?_)
  · obtain ⟨t, u, rfl, _⟩ := h; rfl
  · obtain ⟨t, u, rfl, u0, k⟩ := h
    refine ⟨_, pss_cons (ps_while PassesOwn.never (pt_cmpR op_ne (pv 1) pe_int (nomark _)) (pss_one (ps_par (i := 0) (j := 1) rfl scGcd.nd rfl rfl (by decide) rfl rfl (pa_cons (pv 1) (pa_cons (pe_op op_mod (pv 0) (pv 1)) pa_nil)) (by rfl))))
      (pss_one (ps_ret (pe_callB call_abs (by rfl) N.abs boot_abs (pa_cons (pv 0) pa_nil)))), ?_⟩
    refine while_by (fun σ H' => H' = H ∧ ∃ a c : Int, σ = [some (.int a), some (.int c)] ∧ 0 ≤ c ∧ Int.gcd a c = Int.gcd t u)
      (fun σ _ => match σ with | [_, some (.int c)] => c.toNat | _ => 0) ⟨rfl, t, u, rfl, u0, rfl⟩ ?_ ?_
    · rintro σ H' ⟨rfl, a, c, rfl, c0, e⟩
      refine ⟨_, rfl, rfl, _, rfl, ?_⟩
      by_cases hc : c = 0
      · subst hc
        refine iteF ?_
        refine ⟨_, rfl, _, rfl, ?_⟩
        rw [abs_gcd, e]
        exact k
      · have e1 : (!decide (V.int c = V.int 0)) = true := by simp [hc]
        rw [e1]
        refine iteT ?_
        have cp : 0 < c := by omega
        refine ⟨_, rfl, _, rfl, _, rfl, _, _, rfl, rfl, cp, _, _, rfl, ⟨rfl, c, a % c, rfl, Int.emod_nonneg _ hc, gcd_emod.trans e⟩, ?_⟩
        have h1 := Int.emod_lt_of_pos a cp
        have h2 := Int.emod_nonneg a hc
        show (a % c).toNat < c.toNat
        omega
    · rintro σ H' Q1 Q2 himp ⟨v, e, sc, kk, ek, q⟩
      exact ⟨v, e, sc, kk, ek, himp _ _ q⟩
theorem scFrac : FnScope ["thing", "top", "bottom"] ["thing"] (defScope (top 15)) := ⟨rfl, rfl, rfl, by decide +kernel, rfl, by decide +kernel, by decide +kernel⟩
theorem ok_isfrac {f fW fG : Addr} {fd dW dG : FuncData} (F : Fun K "is_fraction" "is_fraction" (top 15) f fd) (N : Nm mg) (Z : IsK K) (W : Cal K mg P w base "is_whole" 1 ["thing"] (spT isWhole) fW dW) (G : Cal K mg P w base "common_divisor" 1 ["one", "other"] spGcd fG dG) : FnOk P w K mg base CX0 2 f fd ["thing"] (spT isFrac) := by
  refine F.ok scFrac (fun vs H Q E h => ?_) (fun cdv A outer s H vs Q E hr h => ?_)
  · obtain ⟨b, v, d, rfl, _⟩ := h; rfl
  · obtain ⟨b, v, d, rfl, hT, k⟩ := h
    refine ⟨_, pss_cons (ps_if (PW.pt (pw_or (pt_not (pt_val (pIsi K (pv 0) rfl N.isinstance rfl N.tuple boot_tuple boot_isinstance))) (pw_or1 (pt_cmpR op_ne (pe_callB cLen0 (by rfl) N.len PySem.boot_len (pa_cons (pv 0) pa_nil)) pe_int (nomark _))))) (pss_one (ps_ret pe_bl)) pss_nil)
      (pss_cons (ps_asg (pv 0) (pgTup0 rfl (pgs_cons (pg_name (i := 1) scFrac.nd rfl (Or.inl rfl)) (pgs_cons (pg_name (i := 2) scFrac.nd rfl (Or.inl rfl)) pgs_nil))))
      (pss_cons (ps_if (PW.pt (pw_or (pt_not (pt_val (pe_call W.ok hr rfl W.mg W.kp W.bd .nil pass0 (pa_cons (pv 1) pa_nil)))) (pw_or1 (pt_not (pt_val (pe_call W.ok hr rfl W.mg W.kp W.bd .nil pass0 (pa_cons (pv 2) pa_nil))))))) (pss_one (ps_ret pe_bl)) pss_nil)
      (pss_one (ps_ret (pe_and (pe_cmpR op_ge (pv 2) pe_int (nomark _)) (pe_one (pe_cmpR op_eq (pe_call G.ok hr rfl G.mg G.kp G.bd .nil pass0 (pa_cons (pv 1) (pa_cons (pv 2) pa_nil))) pe_int (nomark _)))))))), ?_⟩
    obtain ⟨t1, ty1, e1⟩ := ist Z hT
    refine ⟨_, rfl, t1, _, ty1, e1, _, rfl, ?_⟩
    have hk := k H (Stay.refl H)
    rcases tupCase hT with hn | ⟨a, xs, ds, rfl, rfl, ha, hs⟩
    · rw [hn]; rw [isFrac_no hn] at hk
      exact iteT (iteT hk)
    refine iteF ?_
    refine ⟨_, rfl, a, xs, rfl, .inr (SqT.of ha), rfl, _, rfl, ?_⟩
    by_cases hl : xs.length = 2
    case neg =>
      have e2 : (!decide (V.int (xs.length : Int) = V.int 2)) = true := vint_ne (b := 2) hl
      rw [e2]
      have hl2 : ds.length ≠ 2 := by rw [← hs.len]; exact hl
      have e3 : isFrac (.tuple ds) = false := isFrac_len hl2
      rw [e3] at hk
      exact iteT hk
    have e2 : (!decide (V.int (xs.length : Int) = V.int 2)) = false := by rw [hl]; rfl
    rw [e2]
    refine iteF ?_
    match xs, ds, hl, hs with
    | [x, y], _, _, .cons (d := dx) hx (.cons (d := dy) hy .nil) =>
    refine ⟨_, rfl, a, _, rfl, SqT.of ha, rfl, _, _, rfl, _, _, rfl, rfl, ?_⟩
    refine ⟨_, rfl, b, x, dx, rfl, hx, fun H1 s1 => ?_⟩
    refine ⟨_, rfl, ?_⟩
    rcases intCase hx with hn | ⟨i, rfl, rfl⟩
    · rw [hn]
      refine iteT (iteT ?_)
      have e3 : isFrac (.tuple [dx, dy]) = false := by cases dx <;> first | rfl | cases hn
      rw [e3] at k
      exact k H1 s1
    refine iteF ?_
    refine ⟨_, rfl, b, y, dy, rfl, hy.stay s1, fun H2 s2 => ?_⟩
    refine ⟨_, rfl, ?_⟩
    rcases intCase hy with hn | ⟨j, rfl, rfl⟩
    · rw [hn]
      refine iteT ?_
      have e3 : isFrac (.tuple [.int i, dy]) = false := by cases dy <;> first | rfl | cases hn
      rw [e3] at k
      exact k H2 (s1.trans s2)
    refine iteF ?_
    refine ⟨_, rfl, _, _, rfl, rfl, _, rfl, ?_⟩
    have hk2 : Q (.bl (decide ((1 : Int) ≤ j) && decide (Int.gcd i j = 1))) H2 := k H2 (s1.trans s2)
    by_cases hj : 1 ≤ j
    · have e4 : decide ((1 : Int) ≤ j) = true := by simpa using hj
      rw [e4] at hk2 ⊢
      refine iteT ⟨_, rfl, _, rfl, i, j, rfl, by omega, rfl, ?_⟩
      have e5 : decide (V.int ((Int.gcd i j : Nat) : Int) = V.int 1) = decide (Int.gcd i j = 1) := by
        rw [decide_eq_decide]
        constructor
        · intro h; injection h with h; omega
        · intro h; rw [h]; rfl
      rw [e5]
      simpa using hk2
    · have e4 : decide ((1 : Int) ≤ j) = false := by simpa using hj
      rw [e4] at hk2 ⊢
      exact iteF hk2
theorem scTake : FnScope ["bag", "many", "found"] ["bag", "many"] (defScope (top 25)) := ⟨rfl, rfl, rfl, by decide +kernel, rfl, by decide +kernel, by decide +kernel⟩
theorem scBag : FnScope ["script", "k", "cell", "seed"] ["script", "k"] (defScope (top 24)) := ⟨rfl, rfl, rfl, by decide +kernel, rfl, by decide +kernel, by decide +kernel⟩
theorem ok_bag {f : Addr} {fd : FuncData} (F : Fun K "_law_bag" "_law_bag" (top 24) f fd) (B : Nm mg) : FnOk P w K mg base CX0 1 f fd ["script", "k"] (spBag K) := by
  refine F.ok scBag (fun vs H Q E h => ?_) (fun cdv A outer s H vs Q E hr h => ?_)
  · obtain ⟨a, ns, k, rfl, _⟩ := h; rfl
  · obtain ⟨a, ns, k, rfl, hS, h0, h1, q⟩ := h
    refine ⟨_, pss_cons (ps_set (i := 2) scBag.nd rfl (Or.inl rfl) pe_int)
      (pss_cons (ps_if (pt_cmpR op_lt (pv 1) (pe_callB call_len_seq (by rfl) B.len PySem.boot_len (pa_cons (pv 0) pa_nil)) (nomark _))
        (pss_one (ps_set (i := 2) scBag.nd rfl (Or.inl rfl) (pe_op op_mod (pe_ix ix_list (pv 0) (pv 1) (fun _ _ => rfl)) (pe_op op_pow pe_int pe_int)))) pss_nil)
      (pss_cons (ps_set (i := 3) scBag.nd rfl (Or.inl rfl) (pe_op op_add pe_int (pe_op op_mod (pe_op op_add (pe_op op_add (pe_op op_add (pe_op op_mul (pe_op op_mod (pv 2) pe_int) pe_int) (pe_op op_mul (pe_op op_mul pe_int (pv 1)) (pv 1))) (pe_op op_mul pe_int (pv 1))) pe_int) pe_int)))
      (pss_cons (ps_if (pt_cmpR op_lt (pv 2) (pe_op op_pow pe_int pe_int) (nomark _)) (pss_one (ps_ret (pe_lst (pa_cons pe_int (pa_cons (pv 3) pa_nil))))) pss_nil)
      (pss_one (ps_ret (pe_lst (pa_cons (pv 2) (pa_cons (pv 3) pa_nil)))))))), ?_⟩
    refine ⟨_, rfl, _, rfl, a, _, rfl, .inl hS, _, _, rfl, rfl, _, rfl, ?_⟩
    refine ite2 (fun hc => ?wayA) (fun hc => ?wayB)
    case' wayA =>
      have hk : k < (ns.length : Int) := by simpa using of_decide_eq_true hc
      have hat : atI (ns.map V.int) k = some (V.int (ns.getD k.toNat 0)) := by
        have e : (ns.map V.int)[k.toNat]? = some (V.int (ns.getD k.toNat 0)) := by
          have hl : k.toNat < ns.length := by omega
          rw [List.getElem?_map, List.getElem?_eq_getElem hl]
          simp [List.getD, List.getElem?_eq_getElem hl]
        have := atI_nat e
        rw [Int.toNat_of_nonneg h0] at this
        exact this
      refine ⟨_, rfl, _, rfl, a, _, _, _, rfl, rfl, hS, hat, _, _, rfl, rfl, ⟨by decide, by decide, by decide⟩, _, _, rfl, rfl, (by show (0 : Int) < 10 ^ 60; decide), ?_⟩
    all_goals
      refine ⟨_, rfl, _, _, rfl, rfl, (by show (0 : Int) < 2147483629; decide), _, _, rfl, rfl, .inr ⟨by decide, by decide⟩, ?_⟩
      refine ⟨_, rfl, _, _, rfl, rfl, .inl ⟨by decide, by decide⟩, _, rfl, _, _, rfl, rfl, .inr ⟨by omega, by omega⟩, _, _, rfl, rfl, ?_⟩
      refine ⟨_, rfl, _, _, rfl, rfl, .inl ⟨by decide, by decide⟩, _, _, rfl, rfl, _, _, rfl, rfl, _, _, rfl, rfl, (by show (0 : Int) < 2147483645; decide), _, _, rfl, rfl, ?_⟩
      refine ⟨_, rfl, _, _, rfl, rfl, ⟨by decide, by decide, by decide⟩, _, _, rfl, rfl, _, rfl, ?_⟩
      refine ite2 (fun hc => ?_) (fun hc => ?_)
      · exact ⟨_, rfl, by show 2 ≤ sizeLine; decide, fun p hp => q p _ _ hp⟩
      · exact ⟨_, rfl, _, rfl, by show 2 ≤ sizeLine; decide, fun p hp => q p _ _ hp⟩
end
end K32

set_option Elab.async false
set_option linter.all false
set_option maxRecDepth 100000
set_option maxHeartbeats 4000000
namespace KM
open PySem L2 KG EX
/-! prices -/
end KM

set_option Elab.async false
set_option linter.all false
set_option maxRecDepth 100000
set_option maxHeartbeats 4000000
namespace KM
open PySem L2 KG EX
/-- the classes of the program by their names -/
structure Clx (K : PySem.W.Frag) (mg : Str → Option Value) (M De Bu Dl Go Mk Nn Pr Ro Tx No Un : Addr) : Prop where
  mgM : mg "MartError" = some (.ref M)
  mgDe : mg "Dear" = some (.ref De)
  mgBu : mg "NoBuyer" = some (.ref Bu)
  mgDl : mg "NoDealing" = some (.ref Dl)
  mgGo : mg "NoGood" = some (.ref Go)
  mgMk : mg "NoMarket" = some (.ref Mk)
  mgNn : mg "NoNumber" = some (.ref Nn)
  mgPr : mg "NoPrices" = some (.ref Pr)
  mgRo : mg "NoRow" = some (.ref Ro)
  mgTx : mg "NoText" = some (.ref Tx)
  mgNo : mg "Nothing" = some (.ref No)
  mgUn : mg "Unwished" = some (.ref Un)
  tyM : PySem.W.typeIn K (.ref M) = some (.type "type")
  bM : PySem.W.mroIn K M (.type "BaseException") = some true
/-- D is the i-th of them -/
structure ErrOf (K : PySem.W.Frag) (M De Bu Dl Go Mk Nn Pr Ro Tx No Un D : Addr) (i : Nat) : Prop where
  kDe : PySem.W.kitOne K (.ref D) (.ref De) = some (decide (i = 0))
  kBu : PySem.W.kitOne K (.ref D) (.ref Bu) = some (decide (i = 1))
  kDl : PySem.W.kitOne K (.ref D) (.ref Dl) = some (decide (i = 2))
  kGo : PySem.W.kitOne K (.ref D) (.ref Go) = some (decide (i = 3))
  kMk : PySem.W.kitOne K (.ref D) (.ref Mk) = some (decide (i = 4))
  kNn : PySem.W.kitOne K (.ref D) (.ref Nn) = some (decide (i = 5))
  kPr : PySem.W.kitOne K (.ref D) (.ref Pr) = some (decide (i = 6))
  kRo : PySem.W.kitOne K (.ref D) (.ref Ro) = some (decide (i = 7))
  kTx : PySem.W.kitOne K (.ref D) (.ref Tx) = some (decide (i = 8))
  kNo : PySem.W.kitOne K (.ref D) (.ref No) = some (decide (i = 9))
  kUn : PySem.W.kitOne K (.ref D) (.ref Un) = some (decide (i = 10))
  kVa : PySem.W.kitOne K (.ref D) (.type "ValueError") = some true
  ex : PySem.W.excIn K D [.type "ValueError", .type "Exception", .type "BaseException", .type "object"] "ValueError.__new__" = true
  sub : PySem.W.mroIn K D (.ref M) = some true
  ek : ExcK K D
def wordsL : List Str := ["Dear", "NoBuyer", "NoDealing", "NoGood", "NoMarket", "NoNumber", "NoPrices", "NoRow", "NoText", "Nothing", "Unwished", "+"]
def flagsL (i : Nat) : List Bool := [decide (i = 0), decide (i = 1), decide (i = 2), decide (i = 3), decide (i = 4), decide (i = 5), decide (i = 6), decide (i = 7), decide (i = 8), decide (i = 9), decide (i = 10), true]
def toldL (i n : Nat) : List Str := ((List.range n).filter fun j => (flagsL i).getD j false).map fun j => wordsL.getD j ""
theorem toldL_succ (i n : Nat) : toldL i (n + 1) = toldL i n ++ if (flagsL i).getD n false = true then [wordsL.getD n ""] else [] := by
  unfold toldL
  rw [filter_succ, List.map_append]
  split <;> simp
theorem toldL_len (i n : Nat) : (toldL i n).length ≤ n := by
  unfold toldL
  rw [List.length_map]
  exact Nat.le_trans (List.length_filter_le _ _) (by simp)
theorem toldL_end : ∀ i : Fin 11, toldL i.1 12 = [wordsL.getD i.1 "", "+"] ∧ (∀ z ∈ [wordsL.getD i.1 "", "+"], z.length ≤ 12) := by decide +kernel
def kindS (i : Nat) : Str := PySem.Txt.join "" [wordsL.getD i "", "+"]
theorem strsOf {b : Addr} {H : Hp} : ∀ {xs : List V} {zs : List Str}, TrVs b H xs (zs.map PyData.str) → xs = zs.map V.str
  | _, [], .nil => rfl
  | _, _ :: _, .cons h t => by
    cases h
    rw [List.map_cons, strsOf t]
def spKinds (K : PySem.W.Frag) (M De Bu Dl Go Mk Nn Pr Ro Tx No Un : Addr) : Addr → Addr → Sp := fun ea D vs H Q _ => ∃ i, i < 11 ∧ ErrOf K M De Bu Dl Go Mk Nn Pr Ro Tx No Un D i ∧ vs = [.ref ea] ∧ ∀ H', Stay H H' → Q (.str (kindS i)) H'
end KM

set_option Elab.async false
set_option linter.all false
set_option maxRecDepth 100000
set_option maxHeartbeats 4000000
namespace K32
open PySem L2 KG EX KM
section
variable {P : Program} {w : World} {K : PySem.W.Frag} {mg : Str → Option Value} {base : Heap}
theorem scKinds : FnScope ["e", "some", "words"] ["e"] (defScope (top 28)) := ⟨rfl, rfl, rfl, by decide +kernel, rfl, by decide +kernel, by decide +kernel⟩
theorem ok_kinds {f M De Bu Dl Go Mk Nn Pr Ro Tx No Un : Addr} {fd : FuncData} (F : Fun K "_law_kinds" "_law_kinds" (top 28) f fd) (N : Nm mg) (C : Clx K mg M De Bu Dl Go Mk Nn Pr Ro Tx No Un) : FnH P w K mg base 1 f fd ["e"] (spKinds K M De Bu Dl Go Mk Nn Pr Ro Tx No Un) := by
  refine F.okH scKinds (fun ea D vs H Q E h => ?_) (fun cdv A outer s H vs Q E ea D t hd hr h => ?_)
  · obtain ⟨_, _, _, rfl, _⟩ := h; rfl
  · obtain ⟨ci, hci, R, rfl, k⟩ := h
    have hp : (ea, excO D t hd) ∈ (cxH P w K mg base ["e", "some", "words"] "_law_kinds" (defScope (top 28)) f cdv A outer s H ea D t hd).pn := List.mem_cons_self
    have qt : Qt (cxH P w K mg base ["e", "some", "words"] "_law_kinds" (defScope (top 28)) f cdv A outer s H ea D t hd) := .inr ⟨ea, D, t, hd, hr.hd, hp⟩
    refine ⟨_, pss_cons (ps_set (i := 1) scKinds.nd rfl (Or.inr rfl) (pe_lst (pa_cons (pe_isEC R.ek hp (pv 0) rfl N.isinstance rfl C.mgDe boot_isinstance) (pa_cons (pe_isEC R.ek hp (pv 0) rfl N.isinstance rfl C.mgBu boot_isinstance) (pa_cons (pe_isEC R.ek hp (pv 0) rfl N.isinstance rfl C.mgDl boot_isinstance) (pa_cons (pe_isEC R.ek hp (pv 0) rfl N.isinstance rfl C.mgGo boot_isinstance) pa_nil))))))
      (pss_cons (ps_set (i := 1) scKinds.nd rfl (Or.inr rfl) (pe_op op_cat (pv 1) (pe_lst (pa_cons (pe_isEC R.ek hp (pv 0) rfl N.isinstance rfl C.mgMk boot_isinstance) (pa_cons (pe_isEC R.ek hp (pv 0) rfl N.isinstance rfl C.mgNn boot_isinstance) (pa_cons (pe_isEC R.ek hp (pv 0) rfl N.isinstance rfl C.mgPr boot_isinstance) (pa_cons (pe_isEC R.ek hp (pv 0) rfl N.isinstance rfl C.mgRo boot_isinstance) pa_nil)))))))
      (pss_cons (ps_set (i := 1) scKinds.nd rfl (Or.inr rfl) (pe_op op_cat (pv 1) (pe_lst (pa_cons (pe_isEC R.ek hp (pv 0) rfl N.isinstance rfl C.mgTx boot_isinstance) (pa_cons (pe_isEC R.ek hp (pv 0) rfl N.isinstance rfl C.mgNo boot_isinstance) (pa_cons (pe_isEC R.ek hp (pv 0) rfl N.isinstance rfl C.mgUn boot_isinstance) (pa_cons (pe_isEB R.ek hp (pv 0) rfl N.isinstance rfl N.valueError boot_value boot_isinstance) pa_nil)))))))
      (pss_cons (ps_set (i := 2) scKinds.nd rfl (Or.inr rfl) (pe_lit 3 _ (.list ((wordsL.take 8).map PyData.str)) (by kernel_rfl)))
      (pss_cons (ps_set (i := 2) scKinds.nd rfl (Or.inr rfl) (pe_op op_cat (pv 2) (pe_lit 3 _ (.list ((wordsL.drop 8).map PyData.str)) (by kernel_rfl))))
      (pss_one (ps_ret (peBm0 PySem.F.plainAttrs_str PySem.F.slot_str_join PySem.F.type_str_join (mt_join K) pe_str (pa_cons (pe_compR (own := ["k"]) (cap := ["some", "words"]) (ix := [1, 2]) (BlkOk.of (defScope (top 28)).names ["e", "some", "words"]) qt (piR_range1 rfl N.range (pa_cons pe_int pa_nil))
        (fun C fp s H => ⟨pg_name (i := 0) (show List.Nodup (["k", "some", "words"] : List Str) by decide +kernel) rfl (Or.inl rfl), pifs_one (pt_val (pe_ix ixL0 (pv 1) (pv 0) (fun _ _ => rfl))), pe_ix ixL0 (pv 2) (pv 0) (fun _ _ => rfl)⟩)) pa_nil)))))))), ?_⟩
    have H0 : ∃ (L1 L2 L3 : List V), L1 = [.bl (decide (ci = 0)), .bl (decide (ci = 1)), .bl (decide (ci = 2)), .bl (decide (ci = 3))] ∧ L2 = [.bl (decide (ci = 4)), .bl (decide (ci = 5)), .bl (decide (ci = 6)), .bl (decide (ci = 7))] ∧ L3 = [.bl (decide (ci = 8)), .bl (decide (ci = 9)), .bl (decide (ci = 10)), .bl true] ∧ L1 ++ L2 ++ L3 = (flagsL ci).map V.bl := ⟨_, _, _, rfl, rfl, rfl, rfl⟩
    obtain ⟨L1, L2, L3, eL1, eL2, eL3, eL⟩ := H0
    refine ⟨_, rfl, rfl, _, R.kDe, _, rfl, rfl, _, R.kBu, _, rfl, rfl, _, R.kDl, _, rfl, rfl, _, R.kGo, by show 4 ≤ sizeLine; decide, fun p1 h1 => ?_⟩
    rw [← eL1]
    refine ⟨_, rfl, _, rfl, rfl, _, R.kMk, _, rfl, rfl, _, R.kNn, _, rfl, rfl, _, R.kPr, _, rfl, rfl, _, R.kRo, by show 4 ≤ sizeLine; decide, fun p2 h2 => ?_⟩
    rw [← eL2]
    have s12 := (Stay.refl (upd H p1 (.lst L1))).new (o := .lst L2) h2
    refine ⟨p1, p2, _, _, rfl, rfl, s12 _ _ upd_same, upd_same, by rw [eL1, eL2, sz]; show 4 + 4 ≤ 16777216; decide, fun p3 h3 => ?_⟩
    have s3 : Stay H (upd (upd (upd H p1 (.lst L1)) p2 (.lst L2)) p3 (.lst (L1 ++ L2))) := (((Stay.refl H).new h1).new h2).new h3
    have e3 : (upd (upd (upd H p1 (.lst L1)) p2 (.lst L2)) p3 (.lst (L1 ++ L2))) p3 = some (.lst (L1 ++ L2)) := upd_same
    generalize upd (upd (upd H p1 (.lst L1)) p2 (.lst L2)) p3 (.lst (L1 ++ L2)) = H3 at s3 e3
    refine ⟨_, rfl, _, rfl, rfl, _, R.kTx, _, rfl, rfl, _, R.kNo, _, rfl, rfl, _, R.kUn, _, rfl, rfl, _, R.kVa, by show 4 ≤ sizeLine; decide, fun p4 h4 => ?_⟩
    rw [← eL3]
    refine ⟨p3, p4, _, _, rfl, rfl, ((Stay.refl H3).new h4) _ _ e3, upd_same, by rw [eL1, eL2, eL3, sz]; show 8 + 4 ≤ 16777216; decide, fun p5 h5 => ?_⟩
    rw [eL]
    have s5 : Stay H (upd (upd H3 p4 (.lst L3)) p5 (.lst ((flagsL ci).map V.bl))) := (s3.new h4).new h5
    have e5 : (upd (upd H3 p4 (.lst L3)) p5 (.lst ((flagsL ci).map V.bl))) p5 = some (.lst ((flagsL ci).map V.bl)) := upd_same
    generalize upd (upd H3 p4 (.lst L3)) p5 (.lst ((flagsL ci).map V.bl)) = H5 at s5 e5
    have nb5 : H5 p5 ≠ none := by rw [e5]; simp
    intro v6 H6 s6 t6 _
    have t6' := t6 p5 nb5
    cases t6' with
    | @lst q6 xs6 _ n6 e6 l6 =>
    refine ⟨_, rfl, ?_⟩
    intro v7 H7 s7 t7 _
    cases t7 p5 (ne_stay s6 nb5) with
    | @lst q7 xs7 _ n7 e7 l7 =>
    have z6 := strsOf l6
    have z7 := strsOf l7
    subst z6 z7
    refine ⟨q6, q7, _, _, rfl, rfl, s7 _ _ e6, e7, ?_, fun p8 h8 => ?_⟩
    · rw [List.length_map, List.length_map, sz]; decide
    have e8 : (upd H7 p8 (.lst ((wordsL.take 8).map V.str ++ (wordsL.drop 8).map V.str))) p8 = some (.lst (wordsL.map V.str)) := by
      rw [upd_same, ← List.map_append, List.take_append_drop]
    have s8 : Stay H5 (upd H7 p8 (.lst ((wordsL.take 8).map V.str ++ (wordsL.drop 8).map V.str))) := (s6.trans s7).new h8
    generalize upd H7 p8 (.lst ((wordsL.take 8).map V.str ++ (wordsL.drop 8).map V.str)) = H8 at e8 s8
    have e58 := s8 _ _ e5
    refine ⟨rfl, 12, rfl, by decide, by decide, fun acc hacc => ?_⟩
    refine comp_range (fun i ys H' => Stay H8 H' ∧ ys = (toldL ci i).map V.str) ⟨(Stay.refl H8).acc hacc, rfl⟩ ?_ ?_
    · rintro i ys H' hi hy ⟨st, rfl⟩
      have hi' : i < 12 := hi
      have ef : ((flagsL ci).map V.bl)[i]? = some (V.bl ((flagsL ci).getD i false)) := by
        rw [List.getElem?_map]
        have hl : i < (flagsL ci).length := hi'
        rw [List.getElem?_eq_getElem hl]
        simp [List.getD, List.getElem?_eq_getElem hl]
      have ew : (wordsL.map V.str)[i]? = some (V.str (wordsL.getD i "")) := by
        rw [List.getElem?_map]
        have hl : i < wordsL.length := hi'
        rw [List.getElem?_eq_getElem hl]
        simp [List.getD, List.getElem?_eq_getElem hl]
      have af := atI_nat ef
      have aw := atI_nat ew
      have e0 : (0 + (i : Int)) = ((i : Nat) : Int) := by omega
      rw [← e0] at af aw
      refine ⟨_, rfl, _, rfl, p5, _, _, _, rfl, rfl, SqL.of (st _ _ e58), af, _, rfl, ?_⟩
      cases hf : (flagsL ci).getD i false with
      | true =>
        refine iteT ⟨_, rfl, _, rfl, p8, _, _, _, rfl, rfl, SqL.of (st _ _ e8), aw, _, hy, ?_, Cn.of upd_same ⟨st.acc hacc, ?_⟩⟩
        · rw [List.length_map, sz]; have := toldL_len ci i; omega
        · rw [toldL_succ, hf, List.map_append]; rfl
      | false =>
        refine iteF (Cn.of hy ⟨st, ?_⟩)
        rw [toldL_succ, hf]; simp
    · rintro ys H' hy ⟨st, rfl⟩
      obtain ⟨te, tb⟩ := toldL_end ⟨ci, hci⟩
      dsimp only at te tb
      rw [show (12 : Int).toNat = 12 from rfl, te] at hy
      exact ⟨"", acc, [wordsL.getD ci "", "+"], rfl, rfl, SqL.of hy, tb, by decide, by show 2 ≤ 1000; decide, k _ (s5.trans (s8.trans st))⟩
end
end K32

set_option Elab.async false
set_option linter.all false
set_option maxRecDepth 100000
set_option maxHeartbeats 4000000
namespace KM
open PySem L2 KG EX
/-! fractions in lowest terms are the rational numbers -/
theorem low_uniq {a b X Y : Int} (hb : 0 < b) (hY : 0 < Y) (g1 : Int.gcd a b = 1) (g2 : Int.gcd X Y = 1) (h : X * b = a * Y) : X = a ∧ Y = b := by
  have d1 : Y ∣ b := by
    have q : Y ∣ X * b := ⟨a, by rw [h, Int.mul_comm]⟩
    rw [← Int.dvd_gcd_mul_iff_dvd_mul, Int.gcd_comm, g2] at q
    simpa using q
  have d2 : b ∣ Y := by
    have q : b ∣ a * Y := ⟨X, by rw [← h, Int.mul_comm]⟩
    rw [← Int.dvd_gcd_mul_iff_dvd_mul, Int.gcd_comm, g1] at q
    simpa using q
  have e : Y = b := Int.dvd_antisymm (by omega) (by omega) d1 d2
  subst e
  exact ⟨Int.eq_of_mul_eq_mul_right (by omega) h, rfl⟩
theorem den_pos (q : Rat) : (0 : Int) < (q.den : Int) := by have := q.den_nz; omega
theorem rat_gcd (q : Rat) : Int.gcd q.num (q.den : Int) = 1 := q.reduced
theorem nf_rat {T U : Int} (hU : U ≠ 0) : nx T U = (Rat.divInt T U).num ∧ ny T U = ((Rat.divInt T U).den : Int) := by
  obtain ⟨n1, n2, n3, _⟩ := nf_spec (t := T) hU
  have hd := den_pos (Rat.divInt T U)
  have h1 : T * ((Rat.divInt T U).den : Int) = (Rat.divInt T U).num * U := by
    rw [← Rat.divInt_eq_divInt_iff hU (by omega), Rat.num_divInt_den]
  refine low_uniq hd n2 (rat_gcd _) n3 ?_
  have e : nx T U * ((Rat.divInt T U).den : Int) * U = (Rat.divInt T U).num * ny T U * U := by
    calc nx T U * ((Rat.divInt T U).den : Int) * U = nx T U * U * ((Rat.divInt T U).den : Int) := by rw [Int.mul_right_comm]
      _ = T * ny T U * ((Rat.divInt T U).den : Int) := by rw [n1]
      _ = T * ((Rat.divInt T U).den : Int) * ny T U := by rw [Int.mul_right_comm]
      _ = (Rat.divInt T U).num * U * ny T U := by rw [h1]
      _ = (Rat.divInt T U).num * ny T U * U := by rw [Int.mul_right_comm]
  exact Int.eq_of_mul_eq_mul_right hU e
/-- a fraction at hand -/
abbrev qO (q : Rat) : HO := .tup [.int q.num, .int (q.den : Int)]
def Rb (k : Nat) (q : Rat) : Prop := Bd k q.num ∧ Bd k (q.den : Int)
theorem rat_of {t u : Int} (hu : 0 < u) (hg : Int.gcd t u = 1) : ∃ q : Rat, q.num = t ∧ (q.den : Int) = u := by
  refine ⟨⟨t, u.toNat, by omega, ?_⟩, rfl, by show ((u.toNat : Nat) : Int) = u; omega⟩
  show Nat.gcd t.natAbs u.toNat = 1
  have : u.toNat = u.natAbs := by omega
  rw [this]; exact hg
theorem rb_div {k : Nat} {T U : Int} (hU : U ≠ 0) (h1 : Bd k T) (h2 : Bd k U) : Rb k (Rat.divInt T U) := by
  obtain ⟨e1, e2⟩ := nf_rat (T := T) hU
  obtain ⟨_, _, _, _, n5, n6⟩ := nf_spec (t := T) hU
  refine ⟨?_, ?_⟩
  · rw [← e1]; exact h1.le n5
  · rw [← e2]; exact h2.le n6
def spLf : Sp := fun vs H Q _ => ∃ (t u : Int), vs = [.int t, .int u] ∧ 0 < u ∧ Bd 8000 u ∧ ∀ p, H p = none → Q (.ref p) (upd H p (qO (Rat.divInt t u)))
theorem sg_bd {k : Nat} {t u : Int} (h : Bd k u) (hu : u ≠ 0) : Bd k (sg t u) := by
  refine h.le ?_
  have g0 : 0 < Int.gcd t u := Int.gcd_pos_of_ne_zero_right t hu
  have e : (sg t u).natAbs = Int.gcd t u := by unfold sg; split <;> omega
  rw [e]
  exact Nat.le_of_dvd (by omega) (Int.gcd_dvd_natAbs_right t u)
theorem abs_gcd0 {a : Int} : (if a < 0 then -a else a) = (Int.gcd a 0 : Int) := by
  rw [Int.gcd_zero_right]
  split <;> omega
end KM

set_option Elab.async false
set_option linter.all false
set_option maxRecDepth 100000
set_option maxHeartbeats 4000000
namespace K32
open PySem L2 KG EX KM
section
variable {P : Program} {w : World} {K : PySem.W.Frag} {mg : Str → Option Value} {base : Heap}
theorem scLf : FnScope ["top", "bottom", "one", "other", "by"] ["top", "bottom"] (defScope (top 26)) := ⟨rfl, rfl, rfl, by decide +kernel, rfl, by decide +kernel, by decide +kernel⟩
theorem ok_lf {f : Addr} {fd : FuncData} (F : Fun K "_law_frac" "_law_frac" (top 26) f fd) (B : Nm mg) : FnOk P w K mg base CX0 1 f fd ["top", "bottom"] spLf := by
  refine F.ok scLf (fun vs H Q E h => ?_) (fun cdv A outer s H vs Q E hr h => ?_)
  · obtain ⟨t, u, rfl, _⟩ := h; rfl
  · obtain ⟨t, u, rfl, u0, u1, k⟩ := h
    refine ⟨_, pss_cons (ps_par (i := 2) (j := 3) rfl scLf.nd rfl rfl (by decide) rfl rfl (pa_cons (pv 0) (pa_cons (pv 1) pa_nil)) (by rfl))
      (pss_cons (ps_while PassesOwn.never (pt_cmpR op_ne (pv 3) pe_int (nomark _)) (pss_one (ps_par (i := 2) (j := 3) rfl scLf.nd rfl rfl (by decide) rfl rfl (pa_cons (pv 3) (pa_cons (pe_op op_modN (pv 2) (pv 3)) pa_nil)) (by rfl))))
      (pss_cons (ps_set (i := 4) scLf.nd rfl (Or.inl rfl) (pe_op op_mul (pe_callB call_abs (by rfl) B.abs boot_abs (pa_cons (pv 2) pa_nil)) (pe_op op_sub pe_int (pe_op op_mul pe_int (pe_callTy call_int1 (by rfl) B.int boot_int (pa_cons (pe_cmpR op_lt (pv 1) pe_int (nomark _)) pa_nil))))))
      (pss_one (ps_ret (pe_tup (pa_cons (pe_op op_fdivBN (pv 0) (pv 4)) (pa_cons (pe_op op_fdivBN (pv 1) (pv 4)) pa_nil))))))), ?_⟩
    have hu : u ≠ 0 := by omega
    obtain ⟨q1, q2⟩ := nf_rat (T := t) hu
    have k' : ∀ p, H p = none → Q (.ref p) (upd H p (.tup [.int (nx t u), .int (ny t u)])) := fun p hp => by rw [q1, q2]; exact k p hp
    have hs := (nf_spec (t := t) hu).2.2.2.1
    have hsb := sg_bd (t := t) u1 hu
    have esg : (Int.gcd t u : Int) = sg t u := by unfold sg; rw [if_neg (by omega)]
    refine ⟨_, rfl, _, rfl, _, _, rfl, ?_⟩
    refine while_by (fun σ H' => H' = H ∧ ∃ a c : Int, σ = [some (.int t), some (.int u), some (.int a), some (.int c), none] ∧ Int.gcd a c = Int.gcd t u)
      (fun σ _ => match σ with | [_, _, _, some (.int c), _] => c.natAbs | _ => 0) ⟨rfl, t, u, rfl, rfl⟩ ?_ ?_
    · rintro σ H' ⟨rfl, a, c, rfl, e⟩
      refine ⟨_, rfl, rfl, _, rfl, ?_⟩
      by_cases hc : c = 0
      · subst hc
        refine iteF ?_
        refine ⟨_, rfl, _, rfl, _, rfl, _, _, rfl, rfl, .inr ⟨_, rfl, _, _, rfl, rfl, .inl ⟨by decide, by decide⟩, _, _, rfl, rfl, ?_⟩⟩
        have e2 : decide (u < 0) = false := decide_eq_false (by omega)
        rw [abs_gcd0, e, e2, esg]
        have e3 : sg t u * (1 - 2 * (if false = true then (1 : Int) else 0)) = sg t u := by simp
        refine ⟨_, _, rfl, rfl, .inr ⟨by decide, by decide⟩, ?_⟩
        show gName 4 (V.int (sg t u * (1 - 2 * (if false = true then (1 : Int) else 0)))) _ _ _
        rw [e3]
        exact ⟨_, rfl, _, rfl, _, _, rfl, rfl, ⟨hs, hsb⟩, _, rfl, _, rfl, _, _, rfl, rfl, ⟨hs, hsb⟩, by show 2 ≤ sizeLine; decide, fun p hp => k' p hp⟩
      · have e1 : (!decide (V.int c = V.int 0)) = true := by simp [hc]
        rw [e1]
        refine iteT ?_
        exact ⟨_, rfl, _, rfl, _, rfl, _, _, rfl, rfl, hc, _, _, rfl, ⟨rfl, c, a.fmod c, rfl, gcd_fmod.trans e⟩, fmod_lt hc⟩
    · rintro σ H' Q1 Q2 himp ⟨v, e, sc, kk, ek, q⟩
      exact ⟨v, e, sc, kk, ek, himp _ _ q⟩
end
end K32

set_option Elab.async false
set_option linter.all false
set_option maxRecDepth 100000
set_option maxHeartbeats 4000000
namespace KM
open PySem L2 KG EX
/-! prices as rational numbers -/
def qD (q : Rat) : PyData := .tuple [.int q.num, .int (q.den : Int)]
end KM

set_option Elab.async false
set_option linter.all false
set_option maxRecDepth 100000
set_option maxHeartbeats 4000000
namespace KM
open PySem L2 KG EX
end KM

set_option Elab.async false
set_option linter.all false
set_option maxRecDepth 100000
set_option maxHeartbeats 4000000
namespace L2
open PySem PySem.Spec PyProof.Rows
end L2
namespace KM
open PySem L2 KG EX
end KM

set_option Elab.async false
set_option linter.all false
set_option maxRecDepth 100000
set_option maxHeartbeats 4000000
namespace KM
open PySem L2 KG EX
/-! purses as rational numbers -/
end KM

set_option Elab.async false
set_option linter.all false
set_option maxRecDepth 100000
set_option maxHeartbeats 4000000
namespace KM
open PySem L2 KG EX
/-! the rates: keys in order, values as fractions -/
end KM
namespace KM
open PySem L2 KG EX
end KM
namespace KM
open PySem L2 KG EX
end KM
namespace KM
open PySem L2 KG EX
end KM
namespace KM
open PySem L2 KG EX
end KM
namespace KM
end KM

set_option Elab.async false
set_option linter.all false
set_option maxRecDepth 100000
set_option maxHeartbeats 4000000
namespace KM
open PySem L2 KG EX
end KM

set_option Elab.async false
set_option linter.all false
set_option maxRecDepth 100000
set_option maxHeartbeats 4000000
namespace KM
open PySem L2 KG EX
/-! greatest and least, shares, the first prices -/
end KM

set_option Elab.async false
set_option linter.all false
set_option maxRecDepth 100000
set_option maxHeartbeats 4000000
namespace KM
open PySem L2 KG EX
section
variable {am : List Int} {ps qs : List Rat} {M : List (List Int)} {n : Nat}
end
end KM
namespace KM
open PySem L2 KG EX
end KM
namespace KM
open PySem L2 KG EX
end KM
namespace KM
open PySem L2 KG EX
end KM

set_option Elab.async false
set_option linter.all false
set_option maxRecDepth 100000
namespace PySem
/-! ### dicts by their entries as they lie, whatever the keys are -/
section
variable {prog : Program} {w : World} {A : Around} {E : Value → Shared → Prop} {s : Shared} {it d : Addr} {i ep : Nat} {es : Array DictEntry}
end
end PySem
namespace L2
open PySem PySem.Spec PyProof.Rows KG
section
variable {X : Cx}
end
end L2

set_option Elab.async false
set_option linter.all false
set_option maxRecDepth 100000
namespace L2
open PySem PySem.Spec PyProof.Rows KG
section
variable {X : Cx}
/-! ### for k in d, the keys tuples -/
end
section
variable {K : PySem.W.Frag} {tt : TT} {te tk tv : TE} {acc a b : Addr} {xs ys : List V} {σ₀ : St} {H₀ : Hp} {Q : VK} {o : Obj} {kvs : List (List Key × V)}
end
end L2
namespace PySem
section
variable {prog : Program} {w : World} {A : Around} {I : Addr} {fp wr : List Addr} {n : Nat} {P : Nat → Value → Prop} {St : Nat → Heap → Prop}

end
end PySem

set_option Elab.async false
set_option linter.all false
set_option maxRecDepth 100000
namespace L2
open PySem PySem.Spec PyProof.Rows

/-! ### a dict comprehension, keys tuples of ints and texts -/
section
variable {X : Cx} {scope : Scope} {own cap : List Str} {ix : List Nat} {tg iter kx vx : Expr} {ifs : List Expr} {wi : TI} {g : TG} {tt : TT} {tk tv : TE} {pos : Pos}

end


section
variable {X : Cx}
end

section
variable {X : Cx}
end
end L2

set_option Elab.async false
set_option linter.all false
set_option maxRecDepth 100000
namespace L2
open PySem PySem.Spec PyProof.Rows KG
section
variable {K : PySem.W.Frag} {tt : TT} {tk tv : TE} {a acc : Addr} {xs : List V} {σ₀ : St} {H₀ : Hp} {Q : VK}
end
end L2

set_option Elab.async false
set_option linter.all false
set_option maxRecDepth 100000
set_option maxHeartbeats 4000000
namespace KM
open PySem L2 KG EX
/-! ### sets in their order -/
/-! ### sums over what some test picks -/
/-! ### sets of a list -/
end KM

set_option Elab.async false
set_option linter.all false
set_option maxRecDepth 100000
set_option maxHeartbeats 4000000
namespace KM
open PySem L2 KG EX
/-! the money above the purses is what the lemma on sets asks -/
end KM

set_option Elab.async false
set_option linter.all false
set_option maxRecDepth 100000
namespace L2
open PySem PySem.Spec PyProof.Rows KG
section
variable {X : Cx}
end
end L2
namespace KM
open PySem L2
end KM

set_option Elab.async false
set_option linter.all false
set_option maxRecDepth 100000
set_option maxHeartbeats 4000000
namespace KM
open PySem L2 KG EX
section
variable {K : PySem.W.Frag} {n : Nat} {tt : TT} {te : TE} {acc a b : Addr} {xs ys : List V} {σ₀ : St} {H₀ : Hp} {Q : VK}
theorem filt_snoc {α : Type} (f : Nat → Bool) (v : Nat → α) (i : Nat) : ((List.range (i + 1)).filter f).map v = ((List.range i).filter f).map v ++ if f i = true then [v i] else [] := by
  rw [filter_succ, List.map_append]
  congr 1
  split <;> simp_all
end
theorem getD_of {α : Type} {ls : List α} {i : Nat} {y d : α} (h : ls[i]? = some y) : ls.getD i d = y := by simp [List.getD, h]
end KM

set_option Elab.async false
set_option linter.all false
set_option maxRecDepth 100000
set_option maxHeartbeats 4000000
namespace KM
open PySem L2 KG EX
/-! ### barters -/
/-! what the document has -/
end KM

set_option Elab.async false
set_option linter.all false
set_option maxRecDepth 100000
set_option maxHeartbeats 4000000
namespace KM
open PySem L2 KG EX
/-! ### tables made of lists -/
/-! numbers of a table -/
/-! contracts of the program -/
/-! contracts of the law -/
end KM

set_option Elab.async false
set_option linter.all false
set_option maxRecDepth 100000
set_option maxHeartbeats 4000000
namespace KM
open PySem L2 KG EX
end KM

set_option Elab.async false
set_option linter.all false
set_option maxRecDepth 100000
set_option maxHeartbeats 4000000
namespace KM
open PySem L2 KG EX
section
variable {K : PySem.W.Frag} {tt : TT} {te : TE} {acc a : Addr} {s : List Int} {σ₀ : St} {H₀ : Hp} {Q : VK}
end
end KM

set_option Elab.async false
set_option linter.all false
set_option maxRecDepth 100000
set_option maxHeartbeats 4000000
namespace KM
open PySem L2 KG EX
end KM

set_option Elab.async false
set_option linter.all false
set_option maxRecDepth 100000
set_option maxHeartbeats 4000000
namespace KM
open PySem L2 KG EX
end KM

set_option Elab.async false
set_option linter.all false
set_option maxRecDepth 100000
set_option maxHeartbeats 4000000
namespace L2
open PySem PySem.Spec PyProof.Rows
/-! ### [elt for t1 in i1 if .. for t2 in i2 if ..] -/
section
variable {prog : Program} {w : World} {A : Around} {R : Result → Shared → Prop} {s : Shared} {elt t1 i1 t2 i2 : Expr} {f1 f2 : List Expr} {scope : Scope} {pos : Pos} {it acc : Value} {env : Env}
end
/-! what such a comprehension asks -/
section
variable {X : Cx} {scope : Scope} {own cap : List Str} {ix : List Nat} {t1 i1 t2 i2 elt : Expr} {f1 f2 : List Expr} {wi wi2 : TI} {g1 g2 : TG} {tt1 tt2 : TT} {te : TE} {pos : Pos}
end
end L2

set_option Elab.async false
set_option linter.all false
set_option maxRecDepth 100000
namespace L2
open PySem PySem.Spec PyProof.Rows KG
section
variable {te : TE} {acc a : Addr} {xs : List V} {cs : List (Option V)} {H₀ : Hp} {Q : VK}
end
end L2

set_option Elab.async false
set_option linter.all false
set_option maxRecDepth 100000
set_option maxHeartbeats 4000000
namespace KM
open PySem L2 KG EX
/-! ### dealings -/
end KM
namespace KM
open PySem L2 KG EX
end KM

set_option Elab.async false
set_option linter.all false
set_option maxRecDepth 100000
set_option maxHeartbeats 4000000
namespace KM
open PySem L2 KG EX
/-! ### tables made of lists -/
end KM

set_option Elab.async false
set_option linter.all false
set_option maxRecDepth 100000
set_option maxHeartbeats 4000000
namespace L2
open PySem PySem.Spec PyProof.Rows KG
end L2
namespace KM
open PySem L2 KG EX
/-! ### the worth of what is got -/
end KM

set_option Elab.async false
set_option linter.all false
set_option maxRecDepth 100000
set_option maxHeartbeats 4000000
namespace PySem
open AutoSeq1 (wpAny_loadPart')
end PySem
namespace L2
open PySem PySem.Spec PyProof.Rows
section
variable {X : Cx}
end
end L2
namespace KM
open PySem L2 KG EX
/-! sums -/
/-! tables of fractions -/
end KM

set_option Elab.async false
set_option linter.all false
set_option maxRecDepth 100000
set_option maxHeartbeats 4000000
namespace KM
open PySem L2 KG EX
/-! the first row halved, at both ends -/
end KM

set_option Elab.async false
set_option linter.all false
set_option maxRecDepth 100000
set_option maxHeartbeats 4000000
namespace EX
open PySem PySem.Spec PyProof.Rows
/-! ### a comprehension whose parts may raise -/
def Tb (e C t : Addr) (h : Heap) : Prop := ∃ T, h.get? e = some (excO C t (.ref T))
section
variable {M : Model} {A : Around} {E : Value → Shared → Prop} {s : Shared} {B : Heap} {env : Env} {outer : List Env} {L e C t : Addr} {Q : Unit → Shared → Prop}
theorem air_entryH {head : Value} {hn : Bool} (a : Air B (env :: outer) e C t s.heap) (hfr : A.frames = some (env :: outer)) (hf : env.frame = some L)
    (k : ∀ h', Air B (env :: outer) e C t h' → s.heap.UpToSlots h' → Tb e C t h' → Q () { s with heap := h' }) :
    wpAny M A (do let fr ← frameOf env; let pl ← entryPlaceOf L hn; let x ← EntryCells.newEntry head fr .none (rawInt L) .none pl; setField (.ref e) 1 x) Q E s := by
  obtain ⟨hd, he, _⟩ := a.ob
  refine wpAny_bind (wpAny_frameOf_fun hfr a.ff hf fun g so => ?_)
  obtain ⟨_, so2, so3⟩ := so
  have nfr : e ∉ (env :: outer).filterMap (·.frame) := fun m => by
    obtain ⟨_, o, ho, nf⟩ := a.ff.mem m
    rw [he] at ho
    cases ho
    exact nf _ rfl
  have ge : g.get? e = some (excO C t hd) := (so2 e nfr).trans he
  have gB : B.StaysIn g := fun b o q => (so2 b fun m => by rw [(a.ff.mem m).1] at q; cases q).trans (a.st b o q)
  refine wpAny_bind (wpAny_entryPlaceOf fun pl ipl => ?_)
  unfold EntryCells.newEntry newFields
  refine wpAny_bind (wpAny_newObj_type ?_ (ipl.sizeOk5 _ _ _ _ _))
  generalize hN : ({ cls := .type "traceback", dict := none, data := .fields ([head, .ref L, .none, rawInt L, .none] ++ (if pl.isEmpty then List.replicate 6 Value.none else pl)).toArray } : Obj) = oN
  have g2 : (g.push oN).get? e = some (excO C t hd) := Heap.get?_push_of_some _ ge
  have gT : (g.push oN).get? g.objs.size = some oN := Heap.get?_push_size g (by rw [← hN]; rfl)
  have Te : g.objs.size ≠ e := Nat.ne_of_gt (Heap.lt_size ge)
  have nBT : B.get? g.objs.size = none := by
    cases q : B.get? g.objs.size with
    | none => rfl
    | some o => exact absurd (Heap.lt_size (gB _ o q)) (Nat.lt_irrefl _)
  refine wpAny_setField g2 rfl (by show 1 < 6; decide) (k _ ?_ ?_ ⟨_, Heap.get?_update_self _ g2 rfl⟩)
  · refine ⟨fun b o q => ?_, a.ne, ?_, .ref g.objs.size, ?_, .inr ⟨g.objs.size, oN, _, rfl, nBT, Te, ?_, by rw [← hN], ?_⟩⟩
    · rw [Heap.get?_update_other _ _ (fun z => by rw [← z, a.ne] at q; cases q)]
      exact Heap.get?_push_of_some _ (gB b o q)
    · refine a.ff.of_keeps fun b o q nf => ?_
      obtain ⟨sl, q2⟩ := so3 b o q
      refine ⟨{ o with slots := sl }, ?_, rfl⟩
      rw [Heap.get?_update_other _ _ (fun z => by rw [← z, he] at q; cases q; exact nf _ rfl)]
      exact Heap.get?_push_of_some _ q2
    · exact Heap.get?_update_self _ g2 rfl
    · rw [Heap.get?_update_other _ _ Te.symm]; exact gT
    · simp only [List.size_toArray, List.length_append, List.length_cons]; omega
  · intro b o q nf
    obtain ⟨sl, q2⟩ := so3 b o q
    refine ⟨sl, ?_⟩
    rw [Heap.get?_update_other _ _ (fun z => by rw [← z, he] at q; cases q; exact nf _ rfl)]
    exact Heap.get?_push_of_some _ q2
theorem air_noteH (a : Air B (env :: outer) e C t s.heap) (hfr : A.frames = some (env :: outer)) (hf : env.frame = some L)
    (k : ∀ h', Air B (env :: outer) e C t h' → s.heap.UpToSlots h' → Tb e C t h' → Q () { s with heap := h' }) : wpAny M A (noteFrame (.ref e) env) Q E s := by
  obtain ⟨hd, he, hh⟩ := a.ob
  unfold noteFrame
  simp only [hf]
  refine wpAny_bind (wpAny_field he rfl (x := hd) rfl ?_)
  rcases hh with rfl | ⟨T, oT, ts, rfl, nT, Te, hT, dT, h3⟩
  · rw [if_neg (by decide)]
    exact air_entryH a hfr hf k
  · rw [if_pos (show (Value.ref T != Value.none) = true from by simp)]
    refine wpAny_bind (wpAny_field hT dT (x := ts[3]) (by rw [Array.getElem?_eq_getElem h3]) ?_)
    by_cases hv : (ts[3] == rawInt L) = true
    · rw [if_pos hv]
      exact wpAny_pure (k s.heap a (Heap.UpToSlots.refl _) ⟨_, he⟩)
    · rw [if_neg hv]
      refine wpAny_bind (air_head a nT Te hT dT h3 fun h1 a1 u1 => ?_)
      exact air_entryH (s := { s with heap := h1 }) a1 hfr hf fun h2 a2 u2 b2 => k h2 a2 (u1.trans u2) b2
theorem air_fly {fr : Option Addr} (a : Air B outer e C t s.heap) (k : ∀ h', Air B outer e C t h' → s.heap.UpToSlots h' → Q () { s with heap := h' }) : wpAny M A (setFlight (.ref e) fr) Q E s := by
  obtain ⟨hd, he, hh⟩ := a.ob
  unfold setFlight
  refine wpAny_bind (wpAny_field he rfl (x := hd) rfl ?_)
  rcases hh with rfl | ⟨T, oT, ts, rfl, nT, Te, hT, dT, h3⟩
  · rw [if_neg (by decide)]
    exact wpAny_pure (k s.heap a (Heap.UpToSlots.refl _))
  · rw [if_pos (show (Value.ref T != Value.none) = true from by simp)]
    exact air_head a nT Te hT dT h3 k
theorem air_pass {α : Type} {what : String} {cenv : Env} {Qa : α → Shared → Prop} (a : Air B outer e C t s.heap) (b : Tb e C t s.heap) (k : ∀ h', Air B outer e C t h' → s.heap.UpToSlots h' → E (.ref e) { s with heap := h' }) : wpAny M A (PySem.passOn what (.ref e) cenv : Sem α) Qa E s := by
  obtain ⟨T, q⟩ := b
  unfold PySem.passOn
  refine wpAny_bind (wpAny_field q rfl (x := .ref T) rfl ?_)
  rw [if_neg (by simp)]
  exact wpAny_bind (air_fly a fun h1 a1 u1 => wpAny_throw (k h1 a1 u1))
end
end EX
namespace L2
open PySem PySem.Spec PyProof.Rows EX
/-- the loop of a list comprehension with one for, any target -/
theorem comp_loopX {prog : Program} {w : World} {A : Around} {R : Result → Shared → Prop} {s : Shared} {elt target iter : Expr} {ifs : List Expr} {scope : Scope} {pos : Pos} {it acc : Value} {env : Env} (I : Nat → Shared → Prop) {XE : Value → Shared → Prop} (hX : ∀ x s', XE x s' → notedBy (model prog w) A env (fun x s' => R (.error x) s') x s')
    (turn : ∀ n s, I n s → wpAny (model prog w) A (pyNext it) (fun r s₁ => match r with
      | none => R (.ok .next) s₁
      | some v => wpAny (model prog w) A (letOwnedTupleGo target it v) (fun _ s₁' => wpAny (model prog w) A (assign target env v) (fun _ s₂ =>
          wpAny (model prog w) A (forIn ifs true fun c r => if r = true then do let ok ← isTrue c env (eval c env); pure (ForInStep.yield ok) else pure (ForInStep.yield r)) (fun ok s₃ =>
            if ok = true then wpAny (model prog w) A (eval elt env) (fun x s₄ =>
              wpAny (model prog w) A (call (.builtin "list.append") [acc, x]) (fun _ s₅ => ∃ m, m < n ∧ I m s₅) XE s₄) XE s₃
            else ∃ m, m < n ∧ I m s₃) XE s₂) XE s₁') XE s₁) XE s)
    (n : Nat) (h : I n s) :
    codeAny (model prog w) A (.compLoop (.ListComp elt [⟨target, iter, ifs, 0⟩] scope pos) 0 it acc env) R s := by
  refine codeAny_loop rfl I (fun n s hI => ?_) n h
  show wpAny _ A ((compTurn (.ListComp elt [⟨target, iter, ifs, 0⟩] scope pos) 0 it acc env).onRaise (fun x => do noteFrame x env; theTreesLotGoes x)) _ _ s
  refine wpAny_noted ?_
  rw [compTurn_list]
  refine wpAny_bind (wpAny_standAt (wpAny_bind (wpAny_mono (turn n s hI) (fun r s₁ h₁ => ?_) hX)))
  cases r with
  | none => exact wpAny_pure h₁
  | some v =>
    refine wpAny_bind (wpAny_mono h₁ (fun _ s₁' h₁' => ?_) hX)
    refine wpAny_bind (wpAny_mono h₁' (fun _ s₂ h₂ => wpAny_bind (wpAny_mono h₂ (fun ok s₃ h₃ => ?_) hX)) hX)
    cases ok with
    | false => exact wpAny_pure ⟨rfl, h₃⟩
    | true =>
      exact wpAny_bind (wpAny_bind (wpAny_mono h₃ (fun x s₄ h₄ => wpAny_bind (wpAny_mono h₄ (fun _ s₅ h₅ => wpAny_pure (wpAny_pure ⟨rfl, h₅⟩)) hX)) hX))


/-- the context of a comprehension whose parts may raise -/
def XEC (X : Cx) (E0 : XK) (C : Addr) (e : Value) (s' : Shared) : Prop := ∃ pins σ H s m, Inv X pins σ H s ∧ FpOk X pins H C ∧ s.heap.Ns C m ∧ CXF X.prog X.w X.stack H s E0 e s'
def cxCX (X : Cx) (E0 : XK) (scope : Scope) (C : Addr) (N : List Str) (fp : List Addr) (s : Shared) (H : Hp) : Cx := { cxC X scope C N fp s H with xe := XEC X E0 C }
theorem Inv.xeX {X : Cx} {E0 : XK} {scope : Scope} {C : Addr} {N : List Str} {fp : List Addr} {s s1 : Shared} {H H1 : Hp} {pins : List (Addr × Obj)} {σ : St} (I : Inv (cxC X scope C N fp s H) pins σ H1 s1) : Inv (cxCX X E0 scope C N fp s H) pins σ H1 s1 :=
  ⟨⟨I.ok.mod, I.ok.kind, I.ok.glob, I.ok.blt, I.ok.above, I.ok.inj, I.ok.has, I.ok.cab, I.ok.hd, I.ok.frames, I.ok.stk, I.ok.exf, I.ok.bs, I.ok.bsz, I.ok.noex, I.ok.exfs, I.ok.funs, I.ok.frf⟩, I.os, I.bare, I.base, I.loc, I.cell, I.free, I.freeC, I.pin, I.hok, I.len⟩
theorem ff_but {h h2 B B2 : Heap} : ∀ {l : List Env}, (∀ b ∈ frs l, B2.get? b = none) → (∀ b ∈ frs l, ∀ o, h.get? b = some o → h2.get? b = some o) → h.FunFrames B l → h2.FunFrames B2 l
  | [], _, _, _ => trivial
  | env :: r, hB, k, ⟨hk, ⟨L, o, hf, hn, ho, hd⟩, hr⟩ => by
    have m : L ∈ frs (env :: r) := by unfold frs; rw [List.filterMap_cons, hf]; exact List.mem_cons_self
    have sub : ∀ b ∈ frs r, b ∈ frs (env :: r) := fun b hb => by unfold frs; rw [List.filterMap_cons, hf]; exact List.mem_cons_of_mem _ hb
    exact ⟨hk, ⟨L, o, hf, hB L m, k L m o ho, hd⟩, ff_but (fun b hb => hB b (sub b hb)) (fun b hb => k b (sub b hb)) hr⟩
theorem fly_same {P : Program} {w : World} {E0 : XK} {l : List Env} {H H' : Hp} {s s' : Shared} {a C t : Addr} {B h' : Heap} (os : s'.os = s.os) (bare : AllBare s'.gens) (un : Un (frs l) [] H H' s.heap s'.heap) (hok : HOk P w H' B)
    (third : ∀ b o, s.heap.get? b = some o → b ∉ frs l → (∃ o', B.get? b = some o') ∧ (H b = none → B.get? b = some o)) (ff : s'.heap.FunFrames B l) (air : Air B l a C t h') (up : s'.heap.UpToSlots h') (na : s.heap.get? a = none) (na' : H' a = none) (he : E0 (.ref C) none H') : CXF P w l H s E0 (.ref a) { s' with heap := h' } := by
  refine ⟨a, C, t, B, H', rfl, os, bare, ⟨fun b o q n nf _ => air.st b o ((third b o q nf).2 n), fun b o q n m _ => ?_, un.free, fun b o q _ => ?_, un.tups, un.frzs, un.tbls⟩, hok, third, air, na, na', he⟩
  · obtain ⟨sl2, q2⟩ := un.slot b _ q n m (by simp)
    obtain ⟨_, o3, q3, nf⟩ := ff.mem m
    rw [q2] at q3
    cases q3
    obtain ⟨sl3, q4⟩ := up b _ q2 nf
    exact ⟨sl3, q4⟩
  · by_cases m : b ∈ frs l
    · obtain ⟨_, o3, q3, nf⟩ := ff.mem m
      obtain ⟨sl3, q4⟩ := up b _ q3 nf
      exact ⟨_, q4⟩
    · obtain ⟨o2, q2⟩ := (third b o q m).1
      exact ⟨o2, air.st b o2 q2⟩
theorem xec_out {X : Cx} {E0 : XK} {out : List Env} {L C : Addr} {cenv : Env} {e : Value} {s' : Shared} (hst : X.stack = X.env :: out) (hf : X.env.frame = some L) (hp : Passes (CXF X.prog X.w) X E0) (hcf : cenv.frame = X.env.frame) (h : XEC X E0 C e s') :
    notedBy (model X.prog X.w) X.A cenv (fun x s'' => ∃ m, s''.heap.Ns C m ∧ ∀ h', Heap.SameBut C s''.heap h' → ∀ cenv : Env, cenv.locals = C → wpAny (model X.prog X.w) X.A (PySem.passOn "comprehension.variables-let-go" x cenv : Sem Value) (fun _ _ => False) X.xe { s'' with heap := h' }) e s' := by
  obtain ⟨pins, σ, H, s, m, I, fC, ⟨oC, es, ep, hoC, hdC, rC⟩, a, D, t, B, H', rfl, os, bare, un, hok, third, air, na, na', he⟩ := h
  have nC : C ∉ frs X.stack := fun z => by
    rcases List.mem_cons.mp (I.stkSub C z) with y | y
    · exact fC.2.1 y
    · exact fC.2.2.1 y
  have BC : B.get? C = some oC := (third C oC hoC nC).2 fC.1
  have eN : noteFrame (.ref a) cenv = noteFrame (.ref a) X.env := by unfold noteFrame PySem.frameOf; rw [hcf]
  unfold notedBy
  rw [eN]
  rw [hst] at air
  refine air_noteH air (by rw [I.ok.frames, hst]) hf fun h1 a1 u1 b1 => ?_
  rw [← hst] at a1 air
  refine ⟨m, ⟨oC, es, ep, a1.st C oC BC, hdC, rC⟩, fun h2 sb cenv' _ => ?_⟩
  have neB : ∀ b, B.get? b = none → b ≠ C := fun b q z => by rw [z, BC] at q; cases q
  have HC : H' C = none := un.free C oC hoC fC.1 (by simp)
  have hidn : ∀ {G : Heap} {b : Addr}, G.get? b = none → (PySem.W.hideAll G [C]).get? b = none := fun {G b} q => by
    cases z : (PySem.W.hideAll G [C]).get? b with
    | none => rfl
    | some o => have := PySem.W.of_hideAll _ z; rw [q] at this; cases this
  have hidC : ∀ {G : Heap} {b : Addr} {o : Obj}, (PySem.W.hideAll G [C]).get? b = some o → b ≠ C ∧ G.get? b = some o := fun {G b o} q => by
    refine ⟨fun z => ?_, PySem.W.of_hideAll _ q⟩
    rw [z, PySem.W.hideAll_none [C] (by simp)] at q
    cases q
  have a2 : Air (PySem.W.hideAll B [C]) X.stack a D t h2 := by
    refine ⟨fun b o q => (sb.2 b (hidC q).1).trans (a1.st b o (hidC q).2), hidn a1.ne, ff_but (fun b hb => hidn (a1.ff.mem hb).1) (fun b hb o q => (sb.2 b (fun z => nC (z ▸ hb))).trans q) a1.ff, ?_⟩
    obtain ⟨hd, q, hh⟩ := a1.ob
    refine ⟨hd, (sb.2 a (neB a a1.ne)).trans q, ?_⟩
    rcases hh with z | ⟨T, oT, ts, e1, e2, e3, e4, e5⟩
    · exact .inl z
    · exact .inr ⟨T, oT, ts, e1, hidn e2, e3, (sb.2 T (neB T e2)).trans e4, e5⟩
  have b2 : Tb a D t h2 := by
    obtain ⟨T, q⟩ := b1
    exact ⟨T, (sb.2 a (neB a a1.ne)).trans q⟩
  have third2 : ∀ b o, (PySem.W.hideAll s.heap [C]).get? b = some o → b ∉ frs X.stack → (∃ o', (PySem.W.hideAll B [C]).get? b = some o') ∧ (H b = none → (PySem.W.hideAll B [C]).get? b = some o) := fun b o q nf => by
    obtain ⟨n, q'⟩ := hidC q
    obtain ⟨⟨o', e1⟩, e2⟩ := third b o q' nf
    exact ⟨⟨o', PySem.W.hideAll_get _ e1 (by simpa using n)⟩, fun z => PySem.W.hideAll_get _ (e2 z) (by simpa using n)⟩
  have hok2 : HOk X.prog X.w H' (PySem.W.hideAll B [C]) := fun b u q =>
    (hok b u q).stay (fun c v hc qc => PySem.W.hideAll_get _ qc (by
      rcases hc with z | z
      · rw [z]; intro y; rw [List.mem_singleton.mp y, HC] at q; cases q
      · intro y; rw [List.mem_singleton.mp y, HC] at z; cases z)) (fun _ z => z) fun _ _ z => z
  have I2 : Inv X pins σ H { s with heap := PySem.W.hideAll s.heap [C] } := I.turned (t' := s.toks) (it := C) (fun b o n q => PySem.W.hideAll_get _ q (by simpa using n)) fC.1 fC.2.1 fC.2.2.2.1 fC.2.2.2.2.1 fC.2.2.2.2.2
  have un2 : Un (frs X.stack) [] H H' (PySem.W.hideAll s.heap [C]) h2 := by
    refine ⟨fun b o q n nf _ => a2.st b o ((third2 b o q nf).2 n), fun b o q n m' _ => ?_, fun b o q n x => un.free b o (hidC q).2 n x, fun b o q _ => ?_, un.tups, un.frzs, un.tbls⟩
    · obtain ⟨sl2, q2⟩ := un.slot b _ (hidC q).2 n m' (by simp)
      obtain ⟨_, o3, q3, nf⟩ := air.ff.mem m'
      rw [q2] at q3
      cases q3
      obtain ⟨sl3, q4⟩ := u1 b _ q2 nf
      exact ⟨sl3, (sb.2 b (hidC q).1).trans q4⟩
    · by_cases m' : b ∈ frs X.stack
      · obtain ⟨_, o3, q3, nf⟩ := air.ff.mem m'
        obtain ⟨sl3, q4⟩ := u1 b _ q3 nf
        exact ⟨_, (sb.2 b (hidC q).1).trans q4⟩
      · obtain ⟨o2, q2⟩ := (third2 b o q m').1
        exact ⟨o2, a2.st b o2 q2⟩
  refine air_pass (s := { s' with heap := h2 }) a2 b2 fun h3 a3 u3 => ?_
  exact hp pins σ H _ _ _ I2 (fly_same (s' := { s' with heap := h2 }) os bare un2 hok2 third2 a2.ff a3 u3 (hidn na) na' he)
section
variable {X : Cx} {scope : Scope} {own cap : List Str} {ix : List Nat} {tg iter elt : Expr} {ifs : List Expr} {wi : TI} {g : TG} {tt : TT} {te : TE} {pos : Pos}
theorem comp_coreX {pins : List (Addr × Obj)} {σ : St} {H2 : Hp} {s2 : Shared} {it : Addr} {fp : List Addr} {tn : Nat → Heap → Prop} {J : It} {Q : VK} {RR : Value → Addr → Result → Shared → Prop} {E : Value → Shared → Prop}
    {E0 : XK} (B : BlkOk X scope own cap ix) (hc : X.calm = true)
    (hb : ∀ C fp s H, Passes (CXF X.prog X.w) (cxCX X E0 scope C (own ++ cap) fp s H) E0 → PG (cxCX X E0 scope C (own ++ cap) fp s H) tg g ∧ PIfs (cxCX X E0 scope C (own ++ cap) fp s H) ifs tt ∧ PE (cxCX X E0 scope C (own ++ cap) fp s H) elt te)
    (I2 : Inv X pins σ H2 s2) (T : Turn X.prog X.w X.K tg J fp it tn) (st2 : tn 0 s2.heap) (f2 : ∀ b ∈ fp, FpOk X pins H2 b)
    (q : ∀ acc, H2 acc = none → tCompN g tt te J acc (blkσ own.length ix σ) H2 Q)
    (hRR : ∀ D C H' s' m, Inv X pins σ H' s' → Q (.ref D) H' → s'.heap.Ns C m → FpOk X pins H' C → RR (.ref D) C (.ok .next) s')
    (hRX : ∀ D C cenv e s', cenv.frame = X.env.frame → XEC X E0 C e s' → notedBy (model X.prog X.w) X.A cenv (fun x s' => RR (.ref D) C (.error x) s') e s') :
    wpAny (model X.prog X.w) X.A (newList []) (fun acc s₃ => wpAny (model X.prog X.w) X.A (newFunctionEnv scope X.env.globals (cloF X.env scope.names []) [] X.env.qual none .none (some X.env)) (fun cenv s₄ =>
      codeAny (model X.prog X.w) X.A (.compStart (.ListComp elt [⟨tg, iter, ifs, 0⟩] scope pos) 0 (.ref it) acc { cenv with scope := relabel scope X.env }) (RR acc cenv.locals) s₄) E s₃) E s2 := by
  refine wpAny_newObj_type (newEnv_comp ?_)
  have I3 : Inv X pins σ (upd H2 s2.heap.objs.size (.lst [])) { s2 with heap := s2.heap.push { cls := .type "list", dict := none, data := .seq ([] : List Value).toArray } } := I2.lnew (its := []) (ys := []) (t' := s2.toks) .nil (Nat.zero_le _)
  obtain ⟨W, ⟨m0, w0⟩, turn⟩ := q s2.heap.objs.size I2.fresh
  generalize hD : s2.heap.objs.size = D at I3 w0 turn ⊢
  have hlt : ∀ b ∈ fp, b < D := fun b hbm => by
    obtain ⟨o, e, _⟩ := T.obj 0 _ st2 b hbm
    rw [← hD]; exact Heap.lt_size e
  generalize hs3 : ({ s2 with heap := s2.heap.push { cls := .type "list", dict := none, data := .seq ([] : List Value).toArray } } : Shared) = s3 at I3 ⊢
  have keep3 : ∀ b o, s2.heap.get? b = some o → s3.heap.get? b = some o := fun b o e => by rw [← hs3]; exact Heap.get?_push_of_some _ e
  have f3 : ∀ b ∈ fp, FpOk X pins (upd H2 D (.lst [])) b := fun b hbm => ⟨by rw [upd_ne (Nat.ne_of_lt (hlt b hbm))]; exact (f2 b hbm).1, (f2 b hbm).2⟩
  have o3 : ∀ b ∈ fp, ∃ o, s3.heap.get? b = some o := fun b hbm => let ⟨o, e, _⟩ := T.obj 0 _ st2 b hbm; ⟨o, keep3 b o e⟩
  have I4 := (I3.block B f3 o3).xeX (E0 := E0)
  have st4 : tn 0 (pushCells (s3.heap.push { cls := .type "dict", data := .dict #[] }) scope.names) := T.keep 0 _ _ st2 fun b _ o e => pushCells_keeps _ _ b o (Heap.get?_push_of_some _ (keep3 b o e))
  have pass : Passes (CXF X.prog X.w) (cxCX X E0 scope s3.heap.objs.size (own ++ cap) fp s3 (upd H2 D (.lst []))) E0 := fun pins' σ' H' s' e s'' I' h' => by
    have J' : Inv X pins σ H' s' := I3.call' (ch := fp) I'.os I'.base I'.hok I'.bare fun b hbm => ⟨(f3 b hbm).2.2.2.1, (f3 b hbm).2.1, (f3 b hbm).2.2.2.2.1, (f3 b hbm).2.2.2.2.2⟩
    obtain ⟨m', hn', _⟩ := I'.loc
    exact ⟨pins, σ, H', s', m', J', I3.fpOk (Nat.le_refl _) I'.free, hn', h'⟩
  obtain ⟨hg, hif, he⟩ := hb s3.heap.objs.size fp s3 (upd H2 D (.lst [])) pass
  generalize hX' : cxCX X E0 scope s3.heap.objs.size (own ++ cap) fp s3 (upd H2 D (.lst [])) = X' at I4 hg hif he
  have eP : X'.prog = X.prog := by rw [← hX']; rfl
  have eW : X'.w = X.w := by rw [← hX']; rfl
  have eK : X'.K = X.K := by rw [← hX']; rfl
  have eA : X'.A = X.A := by rw [← hX']; rfl
  have eE : X'.env = compE scope s3.heap.objs.size X.env := by rw [← hX']; rfl
  have ex : X'.xe = XEC X E0 s3.heap.objs.size := by rw [← hX']; rfl
  have hc' : X'.calm = true := by rw [← hX']; exact hc
  have stat : ∀ {H' : Hp}, (∀ b ∈ fp, H' b = none) → ∀ b ∈ fp, FpOk X' [] H' b := fun hn b hbm => by
    subst hX'
    exact ⟨hn b hbm, (I4.ok.exf b hbm).1, I4.ok.exfs b hbm, .inl hbm, (I4.ok.exf b hbm).2, fun p hp => absurd (show p ∈ ([] : List (Addr × Obj)) from hp) (by simp)⟩
  have loop : ∀ s4 : Shared, s4 = { s3 with heap := pushCells (s3.heap.push { cls := .type "dict", data := .dict #[] }) scope.names } →
      codeAny (model X.prog X.w) X.A (.compLoop (.ListComp elt [⟨tg, iter, ifs, 0⟩] scope pos) 0 (.ref it) (.ref D) (compE scope s3.heap.objs.size X.env)) (RR (.ref D) s3.heap.objs.size) s4 := by
    rintro s4 rfl
    refine comp_loopX (XE := XEC X E0 s3.heap.objs.size) (fun n s' => ∃ i σ' H', Inv X' [] σ' H' s' ∧ tn i s'.heap ∧ (∀ b ∈ fp, H' b = none) ∧ W i n σ' H') (fun x s' h => hRX D _ (compE scope s3.heap.objs.size X.env) x s' rfl h) ?_ m0 ⟨0, _, _, I4, st4, fun b hbm => (f3 b hbm).1, w0⟩
    rintro n s5 ⟨i, σ5, H5, I5, st5, fr5, w5⟩
    rcases turn i n σ5 H5 w5 with ⟨stop, qn⟩ | ⟨go, N, hN, step⟩
    · have := T.done X' eP eW eK hc' i [] s5 σ5 H5 (XEC X E0 s3.heap.objs.size) I5 (stat fr5) st5 stop
      rw [eA] at this
      refine thn this fun r s6 ⟨hr, I6⟩ => ?_
      subst hr
      subst hX'
      have J6 : Inv X pins σ H5 s6 := I3.call' (ch := fp) I6.os I6.base I6.hok I6.bare fun b hbm => ⟨(f3 b hbm).2.2.2.1, (f3 b hbm).2.1, (f3 b hbm).2.2.2.2.1, (f3 b hbm).2.2.2.2.2⟩
      obtain ⟨m, hn, _⟩ := I6.loc
      exact hRR D _ H5 s6 m J6 qn hn (I3.fpOk (Nat.le_refl _) I6.free)
    · have := T.item X' eP eW eK hc' i [] s5 σ5 H5 (XEC X E0 s3.heap.objs.size) I5 (stat fr5) st5 go
      rw [eA] at this
      refine thn this fun r s6 ⟨u, hr, h6⟩ => ?_
      subst hr
      refine thn h6 fun _ s7 ⟨x, H7, I7, r7, y7, st7, fr7⟩ => ?_
      have I7' := I7.pinned (stat fr7) (T.obj _ _ st7)
      have a1 := hg _ s7 σ5 H7 x u _ I7' r7 (step x H7 y7)
      rw [eP, eW, eA, eE, ex] at a1
      refine thn a1 fun _ s8 ⟨σ8, H8, I8, q8⟩ => ?_
      have a2 := hif _ s8 σ8 H8 _ I8 q8
      rw [eP, eW, eA, eE, ex] at a2
      refine thn a2 fun b s9 ⟨H9, I9, q9⟩ => ?_
      have again : ∀ {s' : Shared} {σ' : St} {H' : Hp}, Inv X' ([] ++ pinsAt fp s7.heap) σ' H' s' → N σ' H' → ∃ m, m < n ∧ ∃ i σ' H', Inv X' [] σ' H' s' ∧ tn i s'.heap ∧ (∀ b ∈ fp, H' b = none) ∧ W i m σ' H' := fun {s' σ' H'} I' n' => by
        obtain ⟨m', hm, w'⟩ := hN σ' H' n'
        refine ⟨m', hm, i + 1, σ', H', I'.unpinned, T.keep _ _ _ st7 fun b hbm o e => (I'.pin (b, o) (List.mem_append_right _ (List.mem_append_right _ (mem_pinsAt hbm e)))).1, fun b hbm => ?_, w'⟩
        obtain ⟨o, e, d⟩ := T.obj _ _ st7 b hbm
        exact (I'.pin (b, o) (List.mem_append_right _ (List.mem_append_right _ (mem_pinsAt hbm e)))).2.1
      cases b with
      | false => exact again I9 q9
      | true =>
        rw [if_pos rfl] at q9 ⊢
        have a3 := he _ s9 σ8 H9 _ I9 q9
        rw [eP, eW, eA, eE, ex] at a3
        refine thn a3 fun yv s10 ⟨y, H10, I10, r10, ys, hys, hz, q10⟩ => ?_
        have a4 := mt_append (X := X') _ s10 σ8 H10 (.ref D) [y] (.ref D) [yv] (fun v H' => v = .non ∧ N σ8 H') I10 rfl (.cons r10 .nil) ⟨D, ys, y, rfl, rfl, hys, hz, rfl, q10⟩
        rw [eP, eW, eA, ex] at a4
        refine thn a4 fun _ s11 ⟨_, H11, I11, _, _, q11⟩ => again I11 q11
  exact codeAny_compStart_list (loop _ rfl) (T.self X.A 0 _ _ _ st4 (loop _ rfl))

theorem pe_compX {E0 : XK} {out : List Env} {L : Addr} (hst : X.stack = X.env :: out) (hfr : X.env.frame = some L) (hpx : Passes (CXF X.prog X.w) X E0) (B : BlkOk X scope own cap ix) (hc : X.calm = true) (hi : PI X tg iter wi)
    (hb : ∀ C fp s H, Passes (CXF X.prog X.w) (cxCX X E0 scope C (own ++ cap) fp s H) E0 → PG (cxCX X E0 scope C (own ++ cap) fp s H) tg g ∧ PIfs (cxCX X E0 scope C (own ++ cap) fp s H) ifs tt ∧ PE (cxCX X E0 scope C (own ++ cap) fp s H) elt te)
    (hs : ∀ x, foldedSetIterable iter X.env x = pure x := by intro _; rfl) : PE X (.ListComp elt [⟨tg, iter, ifs, 0⟩] scope pos) (tComp wi g tt te own.length ix) := by
  intro pins s σ H Q I h
  rw [eval_ListComp]
  have has : ∀ x ∈ scope.names, x.2 = .free → (X.env.cells.lookup x.1).isSome = true := fun x hx hk => by
    obtain ⟨c, e⟩ := I.ok.has x.1 (B.frees x hx hk)
    rw [e]; rfl
  refine wpAny_comprehension_free (use := none) rfl hs (closureFor_cells has) B.kind B.names ?_
  show wpAny _ _ (eval iter X.env) _ _ s
  refine thn (hi pins s σ H _ I h) fun v s1 h1 => thn h1 fun itv s2 h2 => ?_
  obtain ⟨it, fp, tn, J, H2, e, I2, T, st2, f2, q⟩ := h2
  subst e
  refine comp_coreX (RR := fun acc C => compPost (model X.prog X.w) X.A X.xe none (EP X pins σ Q) acc C) B hc hb I2 T st2 f2 q ?_ (fun D C cenv e s' hcf h => xec_out hst hfr hpx hcf h)
  intro D C H' s' m I' q' hn fC
  refine ⟨m, hn, fun h' hsb => ⟨.ref D, H', ?_, rfl, q'⟩⟩
  exact I'.turned (t' := s'.toks) (it := C) (fun b o hbC e => (hsb.2 b hbC).trans e) fC.1 fC.2.1 fC.2.2.2.1 fC.2.2.2.2.1 fC.2.2.2.2.2

end
end L2

set_option Elab.async false
set_option linter.all false
set_option maxRecDepth 100000
set_option maxHeartbeats 2000000
namespace PySem
/-! ### zip of three tuples -/
section
variable {prog : Program} {w : World} {A : Around} {E : Value → Shared → Prop} {s : Shared} {z TI TO i1 i2 i3 l1 l2 l3 : Addr} {k1 k2 k3 : Nat} {xs ys us : Array Value} {x y u a b c : Value}
end
end PySem
namespace L2
open PySem PySem.Spec PyProof.Rows
section
variable {X : Cx}
end
end L2

set_option Elab.async false
set_option linter.all false
set_option maxRecDepth 100000
set_option maxHeartbeats 2000000
namespace L2
open PySem PySem.Spec PyProof.Rows KG
section
variable {X : Cx}
end
end L2

set_option Elab.async false
set_option linter.all false
set_option maxRecDepth 100000
set_option maxHeartbeats 4000000
namespace KM
open PySem L2 KG EX
/-! ### gains -/
end KM

set_option Elab.async false
set_option linter.all false
set_option maxRecDepth 100000
set_option maxHeartbeats 4000000
namespace KM
open PySem L2 KG EX
/-! ### rows of fractions as lists, changed one by one -/
end KM

set_option Elab.async false
set_option linter.all false
set_option maxRecDepth 100000
set_option maxHeartbeats 4000000
namespace KM
open PySem L2 KG EX
/-! ### a free good more -/
end KM

set_option Elab.async false
set_option linter.all false
set_option maxRecDepth 100000
set_option maxHeartbeats 4000000
namespace KM
open PySem L2 KG EX
/-! ### a market made so that its prices and a dealing are known -/
end KM

set_option Elab.async false
set_option linter.all false
set_option maxRecDepth 100000
set_option maxHeartbeats 2000000
namespace PySem
/-! ### zip of two lists -/
section
variable {prog : Program} {w : World} {A : Around} {E : Value → Shared → Prop} {s : Shared} {z TI TO i1 i2 l1 l2 : Addr} {k1 k2 : Nat} {xs ys : Array Value} {x y a b : Value}
end
end PySem
namespace L2
open PySem PySem.Spec PyProof.Rows
section
variable {X : Cx}
end
end L2

set_option Elab.async false
set_option linter.all false
set_option maxRecDepth 100000
set_option maxHeartbeats 4000000
namespace KM
open PySem L2 KG EX
end KM

set_option Elab.async false
set_option linter.all false
set_option maxRecDepth 100000
set_option maxHeartbeats 4000000
namespace MI
open PySem L2 KG EX KM
/-! ### a mirror of the heap: things that never change are their data, lists that are changed are cells of a store -/
mutual
inductive TrG (H : Hp) : V → PyData → Prop
  | non : TrG H .non .none
  | bl (c : Bool) : TrG H (.bl c) (.bool c)
  | int (i : Int) : TrG H (.int i) (.int i)
  | str (x : Str) (ok : (PyData.str x).canLay0 = true) : TrG H (.str x) (.str x)
  | lst {a : Addr} {xs : List V} {ds : List PyData} : H a = some (.lst xs) → TrGs H xs ds → TrG H (.ref a) (.list ds)
  | tup {a : Addr} {xs : List V} {ds : List PyData} : H a = some (.tup xs) → TrGs H xs ds → TrG H (.ref a) (.tuple ds)
inductive TrGs (H : Hp) : List V → List PyData → Prop
  | nil : TrGs H [] []
  | cons {x : V} {xs : List V} {d : PyData} {ds : List PyData} : TrG H x d → TrGs H xs ds → TrGs H (x :: xs) (d :: ds)
end
mutual
theorem TrG.stay {H H' : Hp} (k : Stay H H') : ∀ {v : V} {d : PyData}, TrG H v d → TrG H' v d
  | _, _, .non => .non
  | _, _, .bl c => .bl c
  | _, _, .int i => .int i
  | _, _, .str x o => .str x o
  | _, _, .lst h t => .lst (k _ _ h) (TrGs.stay k t)
  | _, _, .tup h t => .tup (k _ _ h) (TrGs.stay k t)
theorem TrGs.stay {H H' : Hp} (k : Stay H H') : ∀ {vs : List V} {ds : List PyData}, TrGs H vs ds → TrGs H' vs ds
  | _, _, .nil => .nil
  | _, _, .cons h t => .cons (TrG.stay k h) (TrGs.stay k t)
end
mutual
theorem TrG.dt {K : PySem.W.Frag} {H : Hp} : ∀ {v : V} {d : PyData}, TrG H v d → DtV K H v d
  | _, _, .non => .non
  | _, _, .bl c => .bl c
  | _, _, .int i => .int i
  | _, _, .str x o => .str x o
  | _, _, .lst h t => .lst (SqL.of h) (TrGs.dt t)
  | _, _, .tup h t => .tup (SqT.of h) (TrGs.dt t)
theorem TrGs.dt {K : PySem.W.Frag} {H : Hp} : ∀ {vs : List V} {ds : List PyData}, TrGs H vs ds → DtVs K H vs ds
  | _, _, .nil => .nil
  | _, _, .cons h t => .cons (TrG.dt h) (TrGs.dt t)
end
theorem TrGs.len {H : Hp} : ∀ {vs : List V} {ds : List PyData}, TrGs H vs ds → vs.length = ds.length
  | _, _, .nil => rfl
  | _, _, .cons _ t => by simp [TrGs.len t]
theorem TrGs.app {H : Hp} : ∀ {vs ws : List V} {ds es : List PyData}, TrGs H vs ds → TrGs H ws es → TrGs H (vs ++ ws) (ds ++ es)
  | _, _, _, _, .nil, g => g
  | _, _, _, _, .cons h t, g => .cons h (TrGs.app t g)
theorem TrGs.get {H : Hp} : ∀ {vs : List V} {ds : List PyData} {i : Nat} {d : PyData}, TrGs H vs ds → ds[i]? = some d → ∃ x, vs[i]? = some x ∧ TrG H x d
  | _, _, 0, _, .cons h t, e => ⟨_, rfl, by rw [← Option.some.inj e]; exact h⟩
  | _, _, i + 1, x, .cons h t, e => by
    obtain ⟨d, h1, h2⟩ := TrGs.get (i := i) (d := x) t (by simpa using e)
    exact ⟨d, by simpa using h1, h2⟩
mutual
def noL : PyData → Bool
  | .list _ => false
  | .dict _ => false
  | .tuple ds => noLs ds
  | _ => true
def noLs : List PyData → Bool
  | [] => true
  | d :: ds => noL d && noLs ds
end
inductive AV where
  | im (d : PyData) | own (k : Nat) | bag (j : Nat) | scr (ns : List Int)
abbrev Sto := List (Option (List AV))
abbrev Slt := List (Option AV)
structure Wd where
  bags : List Addr
  ads : List Addr
  hid : List (Addr × HO)
def Hid (w : Wd) (O : Sto) (a : Addr) : Prop := a ∈ w.bags ∨ (∃ o, (a, o) ∈ w.hid) ∨ ∃ (k : Nat) (c : List AV), w.ads[k]? = some a ∧ O[k]? = some (some c)
open Classical in
noncomputable def G (w : Wd) (O : Sto) (H : Hp) : Hp := fun a => if Hid w O a then none else H a
theorem G_of {w : Wd} {O : Sto} {H : Hp} {a : Addr} (h : ¬ Hid w O a) : G w O H a = H a := if_neg h
theorem G_in {w : Wd} {O : Sto} {H : Hp} {a : Addr} {o : HO} (h : G w O H a = some o) : H a = some o ∧ ¬ Hid w O a := by
  unfold G at h
  split at h
  · cases h
  · exact ⟨h, by assumption⟩
def AVr (K : PySem.W.Frag) (w : Wd) (g : Hp) (v : V) : AV → Prop
  | .im d => TrG g v d
  | .own k => ∃ a, w.ads[k]? = some a ∧ v = .ref a
  | .bag j => ∃ a, w.bags[j]? = some a ∧ v = .ref a
  | .scr ns => ∃ a, v = .ref a ∧ SqL K g a (ns.map V.int)
def AVrs (K : PySem.W.Frag) (w : Wd) (g : Hp) (vs : List V) (xs : List AV) : Prop := vs.length = xs.length ∧ ∀ (i : Nat) v x, vs[i]? = some v → xs[i]? = some x → AVr K w g v x
structure RelO (K : PySem.W.Frag) (w : Wd) (O : Sto) (H : Hp) : Prop where
  len : w.ads.length = O.length
  nd : w.ads.Nodup
  al : ∀ a ∈ w.ads, ∃ o, H a = some o
  nb : ∀ a ∈ w.bags, a ∉ w.ads
  hn : (w.hid.map (·.1)).Nodup
  nh : ∀ p ∈ w.hid, p.1 ∉ w.ads ∧ p.1 ∉ w.bags ∧ H p.1 = some p.2 ∧ ∀ xs, p.2 ≠ .tup xs
  bg : ∀ a ∈ w.bags, Bag H a
  cel : ∀ (k : Nat) c, O[k]? = some (some c) → ∃ a vs, w.ads[k]? = some a ∧ H a = some (.lst vs) ∧ AVrs K w (G w O H) vs c
structure Ex0 (w : Wd) (O : Sto) (H : Hp) (w' : Wd) (O' : Sto) (H' : Hp) : Prop where
  bs : ∃ t, w'.bags = w.bags ++ t
  ads : ∃ t, w'.ads = w.ads ++ t
  hs : ∃ t, w'.hid = t ++ w.hid
  stay : Stay (G w O H) (G w' O' H')
structure Ext (w : Wd) (O : Sto) (H : Hp) (w' : Wd) (O' : Sto) (H' : Hp) : Prop where
  ex : Ex0 w O H w' O' H'
  hid : w'.hid = w.hid
theorem Ex0.refl (w : Wd) (O : Sto) (H : Hp) : Ex0 w O H w O H := ⟨⟨[], by simp⟩, ⟨[], by simp⟩, ⟨[], by simp⟩, Stay.refl _⟩
theorem Ex0.trans {w w1 w2 : Wd} {O O1 O2 : Sto} {H H1 H2 : Hp} (a : Ex0 w O H w1 O1 H1) (b : Ex0 w1 O1 H1 w2 O2 H2) : Ex0 w O H w2 O2 H2 := by
  obtain ⟨t, ht⟩ := a.ads
  obtain ⟨u, hu⟩ := b.ads
  obtain ⟨t', ht'⟩ := a.hs
  obtain ⟨u', hu'⟩ := b.hs
  obtain ⟨t2, ht2⟩ := a.bs
  obtain ⟨u2, hu2⟩ := b.bs
  exact ⟨⟨t2 ++ u2, by rw [hu2, ht2, List.append_assoc]⟩, ⟨t ++ u, by rw [hu, ht, List.append_assoc]⟩, ⟨u' ++ t', by rw [hu', ht', List.append_assoc]⟩, a.stay.trans b.stay⟩
theorem Ext.refl (w : Wd) (O : Sto) (H : Hp) : Ext w O H w O H := ⟨Ex0.refl _ _ _, rfl⟩
theorem Ext.trans {w w1 w2 : Wd} {O O1 O2 : Sto} {H H1 H2 : Hp} (a : Ext w O H w1 O1 H1) (b : Ext w1 O1 H1 w2 O2 H2) : Ext w O H w2 O2 H2 := ⟨a.ex.trans b.ex, b.hid.trans a.hid⟩
theorem Ex0.at {w w1 : Wd} {O O1 : Sto} {H H1 : Hp} (e : Ex0 w O H w1 O1 H1) {k : Nat} {a : Addr} (h : w.ads[k]? = some a) : w1.ads[k]? = some a := by
  obtain ⟨t, ht⟩ := e.ads
  rw [ht, List.getElem?_append_left (List.getElem?_eq_some_iff.mp h).1]; exact h
theorem AVr.ex {K : PySem.W.Frag} {w w1 : Wd} {O O1 : Sto} {H H1 : Hp} (e : Ex0 w O H w1 O1 H1) {v : V} : ∀ {x : AV}, AVr K w (G w O H) v x → AVr K w1 (G w1 O1 H1) v x
  | .im d, h => by
    exact TrG.stay e.stay h
  | .own k, h => by
    obtain ⟨a, h1, h2⟩ := h
    exact ⟨a, e.at h1, h2⟩
  | .bag j, h => by
    obtain ⟨a, h1, h2⟩ := h
    obtain ⟨t, ht⟩ := e.bs
    exact ⟨a, by rw [ht, List.getElem?_append_left (List.getElem?_eq_some_iff.mp h1).1]; exact h1, h2⟩
  | .scr ns, h => by
    obtain ⟨a, h1, h2⟩ := h
    exact ⟨a, h1, KG.SqL.stay h2 e.stay⟩
theorem AVrs.ex {K : PySem.W.Frag} {w w1 : Wd} {O O1 : Sto} {H H1 : Hp} (e : Ex0 w O H w1 O1 H1) {vs : List V} {xs : List AV} (h : AVrs K w (G w O H) vs xs) : AVrs K w1 (G w1 O1 H1) vs xs := ⟨h.1, fun i v x h1 h2 => (h.2 i v x h1 h2).ex e⟩
theorem AVrs.nil {K : PySem.W.Frag} {w : Wd} {g : Hp} : AVrs K w g [] [] := ⟨rfl, fun i v x h => by simp at h⟩
theorem AVrs.cons {K : PySem.W.Frag} {w : Wd} {g : Hp} {v : V} {x : AV} {vs : List V} {xs : List AV} (h : AVr K w g v x) (hs : AVrs K w g vs xs) : AVrs K w g (v :: vs) (x :: xs) := by
  refine ⟨by simp [hs.1], fun i u y h1 h2 => ?_⟩
  cases i with
  | zero => simp at h1 h2; rw [← h1, ← h2]; exact h
  | succ i => exact hs.2 i u y (by simpa using h1) (by simpa using h2)
theorem AVrs.uncons {K : PySem.W.Frag} {w : Wd} {g : Hp} {vs : List V} {x : AV} {xs : List AV} (h : AVrs K w g vs (x :: xs)) : ∃ v us, vs = v :: us ∧ AVr K w g v x ∧ AVrs K w g us xs := by
  cases vs with
  | nil => exact absurd h.1 (by simp)
  | cons v us =>
    refine ⟨v, us, rfl, h.2 0 v x rfl rfl, by have := h.1; simp at this; exact this, fun i u y h1 h2 => h.2 (i + 1) u y (by simpa using h1) (by simpa using h2)⟩
theorem AVrs.unnil {K : PySem.W.Frag} {w : Wd} {g : Hp} {vs : List V} (h : AVrs K w g vs []) : vs = [] := List.length_eq_zero_iff.mp h.1
theorem AVrs.at {K : PySem.W.Frag} {w : Wd} {g : Hp} {vs : List V} {xs : List AV} {i : Nat} {x : AV} (h : AVrs K w g vs xs) (hx : xs[i]? = some x) : ∃ v, vs[i]? = some v ∧ AVr K w g v x := by
  have hl := (List.getElem?_eq_some_iff.mp hx).1
  have hv : i < vs.length := by rw [h.1]; exact hl
  exact ⟨vs[i], List.getElem?_eq_getElem hv, h.2 i _ x (List.getElem?_eq_getElem hv) hx⟩
theorem TrGs.avs {K : PySem.W.Frag} {w : Wd} {g : Hp} : ∀ {vs : List V} {ds : List PyData}, TrGs g vs ds → AVrs K w g vs (ds.map .im)
  | _, _, .nil => AVrs.nil
  | _, _, .cons h t => AVrs.cons h (TrGs.avs t)
theorem AVrs.tr {K : PySem.W.Frag} {w : Wd} {g : Hp} : ∀ {ds : List PyData} {vs : List V}, AVrs K w g vs (ds.map .im) → TrGs g vs ds
  | [], _, h => by rw [AVrs.unnil h]; exact .nil
  | d :: ds, _, h => by
    obtain ⟨v, us, rfl, h1, h2⟩ := AVrs.uncons h
    exact .cons h1 (AVrs.tr h2)
/-! slots -/
def Slots (K : PySem.W.Frag) (w : Wd) (g : Hp) (σ : St) (sl : Slt) : Prop := σ.length = sl.length ∧ ∀ (i : Nat) x, sl[i]? = some (some x) → ∃ v, σ[i]? = some (some v) ∧ AVr K w g v x
theorem Slots.ex {K : PySem.W.Frag} {w w1 : Wd} {O O1 : Sto} {H H1 : Hp} (e : Ex0 w O H w1 O1 H1) {σ : St} {sl : Slt} (h : Slots K w (G w O H) σ sl) : Slots K w1 (G w1 O1 H1) σ sl :=
  ⟨h.1, fun i x hx => by obtain ⟨v, h1, h2⟩ := h.2 i x hx; exact ⟨v, h1, h2.ex e⟩⟩
theorem Slots.set {K : PySem.W.Frag} {w : Wd} {g : Hp} {σ : St} {sl : Slt} (h : Slots K w g σ sl) {v : V} {x : AV} (hx : AVr K w g v x) (j : Nat) : Slots K w g (σ.set j (some v)) (sl.set j (some x)) := by
  refine ⟨by simp [h.1], fun i y h2 => ?_⟩
  by_cases e : j = i
  · subst e
    have hl := (List.getElem?_eq_some_iff.mp h2).1
    rw [List.length_set] at hl
    rw [List.getElem?_set_self hl] at h2
    have hy : x = y := by injection (Option.some.inj h2)
    exact ⟨v, by rw [List.getElem?_set_self (by rw [h.1]; exact hl)], hy ▸ hx⟩
  · rw [List.getElem?_set_ne e] at h2
    rw [List.getElem?_set_ne e]
    exact h.2 i y h2
theorem Slots.forget {K : PySem.W.Frag} {w : Wd} {g : Hp} {σ : St} {sl : Slt} (h : Slots K w g σ sl) {o : Option V} (j : Nat) : Slots K w g (σ.set j o) (sl.set j none) := by
  refine ⟨by simp [h.1], fun i y h2 => ?_⟩
  by_cases e : j = i
  · subst e
    have hl := (List.getElem?_eq_some_iff.mp h2).1
    rw [List.length_set] at hl
    rw [List.getElem?_set_self hl] at h2
    cases Option.some.inj h2
  · rw [List.getElem?_set_ne e] at h2
    rw [List.getElem?_set_ne e]
    exact h.2 i y h2
/-! the slots of a comprehension's block -/
def blkS (own : Nat) (ix : List Nat) (sl : Slt) : Slt := List.replicate own none ++ ix.map fun i => (sl[i]?).getD none
theorem Slots.blk {K : PySem.W.Frag} {w : Wd} {g : Hp} {σ : St} {sl : Slt} (h : Slots K w g σ sl) (own : Nat) (ix : List Nat) : Slots K w g (blkσ own ix σ) (blkS own ix sl) := by
  refine ⟨by simp [blkσ, blkS], fun i x hx => ?_⟩
  unfold blkS at hx
  unfold blkσ
  rcases Nat.lt_or_ge i own with y | y
  · rw [List.getElem?_append_left (by simpa using y)] at hx
    rw [List.getElem?_replicate, if_pos y] at hx
    cases Option.some.inj hx
  · rw [List.getElem?_append_right (by simpa using y)] at hx ⊢
    rw [List.length_replicate, List.getElem?_map] at hx ⊢
    cases hj : ix[i - own]? with
    | none => rw [hj] at hx; cases hx
    | some j =>
      rw [hj] at hx
      have hx' : (sl[j]?).getD none = some x := Option.some.inj hx
      have : sl[j]? = some (some x) := by
        cases hs : sl[j]? with
        | none => rw [hs] at hx'; cases hx'
        | some o => rw [hs] at hx'; exact congrArg some hx'
      obtain ⟨v, h1, h2⟩ := h.2 j x this
      refine ⟨v, ?_, h2⟩
      show some ((σ[j]?).getD none) = _
      rw [h1]; rfl
/-! what may be raised -/
def Zx (K : PySem.W.Frag) (QX : Addr → Sto → Prop) (E : XK) (w : Wd) (O : Sto) (H : Hp) : Prop := ∀ c O' w' H', QX c O' → Ex0 w O H w' O' H' → RelO K w' O' H' → E (.ref c) none H'
structure Cfg (K : PySem.W.Frag) (QX : Addr → Sto → Prop) (E : XK) (w : Wd) (O : Sto) (H : Hp) (σ : St) (sl : Slt) : Prop where
  ro : RelO K w O H
  so : Slots K w (G w O H) σ sl
  zx : Zx K QX E w O H
theorem Cfg.ex {K : PySem.W.Frag} {QX : Addr → Sto → Prop} {E : XK} {w w1 : Wd} {O O1 : Sto} {H H1 : Hp} {σ : St} {sl : Slt} (c : Cfg K QX E w O H σ sl) (e : Ex0 w O H w1 O1 H1) (r : RelO K w1 O1 H1) : Cfg K QX E w1 O1 H1 σ sl :=
  ⟨r, c.so.ex e, fun k O' w' H' q e' r' => c.zx k O' w' H' q (e.trans e') r'⟩
/-! mirrored terms -/
abbrev ME := Slt → Sto → (AV → Sto → Prop) → Prop
abbrev MT := Slt → Sto → (Bool → Sto → Prop) → Prop
abbrev MA := Slt → Sto → (List AV → Sto → Prop) → Prop
structure MEnds where
  nx : Slt → Sto → Prop
  rt : AV → Sto → Prop
  bk : Slt → Sto → Prop := fun _ _ => False
  ct : Slt → Sto → Prop := fun _ _ => False
abbrev MS := MEnds → Slt → Sto → Prop
section
variable (K : PySem.W.Frag) (QX : Addr → Sto → Prop) (E : XK)
def teM (M : ME) : TE := fun σ H Q => ∃ w O sl Q0, Cfg K QX E w O H σ sl ∧ M sl O Q0 ∧ ∀ x O' v w' H', Q0 x O' → Ext w O H w' O' H' → RelO K w' O' H' → AVr K w' (G w' O' H') v x → Q v H'
def ttM (M : MT) : TT := fun σ H Q => ∃ w O sl Q0, Cfg K QX E w O H σ sl ∧ M sl O Q0 ∧ ∀ c O' w' H', Q0 c O' → Ext w O H w' O' H' → RelO K w' O' H' → Q c H'
def taM (M : MA) : TA := fun σ H Q => ∃ w O sl Q0, Cfg K QX E w O H σ sl ∧ M sl O Q0 ∧ ∀ xs O' vs w' H', Q0 xs O' → Ext w O H w' O' H' → RelO K w' O' H' → AVrs K w' (G w' O' H') vs xs → Q vs H'
def tsM (M : MS) : TS := fun D σ H => ∃ w O sl D0, Cfg K QX E w O H σ sl ∧ M D0 sl O ∧
  (∀ sl' O' w' H' σ', D0.nx sl' O' → Cfg K QX E w' O' H' σ' sl' → Ext w O H w' O' H' → D.nx σ' H') ∧
  (∀ sl' O' w' H' σ', D0.bk sl' O' → Cfg K QX E w' O' H' σ' sl' → Ext w O H w' O' H' → D.bk σ' H') ∧
  (∀ sl' O' w' H' σ', D0.ct sl' O' → Cfg K QX E w' O' H' σ' sl' → Ext w O H w' O' H' → D.ct σ' H') ∧
  (∀ x O' w' H' v, D0.rt x O' → Ext w O H w' O' H' → RelO K w' O' H' → AVr K w' (G w' O' H') v x → D.rt v H')
end
end MI

set_option Elab.async false
set_option linter.all false
set_option maxRecDepth 100000
set_option maxHeartbeats 4000000
namespace MI
open PySem L2 KG EX KM
section
variable {K : PySem.W.Frag} {w : Wd} {O : Sto} {H H' : Hp}
theorem RelO.all (r : RelO K w O H) {a : Addr} (h : Hid w O a) : ∃ o, H a = some o := by
  rcases h with h1 | ⟨o, h1⟩ | ⟨k, c, h1, h2⟩
  · obtain ⟨c, d, e⟩ := r.bg _ h1; exact ⟨_, e⟩
  · exact ⟨_, (r.nh _ h1).2.2.1⟩
  · obtain ⟨a', vs, e1, e2, _⟩ := r.cel k c h2
    rw [h1] at e1
    cases Option.some.inj e1
    exact ⟨_, e2⟩
theorem RelO.fresh (r : RelO K w O H) {a : Addr} (h : H a = none) : ¬ Hid w O a := fun z => by obtain ⟨o, e⟩ := r.all z; rw [h] at e; cases e
/-- only new things -/
theorem RelO.stay (r : RelO K w O H) (s : Stay H H') : RelO K w O H' ∧ Ext w O H w O H' ∧ ∀ a o, H a = none → H' a = some o → G w O H' a = some o := by
  have sg : Stay (G w O H) (G w O H') := fun a o h => by
    obtain ⟨h1, h2⟩ := G_in h
    rw [G_of h2]; exact s _ _ h1
  have e : Ext w O H w O H' := ⟨⟨⟨[], by simp⟩, ⟨[], by simp⟩, ⟨[], by simp⟩, sg⟩, rfl⟩
  refine ⟨⟨r.len, r.nd, fun a ha => (let ⟨o, h⟩ := r.al a ha; ⟨o, s _ _ h⟩), r.nb, r.hn, fun p hp => ⟨(r.nh p hp).1, (r.nh p hp).2.1, s _ _ (r.nh p hp).2.2.1, (r.nh p hp).2.2.2⟩, fun a ha => Bag.stay (r.bg a ha) s, fun k c hk => ?_⟩, e, fun a o h1 h2 => ?_⟩
  · obtain ⟨a, vs, h1, h2, h3⟩ := r.cel k c hk
    exact ⟨a, vs, h1, s _ _ h2, h3.ex e.ex⟩
  · rw [G_of (r.fresh h1)]; exact h2
/-- the bag is drawn from -/
theorem RelO.draw (r : RelO K w O H) {b : Addr} (hb : b ∈ w.bags) (k : Kp b H H') (hB : Bag H' b) : RelO K w O H' ∧ Ext w O H w O H' ∧ ∀ a o, H a = none → H' a = some o → G w O H' a = some o := by
  have sg : Stay (G w O H) (G w O H') := fun a o h => by
    obtain ⟨h1, h2⟩ := G_in h
    rw [G_of h2]; exact k _ _ (fun z => h2 (Or.inl (z ▸ hb))) h1
  have e : Ext w O H w O H' := ⟨⟨⟨[], by simp⟩, ⟨[], by simp⟩, ⟨[], by simp⟩, sg⟩, rfl⟩
  refine ⟨⟨r.len, r.nd, fun a ha => (let ⟨o, h⟩ := r.al a ha; ⟨o, k _ _ (fun z => r.nb b hb (z ▸ ha)) h⟩), r.nb, r.hn, fun p hp => ⟨(r.nh p hp).1, (r.nh p hp).2.1, k _ _ (fun z => (r.nh p hp).2.1 (z ▸ hb)) (r.nh p hp).2.2.1, (r.nh p hp).2.2.2⟩, fun a ha => ?_, fun j c hk => ?_⟩, e, fun a o h1 h2 => ?_⟩
  · by_cases z : a = b
    · rw [z]; exact hB
    · obtain ⟨x, y, q⟩ := r.bg a ha; exact ⟨x, y, k _ _ z q⟩
  · obtain ⟨a, vs, h1, h2, h3⟩ := r.cel j c hk
    exact ⟨a, vs, h1, k _ _ (fun z => r.nb b hb (z ▸ List.mem_of_getElem? h1)) h2, h3.ex e.ex⟩
  · rw [G_of (r.fresh h1)]; exact h2
/-- a new bag -/
theorem RelO.bag (r : RelO K w O H) {p : Addr} {x y : Int} (hp : H p = none) : RelO K { w with bags := w.bags ++ [p] } O (upd H p (.lst [.int x, .int y])) ∧ Ext w O H { w with bags := w.bags ++ [p] } O (upd H p (.lst [.int x, .int y])) := by
  have hhid : ∀ a, Hid { w with bags := w.bags ++ [p] } O a → Hid w O a ∨ a = p := fun a h => by
    rcases h with h | h
    · rcases List.mem_append.mp h with h | h
      · exact .inl (.inl h)
      · exact .inr (List.mem_singleton.mp h)
    · exact .inl (.inr h)
  have sg : Stay (G w O H) (G { w with bags := w.bags ++ [p] } O (upd H p (.lst [.int x, .int y]))) := fun a o h => by
    obtain ⟨h1, h2⟩ := G_in h
    have hne : a ≠ p := fun z => by rw [z, hp] at h1; cases h1
    rw [G_of (fun z => (hhid a z).elim h2 hne), upd_ne hne]; exact h1
  have e : Ext w O H { w with bags := w.bags ++ [p] } O (upd H p (.lst [.int x, .int y])) := ⟨⟨⟨[p], rfl⟩, ⟨[], by simp⟩, ⟨[], by simp⟩, sg⟩, rfl⟩
  have nal : p ∉ w.ads := fun z => by obtain ⟨u, h⟩ := r.al p z; rw [hp] at h; cases h
  refine ⟨⟨r.len, r.nd, fun a ha => ?_, fun a ha => ?_, r.hn, fun q hq => ?_, fun a ha => ?_, fun k c hk => ?_⟩, e⟩
  · obtain ⟨u, h⟩ := r.al a ha
    have hne : a ≠ p := fun z => nal (z ▸ ha)
    exact ⟨u, by rw [upd_ne hne]; exact h⟩
  · rcases List.mem_append.mp ha with h | h
    · exact r.nb a h
    · rw [List.mem_singleton.mp h]; exact nal
  · obtain ⟨h1, h2, h3, h4⟩ := r.nh q hq
    have hne : q.1 ≠ p := fun z => by rw [z, hp] at h3; cases h3
    refine ⟨h1, fun z => ?_, by rw [upd_ne hne]; exact h3, h4⟩
    rcases List.mem_append.mp z with h | h
    · exact h2 h
    · exact hne (List.mem_singleton.mp h)
  · rcases List.mem_append.mp ha with h | h
    · exact (r.bg a h).new hp
    · rw [List.mem_singleton.mp h]; exact ⟨x, y, upd_same⟩
  · obtain ⟨a', vs, h1, h2, h3⟩ := r.cel k c hk
    have hne : a' ≠ p := fun z => by rw [z, hp] at h2; cases h2
    exact ⟨a', vs, h1, by rw [upd_ne hne]; exact h2, h3.ex e.ex⟩
theorem RelO.new (r : RelO K w O H) {p : Addr} {o : HO} (hp : H p = none) : RelO K w O (upd H p o) ∧ Ext w O H w O (upd H p o) ∧ G w O (upd H p o) p = some o := by
  obtain ⟨h1, h2, h3⟩ := r.stay ((Stay.refl H).new (o := o) hp)
  exact ⟨h1, h2, h3 p o hp upd_same⟩
/-- a list is put aside, changed there, and taken up again -/
theorem RelO.hide (r : RelO K w O H) {a : Addr} {o : HO} (ha : H a = none) (ho : ∀ xs, o ≠ .tup xs) : RelO K { w with hid := (a, o) :: w.hid } O (upd H a o) ∧ Ex0 w O H { w with hid := (a, o) :: w.hid } O (upd H a o) := by
  have hhid : ∀ x, Hid { w with hid := (a, o) :: w.hid } O x → Hid w O x ∨ x = a := fun x h => by
    rcases h with h | ⟨u, h⟩ | h
    · exact .inl (.inl h)
    · rcases List.mem_cons.mp h with e | e
      · exact .inr (by injection e)
      · exact .inl (.inr (.inl ⟨u, e⟩))
    · exact .inl (.inr (.inr h))
  have sg : Stay (G w O H) (G { w with hid := (a, o) :: w.hid } O (upd H a o)) := fun x u h => by
    obtain ⟨h1, h2⟩ := G_in h
    have hne : x ≠ a := fun z => by rw [z, ha] at h1; cases h1
    rw [G_of (fun z => (hhid x z).elim h2 hne), upd_ne hne]; exact h1
  have e : Ex0 w O H { w with hid := (a, o) :: w.hid } O (upd H a o) := ⟨⟨[], by simp⟩, ⟨[], by simp⟩, ⟨[(a, o)], rfl⟩, sg⟩
  have nal : a ∉ w.ads := fun z => by obtain ⟨u, h⟩ := r.al a z; rw [ha] at h; cases h
  refine ⟨⟨r.len, r.nd, fun x hx => ?_, r.nb, ?_, fun p hp => ?_, fun b hb => (r.bg b hb).new ha, fun k c hk => ?_⟩, e⟩
  · obtain ⟨u, h⟩ := r.al x hx
    have hne : x ≠ a := fun z => nal (z ▸ hx)
    exact ⟨u, by rw [upd_ne hne]; exact h⟩
  · show (a :: w.hid.map (·.1)).Nodup
    rw [List.nodup_cons]
    refine ⟨fun z => ?_, r.hn⟩
    obtain ⟨p, hp, e⟩ := List.mem_map.mp z
    have := (r.nh p hp).2.2.1
    rw [e, ha] at this; cases this
  · rcases List.mem_cons.mp hp with e | e
    · subst e
      exact ⟨nal, fun hb => (r.bg a hb).ne ha rfl, upd_same, ho⟩
    · obtain ⟨h1, h2, h3, h4⟩ := r.nh p e
      have hne : p.1 ≠ a := fun z => by rw [z, ha] at h3; cases h3
      exact ⟨h1, h2, by rw [upd_ne hne]; exact h3, h4⟩
  · obtain ⟨a', vs, h1, h2, h3⟩ := r.cel k c hk
    have hne : a' ≠ a := fun z => by rw [z, ha] at h2; cases h2
    exact ⟨a', vs, h1, by rw [upd_ne hne]; exact h2, h3.ex e⟩
theorem Hid.eq {a : Addr} {o o' : HO} {h0 : List (Addr × HO)} (hh : w.hid = (a, o) :: h0) {x : Addr} : Hid { w with hid := (a, o') :: h0 } O x ↔ Hid w O x := by
  unfold Hid
  rw [hh]
  constructor
  · rintro (h | ⟨u, h⟩ | h)
    · exact .inl h
    · rcases List.mem_cons.mp h with e | e
      · have ea : x = a := by injection e
        subst ea; exact .inr (.inl ⟨o, List.mem_cons_self⟩)
      · exact .inr (.inl ⟨u, List.mem_cons_of_mem _ e⟩)
    · exact .inr (.inr h)
  · rintro (h | ⟨u, h⟩ | h)
    · exact .inl h
    · rcases List.mem_cons.mp h with e | e
      · have ea : x = a := by injection e
        subst ea; exact .inr (.inl ⟨o', List.mem_cons_self⟩)
      · exact .inr (.inl ⟨u, List.mem_cons_of_mem _ e⟩)
    · exact .inr (.inr h)
theorem RelO.rehide (r : RelO K w O H) {a : Addr} {o o' : HO} {h0 : List (Addr × HO)} (hh : w.hid = (a, o) :: h0) (ho : ∀ xs, o' ≠ .tup xs) : RelO K { w with hid := (a, o') :: h0 } O (upd H a o') ∧ Stay (G w O H) (G { w with hid := (a, o') :: h0 } O (upd H a o')) := by
  obtain ⟨n1, n2, n3, n4⟩ := r.nh (a, o) (by rw [hh]; exact List.mem_cons_self)
  have hna := r.hn
  rw [hh, List.map_cons, List.nodup_cons] at hna
  have sg : Stay (G w O H) (G { w with hid := (a, o') :: h0 } O (upd H a o')) := fun x u h => by
    obtain ⟨h1, h2⟩ := G_in h
    have hne : x ≠ a := fun z => h2 (.inr (.inl ⟨o, by rw [hh, z]; exact List.mem_cons_self⟩))
    rw [G_of (fun z => h2 ((Hid.eq hh).mp z)), upd_ne hne]; exact h1
  refine ⟨⟨r.len, r.nd, fun x hx => ?_, r.nb, ?_, fun p hp => ?_, fun b hb => (r.bg b hb).acc (fun z => n2 (z ▸ hb)), fun k c hk => ?_⟩, sg⟩
  · obtain ⟨u, h⟩ := r.al x hx
    have hne : x ≠ a := fun z => n1 (z ▸ hx)
    exact ⟨u, by rw [upd_ne hne]; exact h⟩
  · show (a :: h0.map (·.1)).Nodup
    rw [List.nodup_cons]; exact hna
  · rcases List.mem_cons.mp hp with e | e
    · subst e; exact ⟨n1, n2, upd_same, ho⟩
    · obtain ⟨h1, h2, h3, h4⟩ := r.nh p (by rw [hh]; exact List.mem_cons_of_mem _ e)
      have hne : p.1 ≠ a := fun z => hna.1 (List.mem_map.mpr ⟨p, e, z⟩)
      exact ⟨h1, h2, by rw [upd_ne hne]; exact h3, h4⟩
  · obtain ⟨a', vs, h1, h2, h3⟩ := r.cel k c hk
    have hne : a' ≠ a := fun z => n1 (z ▸ List.mem_of_getElem? h1)
    refine ⟨a', vs, h1, by rw [upd_ne hne]; exact h2, h3.1, fun i v x e1 e2 => ?_⟩
    have := h3.2 i v x e1 e2
    cases x with
    | im d => exact TrG.stay sg this
    | own j => exact this
    | bag j => exact this
    | scr ns => obtain ⟨p, q1, q2⟩ := this; exact ⟨p, q1, KG.SqL.stay q2 sg⟩
theorem AVr.stayG {w w' : Wd} {g g' : Hp} (hb : w'.bags = w.bags) (ha : w'.ads = w.ads) (s : Stay g g') {v : V} : ∀ {x : AV}, AVr K w g v x → AVr K w' g' v x
  | .im d, h => TrG.stay s h
  | .own k, h => by obtain ⟨a, h1, h2⟩ := h; exact ⟨a, by rw [ha]; exact h1, h2⟩
  | .bag j, h => by obtain ⟨a, h1, h2⟩ := h; exact ⟨a, by rw [hb]; exact h1, h2⟩
  | .scr ns, h => by obtain ⟨p, q1, q2⟩ := h; exact ⟨p, q1, KG.SqL.stay q2 s⟩
theorem RelO.unhide (r : RelO K w O H) {a : Addr} {o : HO} {h0 : List (Addr × HO)} (hh : w.hid = (a, o) :: h0) : RelO K { w with hid := h0 } O H ∧ Stay (G w O H) (G { w with hid := h0 } O H) ∧ G { w with hid := h0 } O H a = some o := by
  obtain ⟨n1, n2, n3, n4⟩ := r.nh (a, o) (by rw [hh]; exact List.mem_cons_self)
  have hna := r.hn
  rw [hh, List.map_cons, List.nodup_cons] at hna
  have hhid : ∀ x, Hid { w with hid := h0 } O x → Hid w O x := fun x h => by
    rcases h with h | ⟨u, h⟩ | h
    · exact .inl h
    · exact .inr (.inl ⟨u, by rw [hh]; exact List.mem_cons_of_mem _ h⟩)
    · exact .inr (.inr h)
  have sg : Stay (G w O H) (G { w with hid := h0 } O H) := fun x u h => by
    obtain ⟨h1, h2⟩ := G_in h
    rw [G_of (fun z => h2 (hhid x z))]; exact h1
  refine ⟨⟨r.len, r.nd, r.al, r.nb, hna.2, fun p hp => r.nh p (by rw [hh]; exact List.mem_cons_of_mem _ hp), r.bg, fun k c hk => ?_⟩, sg, ?_⟩
  · obtain ⟨a', vs, h1, h2, h3⟩ := r.cel k c hk
    exact ⟨a', vs, h1, h2, h3.1, fun i v x e1 e2 => AVr.stayG rfl rfl sg (h3.2 i v x e1 e2)⟩
  · rw [G_of]
    · exact n3
    · rintro (h1 | ⟨u, h⟩ | ⟨j, d, h1, h2⟩)
      · exact n2 h1
      · exact hna.1 (List.mem_map.mpr ⟨_, h, rfl⟩)
      · exact n1 (List.mem_of_getElem? h1)
/-- all tuples of the heap are seen -/
theorem RelO.tups (r : RelO K w O H) : ∀ a xs, H a = some (.tup xs) → G w O H a = some (.tup xs) := by
  intro a xs h
  rw [G_of]
  · exact h
  · rintro (h1 | ⟨o, h1⟩ | ⟨j, d, h1, h2⟩)
    · obtain ⟨c, d, e⟩ := r.bg _ h1; rw [h] at e; cases e
    · obtain ⟨_, _, h3, h4⟩ := r.nh _ h1
      rw [h] at h3
      exact h4 xs (Option.some.inj h3).symm
    · obtain ⟨a', vs, e1, e2, _⟩ := r.cel j d h2
      rw [h1] at e1
      cases Option.some.inj e1
      rw [h] at e2; cases e2
end
end MI

set_option Elab.async false
set_option linter.all false
set_option maxRecDepth 100000
set_option maxHeartbeats 4000000
namespace MI
open PySem L2 KG EX KM
section
variable {K : PySem.W.Frag} {QX : Addr → Sto → Prop} {E : XK} {X : Cx} {w : Wd} {O : Sto} {H : Hp}
theorem PE.imp {e : Expr} {t t' : TE} (h : PE X e t) (i : ∀ σ H Q, t' σ H Q → t σ H Q) : PE X e t' := fun pins s σ H Q I q => h pins s σ H Q I (i σ H Q q)
theorem PT.imp {e : Expr} {t t' : TT} (h : PT X e t) (i : ∀ σ H Q, t' σ H Q → t σ H Q) : PT X e t' := fun pins s σ H Q I q => h pins s σ H Q I (i σ H Q q)
theorem PW.imp {e : Expr} {t t' : TT} (h : PW X e t) (i : ∀ σ H Q, t' σ H Q → t σ H Q) : PW X e t' := fun wh pins s σ H Q I q => h wh pins s σ H Q I (i σ H Q q)
theorem PA.imp {es : List Expr} {t t' : TA} (h : PA X es t) (i : ∀ σ H Q, t' σ H Q → t σ H Q) : PA X es t' := fun p pins s σ H Q I q => h p pins s σ H Q I (i σ H Q q)
theorem PS.imp {st : Stmt} {t t' : TS} (h : PS X st t) (i : ∀ D σ H, t' D σ H → t D σ H) : PS X st t' := fun pins s σ H D I q => h pins s σ H D I (i D σ H q)
theorem PSs.imp {st : List Stmt} {t t' : TS} (h : PSs X st t) (i : ∀ D σ H, t' D σ H → t D σ H) : PSs X st t' := fun pins s σ H D I q => h pins s σ H D I (i D σ H q)
/-! reading data -/
theorem g_tup {v : V} {ds : List PyData} (h : TrG (G w O H) v (.tuple ds)) : ∃ a xs, v = .ref a ∧ H a = some (.tup xs) ∧ TrGs (G w O H) xs ds := by
  cases h with | tup h1 h2 => exact ⟨_, _, rfl, (G_in h1).1, h2⟩
theorem g_lst {v : V} {ds : List PyData} (h : TrG (G w O H) v (.list ds)) : ∃ a xs, v = .ref a ∧ H a = some (.lst xs) ∧ TrGs (G w O H) xs ds := by
  cases h with | lst h1 h2 => exact ⟨_, _, rfl, (G_in h1).1, h2⟩
theorem g_int {g : Hp} {v : V} {i : Int} (h : TrG g v (.int i)) : v = .int i := by cases h; rfl
theorem g_bl {g : Hp} {v : V} {i : Bool} (h : TrG g v (.bool i)) : v = .bl i := by cases h; rfl
theorem g_str {g : Hp} {v : V} {i : Str} (h : TrG g v (.str i)) : v = .str i := by cases h; rfl
theorem g_non {g : Hp} {v : V} (h : TrG g v .none) : v = .non := by cases h; rfl
/-- a new tuple, a new list -/
theorem new_tup (r : RelO K w O H) {p : Addr} {xs : List V} {ds : List PyData} (hp : H p = none) (h : TrGs (G w O H) xs ds) :
    RelO K w O (upd H p (.tup xs)) ∧ Ext w O H w O (upd H p (.tup xs)) ∧ TrG (G w O (upd H p (.tup xs))) (.ref p) (.tuple ds) := by
  obtain ⟨r1, e1, g1⟩ := r.new (o := .tup xs) hp
  exact ⟨r1, e1, .tup g1 (TrGs.stay e1.ex.stay h)⟩
theorem new_lst (r : RelO K w O H) {p : Addr} {xs : List V} {ds : List PyData} (hp : H p = none) (h : TrGs (G w O H) xs ds) :
    RelO K w O (upd H p (.lst xs)) ∧ Ext w O H w O (upd H p (.lst xs)) ∧ TrG (G w O (upd H p (.lst xs))) (.ref p) (.list ds) := by
  obtain ⟨r1, e1, g1⟩ := r.new (o := .lst xs) hp
  exact ⟨r1, e1, .lst g1 (TrGs.stay e1.ex.stay h)⟩
/-- the same, where only new things are known -/
theorem grown_tup (r : RelO K w O H) {p : Addr} {xs : List V} {ds : List PyData} {H' : Hp} (s : Stay H H') (hp : H' p = some (.tup xs)) (h : TrGs (G w O H) xs ds) :
    RelO K w O H' ∧ Ext w O H w O H' ∧ TrG (G w O H') (.ref p) (.tuple ds) := by
  obtain ⟨r1, e1, g1⟩ := r.stay s
  exact ⟨r1, e1, .tup (r1.tups _ _ hp) (TrGs.stay e1.ex.stay h)⟩
/-! names and constants -/
def mVar (i : Nat) : ME := fun sl O Q => match sl[i]? with
  | some (some x) => Q x O
  | _ => False
theorem me_var {i : Nat} {e : Expr} (h : PE X e (tVar i)) : PE X e (teM K QX E (mVar i)) := PE.imp h fun σ H Q ⟨w, O, sl, Q0, c, m, q⟩ => by
  unfold mVar at m
  split at m
  · rename_i x hx
    obtain ⟨v, h1, h2⟩ := c.so.2 i x hx
    exact ⟨v, h1, q x O v w H m (Ext.refl _ _ _) c.ro h2⟩
  · exact m.elim
def mC (d : PyData) : ME := fun _ O Q => Q (.im d) O
theorem me_c {v : V} {d : PyData} {e : Expr} (h : PE X e (tC v)) (hv : ∀ g, TrG g v d) : PE X e (teM K QX E (mC d)) := PE.imp h fun σ H Q ⟨w, O, sl, Q0, c, m, q⟩ => q _ O v w H m (Ext.refl _ _ _) c.ro (hv _)
theorem me_int {i j pos} : PE X (.Constant (.int i) j pos) (teM K QX E (mC (.int i))) := me_c pe_int fun _ => .int _
theorem me_bl {i j pos} : PE X (.Constant (.bool i) j pos) (teM K QX E (mC (.bool i))) := me_c pe_bl fun _ => .bl _
theorem me_non {j pos} : PE X (.Constant .none j pos) (teM K QX E (mC .none)) := me_c pe_non fun _ => .non
theorem me_str {x j pos} (h : (PyData.str x).canLay0 = true := by decide +kernel) : PE X (.Constant (.str x) j pos) (teM K QX E (mC (.str x))) := me_c pe_str fun _ => .str _ h
/-! arguments -/
def mNil : MA := fun _ O Q => Q [] O
def mCons (Me : ME) (Ms : MA) : MA := fun sl O Q => Me sl O fun x O1 => Ms sl O1 fun xs O2 => Q (x :: xs) O2
theorem ma_nil : PA X [] (taM K QX E mNil) := PA.imp pa_nil fun σ H Q ⟨w, O, sl, Q0, c, m, q⟩ => q [] O [] w H m (Ext.refl _ _ _) c.ro AVrs.nil
theorem ma_cons {e : Expr} {es : List Expr} {Me : ME} {Ms : MA} (he : PE X e (teM K QX E Me)) (hr : PA X es (taM K QX E Ms)) (hs : starEach (e :: es) X.env = (false, eval e X.env) :: starEach es X.env := by rfl) : PA X (e :: es) (taM K QX E (mCons Me Ms)) :=
  PA.imp (pa_cons he hr hs) fun σ H Q ⟨w, O, sl, Q0, c, m, q⟩ => ⟨w, O, sl, _, c, m, fun x O1 v w1 H1 h1 e1 r1 a1 => ⟨w1, O1, sl, _, c.ex e1.ex r1, h1, fun xs O2 vs w2 H2 h2 e2 r2 a2 => q _ O2 _ w2 H2 h2 (e1.trans e2) r2 (AVrs.cons (a1.ex e2.ex) a2)⟩⟩
/-! tuples and lists -/
def ims : List AV → Option (List PyData)
  | [] => some []
  | .im d :: xs => match ims xs with
    | some ds => some (d :: ds)
    | none => none
  | _ :: _ => none
theorem ims_eq : ∀ {xs : List AV} {ds : List PyData}, ims xs = some ds → xs = ds.map .im
  | [], _, h => by cases h; rfl
  | .im d :: xs, ds, h => by
    unfold ims at h
    split at h
    · rename_i es he
      cases h
      rw [ims_eq he]; rfl
    · cases h
  | .own _ :: _, _, h => by cases h
  | .bag _ :: _, _, h => by cases h
  | .scr _ :: _, _, h => by cases h
def mTup (Ms : MA) : ME := fun sl O Q => Ms sl O fun xs O1 => match ims xs with
  | some ds => ds.length ≤ sizeLine ∧ Q (.im (.tuple ds)) O1
  | none => False
def mLst (Ms : MA) : ME := fun sl O Q => Ms sl O fun xs O1 => match ims xs with
  | some ds => ds.length ≤ sizeLine ∧ Q (.im (.list ds)) O1
  | none => False
theorem me_tup {es : List Expr} {Ms : MA} {x1} {pos : Pos} (h : PA X es (taM K QX E Ms)) : PE X (.Tuple es x1 pos) (teM K QX E (mTup Ms)) := PE.imp (pe_tup h) fun σ H Q ⟨w, O, sl, Q0, c, m, q⟩ => ⟨w, O, sl, _, c, m, fun xs O1 vs w1 H1 h1 e1 r1 a1 => by
  split at h1
  · rename_i ds hd
    have hx := ims_eq hd
    subst hx
    refine ⟨by rw [a1.1, List.length_map]; exact h1.1, fun p hp => ?_⟩
    obtain ⟨r2, e2, t2⟩ := new_tup r1 hp (AVrs.tr a1)
    exact q _ O1 _ w1 _ h1.2 (e1.trans e2) r2 t2
  · exact h1.elim⟩
theorem me_lst {es : List Expr} {Ms : MA} {pos : Pos} (h : PA X es (taM K QX E Ms)) : PE X (.List es pos) (teM K QX E (mLst Ms)) := PE.imp (pe_lst h) fun σ H Q ⟨w, O, sl, Q0, c, m, q⟩ => ⟨w, O, sl, _, c, m, fun xs O1 vs w1 H1 h1 e1 r1 a1 => by
  split at h1
  · rename_i ds hd
    have hx := ims_eq hd
    subst hx
    refine ⟨by rw [a1.1, List.length_map]; exact h1.1, fun p hp => ?_⟩
    obtain ⟨r2, e2, t2⟩ := new_lst r1 hp (AVrs.tr a1)
    exact q _ O1 _ w1 _ h1.2 (e1.trans e2) r2 t2
  · exact h1.elim⟩
/-! operators -/
abbrev MF2 := Sto → AV → AV → (AV → Sto → Prop) → Prop
abbrev MFC := Sto → List AV → (AV → Sto → Prop) → Prop
def Lk2 (K : PySem.W.Frag) (r : R2) (f : MF2) : Prop := ∀ (w : Wd) (O : Sto) (H : Hp) (v u : V) (x y : AV) (P : AV → Sto → Prop) (Q : VK), RelO K w O H → AVr K w (G w O H) v x → AVr K w (G w O H) u y → f O x y P →
  (∀ z q O' w' H', P q O' → Ext w O H w' O' H' → RelO K w' O' H' → AVr K w' (G w' O' H') z q → Q z H') → r v u H Q
def LkC (K : PySem.W.Frag) (r : List V → Hp → VK → Prop) (f : MFC) : Prop := ∀ (w : Wd) (O : Sto) (H : Hp) (vs : List V) (xs : List AV) (P : AV → Sto → Prop) (Q : VK), RelO K w O H → AVrs K w (G w O H) vs xs → f O xs P →
  (∀ z q O' w' H', P q O' → Ext w O H w' O' H' → RelO K w' O' H' → AVr K w' (G w' O' H') z q → Q z H') → r vs H Q
def mOp (f : MF2) (Ma Mb : ME) : ME := fun sl O Q => Ma sl O fun x O1 => Mb sl O1 fun y O2 => f O2 x y Q
def mCB (f : MFC) (Ms : MA) : ME := fun sl O Q => Ms sl O fun xs O1 => f O1 xs Q
theorem lift2 {r : R2} {f : MF2} {Ma Mb : ME} (lk : Lk2 K r f) : ∀ σ H Q, teM K QX E (mOp f Ma Mb) σ H Q → tOp r (teM K QX E Ma) (teM K QX E Mb) σ H Q :=
  fun σ H Q ⟨w, O, sl, Q0, c, m, q⟩ => ⟨w, O, sl, _, c, m, fun x O1 v w1 H1 h1 e1 r1 a1 => ⟨w1, O1, sl, _, c.ex e1.ex r1, h1, fun y O2 u w2 H2 h2 e2 r2 a2 =>
    lk w2 O2 H2 v u x y _ Q r2 (a1.ex e2.ex) a2 h2 fun z z' O3 w3 H3 h3 e3 r3 a3 => q _ O3 z w3 H3 h3 ((e1.trans e2).trans e3) r3 a3⟩⟩
theorem me_op {op : Operator} {r : R2} {f : MF2} {Ma Mb : ME} {a b : Expr} {pos : Pos} (ho : OpR X (binaryOp op) r) (lk : Lk2 K r f) (ha : PE X a (teM K QX E Ma)) (hb : PE X b (teM K QX E Mb)) : PE X (.BinOp a op b pos) (teM K QX E (mOp f Ma Mb)) := PE.imp (pe_op ho ha hb) (lift2 lk)
theorem me_ix {r : R2} {f : MF2} {Ma Mb : ME} {a b : Expr} {pos : Pos} (ho : IxR X r) (lk : Lk2 K r f) (ha : PE X a (teM K QX E Ma)) (hb : PE X b (teM K QX E Mb)) (hs : PlainIx b := by exact fun _ _ => rfl) : PE X (.Subscript a b pos) (teM K QX E (mOp f Ma Mb)) := PE.imp (pe_ix ho ha hb hs) (lift2 lk)
theorem me_cmp {op : CmpOp} {r : R2} {f : MF2} {Ma Mb : ME} {a b : Expr} {pos : Pos} (ho : OpR X (compareOp op) r) (lk : Lk2 K r f) (ha : PE X a (teM K QX E Ma)) (hb : PE X b (teM K QX E Mb)) (hm : behindInMarks op b = false) : PE X (.Compare a [op] [b] pos) (teM K QX E (mOp f Ma Mb)) := PE.imp (pe_cmpR ho ha hb hm) (lift2 lk)
theorem me_callB {x : Str} {id : String} {e : Expr} {es : List Expr} {p pos : Pos} {r : List V → Hp → VK → Prop} {f : MFC} {Ms : MA} (hc : CallR X (.builtin id) r) (lk : LkC K r f) (hg : Gl X x) (hm : X.mg x = none) (hv : bootBuiltins x = some (.builtin id)) (ha : PA X (e :: es) (taM K QX E Ms)) (hn : x ≠ "__name__" := by decide) (hdb : (x == ("__debug__" : Str)) = false := by decide)
    (he : starEach (e :: es) X.env = (false, eval e X.env) :: starEach es X.env := by rfl) (hpl : (backTo pos (starEach es X.env)).any (·.1) = false := by rfl) : PE X (.Call (.Name x p) (e :: es) [] pos) (teM K QX E (mCB f Ms)) :=
  PE.imp (pe_callB hc hg hm hv ha hn hdb he hpl) fun σ H Q ⟨w, O, sl, Q0, c, m, q⟩ => ⟨w, O, sl, _, c, m, fun xs O1 vs w1 H1 h1 e1 r1 a1 => lk w1 O1 H1 vs xs _ Q r1 a1 h1 fun z z' O3 w3 H3 h3 e3 r3 a3 => q _ O3 z w3 H3 h3 (e1.trans e3) r3 a3⟩
theorem me_callTy {x : Str} {T : String} {e : Expr} {es : List Expr} {p pos : Pos} {r : List V → Hp → VK → Prop} {f : MFC} {Ms : MA} (hc : CallR X (.type T) r) (lk : LkC K r f) (hg : Gl X x) (hm : X.mg x = none) (hv : bootBuiltins x = some (.type T)) (ha : PA X (e :: es) (taM K QX E Ms)) (hn : x ≠ "__name__" := by decide) (hdb : (x == ("__debug__" : Str)) = false := by decide)
    (he : starEach (e :: es) X.env = (false, eval e X.env) :: starEach es X.env := by rfl) (hpl : (backTo pos (starEach es X.env)).any (·.1) = false := by rfl) : PE X (.Call (.Name x p) (e :: es) [] pos) (teM K QX E (mCB f Ms)) :=
  PE.imp (pe_callTy hc hg hm hv ha hn hdb he hpl) fun σ H Q ⟨w, O, sl, Q0, c, m, q⟩ => ⟨w, O, sl, _, c, m, fun xs O1 vs w1 H1 h1 e1 r1 a1 => lk w1 O1 H1 vs xs _ Q r1 a1 h1 fun z z' O3 w3 H3 h3 e3 r3 a3 => q _ O3 z w3 H3 h3 (e1.trans e3) r3 a3⟩
/-! truths -/
def mTst (M : ME) : MT := fun sl O Q => M sl O fun x O1 => match x with
  | .im (.bool c) => Q c O1
  | _ => False
theorem lift_tst {t : TE} {M : ME} (h : ∀ σ H Q, teM K QX E M σ H Q → t σ H Q) : ∀ σ H Q, ttM K QX E (mTst M) σ H Q → tTest t σ H Q := fun σ H Q ⟨w, O, sl, Q0, c, m, q⟩ => h σ H _ ⟨w, O, sl, _, c, m, fun x O1 v w1 H1 h1 e1 r1 a1 => by
  split at h1
  · exact ⟨_, g_bl a1, q _ O1 w1 H1 h1 e1 r1⟩
  · exact h1.elim⟩
theorem mt_cmp {op : CmpOp} {r : R2} {f : MF2} {Ma Mb : ME} {a b : Expr} {pos : Pos} (ho : OpR X (compareOp op) r) (lk : Lk2 K r f) (ha : PE X a (teM K QX E Ma)) (hb : PE X b (teM K QX E Mb)) (hm : behindInMarks op b = false) : PT X (.Compare a [op] [b] pos) (ttM K QX E (mTst (mOp f Ma Mb))) := PT.imp (pt_cmpR ho ha hb hm) (lift_tst (lift2 lk))
theorem mt_val {e : Expr} {M : ME} (h : PE X e (teM K QX E M)) (he : ∀ whole, isTrue e X.env whole = (do let v ← whole; standAt e.pos; holding [v] (truthy v)) := by intro _; rfl) : PT X e (ttM K QX E (mTst M)) := PT.imp (pt_val h he) (lift_tst fun _ _ _ z => z)
def mNot (M : MT) : MT := fun sl O Q => M sl O fun c O1 => Q (!c) O1
theorem mt_not {a : Expr} {M : MT} {pos : Pos} (h : PT X a (ttM K QX E M)) : PT X (.UnaryOp .Not a pos) (ttM K QX E (mNot M)) := PT.imp (pt_not h) fun σ H Q ⟨w, O, sl, Q0, c, m, q⟩ => ⟨w, O, sl, _, c, m, fun x O1 w1 H1 h1 e1 r1 => q _ O1 w1 H1 h1 e1 r1⟩
def mAndT (M N : MT) : MT := fun sl O Q => M sl O fun c O1 => (c = true → N sl O1 Q) ∧ (c = false → Q false O1)
def mOrT (M N : MT) : MT := fun sl O Q => M sl O fun c O1 => (c = true → Q true O1) ∧ (c = false → N sl O1 Q)
theorem mw_and1 {a : Expr} {M : MT} {pos : Pos} (h : PT X a (ttM K QX E M)) : PW X (.BoolOp .And [a] pos) (ttM K QX E M) := pw_and1 h
theorem mw_or1 {a : Expr} {M : MT} {pos : Pos} (h : PT X a (ttM K QX E M)) : PW X (.BoolOp .Or [a] pos) (ttM K QX E M) := pw_or1 h
theorem mw_and {a b : Expr} {rest : List Expr} {M N : MT} {pos : Pos} (ha : PT X a (ttM K QX E M)) (hb : PW X (.BoolOp .And (b :: rest) pos) (ttM K QX E N)) : PW X (.BoolOp .And (a :: b :: rest) pos) (ttM K QX E (mAndT M N)) := PW.imp (pw_and ha hb) fun σ H Q ⟨w, O, sl, Q0, c, m, q⟩ => ⟨w, O, sl, _, c, m, fun x O1 w1 H1 h1 e1 r1 => by
  cases x with
  | true => exact iteT ⟨w1, O1, sl, _, c.ex e1.ex r1, h1.1 rfl, fun y O2 w2 H2 h2 e2 r2 => q _ O2 w2 H2 h2 (e1.trans e2) r2⟩
  | false => exact iteF (q _ O1 w1 H1 (h1.2 rfl) e1 r1)⟩
theorem mw_or {a b : Expr} {rest : List Expr} {M N : MT} {pos : Pos} (ha : PT X a (ttM K QX E M)) (hb : PW X (.BoolOp .Or (b :: rest) pos) (ttM K QX E N)) : PW X (.BoolOp .Or (a :: b :: rest) pos) (ttM K QX E (mOrT M N)) := PW.imp (pw_or ha hb) fun σ H Q ⟨w, O, sl, Q0, c, m, q⟩ => ⟨w, O, sl, _, c, m, fun x O1 w1 H1 h1 e1 r1 => by
  cases x with
  | true => exact iteT (q _ O1 w1 H1 (h1.1 rfl) e1 r1)
  | false => exact iteF ⟨w1, O1, sl, _, c.ex e1.ex r1, h1.2 rfl, fun y O2 w2 H2 h2 e2 r2 => q _ O2 w2 H2 h2 (e1.trans e2) r2⟩⟩
/-! truths as values -/
def mIf (C : MT) (M N : ME) : ME := fun sl O Q => C sl O fun c O1 => (c = true → M sl O1 Q) ∧ (c = false → N sl O1 Q)
theorem me_if {t a b : Expr} {C : MT} {M N : ME} {pos : Pos} (hc : PT X t (ttM K QX E C)) (ha : PE X a (teM K QX E M)) (hb : PE X b (teM K QX E N)) : PE X (.IfExp t a b pos) (teM K QX E (mIf C M N)) := PE.imp (pe_ifExp hc ha hb) fun σ H Q ⟨w, O, sl, Q0, c, m, q⟩ => ⟨w, O, sl, _, c, m, fun x O1 w1 H1 h1 e1 r1 => by
  cases x with
  | true => exact iteT ⟨w1, O1, sl, _, c.ex e1.ex r1, h1.1 rfl, fun y O2 u w2 H2 h2 e2 r2 a2 => q _ O2 u w2 H2 h2 (e1.trans e2) r2 a2⟩
  | false => exact iteF ⟨w1, O1, sl, _, c.ex e1.ex r1, h1.2 rfl, fun y O2 u w2 H2 h2 e2 r2 a2 => q _ O2 u w2 H2 h2 (e1.trans e2) r2 a2⟩⟩
end
end MI

set_option Elab.async false
set_option linter.all false
set_option maxRecDepth 100000
set_option maxHeartbeats 4000000
namespace MI
open PySem L2 KG EX KM
section
variable {K : PySem.W.Frag} {X : Cx}
theorem g_le {w : Wd} {O : Sto} {H : Hp} : Stay (G w O H) H := fun a o h => (G_in h).1
/-! whole numbers -/
def int2 (C : Int → Int → Prop) (g : Int → Int → PyData) : MF2 := fun O x y P => match x, y with
  | .im (.int i), .im (.int j) => C i j ∧ P (.im (g i j)) O
  | _, _ => False
def int20 (g : Int → Int → PyData) : MF2 := fun O x y P => match x, y with
  | .im (.int i), .im (.int j) => P (.im (g i j)) O
  | _, _ => False
theorem lk_int2 {C : Int → Int → Prop} {g : Int → Int → V} {f : Int → Int → PyData} (hg : ∀ i j h, TrG h (g i j) (f i j)) : Lk2 K (rI C g) (int2 C f) := fun w O H v u x y P Q r a b hf q => by
  unfold int2 at hf
  split at hf
  · exact ⟨_, _, g_int a, g_int b, hf.1, q _ _ O w H hf.2 (Ext.refl _ _ _) r (hg _ _ _)⟩
  · exact hf.elim
theorem lk_int20 {g : Int → Int → V} {f : Int → Int → PyData} (hg : ∀ i j h, TrG h (g i j) (f i j)) : Lk2 K (rI0 g) (int20 f) := fun w O H v u x y P Q r a b hf q => by
  unfold int20 at hf
  split at hf
  · exact ⟨_, _, g_int a, g_int b, q _ _ O w H hf (Ext.refl _ _ _) r (hg _ _ _)⟩
  · exact hf.elim
def addF : MF2 := fun O x y P => match x, y with
  | .im (.int i), .im (.int j) => P (.im (.int (i + j))) O
  | .im (.tuple xs), .im (.tuple ys) => xs.length + ys.length ≤ sizeLine ∧ P (.im (.tuple (xs ++ ys))) O
  | .im (.list xs), .im (.list ys) => xs.length + ys.length ≤ sizeLine ∧ P (.im (.list (xs ++ ys))) O
  | _, _ => False
theorem lk_add : Lk2 K (fun x y H Q => rI0 (fun i j => .int (i + j)) x y H Q ∨ (rCatA x y H Q ∨ rCat x y H Q)) addF := fun w O H v u x y P Q r a b hf q => by
  unfold addF at hf
  split at hf
  · exact .inl ⟨_, _, g_int a, g_int b, q _ _ O w H hf (Ext.refl _ _ _) r (.int _)⟩
  · obtain ⟨p1, us, rfl, h1, t1⟩ := g_tup a
    obtain ⟨p2, vs, rfl, h2, t2⟩ := g_tup b
    refine .inr (.inl ⟨p1, p2, us, vs, rfl, rfl, h1, h2, by rw [t1.len, t2.len]; exact hf.1, fun p H' s hp => ?_⟩)
    obtain ⟨r1, e1, t⟩ := grown_tup r s hp (t1.app t2)
    exact q _ _ O w H' hf.2 e1 r1 t
  · obtain ⟨p1, us, rfl, h1, t1⟩ := g_lst a
    obtain ⟨p2, vs, rfl, h2, t2⟩ := g_lst b
    refine .inr (.inr ⟨p1, p2, us, vs, rfl, rfl, h1, h2, by rw [t1.len, t2.len]; exact hf.1, fun p hp => ?_⟩)
    obtain ⟨r1, e1, t⟩ := new_lst r hp (t1.app t2)
    exact q _ _ O w _ hf.2 e1 r1 t
  · exact hf.elim
theorem mo_add {QX : Addr → Sto → Prop} {E : XK} {Ma Mb : ME} {a b : Expr} {pos : Pos} (ha : PE X a (teM K QX E Ma)) (hb : PE X b (teM K QX E Mb)) : PE X (.BinOp a .Add b pos) (teM K QX E (mOp addF Ma Mb)) := me_op (op_add.or (op_catA.or op_cat)) lk_add ha hb
abbrev subF : MF2 := int20 fun i j => .int (i - j)
theorem mo_sub {QX : Addr → Sto → Prop} {E : XK} {Ma Mb : ME} {a b : Expr} {pos : Pos} (ha : PE X a (teM K QX E Ma)) (hb : PE X b (teM K QX E Mb)) : PE X (.BinOp a .Sub b pos) (teM K QX E (mOp subF Ma Mb)) := me_op op_sub (lk_int20 fun _ _ _ => .int _) ha hb
abbrev mulF : MF2 := int2 (fun i j => Bd 8000 i ∧ Bd 8000 j) fun i j => .int (i * j)
theorem mo_mul {QX : Addr → Sto → Prop} {E : XK} {Ma Mb : ME} {a b : Expr} {pos : Pos} (ha : PE X a (teM K QX E Ma)) (hb : PE X b (teM K QX E Mb)) : PE X (.BinOp a .Mult b pos) (teM K QX E (mOp mulF Ma Mb)) := me_op op_mulB (lk_int2 fun _ _ _ => .int _) ha hb
/-! a list times a number -/
/-! comparisons -/
abbrev ltF : MF2 := int20 fun i j => .bool (decide (i < j))
abbrev gtF : MF2 := int20 fun i j => .bool (decide (j < i))
theorem lk_lt : Lk2 K (rI0 fun i j => .bl (decide (i < j))) ltF := lk_int20 fun _ _ _ => .bl _
theorem lk_gt : Lk2 K (rI0 fun i j => .bl (decide (j < i))) gtF := lk_int20 fun _ _ _ => .bl _
def eqq : PyData → PyData → Bool
  | .int i, .int j => decide (i = j)
  | d, e => PyData.eqv d e
theorem eqq_eq (d e : PyData) : eqq d e = PyData.eqv d e := by
  cases d <;> cases e <;> first | rfl | (show decide _ = _; rw [PyData.eqv]; rfl)
def eqF (neg : Bool) : MF2 := fun O x y P => match x, y with
  | .im d, .im e => min d.depth e.depth ≤ 60 ∧ P (.im (.bool (if neg then !eqq d e else eqq d e))) O
  | _, _ => False
theorem lk_eq : Lk2 K (rEqD K0) (eqF false) := fun w O H v u x y P Q r a b hf q => by
  unfold eqF at hf
  split at hf
  · refine ⟨_, _, (TrG.stay g_le a).dt, (TrG.stay g_le b).dt, hf.1, ?_⟩
    rw [← eqq_eq]
    exact q _ _ O w H hf.2 (Ext.refl _ _ _) r (.bl _)
  · exact hf.elim
theorem lk_ne : Lk2 K (rNeD K0) (eqF true) := fun w O H v u x y P Q r a b hf q => by
  unfold eqF at hf
  split at hf
  · refine ⟨_, _, (TrG.stay g_le a).dt, (TrG.stay g_le b).dt, hf.1, ?_⟩
    rw [← eqq_eq]
    exact q _ _ O w H hf.2 (Ext.refl _ _ _) r (.bl _)
  · exact hf.elim
theorem or_eq (hu : X.A.units + 64 < cLine) : OpR X (compareOp .Eq) (rEqD K0) := opEqD0 hu
theorem or_ne (hu : X.A.units + 64 < cLine) : OpR X (compareOp .NotEq) (rNeD K0) := opNeD0 hu
def isNoneD : PyData → Bool
  | .none => true
  | _ => false
def isNoneF (neg : Bool) : MF2 := fun O x y P => match x, y with
  | .im d, .im .none => P (.im (.bool (if neg then !isNoneD d else isNoneD d))) O
  | _, _ => False
theorem isN_dec {g : Hp} {v : V} {d : PyData} (h : TrG g v d) : decide (v = .non) = isNoneD d := by
  cases h <;> rfl
theorem lk_isN : Lk2 K (fun x y H Q => y = .non ∧ Q (.bl (decide (x = .non))) H) (isNoneF false) := fun w O H v u x y P Q r a b hf q => by
  unfold isNoneF at hf
  split at hf
  · refine ⟨g_non b, ?_⟩
    rw [isN_dec a]
    exact q _ _ O w H hf (Ext.refl _ _ _) r (.bl _)
  · exact hf.elim
/-! index -/
def ixF : MF2 := fun O x y P => match x, y with
  | .im (.list ds), .im (.int i) => ∃ d, atI ds i = some d ∧ P (.im d) O
  | .im (.tuple ds), .im (.int i) => ∃ d, atI ds i = some d ∧ P (.im d) O
  | .own k, .im (.int i) => ∃ c z, O[k]? = some (some c) ∧ atI c i = some z ∧ P z O
  | _, _ => False
theorem atI_tr {g : Hp} {xs : List V} {ds : List PyData} {i : Int} {d : PyData} (t : TrGs g xs ds) (h : atI ds i = some d) : ∃ v, atI xs i = some v ∧ TrG g v d := by
  unfold atI at h ⊢
  rw [t.len]
  cases hj : ixN ds.length i with
  | none => rw [hj] at h; cases h
  | some j =>
    rw [hj] at h
    exact t.get h
theorem atI_av {w : Wd} {g : Hp} {xs : List V} {ds : List AV} {i : Int} {d : AV} (t : AVrs K w g xs ds) (h : atI ds i = some d) : ∃ v, atI xs i = some v ∧ AVr K w g v d := by
  unfold atI at h ⊢
  rw [t.1]
  cases hj : ixN ds.length i with
  | none => rw [hj] at h; cases h
  | some j =>
    rw [hj] at h
    exact t.at h
theorem lk_ix : Lk2 K (fun x y H Q => rIxL K0 x y H Q ∨ rIxT K0 x y H Q) ixF := fun w O H v u x y P Q r a b hf q => by
  unfold ixF at hf
  split at hf
  · obtain ⟨d, hd, hf⟩ := hf
    obtain ⟨p1, us, rfl, h1, t1⟩ := g_lst a
    obtain ⟨z, hz, tz⟩ := atI_tr t1 hd
    exact .inl ⟨p1, us, _, z, rfl, g_int b, SqL.of h1, hz, q _ _ O w H hf (Ext.refl _ _ _) r tz⟩
  · obtain ⟨d, hd, hf⟩ := hf
    obtain ⟨p1, us, rfl, h1, t1⟩ := g_tup a
    obtain ⟨z, hz, tz⟩ := atI_tr t1 hd
    exact .inr ⟨p1, us, _, z, rfl, g_int b, SqT.of h1, hz, q _ _ O w H hf (Ext.refl _ _ _) r tz⟩
  · obtain ⟨c, d, hc, hd, hf⟩ := hf
    obtain ⟨p1, us, h0, h1, t1⟩ := r.cel _ _ hc
    obtain ⟨p2, e1, rfl⟩ := a
    rw [h0] at e1
    cases Option.some.inj e1
    obtain ⟨z, hz, tz⟩ := atI_av t1 hd
    exact .inl ⟨p1, us, _, z, rfl, g_int b, SqL.of h1, hz, q _ _ O w H hf (Ext.refl _ _ _) r tz⟩
  · exact hf.elim
theorem mo_ix {QX : Addr → Sto → Prop} {E : XK} {Ma Mb : ME} {a b : Expr} {pos : Pos} (ha : PE X a (teM K QX E Ma)) (hb : PE X b (teM K QX E Mb)) (hs : PlainIx b := by exact fun _ _ => rfl) : PE X (.Subscript a b pos) (teM K QX E (mOp ixF Ma Mb)) := me_ix (ixL0.or ixT0) lk_ix ha hb hs
/-! slices -/
abbrev MO := Slt → Sto → (Option Int → Sto → Prop) → Prop
def toM (K : PySem.W.Frag) (QX : Addr → Sto → Prop) (E : XK) (M : MO) : TO := fun σ H Q => ∃ w O sl Q0, Cfg K QX E w O H σ sl ∧ M sl O Q0 ∧ ∀ c O' w' H', Q0 c O' → Ext w O H w' O' H' → RelO K w' O' H' → Q c H'
def mNoP : MO := fun _ O Q => Q none O
def mSoP (M : ME) : MO := fun sl O Q => M sl O fun x O1 => match x with
  | .im (.int i) => Q (some i) O1
  | _ => False
theorem PO.imp {e : Option Expr} {t t' : TO} (h : PO X e t) (i : ∀ σ H Q, t' σ H Q → t σ H Q) : PO X e t' := fun pins s σ H Q I q => h pins s σ H Q I (i σ H Q q)
theorem mp_none {QX : Addr → Sto → Prop} {E : XK} : PO X none (toM K QX E mNoP) := PO.imp po_none fun σ H Q ⟨w, O, sl, Q0, c, m, q⟩ => q none O w H m (Ext.refl _ _ _) c.ro
theorem mp_some {QX : Addr → Sto → Prop} {E : XK} {e : Expr} {M : ME} (h : PE X e (teM K QX E M)) : PO X (some e) (toM K QX E (mSoP M)) := PO.imp (po_some h) fun σ H Q ⟨w, O, sl, Q0, c, m, q⟩ => ⟨w, O, sl, _, c, m, fun x O1 v w1 H1 h1 e1 r1 a1 => by
  split at h1
  · exact ⟨_, g_int a1, q _ O1 w1 H1 h1 e1 r1⟩
  · exact h1.elim⟩
/-! built-in functions -/
def lenF : MFC := fun O xs P => match xs with
  | [.im (.list ds)] => P (.im (.int ds.length)) O
  | [.im (.tuple ds)] => P (.im (.int ds.length)) O
  | [.own k] => ∃ c, O[k]? = some (some c) ∧ P (.im (.int c.length)) O
  | _ => False
theorem lk_len : LkC K rLen0 lenF := fun w O H vs xs P Q r a hf q => by
  unfold lenF at hf
  split at hf
  · obtain ⟨v, us, rfl, h1, h2⟩ := a.uncons
    rw [h2.unnil]
    obtain ⟨p1, us', rfl, g1, t1⟩ := g_lst h1
    exact ⟨p1, us', rfl, .inl (SqL.of g1), by rw [t1.len]; exact q _ _ O w H hf (Ext.refl _ _ _) r (.int _)⟩
  · obtain ⟨v, us, rfl, h1, h2⟩ := a.uncons
    rw [h2.unnil]
    obtain ⟨p1, us', rfl, g1, t1⟩ := g_tup h1
    exact ⟨p1, us', rfl, .inr (SqT.of g1), by rw [t1.len]; exact q _ _ O w H hf (Ext.refl _ _ _) r (.int _)⟩
  · obtain ⟨c, hc, hf⟩ := hf
    obtain ⟨v, us, rfl, h1, h2⟩ := a.uncons
    rw [h2.unnil]
    obtain ⟨p2, e1, rfl⟩ := h1
    obtain ⟨p1, us', h0, g1, t1⟩ := r.cel _ _ hc
    rw [h0] at e1
    cases Option.some.inj e1
    exact ⟨_, us', rfl, .inl (SqL.of g1), by rw [t1.1]; exact q _ _ O w H hf (Ext.refl _ _ _) r (.int _)⟩
  · exact hf.elim
/-- len of the script -/
def lenSF : MFC := fun O xs P => match xs with
  | [.scr ns] => P (.im (.int ns.length)) O
  | _ => False
def rLenS (K : PySem.W.Frag) : List V → Hp → VK → Prop := fun xs H Q => ∃ p ys, xs = [.ref p] ∧ (SqL K H p ys ∨ SqT K H p ys) ∧ Q (.int ys.length) H
theorem lk_lenS : LkC K (rLenS K) lenSF := fun w O H vs xs P Q r a hf q => by
  unfold lenSF at hf
  split at hf
  · obtain ⟨v, us, rfl, h1, h2⟩ := a.uncons
    rw [h2.unnil]
    obtain ⟨p1, rfl, g1⟩ := h1
    exact ⟨p1, _, rfl, .inl (KG.SqL.stay g1 g_le), by rw [List.length_map]; exact q _ _ O w H hf (Ext.refl _ _ _) r (.int _)⟩
  · exact hf.elim
def int2C (g : Int → Int → Int) : MFC := fun O xs P => match xs with
  | [.im (.int i), .im (.int j)] => P (.im (.int (g i j))) O
  | _ => False
def int1C (g : Int → Int) : MFC := fun O xs P => match xs with
  | [.im (.int i)] => P (.im (.int (g i))) O
  | _ => False
theorem lk_min2 : LkC K (fun xs H Q => ∃ i j, xs = [.int i, .int j] ∧ Q (.int (if j < i then j else i)) H) (int2C fun i j => if j < i then j else i) := fun w O H vs xs P Q r a hf q => by
  unfold int2C at hf
  split at hf
  · obtain ⟨v, us, rfl, h1, h2⟩ := a.uncons
    obtain ⟨v2, us2, rfl, h3, h4⟩ := h2.uncons
    rw [h4.unnil, g_int h1, g_int h3]
    exact ⟨_, _, rfl, q _ _ O w H hf (Ext.refl _ _ _) r (.int _)⟩
  · exact hf.elim
theorem lk_abs : LkC K (fun xs H Q => ∃ i, xs = [.int i] ∧ Q (.int (if i < 0 then -i else i)) H) (int1C fun i => if i < 0 then -i else i) := fun w O H vs xs P Q r a hf q => by
  unfold int1C at hf
  split at hf
  · obtain ⟨v, us, rfl, h1, h2⟩ := a.uncons
    rw [h2.unnil, g_int h1]
    exact ⟨_, rfl, q _ _ O w H hf (Ext.refl _ _ _) r (.int _)⟩
  · exact hf.elim
def intF : MFC := fun O xs P => match xs with
  | [.im (.int i)] => P (.im (.int i)) O
  | [.im (.bool c)] => P (.im (.int (if c then 1 else 0))) O
  | _ => False
theorem lk_intF : LkC K (fun xs H Q => (∃ i, xs = [.int i] ∧ Q (.int i) H) ∨ ∃ k, xs = [.bl k] ∧ Q (.int (if k then 1 else 0)) H) intF := fun w O H vs xs P Q r a hf q => by
  unfold intF at hf
  split at hf
  · obtain ⟨v, us, rfl, h1, h2⟩ := a.uncons
    rw [h2.unnil, g_int h1]
    exact .inl ⟨_, rfl, q _ _ O w H hf (Ext.refl _ _ _) r (.int _)⟩
  · obtain ⟨v, us, rfl, h1, h2⟩ := a.uncons
    rw [h2.unnil, g_bl h1]
    exact .inr ⟨_, rfl, q _ _ O w H hf (Ext.refl _ _ _) r (.int _)⟩
  · exact hf.elim
/-- a list or tuple that is data -/
def seqD : AV → Option (List PyData)
  | .im (.list ds) => some ds
  | .im (.tuple ds) => some ds
  | _ => none
theorem seqD_sq {w : Wd} {O : Sto} {H : Hp} {v : V} {x : AV} {ds : List PyData} (h : seqD x = some ds) (a : AVr K w (G w O H) v x) : ∃ p us, v = .ref p ∧ (SqL K0 H p us ∨ SqT K0 H p us) ∧ TrGs (G w O H) us ds := by
  unfold seqD at h
  split at h
  · cases h
    obtain ⟨p, us, rfl, g1, t1⟩ := g_lst a
    exact ⟨p, us, rfl, .inl (SqL.of g1), t1⟩
  · cases h
    obtain ⟨p, us, rfl, g1, t1⟩ := g_tup a
    exact ⟨p, us, rfl, .inr (SqT.of g1), t1⟩
  · cases h
def tupF : MFC := fun O xs P => match xs with
  | [.own k] => ∃ ds : List PyData, O[k]? = some (some (ds.map .im)) ∧ P (.im (.tuple ds)) O
  | [x] => match seqD x with
    | some ds => P (.im (.tuple ds)) O
    | none => False
  | _ => False
theorem lk_tup : LkC K rTup0 tupF := fun w O H vs xs P Q r a hf q => by
  unfold tupF at hf
  split at hf
  · obtain ⟨ds, hc, hf⟩ := hf
    obtain ⟨v, us, rfl, h1, h2⟩ := a.uncons
    rw [h2.unnil]
    obtain ⟨p2, e1, rfl⟩ := h1
    obtain ⟨p1, us', h0, g1, t1⟩ := r.cel _ _ hc
    rw [h0] at e1
    cases Option.some.inj e1
    refine ⟨_, us', rfl, .inl ⟨SqL.of g1, fun l hl => ?_⟩⟩
    obtain ⟨r1, e1, t2⟩ := new_tup r hl (AVrs.tr t1)
    exact q _ _ O w _ hf e1 r1 t2
  · rename_i x _
    split at hf
    · rename_i ds hd
      obtain ⟨v, us, rfl, h1, h2⟩ := a.uncons
      rw [h2.unnil]
      unfold seqD at hd
      split at hd
      · cases hd
        obtain ⟨p, us', rfl, g1, t1⟩ := g_lst h1
        refine ⟨p, us', rfl, .inl ⟨SqL.of g1, fun l hl => ?_⟩⟩
        obtain ⟨r1, e1, t2⟩ := new_tup r hl t1
        exact q _ _ O w _ hf e1 r1 t2
      · cases hd
        obtain ⟨p, us', rfl, g1, t1⟩ := g_tup h1
        exact ⟨p, us', rfl, .inr ⟨SqT.of g1, q _ _ O w _ hf (Ext.refl _ _ _) r h1⟩⟩
      · cases hd
    · exact hf.elim
  · exact hf.elim
/-! isinstance -/
theorem tyG {w : Wd} {O : Sto} {H : Hp} {v : V} {d : PyData} (h : TrG (G w O H) v d) : TyOf K H v (.type (tyD d)) := by
  cases h with
  | non => exact .non
  | bl c => exact .bl c
  | int i => exact .int i
  | str x _ => exact .str x
  | lst h1 _ => exact .lst (G_in h1).1
  | tup h1 _ => exact .tup (G_in h1).1
def mIsi (f : PyData → Bool) (M : ME) : ME := fun sl O Q => M sl O fun x O1 => match x with
  | .im d => Q (.im (.bool (f d))) O1
  | _ => False
theorem lift_isi {f : PyData → Bool} {c : Value} {M : ME} {QX : Addr → Sto → Prop} {E : XK} (hk : ∀ d, (∀ kvs, d ≠ .dict kvs) → PySem.W.kitOne K (.type (tyD d)) c = some (f d)) : ∀ σ H Q, teM K QX E (mIsi f M) σ H Q → tIsi K c (teM K QX E M) σ H Q := fun σ H Q ⟨w, O, sl, Q0, c', m, q⟩ => ⟨w, O, sl, _, c', m, fun x O1 v w1 H1 h1 e1 r1 a1 => by
  split at h1
  · rename_i d
    exact ⟨_, f d, tyG a1, hk d (fun kvs z => by subst z; cases a1), q _ O1 _ w1 H1 h1 e1 r1 (.bl _)⟩
  · exact h1.elim⟩
end
end MI

set_option Elab.async false
set_option linter.all false
set_option maxRecDepth 100000
set_option maxHeartbeats 4000000
namespace MI
open PySem L2 KG EX KM
section
variable {K : PySem.W.Frag} {QX : Addr → Sto → Prop} {E : XK} {X : Cx} {w : Wd} {O : Sto} {H : Hp}
/-! statements -/
/-- a place between two statements -/
structure Go (M : MS) (D : MEnds) (sl : Slt) (O : Sto) : Prop where
  go : M D sl O
def mSeq (M N : MS) : MS := fun D sl O => M { D with nx := fun sl' O' => Go N D sl' O' } sl O
def mNext : MS := fun D sl O => D.nx sl O
theorem ms_nil : PSs X [] (tsM K QX E mNext) := PSs.imp pss_nil fun D σ H ⟨w, O, sl, D0, c, m, hn, hb, hc, hr⟩ => hn sl O w H σ m c (Ext.refl _ _ _)
theorem ms_cons {st : Stmt} {rest : List Stmt} {M N : MS} (h1 : PS X st (tsM K QX E M)) (h2 : PSs X rest (tsM K QX E N)) : PSs X (st :: rest) (tsM K QX E (mSeq M N)) := PSs.imp (pss_cons h1 h2) fun D σ H ⟨w, O, sl, D0, c, m, hn, hb, hc, hr⟩ =>
  ⟨w, O, sl, _, c, m, fun sl1 O1 w1 H1 σ1 h1 c1 e1 => ⟨w1, O1, sl1, D0, c1, h1.go, fun sl2 O2 w2 H2 σ2 h2 c2 e2 => hn sl2 O2 w2 H2 σ2 h2 c2 (e1.trans e2), fun sl2 O2 w2 H2 σ2 h2 c2 e2 => hb sl2 O2 w2 H2 σ2 h2 c2 (e1.trans e2), fun sl2 O2 w2 H2 σ2 h2 c2 e2 => hc sl2 O2 w2 H2 σ2 h2 c2 (e1.trans e2), fun x O2 w2 H2 v h2 e2 r2 a2 => hr x O2 w2 H2 v h2 (e1.trans e2) r2 a2⟩, hb, hc, hr⟩
theorem ms_one {st : Stmt} {M : MS} (h1 : PS X st (tsM K QX E M)) : PSs X [st] (tsM K QX E M) := pss_one h1
def mDrop (M : ME) : MS := fun D sl O => M sl O fun _ O1 => D.nx sl O1
theorem ms_expr {e : Expr} {M : ME} {pos : Pos} (he : PE X e (teM K QX E M)) (hs : swapsWith e none pos.line X.env = pure false := by rfl) : PS X (.Expr e pos) (tsM K QX E (mDrop M)) := PS.imp (ps_expr he hs) fun D σ H ⟨w, O, sl, D0, c, m, hn, hb, hc, hr⟩ => ⟨w, O, sl, _, c, m, fun x O1 v w1 H1 h1 e1 r1 a1 => hn sl O1 w1 H1 σ h1 (c.ex e1.ex r1) e1⟩
def mRet (M : ME) : MS := fun D sl O => M sl O D.rt
theorem ms_ret {e : Expr} {M : ME} {pos : Pos} (he : PE X e (teM K QX E M)) : PS X (.Return (some e) pos) (tsM K QX E (mRet M)) := PS.imp (ps_ret he) fun D σ H ⟨w, O, sl, D0, c, m, hn, hb, hc, hr⟩ => ⟨w, O, sl, _, c, m, fun x O1 v w1 H1 h1 e1 r1 a1 => hr x O1 w1 H1 v h1 e1 r1 a1⟩
def mIfS (C : MT) (M N : MS) : MS := fun D sl O => C sl O fun c O1 => (c = true → M D sl O1) ∧ (c = false → N D sl O1)
theorem ms_if {t : Expr} {a b : List Stmt} {C : MT} {M N : MS} {pos : Pos} (hc : PT X t (ttM K QX E C)) (ha : PSs X a (tsM K QX E M)) (hb : PSs X b (tsM K QX E N)) : PS X (.If t a b pos) (tsM K QX E (mIfS C M N)) := PS.imp (ps_if hc ha hb) fun D σ H ⟨w, O, sl, D0, c, m, hn, hb, hc, hr⟩ => ⟨w, O, sl, _, c, m, fun x O1 w1 H1 h1 e1 r1 => by
  have z : ∀ {M : MS}, M D0 sl O1 → tsM K QX E M D σ H1 := fun h => ⟨w1, O1, sl, D0, c.ex e1.ex r1, h, fun sl2 O2 w2 H2 σ2 h2 c2 e2 => hn sl2 O2 w2 H2 σ2 h2 c2 (e1.trans e2), fun sl2 O2 w2 H2 σ2 h2 c2 e2 => hb sl2 O2 w2 H2 σ2 h2 c2 (e1.trans e2), fun sl2 O2 w2 H2 σ2 h2 c2 e2 => hc sl2 O2 w2 H2 σ2 h2 c2 (e1.trans e2), fun x O2 w2 H2 v h2 e2 r2 a2 => hr x O2 w2 H2 v h2 (e1.trans e2) r2 a2⟩
  cases x with
  | true => exact iteT (z (h1.1 rfl))
  | false => exact iteF (z (h1.2 rfl))⟩
/-! targets -/
abbrev MG := AV → Slt → Sto → (Slt → Sto → Prop) → Prop
abbrev MGs := List AV → Slt → Sto → (Slt → Sto → Prop) → Prop
def tgM (K : PySem.W.Frag) (QX : Addr → Sto → Prop) (E : XK) (mg : MG) : TG := fun v σ H Q => ∃ w O sl x Q0, Cfg K QX E w O H σ sl ∧ AVr K w (G w O H) v x ∧ mg x sl O Q0 ∧ ∀ sl' O' w' H' σ', Q0 sl' O' → Cfg K QX E w' O' H' σ' sl' → Ext w O H w' O' H' → Q σ' H'
def tgsM (K : PySem.W.Frag) (QX : Addr → Sto → Prop) (E : XK) (mg : MGs) : TGs := fun vs σ H Q => ∃ w O sl xs Q0, Cfg K QX E w O H σ sl ∧ AVrs K w (G w O H) vs xs ∧ mg xs sl O Q0 ∧ ∀ sl' O' w' H' σ', Q0 sl' O' → Cfg K QX E w' O' H' σ' sl' → Ext w O H w' O' H' → Q σ' H'
theorem PG.imp {tg : Expr} {t t' : TG} (h : PG X tg t) (i : ∀ v σ H Q, t' v σ H Q → t v σ H Q) : PG X tg t' := fun pins s σ H v u Q I r q => h pins s σ H v u Q I r (i v σ H Q q)
theorem PGs.imp {tg : List Expr} {t t' : TGs} (h : PGs X tg t) (i : ∀ v σ H Q, t' v σ H Q → t v σ H Q) : PGs X tg t' := fun pins s σ H v u Q I r q => h pins s σ H v u Q I r (i v σ H Q q)
def mgN (i : Nat) : MG := fun x sl O Q => Q (sl.set i (some x)) O
theorem Cfg.put {σ : St} {sl : Slt} (c : Cfg K QX E w O H σ sl) {v : V} {x : AV} (a : AVr K w (G w O H) v x) (i : Nat) : Cfg K QX E w O H (σ.set i (some v)) (sl.set i (some x)) := ⟨c.ro, c.so.set a i, c.zx⟩
theorem mg_name {i : Nat} {tg : Expr} (h : PG X tg (gName i)) : PG X tg (tgM K QX E (mgN i)) := PG.imp h fun v σ H Q ⟨w, O, sl, x, Q0, c, a, m, q⟩ => q _ O w H _ m (c.put a i) (Ext.refl _ _ _)
def mgNil : MGs := fun xs sl O Q => match xs with
  | [] => Q sl O
  | _ => False
def mgCons (t : MG) (u : MGs) : MGs := fun xs sl O Q => match xs with
  | x :: r => t x sl O fun sl' O' => u r sl' O' Q
  | _ => False
theorem mgs_nil : PGs X [] (tgsM K QX E mgNil) := PGs.imp pgs_nil fun v σ H Q ⟨w, O, sl, x, Q0, c, a, m, q⟩ => by
  unfold mgNil at m
  split at m
  · exact ⟨a.unnil, q _ O w H _ m c (Ext.refl _ _ _)⟩
  · exact m.elim
theorem mgs_cons {e : Expr} {es : List Expr} {t : MG} {u : MGs} (h1 : PG X e (tgM K QX E t)) (h2 : PGs X es (tgsM K QX E u)) (hs : (assignEach (e :: es) X.env).map (·.2) = assign e X.env :: (assignEach es X.env).map (·.2) := by rfl) : PGs X (e :: es) (tgsM K QX E (mgCons t u)) := PGs.imp (pgs_cons h1 h2 hs) fun v σ H Q ⟨w, O, sl, x, Q0, c, a, m, q⟩ => by
  unfold mgCons at m
  split at m
  · obtain ⟨v1, us, rfl, a1, a2⟩ := a.uncons
    exact ⟨v1, us, rfl, w, O, sl, _, _, c, a1, m, fun sl1 O1 w1 H1 σ1 h1 c1 e1 => ⟨w1, O1, sl1, _, _, c1, a2.ex e1.ex, h1, fun sl2 O2 w2 H2 σ2 h2 c2 e2 => q sl2 O2 w2 H2 σ2 h2 c2 (e1.trans e2)⟩⟩
  · exact m.elim
/-- a, b = t, t a tuple or a list of data -/
def mgT (n : Nat) (t : MGs) : MG := fun x sl O Q => match seqD x with
  | some ds => ds.length = n ∧ t (ds.map .im) sl O Q
  | none => False
theorem PG.or {tg : Expr} {t t' : TG} (h : PG X tg t) (h' : PG X tg t') : PG X tg (fun v σ H Q => t v σ H Q ∨ t' v σ H Q) := fun pins s σ H v u Q I r q => q.elim (fun z => h pins s σ H v u Q I r z) fun z => h' pins s σ H v u Q I r z
theorem mg_tup {es : List Expr} {k : Nat} {t : MGs} {n : Nat} {pos : Pos} (hc : X.calm = true) (h : PGs X es (tgsM K QX E t)) (hn : (assignEach es X.env).length = n := by rfl) (hst : (assignEach es X.env).findIdx? (·.1) = none := by rfl) : PG X (.Tuple es k pos) (tgM K QX E (mgT n t)) :=
  PG.imp (PG.or (pgTup0 hc h hn hst) (pgLst0 hc h hn hst)) fun v σ H Q ⟨w, O, sl, x, Q0, c, a, m, q⟩ => by
    unfold mgT at m
    split at m
    · rename_i ds hd
      obtain ⟨m1, m2⟩ := m
      obtain ⟨p, us, rfl, hs, t1⟩ := seqD_sq hd a
      have hl : us.length = n := by rw [t1.len]; exact m1
      have hq : tgsM K QX E t us σ H Q := ⟨w, O, sl, _, _, c, TrGs.avs t1, m2, q⟩
      rcases hs with hs | hs
      · exact .inr ⟨p, us, rfl, hs, hl, hq⟩
      · exact .inl ⟨p, us, rfl, hs, hl, hq⟩
    · exact m.elim
def mAsg (M : ME) (mg : MG) : MS := fun D sl O => M sl O fun x O1 => mg x sl O1 D.nx
theorem lift_asg {t : TE} {g : TG} {M : ME} {mg : MG} (ht : ∀ σ H Q, teM K QX E M σ H Q → t σ H Q) (hg : ∀ v σ H Q, tgM K QX E mg v σ H Q → g v σ H Q) : ∀ D σ H, tsM K QX E (mAsg M mg) D σ H → tAsg t g D σ H := fun D σ H ⟨w, O, sl, D0, c, m, hn, hb, hc, hr⟩ =>
  ht σ H _ ⟨w, O, sl, _, c, m, fun x O1 v w1 H1 h1 e1 r1 a1 => hg v σ H1 _ ⟨w1, O1, sl, x, _, c.ex e1.ex r1, a1, h1, fun sl2 O2 w2 H2 σ2 h2 c2 e2 => hn sl2 O2 w2 H2 σ2 h2 c2 (e1.trans e2)⟩⟩
theorem ms_asg {tg e : Expr} {M : ME} {mg : MG} {pos : Pos} (he : PE X e (teM K QX E M)) (hg : PG X tg (tgM K QX E mg)) (hs : swapsWithSole [tg] e pos.line X.env = pure false := by rfl) (hw : swappedStores [tg] e X.env = pure none := by rfl) (h1 : (assignEach [tg] X.env).map (·.2) = [assign tg X.env] := by rfl) : PS X (.Assign [tg] e pos) (tsM K QX E (mAsg M mg)) := PS.imp (ps_asg he hg hs hw h1) (lift_asg (fun _ _ _ z => z) fun _ _ _ _ z => z)
theorem tgM_name {i : Nat} : ∀ v σ H Q, tgM K QX E (mgN i) v σ H Q → gName i v σ H Q := fun v σ H Q ⟨w, O, sl, x, Q0, c, a, m, q⟩ => q _ O w H _ m (c.put a i) (Ext.refl _ _ _)
theorem ms_set {i : Nat} {x : Str} {e : Expr} {M : ME} {pos pos' : Pos} (hN : X.N.Nodup) (hi : X.N[i]? = some x) (hx : Loc X.env.scope x) (he : PE X e (teM K QX E M)) (hs : swapsWith e (some (.Name x pos')) pos.line X.env = pure false := by rfl) (hf : X.fn x = true ∨ X.env.scope.names.lookup x = some .local := by first | exact .inl rfl | exact .inr rfl | assumption) :
    PS X (.Assign [.Name x pos'] e pos) (tsM K QX E (mAsg M (mgN i))) := PS.imp (ps_set hN hi hx he hs hf) (lift_asg (fun _ _ _ z => z) tgM_name)
/-! iteration -/
def Items (K : PySem.W.Frag) (J : It) (w : Wd) (O : Sto) (H : Hp) (items : List AV) : Prop := ∀ O2 w2 H2, Ex0 w O H w2 O2 H2 → RelO K w2 O2 H2 → ∀ i, (∀ x, items[i]? = some x → J.go i H2 ∧ ∀ v H3, J.yld i H2 v H3 → Ext w2 O2 H2 w2 O2 H3 ∧ RelO K w2 O2 H3 ∧ AVr K w2 (G w2 O2 H3) v x) ∧ (items.length ≤ i → J.stop i H2)
def tiM (K : PySem.W.Frag) (QX : Addr → Sto → Prop) (E : XK) (M : MA) : TI := fun σ H R => ∃ w O sl Q0, Cfg K QX E w O H σ sl ∧ M sl O Q0 ∧ ∀ items O' w' H' J, Q0 items O' → Ext w O H w' O' H' → RelO K w' O' H' → Items K J w' O' H' items → R J H'
theorem PI.imp {tg iter : Expr} {t t' : TI} (h : PI X tg iter t) (i : ∀ σ H R, t' σ H R → t σ H R) : PI X tg iter t' := fun pins s σ H R I q => h pins s σ H R I (i σ H R q)
theorem items_lst {a : Addr} {ds : List PyData} (t : TrG (G w O H) (.ref a) (.list ds)) : Items K (Itl K0 a) w O H (ds.map .im) := fun O2 w2 H2 e r i => by
  cases TrG.stay e.stay t with | lst h1 t1 => ?_
  rename_i xs
  have hh := (G_in h1).1
  refine ⟨fun x hx => ?_, fun hl => ⟨xs, SqL.of hh, by rw [List.length_map] at hl; rw [t1.len]; exact hl⟩⟩
  rw [List.getElem?_map] at hx
  cases hd : ds[i]? with
  | none => rw [hd] at hx; cases hx
  | some d =>
    rw [hd] at hx
    cases Option.some.inj hx
    obtain ⟨v, hv, tv⟩ := t1.get hd
    refine ⟨⟨xs, v, SqL.of hh, hv⟩, ?_⟩
    rintro v' H3 ⟨rfl, hy⟩
    have := hy xs (SqL.of hh)
    rw [hv] at this
    cases Option.some.inj this
    exact ⟨Ext.refl _ _ _, r, tv⟩
theorem items_tup {a : Addr} {ds : List PyData} (t : TrG (G w O H) (.ref a) (.tuple ds)) : Items K (Itt K0 a) w O H (ds.map .im) := fun O2 w2 H2 e r i => by
  cases TrG.stay e.stay t with | tup h1 t1 => ?_
  rename_i xs
  have hh := (G_in h1).1
  refine ⟨fun x hx => ?_, fun hl => ⟨xs, SqT.of hh, by rw [List.length_map] at hl; rw [t1.len]; exact hl⟩⟩
  rw [List.getElem?_map] at hx
  cases hd : ds[i]? with
  | none => rw [hd] at hx; cases hx
  | some d =>
    rw [hd] at hx
    cases Option.some.inj hx
    obtain ⟨v, hv, tv⟩ := t1.get hd
    refine ⟨⟨xs, v, SqT.of hh, hv⟩, ?_⟩
    rintro v' H3 ⟨rfl, hy⟩
    have := hy xs (SqT.of hh)
    rw [hv] at this
    cases Option.some.inj this
    exact ⟨Ext.refl _ _ _, r, tv⟩
def miSeq (M : ME) : MA := fun sl O Q => M sl O fun x O1 => match seqD x with
  | some ds => Q (ds.map .im) O1
  | none => False
def iSeq (tl : TE) : TI := fun σ H R => tl σ H fun x H1 => (∃ a, x = .ref a ∧ (∃ xs, SqL K0 H1 a xs) ∧ R (Itl K0 a) H1) ∨ (∃ a, x = .ref a ∧ (∃ xs, SqT K0 H1 a xs) ∧ R (Itt K0 a) H1)
theorem pi_seq {tg l : Expr} {tl : TE} (hl : PE X l tl) : PI X tg l (iSeq tl) := by
  intro pins s σ H R I h
  refine thn (hl pins s σ H _ I h) fun v s1 ⟨x, H1, I1, r1, q1⟩ => ?_
  rcases q1 with ⟨a, e, ⟨xs, hq⟩, q⟩ | ⟨a, e, ⟨xs, hq⟩, q⟩
  · subst e
    cases r1
    obtain ⟨its, rv, p, hz⟩ := I1.list hq.k0
    refine wpAny_pyIter_list p.isList ⟨s1.heap.objs.size, [s1.heap.objs.size], _, Itl K0 a, H1, rfl, I1.kept (t' := s1.toks) fun b o e => Heap.get?_push_of_some _ e, (turn_list (K := X.K) a _).le le_list, ⟨_, Heap.get?_push_size _ rfl, rfl, rfl⟩, fun b hb => ?_, q⟩
    have e : b = s1.heap.objs.size := by simpa using hb
    subst e
    exact I1.fpOk (Nat.le_refl _) (I1.hok.fresh (Nat.le_refl _))
  · subst e
    cases r1
    obtain ⟨its, rv, p, hz⟩ := I1.tuple hq.k0
    refine wpAny_pyIter_tuple (show s1.heap.IsTuple a its.toArray from p) ⟨s1.heap.objs.size, [s1.heap.objs.size], _, Itt K0 a, H1, rfl, I1.kept (t' := s1.toks) fun b o e => Heap.get?_push_of_some _ e, (turn_tuple (K := X.K) a _).le le_tup, ⟨_, Heap.get?_push_size _ rfl, rfl, rfl⟩, fun b hb => ?_, q⟩
    have e : b = s1.heap.objs.size := by simpa using hb
    subst e
    exact I1.fpOk (Nat.le_refl _) (I1.hok.fresh (Nat.le_refl _))
theorem mi_seq {tg e : Expr} {M : ME} (he : PE X e (teM K QX E M)) : PI X tg e (tiM K QX E (miSeq M)) := PI.imp (pi_seq he) fun σ H R ⟨w, O, sl, Q0, c, m, q⟩ => ⟨w, O, sl, _, c, m, fun x O1 v w1 H1 h1 e1 r1 a1 => by
  split at h1
  · rename_i ds hd
    unfold seqD at hd
    split at hd
    · cases hd
      obtain ⟨a, xs, rfl, g1, t1⟩ := g_lst a1
      exact .inl ⟨a, rfl, ⟨xs, SqL.of g1⟩, q _ O1 w1 H1 _ h1 e1 r1 (items_lst a1)⟩
    · cases hd
      obtain ⟨a, xs, rfl, g1, t1⟩ := g_tup a1
      exact .inr ⟨a, rfl, ⟨xs, SqT.of g1⟩, q _ O1 w1 H1 _ h1 e1 r1 (items_tup a1)⟩
    · cases hd
  · exact h1.elim⟩
/-- range(n), range(a, b) -/
def rngI (lo : Int) (n : Nat) : List AV := (List.range n).map fun i : Nat => .im (.int (lo + (i : Int)))
theorem items_rng {lo : Int} {n : Nat} : Items K (Itr lo n) w O H (rngI lo n) := fun O2 w2 H2 e r i => by
  unfold rngI
  refine ⟨fun x hx => ?_, fun hl => by show n ≤ i; simpa using hl⟩
  have hi : i < n := by have := (List.getElem?_eq_some_iff.mp hx).1; simpa using this
  rw [List.getElem?_map, List.getElem?_range hi] at hx
  cases Option.some.inj hx
  refine ⟨hi, ?_⟩
  rintro v H3 ⟨rfl, rfl⟩
  exact ⟨Ext.refl _ _ _, r, .int _⟩
def miR1 (Ms : MA) : MA := fun sl O Q => Ms sl O fun xs O1 => match xs with
  | [.im (.int n)] => (-(2 ^ 62) ≤ n ∧ n < 2 ^ 62) ∧ Q (rngI 0 n.toNat) O1
  | _ => False
theorem mi_range1 {tg a : Expr} {Ms : MA} {p pos : Pos} (hg : Gl X "range") (hm : X.mg "range" = none) (ha : PA X [a] (taM K QX E Ms)) (hs : starEach [a] X.env = [(false, eval a X.env)] := by rfl) : PI X tg (.Call (.Name "range" p) [a] [] pos) (tiM K QX E (miR1 Ms)) := PI.imp (pi_range1 hg hm ha hs) fun σ H R ⟨w, O, sl, Q0, c, m, q⟩ => ⟨w, O, sl, _, c, m, fun xs O1 vs w1 H1 h1 e1 r1 a1 => by
  split at h1
  · obtain ⟨v, us, rfl, h3, h4⟩ := a1.uncons
    rw [h4.unnil, g_int h3]
    exact ⟨_, rfl, h1.1.1, h1.1.2, q _ O1 w1 H1 _ h1.2 e1 r1 items_rng⟩
  · exact h1.elim⟩
/-! for -/
structure FB (tg : MG) (body : MS) (D : MEnds) (sl : Slt) (items : List AV) (O1 : Sto) : Prop where
  ex : ∃ Iv : Nat → Slt → Sto → Prop, Iv 0 sl O1 ∧
  (∀ i x sl' O', items[i]? = some x → Iv i sl' O' → tg x sl' O' fun sl2 O2 => Go body { D with nx := Iv (i + 1), ct := Iv (i + 1), bk := D.nx } sl2 O2) ∧ ∀ sl' O', Iv items.length sl' O' → D.nx sl' O'
def mFor (it : MA) (tg : MG) (body : MS) : MS := fun D sl O => it sl O (FB tg body D sl)
theorem ms_for {tg iter : Expr} {body : List Stmt} {it : MA} {mg : MG} {M : MS} {pos : Pos} (hp : PassesOwn (model X.prog X.w) X.A X.env X.xe) (hc : X.calm = true) (hi : PI X tg iter (tiM K QX E it)) (hg : PG X tg (tgM K QX E mg)) (hb : PSs X body (tsM K QX E M)) (hs : ∀ x, foldedSetIterable iter X.env x = pure x := by intro _; rfl) : PS X (.For tg iter body [] pos) (tsM K QX E (mFor it mg M)) := PS.imp (ps_for hp hc hi hg hb hs) fun D σ H ⟨w, O, sl, D0, c, m, hn, hbk, hct, hr⟩ => ⟨w, O, sl, _, c, m, fun items O1 w1 H1 J h1 e1 r1 it1 => by
  obtain ⟨Iv, hI0, hIs, hIe⟩ := h1
  refine ⟨fun i m σ' H' => m = items.length - i ∧ i ≤ items.length ∧ ∃ w' O' sl', Cfg K QX E w' O' H' σ' sl' ∧ Ext w1 O1 H1 w' O' H' ∧ Iv i sl' O', ⟨items.length, by simp, Nat.zero_le _, w1, O1, sl, c.ex e1.ex r1, Ext.refl _ _ _, hI0⟩, ?_⟩
  rintro i m σ' H' ⟨rfl, hle, w', O', sl', c', e', hv⟩
  obtain ⟨ig, ie⟩ := it1 O' w' H' e'.ex c'.ro i
  rcases Nat.lt_or_ge i items.length with y | y
  · obtain ⟨hgo, hyl⟩ := ig _ (List.getElem?_eq_getElem y)
    refine .inr ⟨hgo, fun σ2 H2 => ∃ w2 O2 sl2, Cfg K QX E w2 O2 H2 σ2 sl2 ∧ Ext w1 O1 H1 w2 O2 H2 ∧ Iv (i + 1) sl2 O2, fun σ2 H2 ⟨w2, O2, sl2, c2, e2, h2⟩ => ⟨items.length - (i + 1), by omega, rfl, y, w2, O2, sl2, c2, e2, h2⟩, fun v H3 hv3 => ?_⟩
    obtain ⟨e3, r3, a3⟩ := hyl v H3 hv3
    refine ⟨w', O', sl', _, _, c'.ex e3.ex r3, a3, hIs i _ sl' O' (List.getElem?_eq_getElem y) hv, fun sl4 O4 w4 H4 σ4 h4 c4 e4 => ⟨w4, O4, sl4, _, c4, h4.go, fun sl5 O5 w5 H5 σ5 h5 c5 e5 => ⟨w5, O5, sl5, c5, (e'.trans e3).trans (e4.trans e5), h5⟩, fun sl5 O5 w5 H5 σ5 h5 c5 e5 => hn sl5 O5 w5 H5 σ5 h5 c5 (((e1.trans e').trans e3).trans (e4.trans e5)), fun sl5 O5 w5 H5 σ5 h5 c5 e5 => ⟨w5, O5, sl5, c5, (e'.trans e3).trans (e4.trans e5), h5⟩, fun x5 O5 w5 H5 v5 h5 e5 r5 a5 => hr x5 O5 w5 H5 v5 h5 (((e1.trans e').trans e3).trans (e4.trans e5)) r5 a5⟩⟩
  · have ei : i = items.length := by omega
    subst ei
    exact .inl ⟨ie (Nat.le_refl _), hn sl' O' w' H' σ' (hIe sl' O' hv) c' (e1.trans e')⟩⟩
end
end MI

set_option Elab.async false
set_option linter.all false
set_option maxRecDepth 100000
set_option maxHeartbeats 4000000
namespace MI
open PySem L2 KG EX KM
section
variable {K : PySem.W.Frag} {QX : Addr → Sto → Prop} {E : XK} {X : Cx} {w : Wd} {O : Sto} {H : Hp}
/-! while -/
/-! comprehensions -/
def Sub (n : Nat) (sl sl2 : Slt) : Prop := sl2.length = sl.length ∧ ∀ j, n ≤ j → sl2[j]? = sl[j]?
theorem Slots.sub {n : Nat} {ix : List Nat} {g : Hp} {σ : St} {sl sl2 : Slt} (h : Slots K w g σ sl2) (s : Sub n (blkS n ix sl) sl2) : Slots K w g σ (blkS n ix sl) := by
  refine ⟨h.1.trans s.1, fun i x hx => ?_⟩
  rcases Nat.lt_or_ge i n with y | y
  · unfold blkS at hx
    rw [List.getElem?_append_left (by simpa using y), List.getElem?_replicate, if_pos y] at hx
    cases Option.some.inj hx
  · exact h.2 i x (by rw [s.2 i y]; exact hx)
theorem Slots.stayG {w w' : Wd} {g g' : Hp} (hb : w'.bags = w.bags) (ha : w'.ads = w.ads) (s : Stay g g') {σ : St} {sl : Slt} (h : Slots K w g σ sl) : Slots K w' g' σ sl := ⟨h.1, fun i x h1 => by obtain ⟨v, h2, h3⟩ := h.2 i x h1; exact ⟨v, h2, AVr.stayG hb ha s h3⟩⟩
def Keeps (n : Nat) (mg : MG) : Prop := ∀ x sl O Q, mg x sl O Q → mg x sl O fun sl2 O2 => Q sl2 O2 ∧ Sub n sl sl2
theorem keeps_name {n i : Nat} (h : i < n) : Keeps n (mgN i) := fun x sl O Q q => ⟨q, by simp, fun j hj => List.getElem?_set_ne (by omega)⟩
structure CB (n : Nat) (ix : List Nat) (mg : MG) (C : MT) (M : ME) (sl : Slt) (Q : AV → Sto → Prop) (items : List AV) (O1 : Sto) : Prop where
  len : items.length ≤ 1000000
  ex : ∃ Iv : Nat → List PyData → Sto → Prop, Iv 0 [] O1 ∧
  (∀ i x ds O', items[i]? = some x → Iv i ds O' → mg x (blkS n ix sl) O' fun sl2 O2 => C sl2 O2 fun c O3 => (c = true → M sl2 O3 fun y O4 => match y with
      | .im d => Iv (i + 1) (ds ++ [d]) O4
      | _ => False) ∧ (c = false → Iv (i + 1) ds O3)) ∧ ∀ ds O', Iv items.length ds O' → Q (.im (.list ds)) O'
def mComp (n : Nat) (ix : List Nat) (it : MA) (mg : MG) (C : MT) (M : ME) : ME := fun sl O Q => it sl O (CB n ix mg C M sl Q)
theorem lift_comp {n : Nat} {ix : List Nat} {it : MA} {mg : MG} {C : MT} {M : ME} (hk : Keeps n mg) : ∀ σ H Q, teM K QX E (mComp n ix it mg C M) σ H Q → tComp (tiM K QX E it) (tgM K QX E mg) (ttM K QX E C) (teM K QX E M) n ix σ H Q :=
  fun σ H Q ⟨w, O, sl, Q0, c, m, q⟩ => ⟨w, O, sl, _, c, m, fun items O1 w1 H1 J h1 e1 r1 it1 acc hacc => by
    obtain ⟨hl, Iv, h0, hs, he⟩ := h1
    have hC := c.ex e1.ex r1
    obtain ⟨r0, e0⟩ := hC.ro.hide (o := .lst []) hacc (fun xs z => by cases z)
    refine ⟨fun i m σ' H' => m = items.length - i ∧ i ≤ items.length ∧ ∃ w' O' ys zs, RelO K w' O' H' ∧ w'.hid = (acc, .lst ys) :: w1.hid ∧ Ex0 w1 O1 H1 w' O' H' ∧ Slots K w' (G w' O' H') σ' (blkS n ix sl) ∧ TrGs (G w' O' H') ys zs ∧ zs.length ≤ i ∧ Iv i zs O',
      ⟨items.length, by simp, Nat.zero_le _, _, O1, [], [], r0, rfl, e0, (hC.so.blk n ix).ex e0, .nil, Nat.le_refl _, h0⟩, ?_⟩
    rintro i m σ' H' ⟨rfl, hle, w', O', ys, zs, r', hh', e', s', a', hz', hv⟩
    obtain ⟨ig, ie⟩ := it1 O' w' H' e' r' i
    rcases Nat.lt_or_ge i items.length with y | y
    · obtain ⟨hgo, hyl⟩ := ig _ (List.getElem?_eq_getElem y)
      refine .inr ⟨hgo, fun σ2 H2 => ∃ w' O' ys zs, RelO K w' O' H2 ∧ w'.hid = (acc, .lst ys) :: w1.hid ∧ Ex0 w1 O1 H1 w' O' H2 ∧ Slots K w' (G w' O' H2) σ2 (blkS n ix sl) ∧ TrGs (G w' O' H2) ys zs ∧ zs.length ≤ i + 1 ∧ Iv (i + 1) zs O', fun σ2 H2 z => ⟨items.length - (i + 1), by omega, rfl, y, z⟩, fun v H3 hv3 => ?_⟩
      obtain ⟨e3, r3, a3⟩ := hyl v H3 hv3
      have cfg : Cfg K QX E w' O' H3 σ' (blkS n ix sl) := ⟨r3, s'.ex e3.ex, fun k O'' w'' H'' qx e'' r'' => hC.zx k O'' w'' H'' qx ((e'.trans e3.ex).trans e'') r''⟩
      refine ⟨w', O', _, _, _, cfg, a3, hk _ _ _ _ (hs i _ zs O' (List.getElem?_eq_getElem y) hv), fun sl4 O4 w4 H4 σ4 h4 c4 e4 => ⟨w4, O4, sl4, _, c4, h4.1, fun b O5 w5 H5 h5 e5 r5 => ?_⟩⟩
      have e35 := e3.trans (e4.trans e5)
      cases b with
      | false => exact iteF ⟨w5, O5, ys, zs, r5, e35.hid.trans hh', e'.trans e35.ex, Slots.sub (c4.so.ex e5.ex) h4.2, TrGs.stay e35.ex.stay a', by omega, h5.2 rfl⟩
      | true =>
        refine iteT ⟨w5, O5, sl4, _, c4.ex e5.ex r5, h5.1 rfl, fun z O6 v6 w6 H6 h6 e6 r6 a6 => ?_⟩
        split at h6
        · rename_i d
          have e36 := e35.trans e6
          have hh6 : w6.hid = (acc, .lst ys) :: w1.hid := e36.hid.trans hh'
          obtain ⟨n1, n2, n3, n4⟩ := r6.nh (acc, .lst ys) (by rw [hh6]; exact List.mem_cons_self)
          obtain ⟨r7, s7⟩ := r6.rehide (o' := .lst (ys ++ [v6])) hh6 (fun xs z => by cases z)
          have e16 := e'.trans e36.ex
          refine ⟨ys, n3, by rw [a'.len, sz]; omega, { w6 with hid := (acc, .lst (ys ++ [v6])) :: w1.hid }, O6, ys ++ [v6], zs ++ [d], r7, rfl, ⟨e16.bs, e16.ads, ⟨[(acc, .lst (ys ++ [v6]))], rfl⟩, e16.stay.trans s7⟩, ?_, ?_, by rw [List.length_append]; simp; omega, h6⟩
          · exact Slots.stayG rfl rfl s7 (Slots.sub ((c4.so.ex e5.ex).ex e6.ex) h4.2)
          · exact TrGs.stay s7 ((TrGs.stay e36.ex.stay a').app (.cons a6 .nil))
        · exact h6.elim
    · have ei : i = items.length := by omega
      subst ei
      refine .inl ⟨ie (Nat.le_refl _), ?_⟩
      obtain ⟨r2, s2, g2⟩ := r'.unhide hh'
      exact q _ _ _ { w' with hid := w1.hid } _ (he zs O' hv) ⟨e1.ex.trans ⟨e'.bs, e'.ads, ⟨[], rfl⟩, e'.stay.trans s2⟩, e1.hid⟩ r2 (.lst g2 (TrGs.stay s2 a'))⟩
theorem PIfs.imp {ifs : List Expr} {t t' : TT} (h : PIfs X ifs t) (i : ∀ σ H Q, t' σ H Q → t σ H Q) : PIfs X ifs t' := fun pins s σ H Q I q => h pins s σ H Q I (i σ H Q q)
def mYes : MT := fun _ O Q => Q true O
theorem mf_nil : PIfs X [] (ttM K QX E mYes) := PIfs.imp pifs_nil fun σ H Q ⟨w, O, sl, Q0, c, m, q⟩ => q true O w H m (Ext.refl _ _ _) c.ro
theorem mf_one {e : Expr} {M : MT} (h : PT X e (ttM K QX E M)) : PIfs X [e] (ttM K QX E M) := pifs_one h
section
variable {scope : Scope} {own cap : List Str} {ix : List Nat} {tg iter elt : Expr} {ifs : List Expr} {it : MA} {mg : MG} {C : MT} {M : ME} {pos : Pos}
theorem me_comp (B : BlkOk X scope own cap ix) (hc : X.calm = true) (hi : PI X tg iter (tiM K QX E it)) (hk : Keeps own.length mg)
    (hb : ∀ C' fp s H, PG (cxC X scope C' (own ++ cap) fp s H) tg (tgM K QX E mg) ∧ PIfs (cxC X scope C' (own ++ cap) fp s H) ifs (ttM K QX E C) ∧ PE (cxC X scope C' (own ++ cap) fp s H) elt (teM K QX E M))
    (hs : ∀ x, foldedSetIterable iter X.env x = pure x := by intro _; rfl) : PE X (.ListComp elt [⟨tg, iter, ifs, 0⟩] scope pos) (teM K QX E (mComp own.length ix it mg C M)) := PE.imp (pe_comp B hc hi hb hs) (lift_comp hk)
theorem ms_setC {i : Nat} {y : Str} {py spos : Pos} (hN : X.N.Nodup) (hiN : X.N[i]? = some y) (hx : X.env.scope.names.lookup y = some .local) (B : BlkOk X scope own cap ix) (hc : X.calm = true) (hi : PI X tg iter (tiM K QX E it)) (hk : Keeps own.length mg)
    (hb : ∀ C' fp s H, PG (cxC X scope C' (own ++ cap) fp s H) tg (tgM K QX E mg) ∧ PIfs (cxC X scope C' (own ++ cap) fp s H) ifs (ttM K QX E C) ∧ PE (cxC X scope C' (own ++ cap) fp s H) elt (teM K QX E M))
    (hsw : swapsWith (.ListComp elt [⟨tg, iter, ifs, 0⟩] scope pos) (some (.Name y py)) spos.line X.env = pure true := by rfl)
    (hs : ∀ x, foldedSetIterable iter X.env x = pure x := by intro _; rfl) : PS X (.Assign [.Name y py] (.ListComp elt [⟨tg, iter, ifs, 0⟩] scope pos) spos) (tsM K QX E (mAsg (mComp own.length ix it mg C M) (mgN i))) := PS.imp (ps_setC hN hiN hx B hc hi hb hsw hs) (lift_asg (lift_comp hk) tgM_name)
end
/-! calls -/
abbrev FM := Sto → List AV → (AV → Sto → Prop) → (Addr → Sto → Prop) → Prop
def LkS (K : PySem.W.Frag) (sp : Sp) (F : FM) : Prop := ∀ (w : Wd) (O : Sto) (H : Hp) (vs : List V) (xs : List AV) (P : AV → Sto → Prop) (PX : Addr → Sto → Prop) (Q : VK) (E : XK), RelO K w O H → AVrs K w (G w O H) vs xs → F O xs P PX →
  (∀ z q O' w' H', P q O' → Ext w O H w' O' H' → RelO K w' O' H' → AVr K w' (G w' O' H') z q → Q z H') → (∀ c O' w' H', PX c O' → Ex0 w O H w' O' H' → RelO K w' O' H' → E (.ref c) none H') → sp vs H Q E
def spM (K : PySem.W.Frag) (F : FM) : Sp := fun vs H Q E => ∃ w O xs P PX, RelO K w O H ∧ AVrs K w (G w O H) vs xs ∧ F O xs P PX ∧ (∀ z q O' w' H', P q O' → Ext w O H w' O' H' → RelO K w' O' H' → AVr K w' (G w' O' H') z q → Q z H') ∧ ∀ c O' w' H', PX c O' → Ex0 w O H w' O' H' → RelO K w' O' H' → E (.ref c) none H'
theorem lk_spM {F : FM} : LkS K (spM K F) F := fun w O H vs xs P PX Q E r a f q x => ⟨w, O, xs, P, PX, r, a, f, q, x⟩
def mCall (F : FM) (QX : Addr → Sto → Prop) (Ms : MA) : ME := fun sl O Q => Ms sl O fun xs O1 => F O1 xs Q QX
theorem me_call {CX : CXT} {k : Nat} {f : Addr} {fd : FuncData} {ps : List Str} {sp : Sp} {F : FM} {x : Str} {e : Expr} {es : List Expr} {p pos : Pos} {Ms : MA} (G' : FnOk X.prog X.w X.K X.mg X.base CX k f fd ps sp) (lk : LkS K sp F) (hr : Room k X.A) (hg : Gl X x) (hm : X.mg x = some (.ref f)) (hk : PySem.W.keepIn X.K (.ref f) = true) (hb : Binds X.K fd ps []) (hx : Passes CX X E)
    (ha : PA X (e :: es) (taM K QX E Ms)) (hdb : (x == ("__debug__" : Str)) = false := by decide) (he : starEach (e :: es) X.env = (false, eval e X.env) :: starEach es X.env := by rfl) (hpl : (backTo pos (starEach es X.env)).any (·.1) = false := by rfl) :
    PE X (.Call (.Name x p) (e :: es) [] pos) (teM K QX E (mCall F QX Ms)) := PE.imp (pe_call G' hr hg hm hk hb (dvs := []) .nil hx ha hdb he hpl) fun σ H Q ⟨w, O, sl, Q0, c, m, q⟩ => ⟨w, O, sl, _, c, m, fun xs O1 vs w1 H1 h1 e1 r1 a1 => by
  show sp (vs ++ []) H1 Q E
  rw [List.append_nil]
  exact lk w1 O1 H1 vs xs _ QX Q E r1 a1 h1 (fun z z' O3 w3 H3 h3 e3 r3 a3 => q _ O3 z w3 H3 h3 (e1.trans e3) r3 a3) fun k O' w' H' qx e' r' => c.zx k O' w' H' qx (e1.ex.trans e') r'⟩
def noX : Addr → Sto → Prop := fun _ _ => False
/-- a call that never raises -/
theorem me_call0 {k : Nat} {f : Addr} {fd : FuncData} {ps : List Str} {sp : Sp} {F : FM} {x : Str} {e : Expr} {es : List Expr} {p pos : Pos} {Ms : MA} (G' : FnOk X.prog X.w X.K X.mg X.base CX0 k f fd ps sp) (lk : LkS K sp F) (hr : Room k X.A) (hg : Gl X x) (hm : X.mg x = some (.ref f)) (hk : PySem.W.keepIn X.K (.ref f) = true) (hb : Binds X.K fd ps [])
    (ha : PA X (e :: es) (taM K QX E Ms)) (hdb : (x == ("__debug__" : Str)) = false := by decide) (he : starEach (e :: es) X.env = (false, eval e X.env) :: starEach es X.env := by rfl) (hpl : (backTo pos (starEach es X.env)).any (·.1) = false := by rfl) :
    PE X (.Call (.Name x p) (e :: es) [] pos) (teM K QX E (mCall F noX Ms)) := PE.imp (pe_call G' hr hg hm hk hb (dvs := []) .nil pass0 ha hdb he hpl) fun σ H Q ⟨w, O, sl, Q0, c, m, q⟩ => ⟨w, O, sl, _, c, m, fun xs O1 vs w1 H1 h1 e1 r1 a1 => by
  show sp (vs ++ []) H1 Q E0
  rw [List.append_nil]
  exact lk w1 O1 H1 vs xs _ noX Q E0 r1 a1 h1 (fun z z' O3 w3 H3 h3 e3 r3 a3 => q _ O3 z w3 H3 h3 (e1.trans e3) r3 a3) fun k O' w' H' qx e' r' => qx.elim⟩
/-! defs -/
def startS (N : List Str) (xs : List AV) : Slt := xs.map some ++ List.replicate (N.length - xs.length) none
theorem slots_start {N : List Str} {vs : List V} {xs : List AV} {g : Hp} (a : AVrs K w g vs xs) : Slots K w g (L2.start N vs) (startS N xs) := by
  unfold L2.start startS
  refine ⟨by simp [a.1], fun i x hx => ?_⟩
  rcases Nat.lt_or_ge i xs.length with y | y
  · rw [List.getElem?_append_left (by simpa using y), List.getElem?_map, List.getElem?_eq_getElem y] at hx
    have ex : xs[i] = x := by injection (Option.some.inj hx)
    have yv : i < vs.length := by rw [a.1]; exact y
    refine ⟨vs[i], ?_, a.2 i _ x (List.getElem?_eq_getElem yv) (by rw [List.getElem?_eq_getElem y, ex])⟩
    rw [List.getElem?_append_left (by simpa using yv), List.getElem?_map, List.getElem?_eq_getElem yv]; rfl
  · rw [List.getElem?_append_right (by simpa using y), List.getElem?_replicate] at hx
    split at hx
    · cases Option.some.inj hx
    · cases hx
variable {P : Program} {wo : World} {mg : Str → Option Value} {base : Heap}
theorem okM {x qual : Str} {st : Stmt} {f : Addr} {fd : FuncData} {N ps : List Str} {k : Nat} {F : FM} (U : Fun K x qual st f fd) (S : FnScope N ps (defScope st)) (hl : ∀ O xs P PX, F O xs P PX → xs.length = ps.length)
    (hb : ∀ (cdv : Value) (A : Around) (outer : List Env) (s : Shared) (H : Hp) (E : XK) (QX : Addr → Sto → Prop), Room k (A.deeper (PyProof.Rows.envOfC qual (defScope st) s.heap.objs.size f cdv)) →
      ∃ M, PSs (cxOf CX0 P wo K mg base N qual (defScope st) f cdv A outer s H E).nox (defBody st) (tsM K QX E M) ∧ ∀ O xs Pq, F O xs Pq QX → M { nx := fun _ O' => Pq (.im .none) O', rt := Pq } (startS N xs) O) : FnOk P wo K mg base CX0 (k + 1) f fd ps (spM K F) := by
  refine U.ok S (fun vs H Q E ⟨w, O, xs, P, PX, r, a, h, q⟩ => by rw [a.1]; exact hl O xs P PX h) (fun cdv A outer s H vs Q E hr ⟨w, O, xs, P', PX, r, a, h, q, x⟩ => ?_)
  obtain ⟨M, hM, hq⟩ := hb cdv A outer s H E PX hr
  exact ⟨_, hM, w, O, startS N xs, _, ⟨r, slots_start a, x⟩, hq O xs P' h, fun sl' O' w' H' σ' h' c' e' => q _ _ O' w' H' h' e' c'.ro .non, fun sl' O' w' H' σ' h' c' e' => h'.elim, fun sl' O' w' H' σ' h' c' e' => h'.elim, fun x' O' w' H' v h' e' r' a' => q v x' O' w' H' h' e' r' a'⟩
theorem okMX {x qual : Str} {st : Stmt} {f : Addr} {fd : FuncData} {N ps : List Str} {k : Nat} {F : FM} (U : Fun K x qual st f fd) (S : FnScope N ps (defScope st)) (hl : ∀ O xs P PX, F O xs P PX → xs.length = ps.length)
    (hb : ∀ (cdv : Value) (A : Around) (outer : List Env) (s : Shared) (H : Hp) (E : XK) (QX : Addr → Sto → Prop), Room k (A.deeper (PyProof.Rows.envOfC qual (defScope st) s.heap.objs.size f cdv)) →
      ∃ M, PSs (cxOf (CXF P wo) P wo K mg base N qual (defScope st) f cdv A outer s H E) (defBody st) (tsM K QX E M) ∧ ∀ O xs Pq, F O xs Pq QX → M { nx := fun _ O' => Pq (.im .none) O', rt := Pq } (startS N xs) O) : FnOk P wo K mg base (CXF P wo) (k + 1) f fd ps (spM K F) := by
  refine U.okX S (fun vs H Q E ⟨w, O, xs, P, PX, r, a, h, q⟩ => by rw [a.1]; exact hl O xs P PX h) (fun cdv A outer s H vs Q E hr ⟨w, O, xs, P', PX, r, a, h, q, x⟩ => ?_)
  obtain ⟨M, hM, hq⟩ := hb cdv A outer s H E PX hr
  exact ⟨_, hM, w, O, startS N xs, _, ⟨r, slots_start a, x⟩, hq O xs P' h, fun sl' O' w' H' σ' h' c' e' => q _ _ O' w' H' h' e' c'.ro .non, fun sl' O' w' H' σ' h' c' e' => h'.elim, fun sl' O' w' H' σ' h' c' e' => h'.elim, fun x' O' w' H' v h' e' r' a' => q v x' O' w' H' h' e' r' a'⟩
/-! x.append(e), x a list of the store -/
end
end MI

set_option Elab.async false
set_option linter.all false
set_option maxRecDepth 100000
set_option maxHeartbeats 4000000
namespace MI
open PySem L2 KG EX KM
section
variable {K : PySem.W.Frag} {QX : Addr → Sto → Prop} {E : XK} {X : Cx} {w : Wd} {O : Sto} {H : Hp}
/-! cells that are given up -/
/-! -x -/
def mNeg (M : ME) : ME := fun sl O Q => M sl O fun x O1 => match x with
  | .im (.int i) => Q (.im (.int (-i))) O1
  | _ => False
theorem me_neg {a : Expr} {M : ME} {pos : Pos} (h : PE X a (teM K QX E M)) : PE X (.UnaryOp .USub a pos) (teM K QX E (mNeg M)) := PE.imp (pe_un un_neg h) fun σ H Q ⟨w, O, sl, Q0, c, m, q⟩ => ⟨w, O, sl, _, c, m, fun x O1 v w1 H1 h1 e1 r1 a1 => by
  split at h1
  · exact ⟨_, g_int a1, q _ O1 _ w1 H1 h1 e1 r1 (.int _)⟩
  · exact h1.elim⟩
/-! the law's own small defs -/
def fBag : FM := fun O xs P _ => match xs with
  | [.scr _, .im (.int k)] => (0 ≤ k ∧ k < 100) ∧ ∀ j, P (.bag j) O
  | _ => False
theorem lk_bag : LkS K (spBag K) fBag := fun w O H vs xs P PX Q E r a hf q x => by
  unfold fBag at hf
  split at hf
  · obtain ⟨v, us, rfl, h1, h2⟩ := a.uncons
    obtain ⟨v2, us2, rfl, h3, h4⟩ := h2.uncons
    rw [h4.unnil]
    obtain ⟨b, rfl, hb⟩ := h1
    rw [g_int h3]
    refine ⟨b, _, _, rfl, KG.SqL.stay hb g_le, hf.1.1, hf.1.2, fun p c d hp => ?_⟩
    obtain ⟨r1, e1⟩ := r.bag (x := c) (y := d) hp
    exact q _ _ O _ _ (hf.2 w.bags.length) e1 r1 ⟨p, by simp, rfl⟩
  · exact hf.elim
theorem new_q (r : RelO K w O H) {p : Addr} {q : Rat} (hp : H p = none) : RelO K w O (upd H p (qO q)) ∧ Ext w O H w O (upd H p (qO q)) ∧ TrG (G w O (upd H p (qO q))) (.ref p) (qD q) := new_tup r hp (.cons (.int _) (.cons (.int _) .nil))
def fLf : FM := fun O xs P _ => match xs with
  | [.im (.int t), .im (.int u)] => (0 < u ∧ Bd 8000 u) ∧ P (.im (qD (Rat.divInt t u))) O
  | _ => False
theorem lk_lf : LkS K spLf fLf := fun w O H vs xs P PX Q E r a hf q x => by
  unfold fLf at hf
  split at hf
  · obtain ⟨v, us, rfl, h1, h2⟩ := a.uncons
    obtain ⟨v2, us2, rfl, h3, h4⟩ := h2.uncons
    rw [h4.unnil, g_int h1, g_int h3]
    refine ⟨_, _, rfl, hf.1.1, hf.1.2, fun p hp => ?_⟩
    obtain ⟨r1, e1, t1⟩ := new_q r hp
    exact q _ _ O w _ hf.2 e1 r1 t1
  · exact hf.elim
end
end MI

set_option Elab.async false
set_option linter.all false
set_option maxRecDepth 100000
set_option maxHeartbeats 4000000
namespace MI
open PySem L2 KG EX KM
section
variable {n : Nat} {ix : List Nat} {items : List AV} {M : ME} {C : MT} {sl : Slt} {O : Sto} {Q : AV → Sto → Prop}
/-- a comprehension without a condition, each part as R tells -/
theorem comp_all (R : Nat → PyData → Prop) (hl : items.length ≤ 1000000)
    (hs : ∀ (i : Nat) x (Z : AV → Sto → Prop), items[i]? = some x → (∀ d, R i d → Z (.im d) O) → M ((blkS n ix sl).set 0 (some x)) O Z)
    (hd : ∀ ds : List PyData, ds.length = items.length → (∀ j, j < ds.length → R j (ds.getD j .none)) → Q (.im (.list ds)) O) : CB n ix (mgN 0) mYes M sl Q items O := by
  refine ⟨hl, fun i ds O' => O' = O ∧ ds.length = i ∧ ∀ j, j < ds.length → R j (ds.getD j .none), ⟨rfl, rfl, fun j hj => absurd hj (by simp)⟩, ?_, fun ds O' ⟨e, h1, h2⟩ => e ▸ hd ds h1 h2⟩
  rintro i x ds O' hx ⟨rfl, hli, hR⟩
  refine ⟨fun _ => hs i x _ hx fun d hdR => ⟨rfl, by simp [hli], fun j hj => ?_⟩, fun z => by cases z⟩
  rcases Nat.lt_or_ge j ds.length with y | y
  · have : (ds ++ [d]).getD j .none = ds.getD j .none := by simp [List.getD, List.getElem?_append_left y]
    rw [this]; exact hR j y
  · have hj' : j = ds.length := by simp at hj; omega
    subst hj'
    have : (ds ++ [d]).getD ds.length .none = d := by simp [List.getD]
    rw [this, hli]; exact hdR
theorem list_ix {ds : List PyData} {f : Nat → PyData} (h : ∀ j, j < ds.length → ds.getD j .none = f j) : ds = (List.range ds.length).map f := by
  apply List.ext_getElem?
  intro j
  rw [List.getElem?_map]
  rcases Nat.lt_or_ge j ds.length with y | y
  · rw [List.getElem?_range y, Option.map_some, ← h j y, getD_of (List.getElem?_eq_getElem y)]; exact List.getElem?_eq_getElem y
  · rw [List.getElem?_eq_none y, List.getElem?_eq_none (by simpa using y)]; rfl
theorem comp_map (f : Nat → PyData) (hl : items.length ≤ 1000000)
    (hs : ∀ (i : Nat) x (Z : AV → Sto → Prop), items[i]? = some x → Z (.im (f i)) O → M ((blkS n ix sl).set 0 (some x)) O Z)
    (hd : Q (.im (.list ((List.range items.length).map f))) O) : CB n ix (mgN 0) mYes M sl Q items O :=
  comp_all (fun i d => d = f i) hl (fun i x Z hx h => hs i x Z hx (h _ rfl)) fun ds h1 h2 => by rw [list_ix h2, h1]; exact hd
theorem comp_filt (c : Nat → Bool) (f : Nat → PyData) (hl : items.length ≤ 1000000)
    (hc : ∀ (i : Nat) x (Z : Bool → Sto → Prop), items[i]? = some x → Z (c i) O → C ((blkS n ix sl).set 0 (some x)) O Z)
    (hs : ∀ (i : Nat) x (Z : AV → Sto → Prop), items[i]? = some x → c i = true → Z (.im (f i)) O → M ((blkS n ix sl).set 0 (some x)) O Z)
    (hd : Q (.im (.list (((List.range items.length).filter c).map f))) O) : CB n ix (mgN 0) C M sl Q items O := by
  refine ⟨hl, fun i ds O' => O' = O ∧ ds = ((List.range i).filter c).map f, ⟨rfl, rfl⟩, ?_, fun ds O' ⟨e, h1⟩ => by rw [e, h1]; exact hd⟩
  rintro i x ds O' hx ⟨rfl, rfl⟩
  exact hc i x _ hx ⟨fun h => hs i x _ hx h ⟨rfl, by rw [filt_snoc, h, if_pos rfl]⟩, fun h => ⟨rfl, by rw [filt_snoc, h, if_neg (by decide), List.append_nil]⟩⟩
theorem rng_at {lo : Int} {n i : Nat} {x : AV} (h : (rngI lo n)[i]? = some x) : i < n ∧ x = .im (.int (lo + (i : Int))) := by
  unfold rngI at h
  have hi : i < n := by have := (List.getElem?_eq_some_iff.mp h).1; simpa using this
  rw [List.getElem?_map, List.getElem?_range hi] at h
  exact ⟨hi, (Option.some.inj h).symm⟩
theorem rng_at0 {n i : Nat} {x : AV} (h : (rngI 0 n)[i]? = some x) : i < n ∧ x = .im (.int (i : Int)) := by
  obtain ⟨h1, h2⟩ := rng_at h; exact ⟨h1, by rw [h2, Int.zero_add]⟩
theorem dI {i j : Int} : min (PyData.int i).depth (PyData.int j).depth ≤ 60 := by show min 0 0 ≤ 60; decide
theorem len1 {α : Type} {x : α} : [x].length ≤ sizeLine := by show 1 ≤ sizeLine; decide
theorem len2 {α : Type} {x y : α} : [x, y].length ≤ sizeLine := by show 2 ≤ sizeLine; decide
end
end MI

set_option Elab.async false
set_option linter.all false
set_option maxRecDepth 100000
set_option maxHeartbeats 4000000
namespace MI
open PySem L2 KG EX KM
section
variable {K : PySem.W.Frag} {QX : Addr → Sto → Prop} {E : XK} {X : Cx} {w : Wd} {O : Sto} {H : Hp}
/-! written things -/
abbrev powF : MF2 := int2 CPow fun i j => .int (i ^ j.toNat)
theorem mo_pow {Ma Mb : ME} {a b : Expr} {pos : Pos} (ha : PE X a (teM K QX E Ma)) (hb : PE X b (teM K QX E Mb)) : PE X (.BinOp a .Pow b pos) (teM K QX E (mOp powF Ma Mb)) := me_op op_pow (lk_int2 fun _ _ _ => .int _) ha hb
/-! isinstance -/
section
variable {e : Expr} {M : ME} {p p2 pos : Pos}
end
/-! parts of tuples -/
/-! data and the trees of the older contracts -/
mutual
theorem TrG.far {g : Hp} : ∀ {v : V} {d : PyData}, TrG g v d → ∃ n : Nat, ∀ b, n ≤ b → TrV b g v d
  | _, _, .non => ⟨0, fun b _ => .non⟩
  | _, _, .bl c => ⟨0, fun b _ => .bl c⟩
  | _, _, .int i => ⟨0, fun b _ => .int i⟩
  | _, _, .str x o => ⟨0, fun b _ => .str x o⟩
  | _, _, .lst (a := a) h t => by
    obtain ⟨n, hn⟩ := TrGs.far t
    exact ⟨n + a + 1, fun b hb => .lst (Nat.ne_of_lt (by omega)) h (hn b (by omega))⟩
  | _, _, .tup h t => by
    obtain ⟨n, hn⟩ := TrGs.far t
    exact ⟨n, fun b hb => .tup h (hn b hb)⟩
theorem TrGs.far {g : Hp} : ∀ {vs : List V} {ds : List PyData}, TrGs g vs ds → ∃ n : Nat, ∀ b, n ≤ b → TrVs b g vs ds
  | _, _, .nil => ⟨0, fun b _ => .nil⟩
  | _, _, .cons h t => by
    obtain ⟨n, hn⟩ := TrG.far h
    obtain ⟨m, hm⟩ := TrGs.far t
    exact ⟨n + m, fun b hb => .cons (hn b (by omega)) (hm b (by omega))⟩
end
theorem avs1 {vs : List V} {x : AV} {g : Hp} (a : AVrs K w g vs [x]) : ∃ v, vs = [v] ∧ AVr K w g v x := by
  obtain ⟨v, us, rfl, h1, h2⟩ := a.uncons
  rw [h2.unnil]; exact ⟨v, rfl, h1⟩
/-- whether it is so of a thing -/
def fT (m : PyData → Bool) : FM := fun O xs P _ => match xs with
  | [.im d] => P (.im (.bool (m d))) O
  | _ => False
theorem lk_T {m : PyData → Bool} : LkS K (spT m) (fT m) := fun w O H vs xs P PX Q E r a hf q x => by
  unfold fT at hf
  split at hf
  · obtain ⟨v, rfl, h1⟩ := avs1 a
    obtain ⟨n, hn⟩ := TrG.far (TrG.stay g_le h1)
    refine ⟨n, v, _, rfl, hn n (Nat.le_refl _), fun H' s => ?_⟩
    obtain ⟨r1, e1, _⟩ := r.stay s
    exact q _ _ O w H' hf e1 r1 (.bl _)
  · exact hf.elim
end
end MI

set_option Elab.async false
set_option linter.all false
set_option maxRecDepth 100000
set_option maxHeartbeats 4000000
namespace MI
open PySem L2 KG EX KM
section
variable {K : PySem.W.Frag} {w : Wd} {O : Sto} {H : Hp}
/-! the law itself -/
def fLaw : FM := fun O xs P _ => ∃ ns : List Int, xs = [.scr ns] ∧ ns.length ≤ 63 ∧ ∀ O', P (.im (.bool true)) O'
theorem law_of {Pg : Program} {wo : World} {mg : Str → Option Value} {base : Heap} {k : Nat} {f : Addr} {fd : FuncData} (F : FnOk Pg wo K mg base CX0 k f fd ["script"] (spM K fLaw)) : FnOk Pg wo K mg base CX0 k f fd ["script"] (spLaw K) := F.imp fun vs H Q E ⟨a, ns, e, hS, hl, hq⟩ => by
  subst e
  have hid : ∀ x, ¬ Hid ⟨[], [], []⟩ [] x := fun x h => by
    rcases h with h | ⟨o, h⟩ | ⟨k, c, h, _⟩
    · cases h
    · cases h
    · simp at h
  have sg : Stay H (G ⟨[], [], []⟩ [] H) := fun x o h => by rw [G_of (hid x)]; exact h
  refine ⟨⟨[], [], []⟩, [], [.scr ns], fun z _ => z = .im (.bool true), fun _ _ => False, ⟨rfl, List.nodup_nil, fun a h => (by cases h), fun a h => (by cases h), List.nodup_nil, fun p h => (by cases h), fun a h => (by cases h), fun k c h => by simp at h⟩, AVrs.cons ⟨a, rfl, KG.SqL.stay hS sg⟩ AVrs.nil, ⟨ns, rfl, hl, fun O' => rfl⟩, fun z q O' w' H' hz e r av => ?_, fun c O' w' H' h => h.elim⟩
  subst hz
  rw [g_bl av]
  exact hq H'
end
end MI

set_option Elab.async false
set_option linter.all false
set_option maxRecDepth 100000
set_option maxHeartbeats 4000000
namespace MI
open PySem L2 KG EX KM
end MI

set_option Elab.async false
set_option linter.all false
set_option maxRecDepth 100000
set_option maxHeartbeats 4000000
namespace MI
open PySem L2 KG EX KM
/-! ### tables in the store -/
/-! ### the rows of wishes -/
/-! ### sums of a column -/
end MI

set_option Elab.async false
set_option linter.all false
set_option maxRecDepth 100000
set_option maxHeartbeats 4000000
namespace MI
open PySem L2 KG EX KM
/-! ### two tables of whole numbers in the store, made side by side -/
section
variable {O O' : Sto} {k1 k2 m i : Nat} {ks1 ks2 : List Nat} {W D : List (List Int)}
end
end MI

set_option Elab.async false
set_option linter.all false
set_option maxRecDepth 100000
set_option maxHeartbeats 4000000
namespace MI
open PySem L2 KG EX KM
end MI

set_option Elab.async false
set_option linter.all false
set_option maxRecDepth 100000
set_option maxHeartbeats 4000000
namespace MI
open PySem L2 KG EX KM
section
variable {K : PySem.W.Frag} {QX : Addr → Sto → Prop} {E : XK} {X : Cx}
/-! a, b = x, y -/
end
/-! ### rows of fractions as lists -/
section
variable {n : Nat} {ix : List Nat} {sl : Slt} {O : Sto} {Q : AV → Sto → Prop}
end
end MI

set_option Elab.async false
set_option linter.all false
set_option maxRecDepth 100000
set_option maxHeartbeats 4000000
namespace MI
open PySem L2 KG EX KM
/-! ### money goes round -/
/-! ### a free good more -/
end MI

set_option Elab.async false
set_option linter.all false
set_option maxRecDepth 100000
set_option maxHeartbeats 4000000
namespace MI
open PySem L2 KG EX KM
/-! ### one table of whole numbers in the store -/
/-! ### the market that a barter makes at prices -/
end MI

set_option Elab.async false
set_option linter.all false
set_option maxRecDepth 100000
set_option maxHeartbeats 4000000
namespace MI
open PySem L2 KG EX KM
section
variable {K : PySem.W.Frag}
end
/-! ### a dealing -/
/-! ### the goods that are wished for -/
/-! ### the best goods -/
/-! ### whether a dealing shows -/
section
variable {A : List Int} {Pu qs : List Rat} {W : List (List Int)} {D : List (List Rat)} {g : Nat}
end
/-! ### what is due -/
end MI

set_option Elab.async false
set_option linter.all false
set_option maxRecDepth 100000
set_option maxHeartbeats 4000000
namespace MI
open PySem L2 KG EX KM
/-! ### the program's own functions, over any market (the purses need not be a market's) -/
/-! a row of a dealing, a dealing -/
section
variable {K : PySem.W.Frag} {QX : Addr → Sto → Prop} {E : XK} {X : Cx}
end
section
variable {n : Nat} {ix : List Nat} {items : List AV} {M : ME} {sl : Slt} {O : Sto} {Q : AV → Sto → Prop}
end
/-! what goods are worth at prices -/
/-! a dealing, by the program -/
/-! prices of a market in which each good is wished for -/
/-! all is sold, all is spent -/
end MI

set_option Elab.async false
set_option linter.all false
set_option maxRecDepth 100000
set_option maxHeartbeats 4000000
namespace MI
open PySem L2 KG EX KM
/-! raise C(..) -/
def mRaise (QX : Addr → Sto → Prop) (C : Addr) (Ms : MA) : MS := fun D sl O => Ms sl O fun xs O1 => xs.length ≤ sizeLine ∧ QX C O1
theorem ms_raise {P : Program} {w : World} {K : PySem.W.Frag} {mg : Str → Option Value} {base : Heap} {N : List Str} {qual : Str} {scope : Scope} {f : Addr} {cd : Value} {A : Around} {outer : List Env} {s₀ : Shared} {H₀ : Hp} {E : XK} {QX : Addr → Sto → Prop} {K' : PySem.W.Frag}
    {x : Str} {C : Addr} {e : Expr} {es : List Expr} {Ms : MA} {np cpos pos : Pos} {bmB : List Value} {B newId initId : String} (FB : ExcBaseFacts B newId initId bmB) (hg : Gl (cxOf (CXF P w) P w K mg base N qual scope f cd A outer s₀ H₀ E) x) (hm : mg x = some (.ref C)) (hx : PySem.W.excIn K C bmB newId = true)
    (ha : PA (cxOf (CXF P w) P w K mg base N qual scope f cd A outer s₀ H₀ E) (e :: es) (taM K' QX E Ms)) (hd : (x == ("__debug__" : Str)) = false := by decide)
    (he : starEach (e :: es) (PyProof.Rows.envOfC qual scope s₀.heap.objs.size f cd) = (false, eval e (PyProof.Rows.envOfC qual scope s₀.heap.objs.size f cd)) :: starEach es (PyProof.Rows.envOfC qual scope s₀.heap.objs.size f cd) := by rfl)
    (hpl : (backTo cpos (starEach es (PyProof.Rows.envOfC qual scope s₀.heap.objs.size f cd))).any (·.1) = false := by rfl) :
    PS (cxOf (CXF P w) P w K mg base N qual scope f cd A outer s₀ H₀ E) (.Raise (some (.Call (.Name x np) (e :: es) [] cpos)) none pos) (tsM K' QX E (mRaise QX C Ms)) :=
  PS.imp (ps_raise FB hg hm hx ha hd he hpl) fun D σ H ⟨w, O, sl, D0, c, m, hn, hb, hc, hr⟩ => ⟨w, O, sl, _, c, m, fun xs O1 vs w1 H1 h1 e1 r1 a1 => ⟨by rw [a1.1]; exact h1.1, c.3 C O1 w1 H1 h1.2 e1.ex r1⟩⟩
end MI

set_option Elab.async false
set_option linter.all false
set_option maxRecDepth 100000
set_option maxHeartbeats 2000000
namespace L2
open PySem PySem.Spec PyProof.Rows EX
end L2

set_option Elab.async false
set_option linter.all false
namespace MI
open PySem L2 KG EX KM
theorem unhide {K : PySem.W.Frag} {w w' : Wd} {O O' : Sto} {H H' : Hp} (e : Ex0 w O H w' O' H') (r : RelO K w' O' H') : RelO K { w' with hid := w.hid } O' H' ∧ Ext w O H { w' with hid := w.hid } O' H' := by
  obtain ⟨t, ht⟩ := e.hs
  have sub : ∀ p ∈ w.hid, p ∈ w'.hid := fun p hp => by rw [ht]; exact List.mem_append_right _ hp
  have st : Stay (G w' O' H') (G { w' with hid := w.hid } O' H') := fun a o h => by
    obtain ⟨h1, h2⟩ := G_in h
    rw [G_of]
    · exact h1
    · rintro (z | ⟨o', z⟩ | z)
      · exact h2 (.inl z)
      · exact h2 (.inr (.inl ⟨o', sub _ z⟩))
      · exact h2 (.inr (.inr z))
  refine ⟨⟨r.len, r.nd, r.al, r.nb, ?_, fun p hp => r.nh p (sub p hp), r.bg, fun k c hk => ?_⟩, ⟨⟨e.bs, e.ads, ⟨[], rfl⟩, e.stay.trans st⟩, rfl⟩⟩
  · have := r.hn
    rw [ht, List.map_append] at this
    exact (List.nodup_append.mp this).2.1
  · obtain ⟨a, vs, h1, h2, h3⟩ := r.cel k c hk
    refine ⟨a, vs, h1, h2, ?_⟩
    refine ⟨h3.1, fun i v x hv hx => ?_⟩
    have q := h3.2 i v x hv hx
    cases x with
    | im d => exact TrG.stay st q
    | own k => exact q
    | bag j => exact q
    | scr ns =>
      obtain ⟨a, e1, e2⟩ := q
      exact ⟨a, e1, KG.SqL.stay e2 st⟩
/-! try: x = f(..) / except C: return b -/
end MI

set_option Elab.async false
set_option linter.all false
set_option maxRecDepth 100000
set_option maxHeartbeats 4000000
namespace MI
open PySem L2 KG EX KM
/-! try: x = f(..) / except C as n: y = kinds(n) -/
def mTryC (F : FM) (i j l : Nat) (nm : Addr → Str → Prop) (Ms : MA) : MS := fun D sl O => Ms sl O fun xs O1 => F O1 xs (fun x O2 => D.nx (sl.set i (some x)) O2) (fun c O2 => ∃ s, nm c s ∧ D.nx (((sl.set j none).set l (some (.im (.str s)))).set j none) O2)
def Kd (K : PySem.W.Frag) (M De Bu Dl Go Mk Nn Pr Ro Tx No Un c : Addr) (s : Str) : Prop := ∃ i, i < 11 ∧ ErrOf K M De Bu Dl Go Mk Nn Pr Ro Tx No Un c i ∧ s = kindS i
theorem kind_lay : ∀ i : Fin 11, (PyData.str (kindS i.1)).canLay0 = true := by decide +kernel
theorem ms_tryC {X : Cx} {K : PySem.W.Frag} {QX : Addr → Sto → Prop} {E : XK} {k kk : Nat} {f fK M De Bu Dl Go Mk Nn Pr Ro Tx No Un : Addr} {fd fdK : FuncData} {ps psK : List Str} {sp : Sp} {F : FM} {x n y fn kf Cl : Str} {i j l : Nat} {e : Expr} {es : List Expr} {Ms : MA} {px fp cpos apos np py kp np2 kpos ypos hpos pos : Pos}
    (F' : FnOk X.prog X.w X.K X.mg X.base (CXF X.prog X.w) k f fd ps sp) (lk : LkS K sp F) (hr : Room k X.A) (hgf : Gl X fn) (hmf : X.mg fn = some (.ref f)) (hkf : PySem.W.keepIn X.K (.ref f) = true) (hbf : Binds X.K fd ps [])
    (G : FnH X.prog X.w X.K X.mg X.base kk fK fdK psK (spKinds X.K M De Bu Dl Go Mk Nn Pr Ro Tx No Un)) (hr2 : Room kk X.A) (hgk : Gl X kf) (hmk : X.mg kf = some (.ref fK)) (hkk : PySem.W.keepIn X.K (.ref fK) = true) (hbk : Binds X.K fdK psK [])
    (hgC : Gl X Cl) (hmC : X.mg Cl = some (.ref M)) (tyM : PySem.W.typeIn X.K (.ref M) = some (.type "type")) (bM : PySem.W.mroIn X.K M (.type "BaseException") = some true)
    (hst : X.stack = X.env :: X.outer) (hfr : X.env.frame = some X.env.locals) (hN : X.N.Nodup) (hi : X.N[i]? = some x) (hj : X.N[j]? = some n) (hl : X.N[l]? = some y)
    (kx : X.env.scope.names.lookup x = some .local) (kn : X.env.scope.names.lookup n = some .local) (ky : X.env.scope.names.lookup y = some .local)
    (ha : ∀ E', PA (X.wish E') (e :: es) (taM K QX E Ms))
    (hs1 : swapsWith (.Call (.Name fn fp) (e :: es) [] cpos) (some (.Name x px)) apos.line X.env = pure false := by rfl)
    (hs2 : swapsWith (.Call (.Name kf kp) [.Name n np2] [] kpos) (some (.Name y py)) ypos.line X.env = pure false := by rfl)
    (d1 : (fn == ("__debug__" : Str)) = false := by decide) (d2 : (kf == ("__debug__" : Str)) = false := by decide) (d3 : (Cl == ("__debug__" : Str)) = false := by decide) (d4 : (n == ("__debug__" : Str)) = false := by decide) (d5 : (n == ("__classdict__" : Str)) = false := by decide)
    (he : starEach (e :: es) X.env = (false, eval e X.env) :: starEach es X.env := by rfl) (hpl : (backTo cpos (starEach es X.env)).any (·.1) = false := by rfl)
    (he2 : starEach [.Name n np2] X.env = [(false, eval (.Name n np2) X.env)] := by rfl) :
    PS X (.Try [.Assign [.Name x px] (.Call (.Name fn fp) (e :: es) [] cpos) apos] [.ExceptHandler (some (.Name Cl np)) (some n) [.Assign [.Name y py] (.Call (.Name kf kp) [.Name n np2] [] kpos) ypos] hpos] [] [] pos) (tsM K QX E (mTryC F i j l (Kd X.K M De Bu Dl Go Mk Nn Pr Ro Tx No Un) Ms)) :=
  PS.imp (ps_tryCall F' hr hgf hmf hkf hbf G hr2 hgk hmk hkk hbk hgC hmC tyM bM hst hfr hN hi hj hl kx kn ky ha hs1 hs2 d1 d2 d3 d4 d5 he hpl he2) fun D σ H ⟨w, O, sl, D0, c, m, hn, hb, hc, hret⟩ => ⟨w, O, sl, _, c, m, fun xs O1 vs w1 H1 h1 e1 r1 a1 =>
    lk w1 O1 H1 vs xs _ _ _ _ r1 a1 h1 (fun z x' O3 w3 H3 h3 e3 r3 a3 => hn _ O3 w3 H3 _ h3 ((c.ex (e1.trans e3).ex r3).put a3 i) (e1.trans e3)) fun c' O3 w3 H3 h3 e3 r3 => by
      obtain ⟨r4, e4⟩ := unhide e3 r3
      obtain ⟨s, ⟨q, hq, er, rfl⟩, h3⟩ := h3
      refine ⟨c', rfl, er.sub, fun ea hea => ⟨q, hq, er, rfl, fun H5 s5 => ?_⟩⟩
      obtain ⟨r5, e5, _⟩ := r4.stay s5
      have e15 := (e1.trans e4).trans e5
      have c5 := c.ex e15.ex r5
      exact hn _ O3 _ H5 _ h3 ⟨c5.ro, ((c5.so.forget j).set (x := .im (.str (kindS q))) (TrG.str _ (kind_lay ⟨q, hq⟩)) l).forget j, c5.zx⟩ e15⟩
/-! a thing is equal to itself -/
mutual
theorem eqv_self : ∀ d : PyData, noL d = true → PyData.eqv d d = true
  | .none, _ => by simp [PyData.eqv]
  | .bool b, _ => by simp [PyData.eqv]
  | .int i, _ => by simp [PyData.eqv]
  | .str x, _ => by simp [PyData.eqv]
  | .list ds, h => by cases h
  | .dict ds, h => by cases h
  | .tuple ds, h => by
    rw [PyData.eqv]
    exact eqvs_self ds h
theorem eqvs_self : ∀ ds : List PyData, noLs ds = true → PyData.eqvAll ds ds = true
  | [], _ => by simp [PyData.eqvAll]
  | d :: ds, h => by
    have h' := (Bool.and_eq_true _ _).mp h
    rw [PyData.eqvAll, eqv_self d h'.1, eqvs_self ds h'.2]; rfl
end
end MI

set_option Elab.async false
set_option linter.all false
set_option maxRecDepth 100000
set_option maxHeartbeats 4000000
namespace MI
open PySem L2 KG EX KM
section
variable {K : PySem.W.Frag} {QX : Addr → Sto → Prop} {E : XK} {X : Cx} {w : Wd} {O : Sto} {H : Hp}
/-! a comprehension with two fors, the inner one over data -/
end
end MI

set_option Elab.async false
set_option linter.all false
set_option maxRecDepth 100000
set_option maxHeartbeats 4000000
namespace MI
open PySem L2 KG EX KM
section
variable {K : PySem.W.Frag} {QX : Addr → Sto → Prop} {E : XK} {X : Cx} {w : Wd} {O : Sto} {H : Hp}
abbrev shlF : MF2 := int2 CPow fun i j => .int (i * 2 ^ j.toNat)
theorem mo_shl {Ma Mb : ME} {a b : Expr} {pos : Pos} (ha : PE X a (teM K QX E Ma)) (hb : PE X b (teM K QX E Mb)) : PE X (.BinOp a .LShift b pos) (teM K QX E (mOp shlF Ma Mb)) := me_op op_shl (lk_int2 fun _ _ _ => .int _) ha hb
end
end MI

set_option Elab.async false
set_option linter.all false
set_option maxRecDepth 100000
set_option maxHeartbeats 4000000
namespace L2
open PySem PySem.Spec PyProof.Rows
theorem PS.nox1 {X : Cx} {st : Stmt} {t : TS} (h : PS X.nox st t) : PS X st t := fun pins s σ H D I hw =>
  wpAny_mono (h pins s σ H D (I.wish _) hw) (fun _ _ q => q.unwish) fun _ _ z => False.elim z
/-! texts: for, split, isascii, isdigit, slices, int, *, f -/
def Its (x : Str) : It := ⟨fun i _ => i < x.cps.size, fun i H v H' => H' = H ∧ ∃ c, x.cps[i]? = some c ∧ v = .str ⟨#[c]⟩, fun i _ => x.cps.size ≤ i⟩
theorem turn_str {P : Program} {w : World} {K : PySem.W.Frag} {tg : Expr} (it : Addr) (x : Str) (t : Tok) : Turn P w K tg (Its x) [it] it (fun i h => i ≤ x.cps.size ∧ h.IsStrIter it "str_ascii_iterator" x t i) where
  mem := by simp
  obj := fun i h st b hb => by
    have e : b = it := by simpa using hb
    subst e
    obtain ⟨_, o, e, c, d⟩ := st
    exact ⟨o, e, fun v z => by rw [d] at z; cases z⟩
  keep := fun i h h' st k => by
    obtain ⟨st, o, e, c, d⟩ := st
    exact ⟨st, o, k it (by simp) o e, c, d⟩
  item := by
    intro X hP hw hK hc i pins s σ H E I hf st hg
    subst hP hw hK
    obtain ⟨f0, f1, f2, f3, f4, f5⟩ := hf it (by simp)
    have W := Walks.strAscii (prog := X.prog) (w := X.w) (I.ok.hd hc) it x t
    refine W.item i s _ _ hg st.2 fun v h' tk hv st' kk => ?_
    obtain ⟨c, u, hcx, rfl⟩ := hv
    have I1 : Inv X pins σ H { s with heap := h', toks := tk } := I.turned (fun b o hb e => kk b o (by simpa using hb) e) f0 f1 f3 f4 f5
    obtain ⟨o, e, c', d⟩ := id st'
    exact ⟨_, rfl, go_of (s := { s with heap := h', toks := tk }) e c' d (by decide) ⟨.str ⟨#[c]⟩, H, I1, ⟨u, rfl⟩, ⟨rfl, c, hcx, rfl⟩, ⟨hg, st'⟩, fun b hb => (hf b hb).1⟩⟩
  done := by
    intro X hP hw hK hc i pins s σ H E I hf st hg
    subst hP hw hK
    obtain ⟨f0, f1, f2, f3, f4, f5⟩ := hf it (by simp)
    have W := Walks.strAscii (prog := X.prog) (w := X.w) (I.ok.hd hc) it x t
    have e : i = x.cps.size := Nat.le_antisymm st.1 hg
    have st2 := st.2
    rw [e] at st2
    exact W.done s _ _ st2 fun h' tk kk => ⟨rfl, I.turned (t' := tk) (fun b o hb e => kk b o (by simpa using hb) e) f0 f1 f3 f4 f5⟩
  self := fun _ _ _ _ _ st h => wpAny_pyIter_striter_ascii st.2 h
def iStr (tl : TE) : TI := fun σ H R => tl σ H fun x H1 => ∃ z : Str, x = .str z ∧ (z.cps.all fun c => decide (c < 128)) = true ∧ R (Its z) H1
theorem pi_str {X : Cx} {tg l : Expr} {tl : TE} (hl : PE X l tl) : PI X tg l (iStr tl) := by
  intro pins s σ H R I h
  refine thn (hl pins s σ H _ I h) fun v s1 ⟨x, H1, I1, r1, q1⟩ => ?_
  obtain ⟨z, e, ha, q⟩ := q1
  subst e
  obtain ⟨t, rfl⟩ := r1
  refine wpAny_pyIter_strU ?_
  have hT : strIterType z = "str_ascii_iterator" := by unfold strIterType; rw [if_pos ha]
  rw [hT]
  refine ⟨s1.heap.objs.size, [s1.heap.objs.size], _, _, H1, rfl, I1.kept (t' := s1.toks) fun b o e => Heap.get?_push_of_some _ e, turn_str _ z t, ⟨Nat.zero_le _, _, Heap.get?_push_size _ rfl, rfl, rfl⟩, fun b hb => ?_, q⟩
  have e : b = s1.heap.objs.size := by simpa using hb
  subst e
  exact I1.fpOk (Nat.le_refl _) (I1.hok.fresh (Nat.le_refl _))
section
variable {X : Cx}
def rAsc : V → List V → Hp → VK → Prop := fun x vs H Q => ∃ z : Str, x = .str z ∧ vs = [] ∧ Q (.bl (Txt.isascii z)) H
theorem mt_asc : MtR X "str.isascii" rAsc := by
  intro pins s σ H x vs v us Q I rx rv h
  obtain ⟨z, rfl, rfl, q⟩ := h
  obtain ⟨t, rfl⟩ := rx
  cases rv
  exact PySem.SC.isascii ⟨.bl _, H, I, rfl, q⟩
def rDig : V → List V → Hp → VK → Prop := fun x vs H Q => ∃ z : Str, x = .str z ∧ vs = [] ∧ Q (.bl (Txt.isdigit z)) H
theorem mt_dig : MtR X "str.isdigit" rDig := by
  intro pins s σ H x vs v us Q I rx rv h
  obtain ⟨z, rfl, rfl, q⟩ := h
  obtain ⟨t, rfl⟩ := rx
  cases rv
  exact PySem.SC.isdigit ⟨.bl _, H, I, rfl, q⟩
def rSpl : V → List V → Hp → VK → Prop := fun x vs H Q => ∃ z y : Str, x = .str z ∧ vs = [.str y] ∧ (y.length == 0) = false ∧ z.length + 2 ≤ sizeLine ∧ ∀ l, H l = none → Q (.ref l) (upd H l (.lst ((Txt.split z y).map V.str)))
theorem vals_from : ∀ (k : Nat) (l : List Str), Vals (l.map V.str) (strsFrom k l)
  | _, [] => .nil
  | k, x :: l => .cons ⟨_, rfl⟩ (vals_from (k + 1) l)
theorem mt_spl : MtR X "str.split" rSpl := by
  intro pins s σ H x vs v us Q I rx rv h
  obtain ⟨z, y, rfl, rfl, hy, hz, q⟩ := h
  obtain ⟨t, rfl⟩ := rx
  obtain ⟨u, rfl, ru⟩ := rv.one
  obtain ⟨t', rfl⟩ := ru
  have hl := PyProof.Rows.split_le z y
  have q' := q _ I.fresh
  unfold Txt.split at q' hl
  cases h1 : (decide (z.length < y.length) || decide (Builtin.Str.strKind z < Builtin.Str.strKind y)) with
  | true =>
    rw [h1, if_pos rfl] at q'
    refine call_meets F.slot_str_split (typeIs_str s z t) F.entry_str_split (F.args_str_split_2 _ _) (meets_str_split_cannot_occur z y t t' h1) ?_
    exact ⟨.ref _, _, I.lnew (its := [.str z t]) (ys := [.str z]) (t' := s.toks) (.cons ⟨_, rfl⟩ .nil) (by show 1 ≤ sizeLine; decide), rfl, q'⟩
  | false =>
    rw [h1, if_neg Bool.false_ne_true] at q' hl
    cases h2 : (Builtin.Str.occurrences z y 0 z.length (z.length + 1)).isEmpty with
    | true =>
      rw [h2, if_pos rfl] at q'
      refine call_meets F.slot_str_split (typeIs_str s z t) F.entry_str_split (F.args_str_split_2 _ _) (meets_str_split_not_found z y t t' h1 hy h2) ?_
      exact ⟨.ref _, _, I.lnew (its := [.str z t]) (ys := [.str z]) (t' := s.toks) (.cons ⟨_, rfl⟩ .nil) (by show 1 ≤ sizeLine; decide), rfl, q'⟩
    | false =>
      rw [h2, if_neg Bool.false_ne_true] at q' hl
      refine call_meets F.slot_str_split (typeIs_str s z t) F.entry_str_split (F.args_str_split_2 _ _) (meets_str_split_sep z y t t' h1 hy h2 (by omega) (by omega)) ?_
      exact ⟨.ref _, _, I.lnew (t' := _) (vals_from _ _) (by rw [List.length_map]; omega), rfl, q'⟩
theorem call_int_txt : CallR X (.type "int") (fun xs H Q => ∃ (z : Str) (n : Int), xs = [.str z] ∧ intText? z = some n ∧ z.length ≤ 640 ∧ Q (.int n) H) := by
  intro pins s σ H xs us Q I r h
  obtain ⟨z, n, rfl, h1, h2, q⟩ := h
  obtain ⟨u, rfl, t, rfl⟩ := vals1 r
  exact PySem.W.KIN.call_text h1 h2 ⟨.int n, H, I.tok _, ⟨_, rfl⟩, q⟩
/-- a text times 0 or 1 -/
theorem op_rep_str : OpR X (binaryOp .Mult) (fun x y H Q => ∃ (z : Str) (b : Bool), x = .str z ∧ y = .int (if b then 1 else 0) ∧ Q (.str (if b then z else Str.empty)) H) := by
  intro pins s σ H x y v u Q I rx ry h
  obtain ⟨z, b, rfl, rfl, q⟩ := h
  obtain ⟨t, rfl⟩ := rx
  obtain ⟨t', rfl⟩ := ry
  cases b with
  | false => exact PySem.P.mul_str (n := 0) (by decide) (fun h => absurd (by decide) h) (fun h => absurd (by decide) h) ⟨by decide, .str _, H, I.tok _, ⟨_, rfl⟩, q⟩
  | true => exact PySem.P.mul_str (n := 1) (by decide) (fun _ h => by cases h) (fun _ h => by cases h) ⟨.str _, H, I, ⟨_, rfl⟩, q⟩
end
end L2

set_option Elab.async false
set_option linter.all false
set_option maxRecDepth 100000
set_option maxHeartbeats 4000000
namespace L2
open PySem PySem.Spec PyProof.Rows
section
variable {X : Cx}
/-- what a text's slice is -/
def cutS (z : Str) (lo hi st : Option Int) : Str := if (st.getD 1 == 1 && (Builtin.Str.strSliceIndices lo hi (st.getD 1) z.length).length == z.length) = true then z else ⟨((Builtin.Str.strSliceIndices lo hi (st.getD 1) z.length).filterMap (fun i => z.cps[i]?)).toArray⟩
theorem part_of {v : Value} {o : Option Int} (p : IsPart v o) : ∃ l : Option (Int × Tok), v = partValue l ∧ l.map (·.1) = o := by
  cases p with
  | none => exact ⟨none, rfl, rfl⟩
  | int i t => exact ⟨some (i, t), rfl, rfl⟩
theorem cut_str {pins : List (Addr × Obj)} {s : Shared} {σ : St} {H : Hp} {z : Str} {t : Tok} {vl vu vs : Value} {lo hi st : Option Int} {sl : Addr} {Q : VK} (I : Inv X pins σ H s) (hs : s.heap.IsSliceOf sl vl vu vs) (pl : IsPart vl lo) (pu : IsPart vu hi) (ps : IsPart vs st) (h0 : (st.getD 1 == 0) = false) (hz : (cutS z lo hi st).length ≤ sizeLine) (q : Q (.str (cutS z lo hi st)) H) :
    wpAny (model X.prog X.w) X.A (getItem (.str z t) (.ref sl)) (EP X pins σ Q) X.xe s := by
  obtain ⟨l, rfl, hl⟩ := part_of pl
  obtain ⟨u, rfl, hu⟩ := part_of pu
  obtain ⟨k, rfl, hk⟩ := part_of ps
  refine wpAny_getItem_str_slice (l := l) (u := u) (st := k) hs (by rw [hk]; exact h0) ?_
  unfold sliceMade slicePicked
  rw [hl, hu, hk]
  unfold cutS at q hz
  split
  · rename_i hc
    rw [if_pos hc] at q
    exact ⟨.str z, H, I, ⟨_, rfl⟩, q⟩
  · rename_i hc
    rw [if_neg hc] at q hz
    exact ⟨hz, .str _, H, I.tok _, ⟨_, rfl⟩, q⟩
def rSlS : V → Option Int → Option Int → Hp → VK → Prop := fun x lo hi H Q => ∃ z : Str, x = .str z ∧ (cutS z lo hi none).length ≤ sizeLine ∧ Q (.str (cutS z lo hi none)) H
theorem sl_str : SlR X rSlS := by
  intro pins s σ H x v vl vu lo hi sl Q I rx hs pl pu h
  obtain ⟨z, rfl, hz, q⟩ := h
  obtain ⟨t, rfl⟩ := rx
  exact ⟨"str", _, slot_str_getitem.lookup, typeIs_str s z t, cut_str I hs pl pu .none rfl hz q⟩
/-- z[lo:hi:st] -/
def tSl3 (te : TE) (tl th ts : TO) : TE := fun σ H Q => te σ H fun x H1 => tl σ H1 fun l H2 => th σ H2 fun u H3 => ts σ H3 fun k H4 => ∃ z : Str, x = .str z ∧ (k.getD 1 == 0) = false ∧ (cutS z l u k).length ≤ sizeLine ∧ Q (.str (cutS z l u k)) H4
theorem pe_slice3 {e : Expr} {te : TE} {lo hi st : Option Expr} {tl th ts : TO} {pos p2 : Pos} (he : PE X e te) (hl : PO X lo tl) (hu : PO X hi th) (hk : PO X st ts) (hq : ∀ (z : Str) (t : Tok) (a : Addr), subscripted (.Slice lo hi st p2) false (.str z t) (.ref a) = operate [.ref a, .str z t] (getItem (.str z t) (.ref a)) := by intros; with_unfolding_all rfl) : PE X (.Subscript e (.Slice lo hi st p2) pos) (tSl3 te tl th ts) := by
  intro pins s σ H Q I h
  refine Subscript_ (thn (he pins s σ H _ I h) fun v s1 ⟨x, H1, I1, r1, q1⟩ => ?_)
  refine wpAny_Slice (thn (hl pins s1 σ H1 _ I1 q1) fun vl s2 ⟨l, H2, I2, pl, q2⟩ => thn (hu pins s2 σ H2 _ I2 q2) fun vu s3 ⟨u, H3, I3, pu, q3⟩ => thn (hk pins s3 σ H3 _ I3 q3) fun vk s4 ⟨k, H4, I4, pk, q4⟩ => ?_)
  obtain ⟨z, rfl, h0, hz, q⟩ := q4
  obtain ⟨t, rfl⟩ := r1
  have I5 : Inv X pins σ H4 { s4 with heap := s4.heap.push { cls := .type "slice", data := .fields #[vl, vu, vk] } } := I4.kept (t' := s4.toks) fun b ob q => Heap.get?_push_of_some _ q
  show wpAny (model X.prog X.w) X.A (subscriptTail e (.Slice lo hi st p2) (.str z t) (.ref s4.heap.objs.size)) (EP X pins σ Q) X.xe { s4 with heap := s4.heap.push { cls := .type "slice", data := .fields #[vl, vu, vk] } }
  exact tail_any (ops := [.ref s4.heap.objs.size, .str z t]) (typeIs_str _ z t) slot_str_getitem.lookup (cut_str I5 (Heap.IsSliceOf.new ..) pl pu pk h0 hz q) (hq z t _)
/-! f-strings -/
def tFld1 (te : TE) : TE := fun σ H Q => te σ H fun x H1 => ∃ i : Int, x = .int i ∧ i.natAbs.log2 < 1920 ∧ Q (.str (toString i)) H1
theorem pe_fv {e : Expr} {te : TE} {pos : Pos} (he : PE X e te) : PE X (.FormattedValue e (-1) none pos) (tFld1 te) := by
  intro pins s σ H Q I h
  refine PySem.wpAny_FormattedValue_plain (thn (he pins s σ H _ I h) fun v s1 ⟨x, H1, I1, r1, q1⟩ => ?_)
  obtain ⟨i, rfl, hi, q⟩ := q1
  obtain ⟨t, rfl⟩ := r1
  exact PySem.wpAny_formatField_int hi ⟨.str _, H1, I1.tok _, ⟨_, rfl⟩, q⟩
theorem pe_fs1 {e : Expr} {te : TE} {pos : Pos} (he : PE X e te) : PE X (.JoinedStr [e] pos) te := fun pins s σ H Q I h => JoinedStr_one (he pins s σ H Q I h)
/-- three parts -/
def tFs3 (ta tb tc : TE) : TE := fun σ H Q => ta σ H fun x H1 => ∃ a : Str, x = .str a ∧ a.length ≤ sizeLine ∧ tb σ H1 fun y H2 => ∃ b : Str, y = .str b ∧ (a ++ b).length ≤ sizeLine ∧ tc σ H2 fun z H3 => ∃ c : Str, z = .str c ∧ (a ++ b ++ c).length ≤ sizeLine ∧ Q (.str (a ++ b ++ c)) H3
theorem empty_app (a : Str) : Str.empty ++ a = a := by
  apply PyProof.Rows.ext_toList
  rw [PySem.W.KT.app_list]; rfl
theorem pe_fs3 {a b c : Expr} {ta tb tc : TE} {pos : Pos} (ha : PE X a ta) (hb : PE X b tb) (hc : PE X c tc) : PE X (.JoinedStr [a, b, c] pos) (tFs3 ta tb tc) := by
  intro pins s σ H Q I h
  refine JoinedStr_many (joinParts_cons (thn (ha pins s σ H _ I h) fun v s1 ⟨x, H1, I1, r1, q1⟩ => ?_))
  obtain ⟨za, rfl, la, q1⟩ := q1
  obtain ⟨t1, rfl⟩ := r1
  show (Str.empty ++ za).length ≤ sizeLine ∧ wpAny _ _ (joinParts (Str.empty ++ za) _) _ _ _
  rw [empty_app]
  refine ⟨la, joinParts_cons (thn (hb pins s1 σ H1 _ I1 q1) fun v s2 ⟨y, H2, I2, r2, q2⟩ => ?_)⟩
  obtain ⟨zb, rfl, lb, q2⟩ := q2
  obtain ⟨t2, rfl⟩ := r2
  refine ⟨lb, joinParts_consE (joinParts_cons (thn (hc pins s2 σ H2 _ I2 q2) fun v s3 ⟨z, H3, I3, r3, q3⟩ => ?_))⟩
  obtain ⟨zc, rfl, lc, q3⟩ := q3
  obtain ⟨t3, rfl⟩ := r3
  exact ⟨lc, joinParts_nilE (joinParts_nil ⟨.str _, H3, I3.tok _, ⟨_, rfl⟩, q3⟩ lc)⟩
end
end L2

set_option Elab.async false
set_option linter.all false
set_option maxRecDepth 100000
set_option maxHeartbeats 4000000
namespace TX
open PySem L2
/-! texts as lists of signs -/
def AsB (x : Str) : Bool := x.cps.all fun c => decide (c < 128)
theorem as_iff {x : Str} : AsB x = true ↔ ∀ c ∈ x.cps.toList, c < 128 := by
  unfold AsB
  rw [← Array.all_toList, List.all_eq_true]
  exact ⟨fun h c hc => of_decide_eq_true (h c hc), fun h c hc => decide_eq_true (h c hc)⟩
theorem lay_as {x : Str} (h : AsB x = true) : (PyData.str x).canLay0 = true := by
  rw [PyData.canLay0.eq_def]
  show (x.cps.all fun c => decide (c < 1114112)) = true
  rw [← Array.all_toList, List.all_eq_true]
  exact fun c hc => decide_eq_true (by have := as_iff.mp h c hc; omega)
theorem len_cps (x : Str) : x.cps.toList.length = x.length := by simp [Str.length]
theorem as_app {a b : Str} (ha : AsB a = true) (hb : AsB b = true) : AsB (a ++ b) = true := as_iff.mpr fun c hc => by
  rw [PySem.W.KT.app_list] at hc
  rcases List.mem_append.mp hc with h | h
  · exact as_iff.mp ha c h
  · exact as_iff.mp hb c h
theorem len_app (a b : Str) : (a ++ b).length = a.length + b.length := by
  rw [← len_cps, ← len_cps, ← len_cps, PySem.W.KT.app_list, List.length_append]
theorem as_one {c : Nat} (h : c < 128) : AsB ⟨#[c]⟩ = true := as_iff.mpr fun d hd => by
  have : d = c := by simpa using hd
  omega
theorem as_sub {x y : Str} (h : AsB x = true) (s : ∀ c ∈ y.cps.toList, c ∈ x.cps.toList) : AsB y = true := as_iff.mpr fun c hc => as_iff.mp h c (s c hc)
theorem as_empty : AsB Str.empty = true := by decide +kernel
/-! slices -/
theorem cut_mem {z : Str} {lo hi st : Option Int} : ∀ c ∈ (cutS z lo hi st).cps.toList, c ∈ z.cps.toList := by
  intro c hc
  unfold cutS at hc
  split at hc
  · exact hc
  · simp only [List.mem_filterMap] at hc
    obtain ⟨i, _, h⟩ := hc
    rw [← Array.getElem?_toList] at h
    exact List.mem_of_getElem? h
theorem cut_le {z : Str} {lo hi st : Option Int} (h : (Builtin.Str.strSliceIndices lo hi (st.getD 1) z.length).length ≤ z.length) : (cutS z lo hi st).length ≤ z.length := by
  unfold cutS
  split
  · exact Nat.le_refl _
  · refine Nat.le_trans ?_ h
    rw [← len_cps]
    exact List.length_filterMap_le _ _
theorem ix_le (lo hi : Option Int) (n : Nat) : (Builtin.Str.strSliceIndices lo hi 1 n).length ≤ n := by
  unfold Builtin.Str.strSliceIndices sliceRange
  simp only [List.length_map, List.length_range]
  cases lo <;> cases hi <;> (simp only []; (repeat' split) <;> omega)
theorem ix_rev (n : Nat) : (Builtin.Str.strSliceIndices none none (-1) n).length ≤ n := by
  unfold Builtin.Str.strSliceIndices sliceRange
  simp only [List.length_map, List.length_range]
  have h : ¬ ((-1 : Int) > 0) := by decide
  simp only [if_neg h, Int.neg_neg, Int.ediv_one]
  split <;> omega
theorem cut_len {z : Str} {lo hi : Option Int} : (cutS z lo hi none).length ≤ z.length := cut_le (ix_le lo hi z.length)
theorem rev_len {z : Str} : (cutS z none none (some (-1))).length ≤ z.length := cut_le (ix_rev z.length)
/-! parts -/
theorem sub_mem {x : Str} {i j c : Nat} (h : c ∈ (Builtin.Str.strSub x i j).cps.toList) : c ∈ x.cps.toList := by
  unfold Builtin.Str.strSub at h
  simp only [Array.toList_extract, List.extract_eq_take_drop] at h
  exact List.mem_of_mem_drop (List.mem_of_mem_take h)
theorem split_mem {x y p : Str} (hp : p ∈ Txt.split x y) {c : Nat} (hc : c ∈ p.cps.toList) : c ∈ x.cps.toList := by
  unfold Txt.split at hp
  split at hp
  · rw [List.mem_singleton.mp hp] at hc; exact hc
  · split at hp
    · rw [List.mem_singleton.mp hp] at hc; exact hc
    · unfold Builtin.Str.partsBetween at hp
      obtain ⟨⟨i, j⟩, _, rfl⟩ := List.mem_map.mp hp
      exact sub_mem hc
theorem split_as {x y p : Str} (h : AsB x = true) (hp : p ∈ Txt.split x y) : AsB p = true := as_sub h fun c hc => split_mem hp hc
def slash : Str := ⟨#[47]⟩
theorem first_cut {c : Nat} : ∀ {p q a b : List Nat}, c ∉ p → c ∉ a → p ++ c :: q = a ++ c :: b → p = a ∧ q = b
  | [], q, [], b, _, _, h => ⟨rfl, by injection h⟩
  | [], q, x :: a, b, _, ha, h => by injection h with h1 _; exact absurd (by rw [h1]; exact List.mem_cons_self) ha
  | x :: p, q, [], b, hp, _, h => by injection h with h1 _; exact absurd (by rw [h1]; exact List.mem_cons_self) hp
  | x :: p, q, y :: a, b, hp, ha, h => by
    injection h with h1 h2
    obtain ⟨e1, e2⟩ := first_cut (fun z => hp (List.mem_cons_of_mem _ z)) (fun z => ha (List.mem_cons_of_mem _ z)) h2
    exact ⟨by rw [h1, e1], e2⟩
theorem join_two (a b : Str) (l : List Str) : (slash.join (a :: b :: l)).cps.toList = a.cps.toList ++ 47 :: (slash.join (b :: l)).cps.toList := by
  have : slash.join (a :: b :: l) = a ++ slash ++ slash.join (b :: l) := rfl
  rw [this, PySem.W.KT.app_list, PySem.W.KT.app_list]
  simp [slash]
theorem split_one {x : Str} (h : 47 ∉ x.cps.toList) : Txt.split x slash = [x] := by
  have hj := PySem.StrLaws.join_split x slash
  have hn := PyProof.Rows.split_pos x slash
  match e : Txt.split x slash with
  | [] => rw [e] at hn; simp at hn
  | [p] => rw [e] at hj; rw [← hj]; rfl
  | p :: q :: l =>
    rw [e] at hj
    have := congrArg (fun s : Str => s.cps.toList) hj
    simp only [join_two] at this
    exact absurd (by rw [← this]; simp) h
theorem split_two {a b : Str} (ha : 47 ∉ a.cps.toList) (hb : 47 ∉ b.cps.toList) : Txt.split (a ++ slash ++ b) slash = [a, b] := by
  have hj := PySem.StrLaws.join_split (a ++ slash ++ b) slash
  have hn := PyProof.Rows.split_pos (a ++ slash ++ b) slash
  have hf := PySem.StrLaws.split_free (a ++ slash ++ b) 47
  have hx : (a ++ slash ++ b).cps.toList = a.cps.toList ++ 47 :: b.cps.toList := by
    rw [PySem.W.KT.app_list, PySem.W.KT.app_list]; simp [slash]
  match e : Txt.split (a ++ slash ++ b) slash with
  | [] => rw [e] at hn; simp at hn
  | [p] =>
    rw [e] at hj
    have h1 : p = a ++ slash ++ b := hj
    have := hf p (by show p ∈ Txt.split _ slash; rw [e]; simp)
    rw [h1, hx] at this
    exact absurd (by simp) this
  | [p, q] =>
    rw [e] at hj
    have h1 := congrArg (fun s : Str => s.cps.toList) hj
    simp only [join_two, hx] at h1
    have hp := hf p (by show p ∈ Txt.split _ slash; rw [e]; simp)
    obtain ⟨e1, e2⟩ := first_cut hp ha h1
    rw [PyProof.Rows.ext_toList e1, PyProof.Rows.ext_toList (a := q) (b := b) e2]
  | p :: q :: r :: l =>
    rw [e] at hj
    have h1 := congrArg (fun s : Str => s.cps.toList) hj
    simp only [join_two, hx] at h1
    have hp := hf p (by show p ∈ Txt.split _ slash; rw [e]; simp)
    obtain ⟨e1, e2⟩ := first_cut hp ha h1
    exact absurd (by rw [← e2]; simp) hb
/-! numbers -/
def allD (l : List Nat) : Bool := l.all fun c => decide (48 ≤ c) && decide (c ≤ 57)
/-- the signs of a number as it is written -/
def figL (l : List Nat) : Bool := !l.isEmpty && allD l && (l.head? != some 48 || l == [48])
def fig (x : Str) : Bool := figL x.cps.toList
def dv (x : Str) : Int := (NumText.digitsVal x.cps.toList : Nat)
theorem allD_iff {l : List Nat} : allD l = true ↔ NumText.AllDigits l := by
  unfold allD NumText.AllDigits
  rw [List.all_eq_true]
  exact ⟨fun h c hc => by have := h c hc; simpa using this, fun h c hc => by have := h c hc; simpa using this⟩
theorem num_list (n : Nat) : (Str.ofString (toString (n : Int))).cps.toList = (Nat.toDigits 10 n).map Char.toNat := PySem.W.KIN.signs_num n
theorem dig_char {d : Char} (h : d.isDigit = true) : 48 ≤ d.toNat ∧ d.toNat ≤ 57 := by
  unfold Char.isDigit at h
  rw [Bool.and_eq_true] at h
  have h1 := of_decide_eq_true h.1
  have h2 := of_decide_eq_true h.2
  exact ⟨UInt32.le_iff_toNat_le.mp h1, UInt32.le_iff_toNat_le.mp h2⟩
theorem num_all (n : Nat) : NumText.AllDigits ((Nat.toDigits 10 n).map Char.toNat) := fun c hc => by
  obtain ⟨d, hd, rfl⟩ := List.mem_map.mp hc
  exact dig_char (Nat.isDigit_of_mem_toDigits (by decide) (by decide) hd)
theorem num_len {n k : Nat} (hk : 1 ≤ k) (h : n < 10 ^ k) : (Str.ofString (toString (n : Int))).length ≤ k := by
  rw [← len_cps, num_list, List.length_map]
  have := PyProof.Rows.digitsCore10_len k (n + 1) n [] hk h
  simpa [Nat.toDigits] using this
theorem num_ne (n : Nat) : (Nat.toDigits 10 n).map Char.toNat ≠ [] := fun z => by
  have h : (Nat.toDigits 10 n).length = 0 := by rw [List.map_eq_nil_iff.mp z]; rfl
  cases n with
  | zero => exact absurd h (by decide)
  | succ n => have := PyProof.Rows.digits10_ge (k := 0) (n := n + 1) (by simp); omega
theorem num_fig (n : Nat) : fig (Str.ofString (toString (n : Int))) = true := by
  unfold fig figL
  rw [num_list]
  have h1 := num_all n
  have h2 := num_ne n
  rw [allD_iff.mpr h1]
  generalize hl : (Nat.toDigits 10 n).map Char.toNat = l at h1 h2
  have hv : NumText.digitsVal l = n := by rw [← hl]; exact PySem.W.KIN.val_back n
  have h3 := NumText.toDigits_all l h1
  rw [hv] at h3
  cases l with
  | nil => exact absurd rfl h2
  | cons c r =>
    by_cases hc : c = 48
    · subst hc
      have h4 : (Nat.toDigits 10 n).length = r.length + 1 := by
        have := congrArg List.length hl
        simpa using this
      rw [List.dropWhile_cons] at h3
      simp only [beq_self_eq_true, if_true] at h3
      have h5 := NumText.len_dropWhile
      cases hd : r.dropWhile (fun x => x == 48) with
      | nil =>
        rw [hd] at h3
        have : r.length = 0 := by rw [h3] at h4; simpa using h4.symm
        rw [List.length_eq_zero_iff.mp this]; rfl
      | cons c' r' =>
        rw [hd] at h3
        have hs := (List.dropWhile_sublist (fun x : Nat => x == 48) (l := r)).length_le
        rw [hd] at hs
        rw [h3] at h4
        simp at h4 hs
        omega
    · simp [hc]
theorem num_dv (n : Nat) : dv (Str.ofString (toString (n : Int))) = n := by
  unfold dv
  rw [num_list, PySem.W.KIN.val_back]
theorem num_free (n : Nat) : 47 ∉ (Str.ofString (toString (n : Int))).cps.toList := by
  rw [num_list]
  intro h
  have := num_all n 47 h
  omega
theorem num_as (n : Nat) : AsB (Str.ofString (toString (n : Int))) = true := as_iff.mpr fun c hc => by
  rw [num_list] at hc
  have := num_all n c hc
  omega
theorem isdig : ∀ c : Fin 128, Unicode.isDigit c.1 = (decide (48 ≤ c.1) && decide (c.1 ≤ 57)) := by decide +kernel
theorem dig_as {x : Str} (h : AsB x = true) : Txt.isdigit x = (!x.cps.toList.isEmpty && allD x.cps.toList) := by
  unfold Txt.isdigit allD
  rw [← Array.all_toList]
  have e1 : decide (x.length > 0) = !x.cps.toList.isEmpty := by
    rw [← len_cps]
    cases x.cps.toList <;> simp
  rw [e1]
  congr 1
  have : ∀ l : List Nat, (∀ c ∈ l, c < 128) → l.all Unicode.isDigit = l.all fun c => decide (48 ≤ c) && decide (c ≤ 57) := by
    intro l
    induction l with
    | nil => intro _; rfl
    | cons c l ih =>
      intro hc
      rw [List.all_cons, List.all_cons, ih fun d hd => hc d (List.mem_cons_of_mem _ hd), isdig ⟨c, hc c List.mem_cons_self⟩]
  exact this _ (as_iff.mp h)
theorem asc_as {x : Str} (h : AsB x = true) : Txt.isascii x = true := h
def digs : Str := "0123456789"
theorem in_digs : ∀ c : Fin 128, (!(!(Builtin.Str.occurrences digs ⟨#[c.1]⟩ 0 digs.length 1).isEmpty)) = !(decide (48 ≤ c.1) && decide (c.1 ≤ 57)) := by decide +kernel
theorem int_fig {x : Str} (h : allD x.cps.toList = true) (hn : x.cps.toList ≠ []) (hl : x.length ≤ 640) : intText? x = some (dv x) := intText_digits (allD_iff.mp h) hn (by omega)
end TX

set_option Elab.async false
set_option linter.all false
set_option maxRecDepth 100000
set_option maxHeartbeats 4000000
/-! a draw from the bag, any number -/
namespace KM
open PySem L2 KG
def spTakeB : Sp := fun vs H Q _ => ∃ (b : Addr) (m : Int), vs = [.ref b, .int m] ∧ Bag H b ∧ 0 < m ∧ Bd 8000 m ∧ ∀ (r : Int) (H' : Hp), 0 ≤ r → r < m → Bag H' b → Kp b H H' → Q (.int r) H'
theorem boot_str : bootBuiltins "str" = some (.type "str") := by first | rfl | kernel_rfl | decide +kernel
structure IsS (K : PySem.W.Frag) : Prop where
  s1 : PySem.W.kitOne K (.type "NoneType") (.type "str") = some false
  s2 : PySem.W.kitOne K (.type "bool") (.type "str") = some false
  s3 : PySem.W.kitOne K (.type "int") (.type "str") = some false
  s4 : PySem.W.kitOne K (.type "str") (.type "str") = some true
  s5 : PySem.W.kitOne K (.type "list") (.type "str") = some false
  s6 : PySem.W.kitOne K (.type "tuple") (.type "str") = some false
end KM
namespace MI
open PySem L2 KG EX KM TX
section
variable {K : PySem.W.Frag} {QX : Addr → Sto → Prop} {E : XK} {X : Cx}
def fTakeB : FM := fun O xs P _ => match xs with
  | [.bag _, .im (.int m)] => (0 < m ∧ Bd 8000 m) ∧ ∀ r : Int, 0 ≤ r → r < m → P (.im (.int r)) O
  | _ => False
theorem lk_takeB : LkS K spTakeB fTakeB := fun w O H vs xs P PX Q E r a hf q x => by
  unfold fTakeB at hf
  split at hf
  · obtain ⟨v, us, rfl, h1, h2⟩ := a.uncons
    obtain ⟨v2, us2, rfl, h3, h4⟩ := h2.uncons
    rw [h4.unnil]
    obtain ⟨b, hb, rfl⟩ := h1
    rw [g_int h3]
    have hm := List.mem_of_getElem? hb
    refine ⟨b, _, rfl, r.bg b hm, hf.1.1, hf.1.2, fun z H' h0 hz hB hk => ?_⟩
    obtain ⟨r1, e1, _⟩ := r.draw hm hk hB
    exact q _ _ O w H' (hf.2 z h0 hz) e1 r1 (.int _)
  · exact hf.elim
/-! operators -/
def catF : MF2 := fun O x y P => match x, y with
  | .im (.str a), .im (.str b) => (AsB a = true ∧ AsB b = true ∧ a.length + b.length ≤ sizeLine) ∧ P (.im (.str (a ++ b))) O
  | _, _ => False
theorem lk_cat : Lk2 K (fun x y H Q => ∃ i j, x = .str i ∧ y = .str j ∧ i.length + j.length ≤ sizeLine ∧ Q (.str (i ++ j)) H) catF := fun w O H v u x y P Q r a b hf q => by
  unfold catF at hf
  split at hf
  · exact ⟨_, _, g_str a, g_str b, hf.1.2.2, q _ _ O w H hf.2 (Ext.refl _ _ _) r (.str _ (lay_as (as_app hf.1.1 hf.1.2.1)))⟩
  · exact hf.elim
theorem mo_cat {Ma Mb : ME} {a b : Expr} {pos : Pos} (ha : PE X a (teM K QX E Ma)) (hb : PE X b (teM K QX E Mb)) : PE X (.BinOp a .Add b pos) (teM K QX E (mOp catF Ma Mb)) := me_op op_add_str lk_cat ha hb
def rpsF : MF2 := fun O x y P => match x, y with
  | .im (.str a), .im (.int k) => AsB a = true ∧ ∃ b : Bool, k = (if b then 1 else 0) ∧ P (.im (.str (if b then a else Str.empty))) O
  | _, _ => False
theorem lk_rps : Lk2 K (fun x y H Q => ∃ (z : Str) (b : Bool), x = .str z ∧ y = .int (if b then 1 else 0) ∧ Q (.str (if b then z else Str.empty)) H) rpsF := fun w O H v u x y P Q r a b hf q => by
  unfold rpsF at hf
  split at hf
  · obtain ⟨h1, c, h2, h3⟩ := hf
    refine ⟨_, c, g_str a, by rw [g_int b, h2], q _ _ O w H h3 (Ext.refl _ _ _) r (.str _ ?_)⟩
    cases c
    · exact lay_as as_empty
    · exact lay_as h1
  · exact hf.elim
theorem mo_rps {Ma Mb : ME} {a b : Expr} {pos : Pos} (ha : PE X a (teM K QX E Ma)) (hb : PE X b (teM K QX E Mb)) : PE X (.BinOp a .Mult b pos) (teM K QX E (mOp rpsF Ma Mb)) := me_op op_rep_str lk_rps ha hb
def ixsF : MF2 := fun O x y P => match x, y with
  | .im (.str z), .im (.int i) => AsB z = true ∧ z.length ≤ sizeLine ∧ ∃ c, atI z.cps.toList i = some c ∧ P (.im (.str ⟨#[c]⟩)) O
  | _, _ => False
theorem atI_mem {α : Type} {l : List α} {i : Int} {c : α} (h : atI l i = some c) : c ∈ l := by
  unfold atI at h
  cases hj : ixN l.length i with
  | none => rw [hj] at h; cases h
  | some j => rw [hj] at h; exact List.mem_of_getElem? h
theorem lk_ixs : Lk2 K rIxS ixsF := fun w O H v u x y P Q r a b hf q => by
  unfold ixsF at hf
  split at hf
  · obtain ⟨h1, h2, c, h3, h4⟩ := hf
    exact ⟨_, _, c, g_str a, g_int b, h2, h3, q _ _ O w H h4 (Ext.refl _ _ _) r (.str _ (lay_as (as_one (as_iff.mp h1 c (atI_mem h3)))))⟩
  · exact hf.elim
theorem mo_ixs {Ma Mb : ME} {a b : Expr} {pos : Pos} (ha : PE X a (teM K QX E Ma)) (hb : PE X b (teM K QX E Mb)) (hs : PlainIx b := by exact fun _ _ => rfl) : PE X (.Subscript a b pos) (teM K QX E (mOp ixsF Ma Mb)) := me_ix ix_str lk_ixs ha hb hs
def ninsF : MF2 := fun O x y P => match x, y with
  | .im (.str i), .im (.str j) => P (.im (.bool (!(!(Builtin.Str.occurrences j i 0 j.length 1).isEmpty)))) O
  | _, _ => False
theorem lk_nins : Lk2 K (fun x y H Q => ∃ i j, x = .str i ∧ y = .str j ∧ Q (.bl (!(!(Builtin.Str.occurrences j i 0 j.length 1).isEmpty))) H) ninsF := fun w O H v u x y P Q r a b hf q => by
  unfold ninsF at hf
  split at hf
  · exact ⟨_, _, g_str a, g_str b, q _ _ O w H hf (Ext.refl _ _ _) r (.bl _)⟩
  · exact hf.elim
/-- None in a list of whole numbers and None -/
def ninL : PyData → Bool
  | .none => true
  | .int _ => true
  | _ => false
def nInF : MF2 := fun O x y P => match x, y with
  | .im .none, .im (.list ds) => ds.all ninL = true ∧ P (.im (.bool (ds.any isNoneD))) O
  | _, _ => False
theorem nin_tr {g : Hp} : ∀ {ds : List PyData} {vs : List V}, TrGs g vs ds → ds.all ninL = true → vs.all flatV = true ∧ inV .non vs = ds.any isNoneD
  | [], _, .nil, _ => ⟨rfl, rfl⟩
  | d :: ds, _, .cons h t, n => by
    rw [List.all_cons, Bool.and_eq_true] at n
    obtain ⟨h1, h2⟩ := nin_tr t n.2
    unfold inV at h2 ⊢
    rw [List.all_cons, List.any_cons, List.any_cons, h1, h2]
    cases h with
    | non => exact ⟨rfl, rfl⟩
    | int i => exact ⟨rfl, rfl⟩
    | _ => cases n.1
theorem lk_nIn : Lk2 K (rIn K0 false) nInF := fun w O H v u x y P Q r a b hf q => by
  unfold nInF at hf
  split at hf
  · obtain ⟨p1, us, rfl, h1, t1⟩ := g_lst b
    obtain ⟨h2, h3⟩ := nin_tr t1 hf.1
    refine ⟨p1, us, rfl, .inl (SqL.of h1), by rw [g_non a]; rfl, h2, ?_⟩
    rw [g_non a, h3]
    exact q _ _ O w H hf.2 (Ext.refl _ _ _) r (.bl _)
  · exact hf.elim
/-! slices -/
def mSlS (M : ME) (L U : MO) : ME := fun sl O Q => M sl O fun x O1 => L sl O1 fun l O2 => U sl O2 fun u O3 => match x with
  | .im (.str z) => AsB z = true ∧ z.length ≤ sizeLine ∧ Q (.im (.str (cutS z l u none))) O3
  | _ => False
theorem me_slS {M : ME} {L U : MO} {e : Expr} {lo hi : Option Expr} {p2 pos : Pos} (he : PE X e (teM K QX E M)) (hl : PO X lo (toM K QX E L)) (hu : PO X hi (toM K QX E U)) : PE X (.Subscript e (.Slice lo hi none p2) pos) (teM K QX E (mSlS M L U)) :=
  PE.imp (pe_slice sl_str he hl hu) fun σ H Q ⟨w, O, sl, Q0, c, m, q⟩ => ⟨w, O, sl, _, c, m, fun x O1 v w1 H1 h1 e1 r1 a1 => ⟨w1, O1, sl, _, c.ex e1.ex r1, h1, fun l O2 w2 H2 h2 e2 r2 => ⟨w2, O2, sl, _, (c.ex e1.ex r1).ex e2.ex r2, h2, fun u O3 w3 H3 h3 e3 r3 => by
    have a3 := (a1.ex e2.ex).ex e3.ex
    have e13 := (e1.trans e2).trans e3
    split at h3
    · exact ⟨_, g_str a3, Nat.le_trans cut_len h3.2.1, q _ O3 _ w3 H3 h3.2.2 e13 r3 (.str _ (lay_as (as_sub h3.1 cut_mem)))⟩
    · exact h3.elim⟩⟩⟩
/-- z[::-1] -/
def mRev (M : ME) : ME := fun sl O Q => M sl O fun x O1 => match x with
  | .im (.str z) => AsB z = true ∧ z.length ≤ sizeLine ∧ Q (.im (.str (cutS z none none (some (-1))))) O1
  | _ => False
theorem me_rev {M : ME} {e : Expr} {p2 p3 p4 pos : Pos} {j : Nat} (he : PE X e (teM K QX E M)) : PE X (.Subscript e (.Slice none none (some (.UnaryOp .USub (.Constant (.int 1) j p3) p4)) p2) pos) (teM K QX E (mRev M)) :=
  PE.imp (pe_slice3 he (mp_none (K := K) (QX := QX) (E := E)) (mp_none (K := K) (QX := QX) (E := E)) (mp_some (K := K) (QX := QX) (E := E) (me_neg me_int))) fun σ H Q ⟨w, O, sl, Q0, c, m, q⟩ => ⟨w, O, sl, _, c, m, fun x O1 v w1 H1 h1 e1 r1 a1 => ⟨w1, O1, sl, fun l O' => l = none ∧ O' = O1, c.ex e1.ex r1, ⟨rfl, rfl⟩, fun l O2 w2 H2 h2 e2 r2 => ⟨w2, O2, sl, fun l O' => l = none ∧ O' = O1, (c.ex e1.ex r1).ex e2.ex r2, by rw [h2.2]; exact ⟨rfl, rfl⟩, fun u O3 w3 H3 h3 e3 r3 => ⟨w3, O3, sl, fun l O' => l = some (-1) ∧ O' = O1, ((c.ex e1.ex r1).ex e2.ex r2).ex e3.ex r3, by rw [h3.2]; exact ⟨rfl, rfl⟩, fun k O4 w4 H4 h4 e4 r4 => by
    have a4 := ((a1.ex e2.ex).ex e3.ex).ex e4.ex
    have e14 := ((e1.trans e2).trans e3).trans e4
    obtain ⟨rfl, rfl⟩ := h4
    obtain ⟨rfl, _⟩ := h3
    obtain ⟨rfl, _⟩ := h2
    split at h1
    · exact ⟨_, g_str a4, rfl, Nat.le_trans rev_len h1.2.1, q _ _ _ w4 H4 h1.2.2 e14 r4 (.str _ (lay_as (as_sub h1.1 cut_mem)))⟩
    · exact h1.elim⟩⟩⟩⟩
/-! methods -/
def mM0 (f : Str → Bool) (M : ME) : ME := fun sl O Q => M sl O fun x O1 => match x with
  | .im (.str z) => Q (.im (.bool (f z))) O1
  | _ => False
theorem me_asc {o : Expr} {M : ME} {apos cpos : Pos} (ho : PE X o (teM K QX E M)) (hbase : attributeBase o "isascii" X.env (eval o X.env) = eval o X.env := by rfl) (hline : (apos.endLine == cpos.line) = true := by rfl) : PE X (.Call (.Attribute o "isascii" apos) [] [] cpos) (teM K QX E (mM0 Txt.isascii M)) :=
  PE.imp (pe_bm0 F.plainAttrs_str F.slot_str_isascii F.type_str_isascii mt_asc ho hbase hline) fun σ H Q ⟨w, O, sl, Q0, c, m, q⟩ => ⟨w, O, sl, _, c, m, fun x O1 v w1 H1 h1 e1 r1 a1 => by
    split at h1
    · rw [g_str a1]
      exact ⟨rfl, _, rfl, rfl, q _ O1 _ w1 H1 h1 e1 r1 (.bl _)⟩
    · exact h1.elim⟩
theorem me_dig {o : Expr} {M : ME} {apos cpos : Pos} (ho : PE X o (teM K QX E M)) (hbase : attributeBase o "isdigit" X.env (eval o X.env) = eval o X.env := by rfl) (hline : (apos.endLine == cpos.line) = true := by rfl) : PE X (.Call (.Attribute o "isdigit" apos) [] [] cpos) (teM K QX E (mM0 Txt.isdigit M)) :=
  PE.imp (pe_bm0 F.plainAttrs_str F.slot_str_isdigit F.type_str_isdigit mt_dig ho hbase hline) fun σ H Q ⟨w, O, sl, Q0, c, m, q⟩ => ⟨w, O, sl, _, c, m, fun x O1 v w1 H1 h1 e1 r1 a1 => by
    split at h1
    · rw [g_str a1]
      exact ⟨rfl, _, rfl, rfl, q _ O1 _ w1 H1 h1 e1 r1 (.bl _)⟩
    · exact h1.elim⟩
theorem g_strs {g : Hp} : ∀ (l : List Str), (∀ p ∈ l, AsB p = true) → TrGs g (l.map V.str) (l.map .str)
  | [], _ => .nil
  | x :: l, h => .cons (.str x (lay_as (h x List.mem_cons_self))) (g_strs l fun p hp => h p (List.mem_cons_of_mem _ hp))
def mSpl (M : ME) (Ms : MA) : ME := fun sl O Q => M sl O fun x O1 => match x with
  | .im (.str z) => Ms sl O1 fun xs O2 => match xs with
    | [.im (.str y)] => AsB z = true ∧ (y.length == 0) = false ∧ z.length + 2 ≤ sizeLine ∧ Q (.im (.list ((Txt.split z y).map .str))) O2
    | _ => False
  | _ => False
theorem me_spl {o e : Expr} {M : ME} {Ms : MA} {apos cpos : Pos} (ho : PE X o (teM K QX E M)) (ha : PA X [e] (taM K QX E Ms)) (hbase : attributeBase o "split" X.env (eval o X.env) = eval o X.env := by rfl)
    (hfew : ((backTo cpos (starEach [e] X.env)).all (fun x => !x.1) && (backToKw cpos (keywordEach [] X.env)).all (fun x => x.1.isSome) && decide ([e].length + ([] : List Keyword).length + (if ([] : List Keyword).isEmpty then 0 else 1) < 30)) = true := by rfl)
    (hline : (apos.endLine == cpos.line) = true := by rfl) (hs : starEach [e] X.env = (false, eval e X.env) :: starEach [] X.env := by rfl) : PE X (.Call (.Attribute o "split" apos) [e] [] cpos) (teM K QX E (mSpl M Ms)) :=
  PE.imp (pe_bm F.plainAttrs_str F.slot_str_split F.type_str_split mt_spl ho ha hbase hfew hline hs rfl) fun σ H Q ⟨w, O, sl, Q0, c, m, q⟩ => ⟨w, O, sl, _, c, m, fun x O1 v w1 H1 h1 e1 r1 a1 => by
    split at h1
    · rw [g_str a1]
      refine ⟨rfl, w1, O1, sl, _, c.ex e1.ex r1, h1, fun xs O2 vs w2 H2 h2 e2 r2 a2 => ?_⟩
      split at h2
      · obtain ⟨v2, us, rfl, h3, h4⟩ := a2.uncons
        rw [h4.unnil, g_str h3]
        refine ⟨_, _, rfl, rfl, h2.2.1, h2.2.2.1, fun l hl => ?_⟩
        obtain ⟨r4, e4, t4⟩ := new_lst r2 hl (g_strs _ fun p hp => split_as h2.1 hp)
        exact q _ O2 _ w2 _ h2.2.2.2 ((e1.trans e2).trans e4) r4 t4
      · exact h2.elim
    · exact h1.elim⟩
/-! calls -/
def strF : MFC := fun O xs P => match xs with
  | [.im (.int i)] => 0 ≤ i ∧ i.natAbs.log2 < 1920 ∧ P (.im (.str (toString i))) O
  | _ => False
theorem as_num {i : Int} (h : 0 ≤ i) : AsB (toString i) = true := by
  obtain ⟨n, rfl⟩ := Int.eq_ofNat_of_zero_le h
  exact num_as n
theorem lk_strF : LkC K (fun xs H Q => ∃ i, xs = [.int i] ∧ i.natAbs.log2 < 1920 ∧ Q (.str (toString i)) H) strF := fun w O H vs xs P Q r a hf q => by
  unfold strF at hf
  split at hf
  · obtain ⟨v, us, rfl, h1, h2⟩ := a.uncons
    rw [h2.unnil, g_int h1]
    exact ⟨_, rfl, hf.2.1, q _ _ O w H hf.2.2 (Ext.refl _ _ _) r (.str _ (lay_as (as_num hf.1)))⟩
  · exact hf.elim
def itxF : MFC := fun O xs P => match xs with
  | [.im (.str z)] => ∃ n, intText? z = some n ∧ z.length ≤ 640 ∧ P (.im (.int n)) O
  | _ => False
theorem lk_itx : LkC K (fun xs H Q => ∃ (z : Str) (n : Int), xs = [.str z] ∧ intText? z = some n ∧ z.length ≤ 640 ∧ Q (.int n) H) itxF := fun w O H vs xs P Q r a hf q => by
  unfold itxF at hf
  split at hf
  · obtain ⟨v, us, rfl, h1, h2⟩ := a.uncons
    rw [h2.unnil, g_str h1]
    obtain ⟨n, e1, e2, hf⟩ := hf
    exact ⟨_, n, rfl, e1, e2, q _ _ O w H hf (Ext.refl _ _ _) r (.int _)⟩
  · exact hf.elim
def lnsF : MFC := fun O xs P => match xs with
  | [.im (.str z)] => z.length ≤ sizeLine ∧ P (.im (.int z.length)) O
  | _ => False
theorem lk_lns : LkC K (fun xs H Q => ∃ z, xs = [.str z] ∧ z.length ≤ sizeLine ∧ Q (.int z.length) H) lnsF := fun w O H vs xs P Q r a hf q => by
  unfold lnsF at hf
  split at hf
  · obtain ⟨v, us, rfl, h1, h2⟩ := a.uncons
    rw [h2.unnil, g_str h1]
    exact ⟨_, rfl, hf.1, q _ _ O w H hf.2 (Ext.refl _ _ _) r (.int _)⟩
  · exact hf.elim
/-! for a sign in a text -/
def miStr (M : ME) : MA := fun sl O Q => M sl O fun x O1 => match x with
  | .im (.str z) => AsB z = true ∧ Q (z.cps.toList.map fun c => .im (.str ⟨#[c]⟩)) O1
  | _ => False
theorem items_str {w : Wd} {O : Sto} {H : Hp} {z : Str} (h : AsB z = true) : Items K (Its z) w O H (z.cps.toList.map fun c => .im (.str ⟨#[c]⟩)) := fun O2 w2 H2 e r i => by
  refine ⟨fun x hx => ?_, fun hl => by show z.cps.size ≤ i; simpa using hl⟩
  rw [List.getElem?_map] at hx
  cases hd : z.cps.toList[i]? with
  | none => rw [hd] at hx; cases hx
  | some c =>
    rw [hd] at hx
    cases Option.some.inj hx
    refine ⟨by have := (List.getElem?_eq_some_iff.mp hd).1; show i < z.cps.size; simpa using this, ?_⟩
    rintro v H3 ⟨rfl, c', hc', rfl⟩
    rw [← Array.getElem?_toList, hd] at hc'
    cases Option.some.inj hc'
    exact ⟨Ext.refl _ _ _, r, .str _ (lay_as (as_one (as_iff.mp h c (List.mem_of_getElem? hd))))⟩
theorem mi_str {tg e : Expr} {M : ME} (he : PE X e (teM K QX E M)) : PI X tg e (tiM K QX E (miStr M)) := PI.imp (pi_str he) fun σ H R ⟨w, O, sl, Q0, c, m, q⟩ => ⟨w, O, sl, _, c, m, fun x O1 v w1 H1 h1 e1 r1 a1 => by
  split at h1
  · exact ⟨_, g_str a1, h1.1, q _ O1 w1 H1 _ h1.2 e1 r1 (items_str h1.1)⟩
  · exact h1.elim⟩
/-! f-strings -/
def mFv (M : ME) : ME := fun sl O Q => M sl O fun x O1 => match x with
  | .im (.int i) => 0 ≤ i ∧ i.natAbs.log2 < 1920 ∧ Q (.im (.str (toString i))) O1
  | _ => False
theorem me_fv {e : Expr} {M : ME} {pos : Pos} (he : PE X e (teM K QX E M)) : PE X (.FormattedValue e (-1) none pos) (teM K QX E (mFv M)) := PE.imp (pe_fv he) fun σ H Q ⟨w, O, sl, Q0, c, m, q⟩ => ⟨w, O, sl, _, c, m, fun x O1 v w1 H1 h1 e1 r1 a1 => by
  split at h1
  · exact ⟨_, g_int a1, h1.2.1, q _ O1 _ w1 H1 h1.2.2 e1 r1 (.str _ (lay_as (as_num h1.1)))⟩
  · exact h1.elim⟩
theorem me_fs1 {e : Expr} {M : ME} {pos : Pos} (he : PE X e (teM K QX E M)) : PE X (.JoinedStr [e] pos) (teM K QX E M) := pe_fs1 he
def mFs3 (A B C : ME) : ME := fun sl O Q => A sl O fun x O1 => ∃ a : Str, x = .im (.str a) ∧ AsB a = true ∧ a.length ≤ sizeLine ∧ B sl O1 fun y O2 => ∃ b : Str, y = .im (.str b) ∧ AsB b = true ∧ (a ++ b).length ≤ sizeLine ∧ C sl O2 fun z O3 => ∃ c : Str, z = .im (.str c) ∧ AsB c = true ∧ (a ++ b ++ c).length ≤ sizeLine ∧ Q (.im (.str (a ++ b ++ c))) O3
theorem me_fs3 {a b c : Expr} {A B C : ME} {pos : Pos} (ha : PE X a (teM K QX E A)) (hb : PE X b (teM K QX E B)) (hc : PE X c (teM K QX E C)) : PE X (.JoinedStr [a, b, c] pos) (teM K QX E (mFs3 A B C)) :=
  PE.imp (pe_fs3 ha hb hc) fun σ H Q ⟨w, O, sl, Q0, c, m, q⟩ => ⟨w, O, sl, _, c, m, fun x O1 v w1 H1 h1 e1 r1 a1 => by
    obtain ⟨a, rfl, sa, la, h1⟩ := h1
    refine ⟨a, g_str a1, la, w1, O1, sl, _, c.ex e1.ex r1, h1, fun y O2 u w2 H2 h2 e2 r2 a2 => ?_⟩
    obtain ⟨b, rfl, sb, lb, h2⟩ := h2
    refine ⟨b, g_str a2, lb, w2, O2, sl, _, (c.ex e1.ex r1).ex e2.ex r2, h2, fun z O3 u3 w3 H3 h3 e3 r3 a3 => ?_⟩
    obtain ⟨d, rfl, sd, ld, h3⟩ := h3
    exact ⟨d, g_str a3, ld, q _ O3 _ w3 H3 h3 ((e1.trans e2).trans e3) r3 (.str _ (lay_as (as_app (as_app sa sb) sd)))⟩⟩
/-! isinstance(x, str) -/
def isS : PyData → Bool
  | .str _ => true
  | _ => false
theorem me_isistr {e : Expr} {M : ME} {p p2 pos : Pos} (Z : IsS K) (he : PE X e (teM K QX E M)) (hg : Gl X "isinstance") (hm : X.mg "isinstance" = none) (hgT : Gl X "str") (hmT : X.mg "str" = none) (hbT : bootBuiltins "str" = some (.type "str")) (h : X.K = K := by rfl)
    (hs : starEach [e, .Name "str" p2] X.env = [(false, eval e X.env), (false, eval (.Name "str" p2) X.env)] := by rfl) (hpl : (backTo pos (starEach [.Name "str" p2] X.env)).any (·.1) = false := by rfl) :
    PE X (.Call (.Name "isinstance" p) [e, .Name "str" p2] [] pos) (teM K QX E (mIsi isS M)) := PE.imp (pIsi K he hg hm hgT hmT hbT boot_isinstance h (by decide) (by decide) hs hpl) (lift_isi fun d hd => by
  cases d with
  | none => exact Z.s1
  | bool b => exact Z.s2
  | int i => exact Z.s3
  | str x => exact Z.s4
  | list x => exact Z.s5
  | tuple x => exact Z.s6
  | dict x => exact absurd rfl (hd x))
/-! a comprehension whose parts may raise -/
theorem me_compX {scope : Scope} {own cap : List Str} {ix : List Nat} {tg iter elt : Expr} {ifs : List Expr} {it : MA} {mg : MG} {C : MT} {M : ME} {pos : Pos} {out : List Env} {L : Addr} (hst : X.stack = X.env :: out) (hfr : X.env.frame = some L) (hpx : Passes (CXF X.prog X.w) X E) (B : BlkOk X scope own cap ix) (hc : X.calm = true) (hi : PI X tg iter (tiM K QX E it)) (hk : Keeps own.length mg)
    (hb : ∀ C' fp s H, Passes (CXF X.prog X.w) (cxCX X E scope C' (own ++ cap) fp s H) E → PG (cxCX X E scope C' (own ++ cap) fp s H) tg (tgM K QX E mg) ∧ PIfs (cxCX X E scope C' (own ++ cap) fp s H) ifs (ttM K QX E C) ∧ PE (cxCX X E scope C' (own ++ cap) fp s H) elt (teM K QX E M))
    (hs : ∀ x, foldedSetIterable iter X.env x = pure x := by intro _; rfl) : PE X (.ListComp elt [⟨tg, iter, ifs, 0⟩] scope pos) (teM K QX E (mComp own.length ix it mg C M)) := PE.imp (pe_compX hst hfr hpx B hc hi hb hs) (lift_comp hk)
end
end MI

set_option Elab.async false
set_option linter.all false
set_option maxRecDepth 100000
set_option maxHeartbeats 4000000
set_option exponentiation.threshold 20000
namespace MI
open PySem L2 KG EX KM TX
abbrev numS (n : Int) : Str := Str.ofString (toString n)
def rdF (x : Str) : Option (Int × Int) := if (Txt.split x slash).all fig = true then (match Txt.split x slash with
  | [p] => some (dv p, 1)
  | [p, q] => if 2 ≤ dv q ∧ Int.gcd (dv p) (dv q) = 1 then some (dv p, dv q) else none
  | _ => none) else none
def rdD : PyData → Option (Int × Int)
  | .str x => rdF x
  | _ => none
def duD : Option (Int × Int) → PyData
  | some (a, b) => .tuple [.int a, .int b]
  | none => .none
def kdS : Option (Int × Int) → Str
  | some _ => ""
  | none => "NoText+"
theorem log_small {n : Nat} (h : n < 10 ^ 31) : n.log2 < 1920 := by
  by_cases h0 : n = 0
  · subst h0; decide
  · exact (Nat.log2_lt h0).mpr (Nat.lt_of_lt_of_le h (by decide +kernel))
theorem sl_eq : Str.ofString "/" = slash := by decide +kernel
def ftS (a b : Nat) : Str := if b = 1 then numS a else numS a ++ slash ++ numS b
def fFt : FM := fun O xs P _ => ∃ a b : Nat, xs = [.im (.tuple [.int a, .int b])] ∧ a < 10 ^ 31 ∧ b < 10 ^ 31 ∧ P (.im (.str (ftS a b))) O
abbrev NFt : List Str := ["number", "top", "bottom"]
def mFt : MS := (mSeq (mAsg (mVar 0) (mgT 2 (mgCons (mgN 1) (mgCons (mgN 2) mgNil))))
 (mRet (mIf (mTst (mOp (eqF false) (mVar 2) (mC (.int 1)))) (mFv (mVar 1)) (mFs3 (mFv (mVar 1)) (mC (.str "/")) (mFv (mVar 2))))))
theorem num31 {n : Nat} (h : n < 10 ^ 31) : (numS n).length ≤ 31 := num_len (by decide) h
theorem rd_ft : ∀ O xs Pq QX, fFt O xs Pq QX → mFt { nx := fun _ O' => Pq (.im .none) O', rt := Pq } (startS NFt xs) O := by
  intro O xs Pq QX h
  obtain ⟨a, b, rfl, ha, hb, h⟩ := h
  have la := num31 ha
  have lb := num31 hb
  refine ⟨rfl, ⟨?_⟩⟩
  show mRet _ _ [some (.im (.tuple [.int a, .int b])), some (.im (.int a)), some (.im (.int b))] O
  refine ⟨by show min 0 0 ≤ 60; decide, fun hc => ?_, fun hc => ?_⟩
  · have e : (b : Int) = 1 := of_decide_eq_true hc
    refine ⟨Int.natCast_nonneg a, log_small ha, ?_⟩
    have : ftS a b = numS a := if_pos (by omega)
    rw [this] at h; exact h
  · have e : (b : Int) ≠ 1 := of_decide_eq_false hc
    have : ftS a b = numS a ++ Str.ofString "/" ++ numS b := by rw [sl_eq]; exact if_neg (by omega)
    rw [this] at h
    have l1 : (Str.ofString "/").length = 1 := by decide +kernel
    refine ⟨Int.natCast_nonneg a, log_small ha, numS a, rfl, num_as a, by rw [sz]; omega, _, rfl, by decide +kernel, by rw [len_app, sz, l1]; omega, Int.natCast_nonneg b, log_small hb, numS b, rfl, num_as b, by rw [len_app, len_app, sz, l1]; omega, h⟩
def fNeT (Tx : Addr) : FM := fun O xs P PX => ∃ d, xs = [.im d] ∧ (isS d = true → P (.im .none) O) ∧ (isS d = false → PX Tx O)
abbrev NNt : List Str := ["thing"]
def mNeT (QX : Addr → Sto → Prop) (Tx : Addr) : MS := (mIfS (mNot (mTst (mIsi isS (mVar 0)))) (mRaise QX Tx (mCons (mC (.str "this is no text")) mNil)) mNext)
theorem rd_net (Tx : Addr) : ∀ O xs Pq QX, fNeT Tx O xs Pq QX → mNeT QX Tx { nx := fun _ O' => Pq (.im .none) O', rt := Pq } (startS NNt xs) O := by
  intro O xs Pq QX h
  obtain ⟨d, rfl, h1, h2⟩ := h
  refine ⟨fun hc => ⟨len1, h2 (by simpa using hc)⟩, fun hc => h1 (by simpa using hc)⟩
theorem dv_lt : ∀ (l : List Nat) (a : Nat), NumText.AllDigits l → l.foldl (fun acc c => acc * 10 + (c - 48)) a < (a + 1) * 10 ^ l.length
  | [], a, _ => by simp
  | c :: l, a, h => by
    have h1 := h c List.mem_cons_self
    have := dv_lt l (a * 10 + (c - 48)) fun d hd => h d (List.mem_cons_of_mem _ hd)
    rw [List.foldl_cons, List.length_cons, Nat.pow_succ]
    refine Nat.lt_of_lt_of_le this ?_
    rw [Nat.mul_comm (10 ^ l.length) 10, ← Nat.mul_assoc]
    exact Nat.mul_le_mul_right _ (by omega)
theorem dv_bd {l : List Nat} (h : NumText.AllDigits l) (hl : l.length ≤ 1000) : NumText.digitsVal l < 2 ^ 4000 := by
  have := dv_lt l 0 h
  rw [Nat.zero_add, Nat.one_mul] at this
  refine Nat.lt_of_lt_of_le this ?_
  refine Nat.le_trans (Nat.pow_le_pow_right (by decide) hl) ?_
  decide +kernel
theorem dv_snoc (l : List Nat) (c : Nat) : NumText.digitsVal (l ++ [c]) = NumText.digitsVal l * 10 + (c - 48) := by
  unfold NumText.digitsVal
  rw [List.foldl_append]; rfl
theorem bd_dv {x : Str} (h : fig x = true) (hl : x.length ≤ 1000) : Bd 4000 (dv x) := by
  unfold fig figL at h
  rw [Bool.and_eq_true, Bool.and_eq_true] at h
  exact dv_bd (allD_iff.mp h.1.2) (by rw [len_cps]; exact hl)
theorem eqq_s (a b : Str) : eqq (.str a) (.str b) = (a == b) := by rw [eqq_eq, PyData.eqv]
theorem str_eq {a b : Str} : (a == b) = true ↔ a.cps.toList = b.cps.toList := by
  rw [beq_iff_eq]
  exact ⟨fun h => by rw [h], fun h => PyProof.Rows.ext_toList h⟩
def AllDigits1 (c : Nat) : Prop := 48 ≤ c ∧ c ≤ 57
theorem int_one {c : Nat} (h : AllDigits1 c) : intText? ⟨#[c]⟩ = some ((c - 48 : Nat) : Int) := by
  have e := int_fig (x := ⟨#[c]⟩) (by simp [allD, h.1, h.2]) (by simp) (by show 1 ≤ 640; decide)
  rw [e]
  simp [dv, NumText.digitsVal]
theorem zero_l : (Str.ofString "0").cps.toList = [48] := by decide +kernel
theorem str_eqF {a b : Str} (h : a.cps.toList ≠ b.cps.toList) : (a == b) = false := by
  cases e : a == b with
  | true => exact absurd (str_eq.mp e) h
  | false => rfl
def fRn (Tx : Addr) : FM := fun O xs P PX => ∃ x : Str, xs = [.im (.str x)] ∧ AsB x = true ∧ x.length ≤ 1000 ∧ (fig x = true → P (.im (.int (dv x))) O) ∧ (fig x = false → PX Tx O)
abbrev NRn : List Str := ["word", "number", "figure"]
def mRn (QX : Addr → Sto → Prop) (Tx : Addr) : MS := (mSeq (mIfS (mOrT (mNot (mTst (mM0 Txt.isascii (mVar 0)))) (mOrT (mNot (mTst (mM0 Txt.isdigit (mVar 0)))) (mAndT (mTst (mOp (eqF false) (mOp ixsF (mVar 0) (mC (.int 0))) (mC (.str "0")))) (mTst (mOp (eqF true) (mVar 0) (mC (.str "0"))))))) (mRaise QX Tx (mCons (mC (.str "this is not written as a number is")) mNil)) mNext)
 (mSeq (mAsg (mC (.int 0)) (mgN 1))
 (mSeq (mFor (miStr (mVar 0)) (mgN 2) (mAsg (mOp addF (mOp mulF (mVar 1) (mC (.int 10))) (mCB itxF (mCons (mVar 2) mNil))) (mgN 1)))
 (mRet (mVar 1)))))
theorem rd_rn (Tx : Addr) : ∀ O xs Pq QX, fRn Tx O xs Pq QX → mRn QX Tx { nx := fun _ O' => Pq (.im .none) O', rt := Pq } (startS NRn xs) O := by
  intro O xs Pq QX h
  obtain ⟨x, rfl, ha, hl, h1, h2⟩ := h
  have hsz : x.length ≤ sizeLine := by rw [sz]; omega
  have hdig := dig_as ha
  refine ⟨fun z => ?_, fun _ => ?_⟩
  · rw [asc_as ha] at z; cases z
  refine ⟨fun z => ⟨fun _ => ⟨len1, h2 ?_⟩, fun z => by cases z⟩, fun z => ?_⟩
  · rw [hdig] at z
    unfold fig figL
    cases hq : !x.cps.toList.isEmpty && allD x.cps.toList with
    | true => rw [hq] at z; cases z
    | false => rfl
  rw [hdig] at z
  have hgd : (!x.cps.toList.isEmpty && allD x.cps.toList) = true := by simpa using z
  have hd := allD_iff.mp ((Bool.and_eq_true _ _).mp hgd).2
  have hfig : fig x = (x.cps.toList.head? != some 48 || x.cps.toList == [48]) := by unfold fig figL; rw [hgd]; rfl
  have hgo : fig x = true → Go (mSeq (mAsg (mC (.int 0)) (mgN 1)) (mSeq (mFor (miStr (mVar 0)) (mgN 2) (mAsg (mOp addF (mOp mulF (mVar 1) (mC (.int 10))) (mCB itxF (mCons (mVar 2) mNil))) (mgN 1))) (mRet (mVar 1)))) { nx := fun _ O' => Pq (.im .none) O', rt := Pq } (startS NRn [.im (.str x)]) O := fun hf => by
    refine ⟨⟨⟨ha, ?_⟩⟩⟩
    refine ⟨fun i sl O' => ∃ y, sl = [some (.im (.str x)), some (.im (.int (NumText.digitsVal (x.cps.toList.take i) : Nat))), y] ∧ O' = O, ⟨_, rfl, rfl⟩, ?_, ?_⟩
    · rintro i v sl O' hv ⟨y, rfl, rfl⟩
      rw [List.getElem?_map] at hv
      cases hc : x.cps.toList[i]? with
      | none => rw [hc] at hv; cases hv
      | some c =>
        rw [hc] at hv
        cases Option.some.inj hv
        have hcd := hd c (List.mem_of_getElem? hc)
        have ht : x.cps.toList.take (i + 1) = x.cps.toList.take i ++ [c] := by rw [List.take_succ, hc]; rfl
        have hbd : NumText.digitsVal (x.cps.toList.take i) < 2 ^ 4000 := dv_bd (fun d hd' => hd d (List.mem_of_mem_take hd')) (by rw [List.length_take, len_cps]; omega)
        refine ⟨⟨⟨Nat.lt_of_lt_of_le hbd (Nat.pow_le_pow_right (by decide) (by decide)), by unfold Bd; decide +kernel⟩, (c - 48 : Nat), ?_, (show 1 ≤ 640 by decide), ?_⟩⟩
        · have h1 : AllDigits1 c := ⟨hcd.1, hcd.2⟩
          exact int_one h1
        · refine ⟨some (.im (.str ⟨#[c]⟩)), ?_, rfl⟩
          rw [ht, dv_snoc]
          rfl
    · rintro sl O' ⟨y, rfl, rfl⟩
      have := h1 hf
      unfold dv at this
      refine ⟨?_⟩
      show Pq (.im (.int (NumText.digitsVal (x.cps.toList.take (x.cps.toList.map fun c => AV.im (.str ⟨#[c]⟩)).length) : Nat))) O'
      rw [List.length_map, List.take_length]; exact this
  cases hx : x.cps.toList with
  | nil => rw [hx] at hgd; cases hgd
  | cons c r =>
    have h48 : ((⟨#[c]⟩ : Str) == Str.ofString "0") = decide (c = 48) := by
      by_cases hc : c = 48
      · rw [decide_eq_true hc]; exact str_eq.mpr (by rw [zero_l, hc])
      · rw [decide_eq_false hc]; exact str_eqF (by rw [zero_l]; simpa using hc)
    rw [hx] at hfig
    refine ⟨ha, hsz, c, by rw [hx]; exact atI_nat (j := 0) rfl, by show min 0 0 ≤ 60; decide, fun z => ⟨by show min 0 0 ≤ 60; decide, fun z2 => ⟨len1, h2 ?_⟩, fun z2 => hgo ?_⟩, fun z => ⟨fun z => (by cases z), fun _ => hgo ?_⟩⟩
    · have z1 : eqq (.str ⟨#[c]⟩) (.str (Str.ofString "0")) = true := z
      rw [eqq_s, h48] at z1
      have z3 : (!eqq (.str x) (.str (Str.ofString "0"))) = true := z2
      rw [eqq_s] at z3
      rw [hfig]
      have hc := of_decide_eq_true z1
      subst hc
      cases r with
      | nil => rw [str_eq.mpr (by rw [hx, zero_l])] at z3; cases z3
      | cons d r => simp
    · have z3 : (!eqq (.str x) (.str (Str.ofString "0"))) = false := z2
      rw [eqq_s] at z3
      have z4 := str_eq.mp (by simpa using z3)
      rw [hx, zero_l] at z4
      rw [hfig, z4]; rfl
    · have z1 : eqq (.str ⟨#[c]⟩) (.str (Str.ofString "0")) = false := z
      rw [eqq_s, h48] at z1
      have hc := of_decide_eq_false z1
      rw [hfig]; simp [hc]
theorem str_at {ps : List Str} {i : Nat} {x : AV} (h : ((ps.map PyData.str).map AV.im)[i]? = some x) : i < ps.length ∧ ps.getD i Str.empty ∈ ps ∧ x = .im (.str (ps.getD i Str.empty)) := by
  have hi : i < ps.length := by have := (List.getElem?_eq_some_iff.mp h).1; simpa using this
  rw [List.getElem?_map, List.getElem?_map, List.getElem?_eq_getElem hi] at h
  have e : ps.getD i Str.empty = ps[i] := getD_of (List.getElem?_eq_getElem hi)
  rw [e]
  exact ⟨hi, List.getElem_mem _, (Option.some.inj h).symm⟩
theorem all_at {ps : List Str} {f : Str → Bool} (h : ∀ j, j < ps.length → f (ps.getD j Str.empty) = true) : ps.all f = true := by
  rw [List.all_eq_true]
  intro p hp
  obtain ⟨j, hj, rfl⟩ := List.getElem_of_mem hp
  have := h j hj
  rw [getD_of (List.getElem?_eq_getElem hj)] at this; exact this
theorem map_ps (ps : List Str) (g : Str → PyData) : (List.range ps.length).map (fun i => g (ps.getD i Str.empty)) = ps.map g := by
  apply List.ext_getElem?
  intro i
  rw [List.getElem?_map, List.getElem?_map]
  rcases Nat.lt_or_ge i ps.length with y | y
  · rw [List.getElem?_range y, List.getElem?_eq_getElem y, Option.map_some, Option.map_some, getD_of (List.getElem?_eq_getElem y)]
  · rw [List.getElem?_eq_none (by simpa using y), List.getElem?_eq_none y]; rfl
def numsD (ps : List Str) : List PyData := ps.map fun p => .int (dv p)
def fRns (Tx : Addr) : FM := fun O xs P PX => ∃ ps : List Str, xs = [.im (.list (ps.map .str))] ∧ ps.length ≤ 1000000 ∧ (∀ p ∈ ps, AsB p = true ∧ p.length ≤ 1000) ∧ (ps.all fig = true → P (.im (.tuple (numsD ps))) O) ∧ (ps.all fig = false → PX Tx O)
abbrev NRns : List Str := ["words"]
def mRns (QX : Addr → Sto → Prop) (Tx : Addr) : MS := (mRet (mCB tupF (mCons (mComp 1 [] (miSeq (mVar 0)) (mgN 0) mYes (mCall (fRn Tx) QX (mCons (mVar 0) mNil))) mNil)))
theorem rd_rns (Tx : Addr) : ∀ O xs Pq QX, fRns Tx O xs Pq QX → mRns QX Tx { nx := fun _ O' => Pq (.im .none) O', rt := Pq } (startS NRns xs) O := by
  intro O xs Pq QX h
  obtain ⟨ps, rfl, hl, hp, h1, h2⟩ := h
  refine comp_all (fun i d => fig (ps.getD i Str.empty) = true ∧ d = .int (dv (ps.getD i Str.empty))) (by simpa using hl) (fun i x Z hx hZ => ?_) fun ds hd hR => ?_
  · obtain ⟨hi, hm, rfl⟩ := str_at hx
    refine ⟨_, rfl, (hp _ hm).1, (hp _ hm).2, fun hf => hZ _ ⟨hf, rfl⟩, fun hf => h2 ?_⟩
    cases ha : ps.all fig with
    | false => rfl
    | true => rw [List.all_eq_true.mp ha _ hm] at hf; cases hf
  · have hd' : ds.length = ps.length := by simpa using hd
    have e := list_ix (fun j hj => (hR j hj).2)
    rw [hd', map_ps ps fun p => .int (dv p)] at e
    rw [e]
    exact h1 (all_at fun j hj => (hR j (by omega)).1)
def rdP (d : PyData) : Prop := ∀ x, d = .str x → AsB x = true ∧ x.length ≤ 1000
def fRf (Tx : Addr) : FM := fun O xs P PX => ∃ d, xs = [.im d] ∧ rdP d ∧ (∀ r, rdD d = some r → P (.im (duD (some r))) O) ∧ (rdD d = none → PX Tx O)
abbrev NRf : List Str := ["text", "numbers"]
def mRf (QX : Addr → Sto → Prop) (Tx : Addr) : MS := (mSeq (mDrop (mCall (fNeT Tx) QX (mCons (mVar 0) mNil)))
 (mSeq (mAsg (mCall (fRns Tx) QX (mCons (mSpl (mVar 0) (mCons (mC (.str "/")) mNil)) mNil)) (mgN 1))
 (mSeq (mIfS (mTst (mOp (eqF false) (mCB lenF (mCons (mVar 1) mNil)) (mC (.int 1)))) (mRet (mTup (mCons (mOp ixF (mVar 1) (mC (.int 0))) (mCons (mC (.int 1)) mNil)))) mNext)
 (mSeq (mIfS (mOrT (mNot (mTst (mCall (fT isFrac) noX (mCons (mVar 1) mNil)))) (mTst (mOp (eqF false) (mOp ixF (mVar 1) (mC (.int 1))) (mC (.int 1))))) (mRaise QX Tx (mCons (mC (.str "this is not written as a fraction is")) mNil)) mNext)
 (mRet (mVar 1))))))
theorem rd_rf (Tx : Addr) : ∀ O xs Pq QX, fRf Tx O xs Pq QX → mRf QX Tx { nx := fun _ O' => Pq (.im .none) O', rt := Pq } (startS NRf xs) O := by
  intro O xs Pq QX h
  obtain ⟨d, rfl, hp, h1, h2⟩ := h
  refine ⟨d, rfl, fun hs => ⟨?_⟩, fun hs => h2 ?_⟩
  rotate_left
  · cases d <;> first | rfl | cases hs
  cases d with
  | str x =>
    obtain ⟨ha, hl⟩ := hp x rfl
    have hrd : rdD (.str x) = rdF x := rfl
    refine ⟨ha, by decide, by rw [sz]; omega, ?_⟩
    have hn := PyProof.Rows.split_pos x slash
    have hle := PyProof.Rows.split_le x slash
    have hrf0 : (Txt.split x slash).all fig = true → rdF x = (match Txt.split x slash with
      | [p] => some (dv p, 1)
      | [p, q] => if 2 ≤ dv q ∧ Int.gcd (dv p) (dv q) = 1 then some (dv p, dv q) else none
      | _ => none) := fun hf => by unfold rdF; rw [if_pos hf]
    have hrf1 : (Txt.split x slash).all fig = false → rdF x = none := fun hf => by unfold rdF; rw [hf]; rfl
    rw [← sl_eq] at hn hle hrf0 hrf1
    refine ⟨Txt.split x (Str.ofString "/"), rfl, by omega, fun p hp => ⟨split_as ha hp, Nat.le_trans (PyProof.Rows.part_short hp) hl⟩, fun hf => ⟨?_⟩, fun hf => h2 ?_⟩
    rotate_left
    · rw [hrd]; exact hrf1 hf
    rw [hrd, hrf0 hf] at h1 h2
    clear hrf0 hrf1 hle
    generalize Txt.split x (Str.ofString "/") = ps at *
    match ps, hn with
    | [p], _ =>
      refine ⟨by show min 0 0 ≤ 60; decide, fun _ => ?_, fun z => ?_⟩
      · exact ⟨_, rfl, by show 2 ≤ sizeLine; decide, h1 _ rfl⟩
      · cases z
    | [p, q], _ =>
      refine ⟨by show min 0 0 ≤ 60; decide, fun z => (by cases z), fun _ => ⟨?_⟩⟩
      have hfr : isFrac (.tuple (numsD [p, q])) = (decide (1 ≤ dv q) && decide (Int.gcd (dv p) (dv q) = 1)) := rfl
      refine ⟨fun z => ⟨fun _ => ⟨len1, h2 (if_neg fun hh => ?_)⟩, fun z => by cases z⟩, fun z => ⟨.int (dv q), rfl, by show min 0 0 ≤ 60; decide, fun z2 => ⟨len1, h2 (if_neg fun hh => ?_)⟩, fun z2 => ⟨h1 _ (if_pos ?_)⟩⟩⟩
      · rw [hfr, decide_eq_true (show 1 ≤ dv q by omega), decide_eq_true hh.2] at z; cases z
      · have : dv q = 1 := of_decide_eq_true z2
        omega
      · rw [hfr] at z
        have z3 : dv q ≠ 1 := of_decide_eq_false z2
        simp at z
        exact ⟨by omega, z.2⟩
    | p :: q :: r :: l, _ =>
      refine ⟨by show min 0 0 ≤ 60; decide, fun z => ?_, fun _ => ⟨⟨fun _ => ⟨fun _ => ⟨len1, h2 rfl⟩, fun z => by cases z⟩, fun z => by cases z⟩⟩⟩
      have z0 : decide (((numsD (p :: q :: r :: l)).length : Int) = 1) = true := z
      have z1 := of_decide_eq_true z0
      simp [numsD] at z1
      omega
  | _ => cases hs
theorem atI_ex {α : Type} {xs : List α} {r : Int} {Pr : α → Prop} (h0 : 0 ≤ r) (h1 : r < xs.length) (h : ∀ v ∈ xs, Pr v) : ∃ v, atI xs r = some v ∧ Pr v := by
  have hl : r.toNat < xs.length := by omega
  have e := List.getElem?_eq_getElem hl
  have := atI_nat e
  rw [Int.toNat_of_nonneg h0] at this
  exact ⟨_, this, h _ (List.getElem_mem _)⟩
def fWn : FM := fun O xs P _ => ∃ j, xs = [.bag j] ∧ ∀ n : Int, n.natAbs < 10 ^ 30 → P (.im (.int n)) O
abbrev NWn : List Str := ["bag", "some", "number"]
def mWn : MS := (mSeq (mAsg (mLst (mCons (mCall fTakeB noX (mCons (mVar 0) (mCons (mC (.int 13)) mNil))) (mCons (mCall fTakeB noX (mCons (mVar 0) (mCons (mOp powF (mC (.int 10)) (mC (.int 7))) mNil))) (mCons (mCall fTakeB noX (mCons (mVar 0) (mCons (mOp powF (mC (.int 10)) (mC (.int 30))) mNil))) (mCons (mOp shlF (mC (.int 1)) (mCall fTakeB noX (mCons (mVar 0) (mCons (mC (.int 60)) mNil)))) mNil))))) (mgN 1))
 (mSeq (mAsg (mOp ixF (mVar 1) (mCall fTakeB noX (mCons (mVar 0) (mCons (mC (.int 4)) mNil)))) (mgN 2))
 (mRet (mOp mulF (mVar 2) (mOp subF (mC (.int 1)) (mOp mulF (mC (.int 2)) (mCall fTakeB noX (mCons (mVar 0) (mCons (mC (.int 2)) mNil)))))))))
theorem bd_lit {n : Int} (h : n.natAbs < 2 ^ 200) : Bd 8000 n := Nat.lt_of_lt_of_le h (Nat.pow_le_pow_right (by decide) (by decide))
theorem rd_wn : ∀ O xs Pq QX, fWn O xs Pq QX → mWn { nx := fun _ O' => Pq (.im .none) O', rt := Pq } (startS NWn xs) O := by
  intro O xs Pq QX h
  obtain ⟨j, rfl, h⟩ := h
  refine ⟨⟨by decide, bd_lit (by decide)⟩, fun r1 a1 b1 => ⟨⟨by decide, by decide, by decide⟩, ⟨⟨by decide, bd_lit (by decide +kernel)⟩, fun r2 a2 b2 => ⟨⟨by decide, by decide, by decide⟩, ⟨⟨by decide, bd_lit (by decide +kernel)⟩, fun r3 a3 b3 => ⟨⟨by decide, bd_lit (by decide)⟩, fun r4 a4 b4 => ⟨⟨a4, by omega, by decide⟩, (show 4 ≤ sizeLine by decide), ⟨⟨⟨by decide, bd_lit (by decide)⟩, fun r5 a5 b5 => ?_⟩⟩⟩⟩⟩⟩⟩⟩⟩
  have b2' : r2 < 10000000 := b2
  have b3' : r3 < 1000000000000000000000000000000 := b3
  obtain ⟨v, ev, n, rfl, hn⟩ := atI_ex (xs := [PyData.int r1, .int r2, .int r3, .int (1 * 2 ^ r4.toNat)]) (r := r5) (Pr := fun v => ∃ n : Int, v = .int n ∧ n.natAbs < 10 ^ 30) a5 b5 (by
    intro v hv
    simp at hv
    rcases hv with rfl | rfl | rfl | rfl
    · exact ⟨_, rfl, by omega⟩
    · exact ⟨_, rfl, by omega⟩
    · exact ⟨_, rfl, by omega⟩
    · refine ⟨_, rfl, ?_⟩
      rw [Int.natAbs_pow]
      exact Nat.lt_of_lt_of_le (Nat.pow_lt_pow_right (m := r4.toNat) (n := 60) (by decide) (by omega)) (by decide +kernel))
  refine ⟨_, ev, ⟨⟨⟨by decide, bd_lit (by decide)⟩, fun r6 a6 b6 => ⟨⟨bd_lit (by decide), bd_lit (Nat.lt_of_le_of_lt (show r6.natAbs ≤ 1 by omega) (by decide +kernel))⟩, ⟨bd_lit (Nat.lt_of_lt_of_le hn (by decide +kernel)), bd_lit (Nat.lt_of_le_of_lt (show (1 - 2 * r6).natAbs ≤ 1 by omega) (by decide +kernel))⟩, h _ ?_⟩⟩⟩⟩
  have : (1 - 2 * r6).natAbs = 1 := by omega
  rw [Int.natAbs_mul, this, Nat.mul_one]; exact hn
def fMov : FM := fun O xs P _ => ∃ (j : Nat) (x y : Str), xs = [.bag j, .im (.str x), .im (.str y)] ∧ AsB x = true ∧ AsB y = true ∧ x.length ≤ 1000 ∧ y.length ≤ 1 ∧ ∀ z : Str, AsB z = true → z.length ≤ 3 * x.length + 1 → P (.im (.str z)) O
abbrev NMv : List Str := ["bag", "some", "new", "at", "way"]
def mMov : MS := (mSeq (mAsg (mCall fTakeB noX (mCons (mVar 0) (mCons (mOp addF (mCB lnsF (mCons (mVar 1) mNil)) (mC (.int 1))) mNil))) (mgN 3))
 (mSeq (mAsg (mCall fTakeB noX (mCons (mVar 0) (mCons (mC (.int 5)) mNil))) (mgN 4))
 (mSeq (mIfS (mTst (mOp (eqF false) (mVar 4) (mC (.int 0)))) (mRet (mOp catF (mSlS (mVar 1) mNoP (mSoP (mVar 3))) (mSlS (mVar 1) (mSoP (mOp addF (mVar 3) (mC (.int 1)))) mNoP))) mNext)
 (mSeq (mIfS (mTst (mOp (eqF false) (mVar 4) (mC (.int 1)))) (mRet (mOp catF (mSlS (mVar 1) mNoP (mSoP (mOp addF (mVar 3) (mC (.int 1))))) (mSlS (mVar 1) (mSoP (mVar 3)) mNoP))) mNext)
 (mSeq (mIfS (mTst (mOp (eqF false) (mVar 4) (mC (.int 2)))) (mRet (mOp catF (mOp catF (mSlS (mVar 1) mNoP (mSoP (mVar 3))) (mVar 2)) (mSlS (mVar 1) (mSoP (mVar 3)) mNoP))) mNext)
 (mSeq (mIfS (mTst (mOp (eqF false) (mVar 4) (mC (.int 3)))) (mRet (mOp catF (mOp catF (mSlS (mVar 1) mNoP (mSoP (mVar 3))) (mRev (mSlS (mVar 1) (mSoP (mVar 3)) (mSoP (mOp addF (mVar 3) (mC (.int 2))))))) (mSlS (mVar 1) (mSoP (mOp addF (mVar 3) (mC (.int 2)))) mNoP))) mNext)
 (mRet (mOp catF (mOp catF (mSlS (mVar 1) mNoP (mSoP (mVar 3))) (mVar 2)) (mSlS (mVar 1) (mSoP (mOp addF (mVar 3) (mC (.int 1)))) mNoP)))))))))
theorem as_cut {z : Str} {lo hi st : Option Int} (h : AsB z = true) : AsB (cutS z lo hi st) = true := as_sub h cut_mem
theorem rd_mov : ∀ O xs Pq QX, fMov O xs Pq QX → mMov { nx := fun _ O' => Pq (.im .none) O', rt := Pq } (startS NMv xs) O := by
  intro O xs Pq QX h
  obtain ⟨j, x, y, rfl, hx, hy, lx, ly, h⟩ := h
  have hsz : x.length ≤ sizeLine := by rw [sz]; omega
  have c1 : ∀ lo hi, (cutS x lo hi none).length ≤ x.length := fun _ _ => cut_len
  have a1 : ∀ lo hi, AsB (cutS x lo hi none) = true := fun _ _ => as_cut hx
  refine ⟨hsz, ⟨⟨by omega, bd_lit (Nat.lt_of_le_of_lt (show ((x.length : Int) + 1).natAbs ≤ 1001 by omega) (by decide +kernel))⟩, fun r1 a b => ⟨⟨⟨by decide, bd_lit (by decide)⟩, fun r2 a2 b2 => ⟨?_⟩⟩⟩⟩⟩
  show mSeq _ _ _ [some (.bag j), some (.im (.str x)), some (.im (.str y)), some (.im (.int r1)), some (.im (.int r2))] O
  refine ⟨by show min 0 0 ≤ 60; decide, fun _ => ?_, fun _ => ⟨by show min 0 0 ≤ 60; decide, fun _ => ?_, fun _ => ⟨by show min 0 0 ≤ 60; decide, fun _ => ?_, fun _ => ⟨by show min 0 0 ≤ 60; decide, fun _ => ?_, fun _ => ?_⟩⟩⟩⟩
  · exact ⟨hx, hsz, hx, hsz, ⟨a1 _ _, a1 _ _, by have := c1 none (some r1); have := c1 (some (r1 + 1)) none; rw [sz]; omega⟩, h _ (as_app (a1 _ _) (a1 _ _)) (by rw [len_app]; have := c1 none (some r1); have := c1 (some (r1 + 1)) none; omega)⟩
  · exact ⟨hx, hsz, hx, hsz, ⟨a1 _ _, a1 _ _, by have := c1 none (some (r1 + 1)); have := c1 (some r1) none; rw [sz]; omega⟩, h _ (as_app (a1 _ _) (a1 _ _)) (by rw [len_app]; have := c1 none (some (r1 + 1)); have := c1 (some r1) none; omega)⟩
  · have l1 := c1 none (some r1)
    have l2 := c1 (some r1) none
    exact ⟨hx, hsz, ⟨a1 _ _, hy, by rw [sz]; omega⟩, hx, hsz, ⟨as_app (a1 _ _) hy, a1 _ _, by rw [len_app, sz]; omega⟩, h _ (as_app (as_app (a1 _ _) hy) (a1 _ _)) (by rw [len_app, len_app]; omega)⟩
  · have l1 := c1 none (some r1)
    have l2 := c1 (some r1) (some (r1 + 2))
    have l3 := c1 (some (r1 + 2)) none
    have l4 := rev_len (z := cutS x (some r1) (some (r1 + 2)) none)
    have a4 : AsB (cutS (cutS x (some r1) (some (r1 + 2)) none) none none (some (-1))) = true := as_cut (a1 _ _)
    exact ⟨hx, hsz, hx, hsz, a1 _ _, by rw [sz]; omega, ⟨a1 _ _, a4, by rw [sz]; omega⟩, hx, hsz, ⟨as_app (a1 _ _) a4, a1 _ _, by rw [len_app, sz]; omega⟩, h _ (as_app (as_app (a1 _ _) a4) (a1 _ _)) (by rw [len_app, len_app]; omega)⟩
  · have l1 := c1 none (some r1)
    have l2 := c1 (some (r1 + 1)) none
    exact ⟨hx, hsz, ⟨a1 _ _, hy, by rw [sz]; omega⟩, hx, hsz, ⟨as_app (a1 _ _) hy, a1 _ _, by rw [len_app, sz]; omega⟩, h _ (as_app (as_app (a1 _ _) hy) (a1 _ _)) (by rw [len_app, len_app]; omega)⟩
theorem sg_mem {l : List Nat} {i : Nat} (h : i < l.length) : l.getD i 0 ∈ l := by
  rw [getD_of (List.getElem?_eq_getElem h)]; exact List.getElem_mem _
theorem sg_lt {x : Str} (h : AsB x = true) {i : Nat} (hi : i < x.cps.toList.length) : x.cps.toList.getD i 0 < 128 := as_iff.mp h _ (sg_mem hi)
theorem sg_at {l : List Nat} {i : Nat} {v : AV} (h : (l.map fun c => AV.im (.str ⟨#[c]⟩))[i]? = some v) : i < l.length ∧ v = .im (.str ⟨#[l.getD i 0]⟩) := by
  have hi : i < l.length := by have := (List.getElem?_eq_some_iff.mp h).1; simpa using this
  rw [List.getElem?_map, List.getElem?_eq_getElem hi] at h
  rw [getD_of (List.getElem?_eq_getElem hi)]
  exact ⟨hi, (Option.some.inj h).symm⟩
def fFig : FM := fun O xs P _ => ∃ x : Str, xs = [.im (.str x)] ∧ AsB x = true ∧ x.length ≤ 640 ∧ P (.im (if fig x = true then .int (dv x) else .none)) O
abbrev NFg : List Str := ["text"]
def mFig : MS := (mSeq (mIfS (mOrT (mTst (mOp (eqF false) (mVar 0) (mC (.str "")))) (mOrT (mTst (mOp (eqF true) (mComp 1 [] (miStr (mVar 0)) (mgN 0) (mTst (mOp ninsF (mVar 0) (mC (.str "0123456789")))) (mVar 0)) (mLst mNil))) (mAndT (mTst (mOp (eqF false) (mOp ixsF (mVar 0) (mC (.int 0))) (mC (.str "0")))) (mTst (mOp (eqF true) (mVar 0) (mC (.str "0"))))))) (mRet (mC .none)) mNext)
 (mRet (mCB itxF (mCons (mVar 0) mNil))))
theorem nil_l : (Str.ofString "").cps.toList = [] := by decide +kernel
theorem rd_fig : ∀ O xs Pq QX, fFig O xs Pq QX → mFig { nx := fun _ O' => Pq (.im .none) O', rt := Pq } (startS NFg xs) O := by
  intro O xs Pq QX h
  obtain ⟨x, rfl, hx, lx, h⟩ := h
  have hsz : x.length ≤ sizeLine := by rw [sz]; omega
  have bad : fig x = false → Pq (.im .none) O := fun z => by rw [z] at h; exact h
  refine ⟨by show min 0 0 ≤ 60; decide, fun z => ⟨fun _ => bad ?_, fun z => by cases z⟩, fun z => ⟨hx, ?_⟩⟩
  · have z1 : eqq (.str x) (.str (Str.ofString "")) = true := z
    rw [eqq_s] at z1
    have := str_eq.mp z1
    rw [nil_l] at this
    unfold fig; rw [this]; rfl
  have z1 : eqq (.str x) (.str (Str.ofString "")) = false := z
  have hne : x.cps.toList ≠ [] := fun e => by rw [eqq_s, str_eq.mpr (by rw [e, nil_l])] at z1; cases z1
  refine comp_filt (fun i => !(decide (48 ≤ x.cps.toList.getD i 0) && decide (x.cps.toList.getD i 0 ≤ 57))) (fun i => .str ⟨#[x.cps.toList.getD i 0]⟩) (by rw [List.length_map, len_cps]; omega) (fun i v Z hv hZ => ?_) (fun i v Z hv _ hZ => ?_) ?_
  · obtain ⟨hi, rfl⟩ := sg_at hv
    have e := in_digs ⟨x.cps.toList.getD i 0, sg_lt hx hi⟩
    unfold digs at e
    rw [← e] at hZ; exact hZ
  · obtain ⟨hi, rfl⟩ := sg_at hv
    exact hZ
  have hlen : (x.cps.toList.map fun c => AV.im (.str ⟨#[c]⟩)).length = x.cps.toList.length := List.length_map _
  rw [hlen]
  have hgood : allD x.cps.toList = true → ((List.range x.cps.toList.length).filter fun i => !(decide (48 ≤ x.cps.toList.getD i 0) && decide (x.cps.toList.getD i 0 ≤ 57))) = [] := fun hd => by
    rw [List.filter_eq_nil_iff]
    intro i hi
    have hi := List.mem_range.mp hi
    have := allD_iff.mp hd (x.cps.toList.getD i 0) (sg_mem hi)
    rw [decide_eq_true this.1, decide_eq_true this.2]; decide
  have hbadD : allD x.cps.toList = false → ((List.range x.cps.toList.length).filter fun i => !(decide (48 ≤ x.cps.toList.getD i 0) && decide (x.cps.toList.getD i 0 ≤ 57))) ≠ [] := fun hd e => by
    rw [List.filter_eq_nil_iff] at e
    have : allD x.cps.toList = true := by
      unfold allD
      rw [List.all_eq_true]
      intro c hc
      obtain ⟨i, hi, rfl⟩ := List.getElem_of_mem hc
      have := e i (List.mem_range.mpr hi)
      rw [getD_of (List.getElem?_eq_getElem hi)] at this
      simpa using this
    rw [this] at hd; cases hd
  generalize ((List.range x.cps.toList.length).filter fun i => !(decide (48 ≤ x.cps.toList.getD i 0) && decide (x.cps.toList.getD i 0 ≤ 57))) = L at hgood hbadD
  refine ⟨by show 0 ≤ sizeLine; decide, by show min _ 1 ≤ 60; omega, fun z => ⟨fun _ => bad ?_, fun z => by cases z⟩, fun z => ?_⟩
  · have z1 : (!eqq (.list (L.map fun i => .str ⟨#[x.cps.toList.getD i 0]⟩)) (.list [])) = true := z
    cases hd : allD x.cps.toList with
    | false => unfold fig figL; rw [hd]; simp
    | true => rw [hgood hd, eqq_eq] at z1; simp [PyData.eqv, PyData.eqvAll] at z1
  have hd : allD x.cps.toList = true := by
    have z1 : (!eqq (.list (L.map fun i => .str ⟨#[x.cps.toList.getD i 0]⟩)) (.list [])) = false := z
    cases hd : allD x.cps.toList with
    | true => rfl
    | false =>
      cases L with
      | nil => exact absurd rfl (hbadD hd)
      | cons a l => rw [eqq_eq] at z1; simp [PyData.eqv, PyData.eqvAll] at z1
  have hgo : fig x = true → Go (mRet (mCB itxF (mCons (mVar 0) mNil))) { nx := fun _ O' => Pq (.im .none) O', rt := Pq } (startS NFg [.im (.str x)]) O := fun hf => by
    rw [hf] at h
    exact ⟨_, int_fig hd hne lx, lx, h⟩
  cases hxl : x.cps.toList with
  | nil => exact absurd hxl hne
  | cons c r =>
    have hfig : fig x = ((c :: r).head? != some 48 || (c :: r) == [48]) := by unfold fig figL; rw [hd, hxl]; rfl
    have h48 : ((⟨#[c]⟩ : Str) == Str.ofString "0") = decide (c = 48) := by
      by_cases hc : c = 48
      · rw [decide_eq_true hc]; exact str_eq.mpr (by rw [zero_l, hc])
      · rw [decide_eq_false hc]; exact str_eqF (by rw [zero_l]; simpa using hc)
    refine ⟨hx, hsz, c, by rw [hxl]; exact atI_nat (j := 0) rfl, by show min 0 0 ≤ 60; decide, fun z => ⟨by show min 0 0 ≤ 60; decide, fun z2 => bad ?_, fun z2 => hgo ?_⟩, fun z => ⟨fun z => (by cases z), fun _ => hgo ?_⟩⟩
    · have z1 : eqq (.str ⟨#[c]⟩) (.str (Str.ofString "0")) = true := z
      rw [eqq_s, h48] at z1
      have z3 : (!eqq (.str x) (.str (Str.ofString "0"))) = true := z2
      rw [eqq_s] at z3
      rw [hfig]
      have hc := of_decide_eq_true z1
      subst hc
      cases r with
      | nil => rw [str_eq.mpr (by rw [hxl, zero_l])] at z3; cases z3
      | cons d r => simp
    · have z3 : (!eqq (.str x) (.str (Str.ofString "0"))) = false := z2
      rw [eqq_s] at z3
      have z4 := str_eq.mp (by simpa using z3)
      rw [hxl, zero_l] at z4
      rw [hfig, z4]; rfl
    · have z1 : eqq (.str ⟨#[c]⟩) (.str (Str.ofString "0")) = false := z
      rw [eqq_s, h48] at z1
      have hc := of_decide_eq_false z1
      rw [hfig]; simp [hc]
def fDuT : FM := fun O xs P _ => ∃ x : Str, xs = [.im (.str x)] ∧ AsB x = true ∧ x.length ≤ 640 ∧ P (.im (duD (rdF x))) O
abbrev NDt : List Str := ["text", "parts", "numbers"]
def mDuT : MS := (mSeq (mAsg (mSpl (mVar 0) (mCons (mC (.str "/")) mNil)) (mgN 1))
 (mSeq (mAsg (mComp 1 [] (miSeq (mVar 1)) (mgN 0) mYes (mCall fFig noX (mCons (mVar 0) mNil))) (mgN 2))
 (mSeq (mIfS (mOrT (mTst (mOp gtF (mCB lenF (mCons (mVar 1) mNil)) (mC (.int 2)))) (mTst (mOp nInF (mC .none) (mVar 2)))) (mRet (mC .none)) mNext)
 (mSeq (mIfS (mTst (mOp (eqF false) (mCB lenF (mCons (mVar 1) mNil)) (mC (.int 1)))) (mRet (mTup (mCons (mOp ixF (mVar 2) (mC (.int 0))) (mCons (mC (.int 1)) mNil)))) mNext)
 (mSeq (mIfS (mOrT (mTst (mOp ltF (mOp ixF (mVar 2) (mC (.int 1))) (mC (.int 2)))) (mTst (mOp (eqF true) (mCall fLf noX (mCons (mOp ixF (mVar 2) (mC (.int 0))) (mCons (mOp ixF (mVar 2) (mC (.int 1))) mNil))) (mTup (mCons (mOp ixF (mVar 2) (mC (.int 0))) (mCons (mOp ixF (mVar 2) (mC (.int 1))) mNil)))))) (mRet (mC .none)) mNext)
 (mRet (mTup (mCons (mOp ixF (mVar 2) (mC (.int 0))) (mCons (mOp ixF (mVar 2) (mC (.int 1))) mNil)))))))))
def fgD (p : Str) : PyData := if fig p = true then .int (dv p) else .none
theorem fgD_nin (ps : List Str) : (ps.map fgD).all ninL = true := by
  rw [List.all_eq_true]
  intro d hd
  obtain ⟨p, _, rfl⟩ := List.mem_map.mp hd
  unfold fgD
  split <;> rfl
theorem fgD_any (ps : List Str) : (ps.map fgD).any isNoneD = !ps.all fig := by
  induction ps with
  | nil => rfl
  | cons p ps ih =>
    rw [List.map_cons, List.any_cons, List.all_cons, ih]
    cases hf : fig p with
    | true => have : fgD p = .int (dv p) := if_pos hf
              rw [this]; rfl
    | false => have : fgD p = .none := if_neg (by rw [hf]; decide)
               rw [this]; rfl
theorem divInt_eq {a b : Int} (hb : 0 < b) : (PyData.eqv (qD (Rat.divInt a b)) (.tuple [.int a, .int b])) = decide (Int.gcd a b = 1) := by
  have e : PyData.eqv (qD (Rat.divInt a b)) (.tuple [.int a, .int b]) = (decide ((Rat.divInt a b).num = a) && decide (((Rat.divInt a b).den : Int) = b)) := by
    unfold qD
    simp [PyData.eqv, PyData.eqvAll]
    rfl
  rw [e]
  by_cases hg : Int.gcd a b = 1
  · obtain ⟨q, e1, e2⟩ := rat_of (t := a) (u := b) hb hg
    have : Rat.divInt a b = q := by rw [← e1, ← e2, Rat.num_divInt_den]
    rw [this, e1, e2, decide_eq_true hg]; simp
  · rw [decide_eq_false hg]
    rw [Bool.and_eq_false_iff]
    by_cases h1 : (Rat.divInt a b).num = a
    · right
      refine decide_eq_false fun h2 => hg ?_
      have := rat_gcd (Rat.divInt a b)
      rw [h1, h2] at this; exact this
    · left; exact decide_eq_false h1
theorem rd_dut : ∀ O xs Pq QX, fDuT O xs Pq QX → mDuT { nx := fun _ O' => Pq (.im .none) O', rt := Pq } (startS NDt xs) O := by
  intro O xs Pq QX h
  obtain ⟨x, rfl, hx, lx, h⟩ := h
  have hn := PyProof.Rows.split_pos x slash
  have hle := PyProof.Rows.split_le x slash
  have hsp : ∀ p ∈ Txt.split x slash, AsB p = true ∧ p.length ≤ 640 := fun p hp => ⟨split_as hx hp, Nat.le_trans (PyProof.Rows.part_short hp) lx⟩
  unfold rdF at h
  rw [← sl_eq] at hn hle hsp h
  refine ⟨hx, by decide, by rw [sz]; omega, ⟨?_⟩⟩
  generalize Txt.split x (Str.ofString "/") = ps at *
  refine comp_map (fun i => fgD (ps.getD i Str.empty)) (by simp; omega) (fun i v Z hv hZ => ?_) ?_
  · obtain ⟨hi, hm, rfl⟩ := str_at hv
    exact ⟨_, rfl, (hsp _ hm).1, (hsp _ hm).2, hZ⟩
  have hl : ((ps.map PyData.str).map AV.im).length = ps.length := by simp
  rw [hl, map_ps ps fgD]
  have hnone : ps.all fig = false → Pq (.im .none) O := fun z => by rw [z] at h; exact h
  have hany := fgD_any ps
  match ps, hn with
  | [p], _ =>
    refine ⟨⟨fun z => (by cases z), fun _ => ⟨fgD_nin _, fun z => hnone ?_, fun z => ⟨⟨by show min 0 0 ≤ 60; decide, fun _ => ⟨_, rfl, by show 2 ≤ sizeLine; decide, ?_⟩, fun z => (by cases z)⟩⟩⟩⟩⟩
    · rw [hany] at z; simpa using z
    · rw [hany] at z
      have hf : [p].all fig = true := by simpa using z
      have hp : fig p = true := by simpa using hf
      rw [hf, if_pos rfl] at h
      have : fgD p = .int (dv p) := if_pos hp
      rw [this]; exact h
  | [p, q], _ =>
    refine ⟨⟨fun z => (by cases z), fun _ => ⟨fgD_nin _, fun z => hnone ?_, fun z => ⟨⟨by show min 0 0 ≤ 60; decide, fun z => (by cases z), fun _ => ⟨?_⟩⟩⟩⟩⟩⟩
    · rw [hany] at z; exact (Bool.not_eq_true' _).mp z
    · rw [hany] at z
      have hf : [p, q].all fig = true := by simpa using z
      have hpq : fig p = true ∧ fig q = true := by simpa using hf
      rw [hf, if_pos rfl] at h
      replace h : Pq (.im (duD (if 2 ≤ dv q ∧ Int.gcd (dv p) (dv q) = 1 then some (dv p, dv q) else none))) O := h
      have e1 : fgD p = .int (dv p) := if_pos hpq.1
      have e2 : fgD q = .int (dv q) := if_pos hpq.2
      have hb := bd_dv hpq.2 (by have := (hsp q (by simp)).2; omega)
      show mIfS _ _ _ _ [some (.im (.str x)), some (.im (.list [.str p, .str q])), some (.im (.list [fgD p, fgD q]))] O
      rw [e1, e2]
      refine ⟨_, rfl, fun z => ⟨fun _ => ?_, fun z => by cases z⟩, fun z => ?_⟩
      · have z1 := of_decide_eq_true z
        rw [if_neg (by omega)] at h; exact h
      have z1 := of_decide_eq_false z
      refine ⟨_, rfl, _, rfl, ⟨by omega, hb.mono (by decide)⟩, _, rfl, _, rfl, by show 2 ≤ sizeLine; decide, by simp [qD, PyData.depth, PyData.depthAll], fun z2 => ?_, fun z2 => ⟨_, rfl, _, rfl, by show 2 ≤ sizeLine; decide, ?_⟩⟩
      · have z3 : (!eqq (qD (Rat.divInt (dv p) (dv q))) (.tuple [.int (dv p), .int (dv q)])) = true := z2
        rw [eqq_eq, divInt_eq (by omega)] at z3
        rw [if_neg (fun hh => by rw [decide_eq_true hh.2] at z3; cases z3)] at h; exact h
      · have z3 : (!eqq (qD (Rat.divInt (dv p) (dv q))) (.tuple [.int (dv p), .int (dv q)])) = false := z2
        rw [eqq_eq, divInt_eq (by omega)] at z3
        rw [if_pos ⟨by omega, by simpa using z3⟩] at h; exact h
  | p :: q :: r :: l, _ =>
    refine ⟨⟨fun z => ⟨fun _ => ?_, fun z => by cases z⟩, fun z => ?_⟩⟩
    · have : (if (p :: q :: r :: l).all fig = true then (match p :: q :: r :: l with
        | [p] => some (dv p, 1)
        | [p, q] => if 2 ≤ dv q ∧ Int.gcd (dv p) (dv q) = 1 then some (dv p, dv q) else none
        | _ => none) else none) = none := by split <;> rfl
      rw [this] at h; exact h
    · have z1 := of_decide_eq_false z
      simp at z1
      omega
def fRd : FM := fun O xs P _ => ∃ d, xs = [.im d] ∧ rdP d ∧ P (.im (.list [.str (kdS (rdD d)), duD (rdD d)])) O
abbrev NRd : List Str := ["text", "kind", "told", "e"]
def mRd (Tx : Addr) (nm : Addr → Str → Prop) : MS := (mSeq (mAsg (mC (.str "")) (mgN 1))
 (mSeq (mAsg (mC .none) (mgN 2))
 (mSeq (mTryC (fRf Tx) 2 3 1 nm (mCons (mVar 0) mNil))
 (mRet (mLst (mCons (mVar 1) (mCons (mVar 2) mNil)))))))
theorem rd_rd (Tx : Addr) (nm : Addr → Str → Prop) (hnm : nm Tx "NoText+") : ∀ O xs Pq QX, fRd O xs Pq QX → mRd Tx nm { nx := fun _ O' => Pq (.im .none) O', rt := Pq } (startS NRd xs) O := by
  intro O xs Pq QX h
  obtain ⟨d, rfl, hp, h⟩ := h
  refine ⟨⟨⟨d, rfl, hp, fun r hr => ⟨len2, ?_⟩, fun hr => ⟨"NoText+", hnm, ⟨len2, ?_⟩⟩⟩⟩⟩
  · rw [hr] at h; exact h
  · rw [hr] at h; exact h
def fSpo : FM := fun O xs P _ => ∃ (j : Nat) (x : Str), xs = [.bag j, .im (.str x)] ∧ AsB x = true ∧ x.length ≤ 1000 ∧ ∀ z : Str, AsB z = true → z.length ≤ 3 * x.length + 1 → P (.im (.str z)) O
abbrev NSt : List Str := ["bag", "text", "signs"]
def mSpo : MS := (mSeq (mAsg (mC (.str " !\"#$&'()*+,-./0123456789:;<=>?@ABCDEFGHIJKLMNOPQRSTUVWXYZ[\\]^_`")) (mgN 2))
 (mSeq (mAsg (mOp catF (mVar 2) (mC (.str "abcdefghijklmnopqrstuvwxyz{|}~\n"))) (mgN 2))
 (mRet (mCall fMov noX (mCons (mVar 0) (mCons (mVar 1) (mCons (mOp ixF (mLst (mCons (mOp ixsF (mVar 2) (mCall fTakeB noX (mCons (mVar 0) (mCons (mCB lnsF (mCons (mVar 2) mNil)) mNil)))) (mCons (mC (.str "/")) (mCons (mC (.str "0")) (mCons (mC (.str "1")) mNil))))) (mCall fTakeB noX (mCons (mVar 0) (mCons (mC (.int 4)) mNil)))) mNil)))))))
def sg1 : Str := " !\"#$&'()*+,-./0123456789:;<=>?@ABCDEFGHIJKLMNOPQRSTUVWXYZ[\\]^_`"
def sg2 : Str := "abcdefghijklmnopqrstuvwxyz{|}~\n"
theorem sg1_as : AsB sg1 = true := by decide +kernel
theorem sg2_as : AsB sg2 = true := by decide +kernel
theorem sg_len : sg1.length = 64 ∧ sg2.length = 31 := by decide +kernel
theorem rd_spo : ∀ O xs Pq QX, fSpo O xs Pq QX → mSpo { nx := fun _ O' => Pq (.im .none) O', rt := Pq } (startS NSt xs) O := by
  intro O xs Pq QX h
  obtain ⟨j, x, rfl, hx, lx, h⟩ := h
  have hs : AsB (sg1 ++ sg2) = true := as_app sg1_as sg2_as
  have hl : (sg1 ++ sg2).length = 95 := by rw [len_app, sg_len.1, sg_len.2]
  refine ⟨⟨⟨sg1_as, sg2_as, by show sg1.length + sg2.length ≤ sizeLine; rw [sg_len.1, sg_len.2]; decide⟩, ⟨?_⟩⟩⟩
  show mCall fMov noX (mCons (mVar 0) (mCons (mVar 1) (mCons (mOp ixF (mLst (mCons (mOp ixsF (mVar 2) (mCall fTakeB noX (mCons (mVar 0) (mCons (mCB lnsF (mCons (mVar 2) mNil)) mNil)))) (mCons (mC (.str "/")) (mCons (mC (.str "0")) (mCons (mC (.str "1")) mNil))))) (mCall fTakeB noX (mCons (mVar 0) (mCons (mC (.int 4)) mNil)))) mNil))) [some (.bag j), some (.im (.str x)), some (.im (.str (sg1 ++ sg2)))] O Pq
  generalize sg1 ++ sg2 = sg at hs hl
  refine ⟨by rw [hl]; decide, ⟨by rw [hl]; decide, by rw [hl]; exact bd_lit (by decide)⟩, fun r a b => ?_⟩
  obtain ⟨c, hc, hc'⟩ := atI_ex (xs := sg.cps.toList) (r := r) (Pr := fun c => c < 128) a (by rw [len_cps]; exact b) (as_iff.mp hs)
  refine ⟨hs, by rw [hl]; decide, c, hc, (show 4 ≤ sizeLine by decide), ⟨by decide, bd_lit (by decide)⟩, fun r2 a2 b2 => ?_⟩
  obtain ⟨d, hd, y, rfl, hy, ly⟩ := atI_ex (xs := [PyData.str ⟨#[c]⟩, .str "/", .str "0", .str "1"]) (r := r2) (Pr := fun d => ∃ y : Str, d = .str y ∧ AsB y = true ∧ y.length ≤ 1) a2 b2 (by
    intro d hd
    simp only [List.mem_cons, List.not_mem_nil, or_false] at hd
    rcases hd with rfl | rfl | rfl | rfl
    · exact ⟨_, rfl, as_one hc', by show 1 ≤ 1; decide⟩
    · exact ⟨_, rfl, by decide +kernel, by decide +kernel⟩
    · exact ⟨_, rfl, by decide +kernel, by decide +kernel⟩
    · exact ⟨_, rfl, by decide +kernel, by decide +kernel⟩)
  exact ⟨_, hd, j, x, y, rfl, hx, hy, lx, ly, h⟩
theorem frac_ab {t u : Int} (h0 : 0 ≤ t) (ht : t.natAbs < 2 ^ 100) (hu : 0 < u) (hu' : u.natAbs < 2 ^ 100) : ∃ a b : Nat, qD (Rat.divInt t u) = .tuple [.int a, .int b] ∧ a < 10 ^ 31 ∧ b < 10 ^ 31 ∧ 1 ≤ b ∧ Int.gcd a b = 1 := by
  have hr : Rb 100 (Rat.divInt t u) := rb_div (by omega) ht hu'
  have hd := den_pos (Rat.divInt t u)
  have h1 : t * ((Rat.divInt t u).den : Int) = (Rat.divInt t u).num * u := by rw [← Rat.divInt_eq_divInt_iff (by omega) (by omega), Rat.num_divInt_den]
  have hn : 0 ≤ (Rat.divInt t u).num := by
    rcases Int.lt_or_le (Rat.divInt t u).num 0 with z | z
    · have := Int.mul_neg_of_neg_of_pos z hu
      have := Int.mul_nonneg h0 (show 0 ≤ ((Rat.divInt t u).den : Int) by omega)
      omega
    · exact z
  have hg := rat_gcd (Rat.divInt t u)
  have hk : (2 : Nat) ^ 100 ≤ 10 ^ 31 := by decide +kernel
  refine ⟨(Rat.divInt t u).num.toNat, (Rat.divInt t u).den, ?_, ?_, ?_, by omega, ?_⟩
  · unfold qD; rw [Int.toNat_of_nonneg hn]
  · have := hr.1
    unfold Bd at this
    have e : (Rat.divInt t u).num.toNat = (Rat.divInt t u).num.natAbs := by omega
    rw [e]; exact Nat.lt_of_lt_of_le this hk
  · have := hr.2
    unfold Bd at this
    exact Nat.lt_of_lt_of_le this hk
  · rw [Int.toNat_of_nonneg hn]; exact hg
theorem txt_eq (a b : Nat) : numS a ++ (if (!decide ((b : Int) = 1)) = true then Str.ofString "/" ++ numS b else Str.empty) = ftS a b := by
  unfold ftS
  rw [sl_eq]
  by_cases hb : b = 1
  · rw [if_pos hb, hb]
    apply PyProof.Rows.ext_toList
    rw [PySem.W.KT.app_list]
    show _ ++ [] = _
    rw [List.append_nil]
  · rw [if_neg hb, decide_eq_false (show ¬ (b : Int) = 1 by omega)]
    apply PyProof.Rows.ext_toList
    show (numS a ++ (slash ++ numS b)).cps.toList = _
    rw [PySem.W.KT.app_list, PySem.W.KT.app_list, PySem.W.KT.app_list, PySem.W.KT.app_list, List.append_assoc]
theorem ft_as (a b : Nat) : AsB (ftS a b) = true := by
  unfold ftS
  split
  · exact num_as a
  · exact as_app (as_app (num_as a) (by decide +kernel)) (num_as b)
theorem ft_len {a b : Nat} (ha : a < 10 ^ 31) (hb : b < 10 ^ 31) : (ftS a b).length ≤ 63 := by
  have la := num31 ha
  have lb := num31 hb
  have l1 : slash.length = 1 := by decide +kernel
  unfold ftS
  split
  · omega
  · rw [len_app, len_app, l1]; omega
theorem ft_rd {a b : Nat} (hb : 1 ≤ b) (hg : Int.gcd a b = 1) : rdF (ftS a b) = some ((a : Int), (b : Int)) := by
  unfold ftS
  by_cases h1 : b = 1
  · rw [if_pos h1]
    unfold rdF
    rw [split_one (num_free a)]
    have : [numS a].all fig = true := by rw [List.all_cons, num_fig]; rfl
    rw [if_pos this, h1]
    show some (dv (numS a), (1 : Int)) = _
    rw [num_dv]; rfl
  · rw [if_neg h1]
    unfold rdF
    rw [split_two (num_free a) (num_free b)]
    have : [numS a, numS b].all fig = true := by rw [List.all_cons, List.all_cons, num_fig, num_fig]; rfl
    rw [if_pos this]
    show (if 2 ≤ dv (numS b) ∧ Int.gcd (dv (numS a)) (dv (numS b)) = 1 then some (dv (numS a), dv (numS b)) else none) = _
    rw [num_dv, num_dv, if_pos ⟨by omega, hg⟩]
theorem no_txt : rdF "" = none ∧ rdF "1/1" = none ∧ rdF "0/5" = none ∧ rdF "2/4" = none ∧ rdF "-1" = none ∧ rdF "1/0" = none ∧ rdF "01" = none := by decide +kernel
theorem rdP_s {x : Str} (h : AsB x = true) (hl : x.length ≤ 1000) : rdP (.str x) := fun y e => by injection e with e; rw [← e]; exact ⟨h, hl⟩
theorem eq_rd (s : Str) (m : PyData) (h : noL m = true) : eqq (.list [.str s, m]) (.list [.str s, m]) = true := by rw [eqq_eq, PyData.eqv, PyData.eqvAll, PyData.eqvAll, PyData.eqvAll, eqv_self m h]; simp [PyData.eqv]
abbrev NL32 : List Str := ["script", "k", "bag", "one", "text", "turn", "due", "thing"]
def mLaw32 : MS := (mSeq (mFor (miR1 (mCons (mOp addF (mCB (int2C fun i j => if j < i then j else i) (mCons (mCB lenSF (mCons (mVar 0) mNil)) (mCons (mC (.int 63)) mNil))) (mC (.int 2))) mNil)) (mgN 1) (mSeq (mAsg (mCall fBag noX (mCons (mVar 0) (mCons (mVar 1) mNil))) (mgN 2))
 (mSeq (mAsg (mCall fLf noX (mCons (mCB (int1C fun i => if i < 0 then -i else i) (mCons (mCall fWn noX (mCons (mVar 2) mNil)) mNil)) (mCons (mOp ixF (mLst (mCons (mOp addF (mCB (int1C fun i => if i < 0 then -i else i) (mCons (mCall fWn noX (mCons (mVar 2) mNil)) mNil)) (mC (.int 1))) (mCons (mC (.int 1)) mNil))) (mCB intF (mCons (mOp (eqF false) (mCall fTakeB noX (mCons (mVar 2) (mCons (mC (.int 4)) mNil))) (mC (.int 0))) mNil))) mNil))) (mgN 3))
 (mSeq (mAsg (mOp catF (mCB strF (mCons (mOp ixF (mVar 3) (mC (.int 0))) mNil)) (mOp rpsF (mOp catF (mC (.str "/")) (mCB strF (mCons (mOp ixF (mVar 3) (mC (.int 1))) mNil))) (mCB intF (mCons (mOp (eqF true) (mOp ixF (mVar 3) (mC (.int 1))) (mC (.int 1))) mNil)))) (mgN 4))
 (mSeq (mIfS (mOrT (mTst (mOp (eqF true) (mCall fFt noX (mCons (mVar 3) mNil)) (mVar 4))) (mTst (mOp (eqF true) (mCall fRd noX (mCons (mVar 4) mNil)) (mLst (mCons (mC (.str "")) (mCons (mVar 3) mNil)))))) (mRet (mC (.bool false))) mNext)
 (mSeq (mFor (miR1 (mCons (mC (.int 2)) mNil)) (mgN 5) (mSeq (mAsg (mCall fSpo noX (mCons (mVar 2) (mCons (mVar 4) mNil))) (mgN 4))
 (mSeq (mAsg (mCall fDuT noX (mCons (mVar 4) mNil)) (mgN 6))
 (mIfS (mTst (mOp (eqF true) (mCall fRd noX (mCons (mVar 4) mNil)) (mOp ixF (mLst (mCons (mLst (mCons (mC (.str "")) (mCons (mVar 6) mNil))) (mCons (mLst (mCons (mC (.str "NoText+")) (mCons (mC .none) mNil))) mNil))) (mCB intF (mCons (mOp (isNoneF false) (mVar 6) (mC .none)) mNil))))) (mRet (mC (.bool false))) mNext))))
 (mFor (miSeq (mLst (mCons (mC .none) (mCons (mC (.int 5)) (mCons (mVar 3) (mCons (mC (.str "")) (mCons (mLst (mCons (mC (.str "1")) mNil)) (mCons (mC (.str "1/1")) (mCons (mC (.str "0/5")) (mCons (mC (.str "2/4")) (mCons (mC (.str "-1")) (mCons (mC (.str "1/0")) (mCons (mC (.str "01")) mNil))))))))))))) (mgN 7) (mIfS (mTst (mOp (eqF true) (mCall fRd noX (mCons (mVar 7) mNil)) (mLst (mCons (mC (.str "NoText+")) (mCons (mC .none) mNil))))) (mRet (mC (.bool false))) mNext))))))))
 (mRet (mC (.bool true))))
def lbT : Nat → Nat
  | 0 => 63
  | 1 => 190
  | _ => 571
theorem rd_law32 : ∀ O xs Pq QX, fLaw O xs Pq QX → mLaw32 { nx := fun _ O' => Pq (.im .none) O', rt := Pq } (startS NL32 xs) O := by
  intro O xs Pq QX h
  obtain ⟨ns, rfl, hns, h⟩ := h
  have hlen : (if (63 : Int) < (ns.length : Int) then (63 : Int) else (ns.length : Int)) + 2 ≤ 65 := by split <;> omega
  have hlen0 : 0 ≤ (if (63 : Int) < (ns.length : Int) then (63 : Int) else (ns.length : Int)) + 2 := by split <;> omega
  refine ⟨⟨by dsimp only; omega, by dsimp only; omega⟩, fun i sl O' => ∃ y1 y2 y3 y4 y5 y6 y7, sl = [some (.scr ns), y1, y2, y3, y4, y5, y6, y7], ⟨_, _, _, _, _, _, _, rfl⟩, ?_, ?_⟩
  rotate_left
  · rintro sl O' _
    exact ⟨h O'⟩
  rintro i x sl O' hx ⟨y1, y2, y3, y4, y5, y6, y7, rfl⟩
  obtain ⟨hi, rfl⟩ := rng_at0 hx
  have hi65 : i < 65 := by dsimp only at hi; omega
  refine ⟨⟨by omega, by omega⟩, fun bj => ⟨⟨bj, rfl, fun n hn => ⟨bj, rfl, fun m hm => ⟨len2, ⟨by decide, bd_lit (by decide)⟩, fun r a b => ⟨dI, ?_⟩⟩⟩⟩⟩⟩
  have h30 : (10 : Nat) ^ 30 < 2 ^ 100 := by decide +kernel
  obtain ⟨u, hu, hu0, hub⟩ : ∃ u : Int, atI [PyData.int ((if m < 0 then -m else m) + 1), .int 1] (if (if false = true then !eqq (.int r) (.int 0) else eqq (.int r) (.int 0)) = true then 1 else 0) = some (.int u) ∧ 0 < u ∧ u.natAbs < 2 ^ 100 := by
    cases hc : (if false = true then !eqq (.int r) (.int 0) else eqq (.int r) (.int 0)) with
    | true => exact ⟨1, rfl, by decide, by decide⟩
    | false =>
      refine ⟨(if m < 0 then -m else m) + 1, rfl, ?_, ?_⟩
      · split <;> omega
      · split <;> omega
  refine ⟨_, hu, ⟨hu0, bd_lit (Nat.lt_of_lt_of_le hub (by decide +kernel))⟩, ?_⟩
  obtain ⟨a', b', hq, ha, hb, hb1, hg⟩ := frac_ab (t := if n < 0 then -n else n) (u := u) (by split <;> omega) (by split <;> omega) hu0 hub
  dsimp only
  rw [hq]
  have l1 : (Str.ofString "/").length = 1 := by decide +kernel
  have la := num31 ha
  have lb := num31 hb
  have as1 : AsB (Str.ofString "/") = true := by decide +kernel
  have hfl := ft_len ha hb
  have htx := txt_eq a' b'
  refine ⟨⟨.int a', rfl, Int.natCast_nonneg _, log_small ha, .int b', rfl, Int.natCast_nonneg _, log_small hb, ⟨as1, num_as b', by show (Str.ofString "/").length + (numS b').length ≤ sizeLine; rw [l1, sz]; omega⟩, .int b', rfl, dI, as_app as1 (num_as b'), _, rfl, ⟨num_as a', ?_, ?_⟩, ?_⟩⟩
  · show AsB (if (!decide ((b' : Int) = 1)) = true then Str.ofString "/" ++ numS b' else Str.empty) = true
    split
    · exact as_app as1 (num_as b')
    · exact as_empty
  · show (numS a').length + (if (!decide ((b' : Int) = 1)) = true then Str.ofString "/" ++ numS b' else Str.empty).length ≤ sizeLine
    rw [sz]
    split
    · rw [len_app, l1]
      have : (numS (b' : Int)).length ≤ 31 := lb
      omega
    · show _ + 0 ≤ _
      omega
  show Go _ _ [some (.scr ns), some (.im (.int i)), some (.bag bj), some (.im (.tuple [.int a', .int b'])), some (.im (.str (numS a' ++ (if (!decide ((b' : Int) = 1)) = true then Str.ofString "/" ++ numS b' else Str.empty)))), y5, y6, y7] O'
  rw [htx]
  have hrd : rdD (.str (ftS a' b')) = some ((a' : Int), (b' : Int)) := ft_rd hb1 hg
  have hS := ft_as a' b'
  have hrp : rdP (.str (ftS a' b')) := rdP_s hS (by omega)
  refine ⟨⟨a', b', rfl, ha, hb, by show min 0 0 ≤ 60; decide, fun z => ?_, fun _ => ⟨.str (ftS a' b'), rfl, hrp, len2, ?_, fun z => ?_, fun _ => ?_⟩⟩⟩
  · have z1 : (!eqq (.str (ftS a' b')) (.str (ftS a' b'))) = true := z
    rw [eqq_s] at z1
    simp at z1
  · refine Nat.le_trans (Nat.min_le_right _ _) ?_
    simp [PyData.depth, PyData.depthAll]
  · have z1 : (!eqq (.list [.str (kdS (rdD (.str (ftS a' b')))), duD (rdD (.str (ftS a' b')))]) (.list [.str (Str.ofString ""), .tuple [.int a', .int b']])) = true := z
    rw [hrd] at z1
    have e := eq_rd (Str.ofString "") (duD (some ((a' : Int), (b' : Int)))) rfl
    have z2 : (!eqq (.list [.str (Str.ofString ""), duD (some ((a' : Int), (b' : Int)))]) (.list [.str (Str.ofString ""), duD (some ((a' : Int), (b' : Int)))])) = true := z1
    rw [e] at z2; cases z2
  generalize ftS a' b' = tx at hS hfl
  clear hrd hrp htx
  refine ⟨⟨⟨by decide, by decide⟩, fun j sl O2 => ∃ (x : Str) (z5 z6 : Option AV), sl = [some (.scr ns), some (.im (.int i)), some (.bag bj), some (.im (.tuple [.int a', .int b'])), some (.im (.str x)), z5, z6, y7] ∧ AsB x = true ∧ x.length ≤ lbT j ∧ O2 = O', ⟨tx, _, _, rfl, hS, hfl, rfl⟩, ?_, ?_⟩⟩
  · rintro j v sl O2 hv ⟨x, z5, z6, rfl, hx, lx, rfl⟩
    obtain ⟨hj, rfl⟩ := rng_at0 hv
    have hj2 : j < 2 := hj
    have hl1 : x.length ≤ 1000 := by
      rcases j with _ | _ | j <;> simp [lbT] at lx <;> omega
    have hl2 : 3 * x.length + 1 ≤ lbT (j + 1) ∧ lbT (j + 1) ≤ 640 := by
      rcases j with _ | _ | j
      · simp [lbT] at lx ⊢; omega
      · simp [lbT] at lx ⊢; omega
      · omega
    refine ⟨⟨bj, x, rfl, hx, hl1, fun z hz lz => ⟨⟨z, rfl, hz, by omega, ⟨?_⟩⟩⟩⟩⟩
    refine ⟨.str z, rfl, rdP_s hz (by omega), len2, len2, len2, ?_⟩
    have hdr : rdD (.str z) = rdF z := rfl
    cases hr : rdF z with
    | some p =>
      obtain ⟨p1, p2⟩ := p
      refine ⟨.list [.str (Str.ofString ""), duD (some (p1, p2))], rfl, ?_, fun z1 => ?_, fun _ => ⟨z, _, _, rfl, hz, by omega, rfl⟩⟩
      · refine Nat.le_trans (Nat.min_le_right _ _) ?_
        simp [duD, PyData.depth, PyData.depthAll]
      · have z2 : (!eqq (.list [.str (kdS (rdD (.str z))), duD (rdD (.str z))]) (.list [.str (Str.ofString ""), duD (some (p1, p2))])) = true := z1
        rw [hdr, hr] at z2
        have e := eq_rd (Str.ofString "") (duD (some (p1, p2))) rfl
        have z3 : (!eqq (.list [.str (Str.ofString ""), duD (some (p1, p2))]) (.list [.str (Str.ofString ""), duD (some (p1, p2))])) = true := z2
        rw [e] at z3; cases z3
    | none =>
      refine ⟨.list [.str (Str.ofString "NoText+"), .none], rfl, ?_, fun z1 => ?_, fun _ => ⟨z, _, _, rfl, hz, by omega, rfl⟩⟩
      · refine Nat.le_trans (Nat.min_le_right _ _) ?_
        simp [PyData.depth, PyData.depthAll]
      · have z2 : (!eqq (.list [.str (kdS (rdD (.str z))), duD (rdD (.str z))]) (.list [.str (Str.ofString "NoText+"), .none])) = true := z1
        rw [hdr, hr] at z2
        have e := eq_rd (Str.ofString "NoText+") .none rfl
        have z3 : (!eqq (.list [.str (Str.ofString "NoText+"), .none]) (.list [.str (Str.ofString "NoText+"), .none])) = true := z2
        rw [e] at z3; cases z3
  · rintro sl O2 ⟨x, z5, z6, rfl, hx, lx, rfl⟩
    refine ⟨⟨len1, (show 11 ≤ sizeLine by decide), fun j sl O3 => ∃ y7', sl = [some (.scr ns), some (.im (.int i)), some (.bag bj), some (.im (.tuple [.int a', .int b'])), some (.im (.str x)), z5, z6, y7'] ∧ O3 = O2, ⟨_, rfl, rfl⟩, ?_, ?_⟩⟩
    · rintro j v sl O3 hv ⟨y7', rfl, rfl⟩
      have hm : v ∈ ([.none, .int 5, .tuple [.int a', .int b'], .str (Str.ofString ""), .list [.str (Str.ofString "1")], .str (Str.ofString "1/1"), .str (Str.ofString "0/5"), .str (Str.ofString "2/4"), .str (Str.ofString "-1"), .str (Str.ofString "1/0"), .str (Str.ofString "01")] : List PyData).map AV.im := List.mem_of_getElem? hv
      obtain ⟨d, hd, rfl⟩ := List.mem_map.mp hm
      have hdd : rdP d ∧ rdD d = none := by
        obtain ⟨n1, n2, n3, n4, n5, n6, n7⟩ := no_txt
        simp only [List.mem_cons, List.not_mem_nil, or_false] at hd
        rcases hd with rfl | rfl | rfl | rfl | rfl | rfl | rfl | rfl | rfl | rfl | rfl
        · exact ⟨fun _ e => (by cases e), rfl⟩
        · exact ⟨fun _ e => (by cases e), rfl⟩
        · exact ⟨fun _ e => (by cases e), rfl⟩
        · exact ⟨rdP_s (by decide +kernel) (by decide +kernel), n1⟩
        · exact ⟨fun _ e => (by cases e), rfl⟩
        · exact ⟨rdP_s (by decide +kernel) (by decide +kernel), n2⟩
        · exact ⟨rdP_s (by decide +kernel) (by decide +kernel), n3⟩
        · exact ⟨rdP_s (by decide +kernel) (by decide +kernel), n4⟩
        · exact ⟨rdP_s (by decide +kernel) (by decide +kernel), n5⟩
        · exact ⟨rdP_s (by decide +kernel) (by decide +kernel), n6⟩
        · exact ⟨rdP_s (by decide +kernel) (by decide +kernel), n7⟩
      refine ⟨⟨d, rfl, hdd.1, len2, ?_, fun z1 => ?_, fun _ => ⟨_, rfl, rfl⟩⟩⟩
      · refine Nat.le_trans (Nat.min_le_right _ _) ?_
        simp [PyData.depth, PyData.depthAll]
      · have z2 : (!eqq (.list [.str (kdS (rdD d)), duD (rdD d)]) (.list [.str (Str.ofString "NoText+"), .none])) = true := z1
        rw [hdd.2] at z2
        have e := eq_rd (Str.ofString "NoText+") .none rfl
        have z3 : (!eqq (.list [.str (Str.ofString "NoText+"), .none]) (.list [.str (Str.ofString "NoText+"), .none])) = true := z2
        rw [e] at z3; cases z3
    · rintro sl O3 ⟨y7', rfl, rfl⟩
      exact ⟨_, _, _, _, _, _, _, rfl⟩
end MI

set_option Elab.async false
set_option linter.all false
set_option maxRecDepth 100000
set_option maxHeartbeats 4000000
namespace K32
open PySem L2 KG EX KM MI TX
section
variable {P : Program} {w : World} {K : PySem.W.Frag} {mg : Str → Option Value} {base : Heap}
theorem ok_takeB {f : Addr} {fd : FuncData} (F : Fun K "_law_take" "_law_take" (top 25) f fd) : FnOk P w K mg base CX0 1 f fd ["bag", "many"] spTakeB := by
  refine F.ok scTake (fun vs H Q E h => ?_) (fun cdv A outer s H vs Q E hr h => ?_)
  · obtain ⟨b, m, rfl, _⟩ := h; rfl
  · obtain ⟨b, m, rfl, ⟨c, d, hb⟩, h0, h1, k⟩ := h
    refine ⟨_, pss_cons (ps_if (pt_cmpR op_gt (pe_ix ixL0 (pv 0) pe_int (fun _ _ => rfl)) pe_int (nomark _))
        (pss_cons (ps_set (i := 2) scTake.nd rfl (Or.inl rfl) (pe_op op_mod (pe_ix ixL0 (pv 0) pe_int (fun _ _ => rfl)) (pv 1)))
          (pss_cons (ps_asg (pe_op op_fdivB (pe_ix ixL0 (pv 0) pe_int (fun _ _ => rfl)) (pv 1)) (pg_sub (pv 0) pe_int set_list)) (pss_one (ps_ret (pv 2))))) pss_nil)
      (pss_cons (ps_asg (pe_op op_mod (pe_op op_mul (pe_ix ixL0 (pv 0) pe_int (fun _ _ => rfl)) pe_int) pe_int) (pg_sub (pv 0) pe_int set_list))
        (pss_one (ps_ret (pe_op op_mod (pe_op op_fdiv (pe_op op_mod (pe_op op_mul (pe_op op_fdiv (pe_ix ixL0 (pv 0) pe_int (fun _ _ => rfl)) pe_int) (pe_op op_add (pe_op op_mod (pe_ix ixL0 (pv 0) pe_int (fun _ _ => rfl)) pe_int) pe_int)) pe_int) pe_int) (pv 1))))), ?_⟩
    refine ⟨_, rfl, b, _, _, _, rfl, rfl, SqL.of hb, rfl, _, _, rfl, rfl, _, rfl, ?_⟩
    refine ite2 (fun hc => ?_) (fun hc => ?_)
    · refine ⟨_, rfl, b, _, _, _, rfl, rfl, SqL.of hb, rfl, _, rfl, _, _, rfl, rfl, h0, ?_⟩
      refine ⟨_, rfl, b, _, _, _, rfl, rfl, SqL.of hb, rfl, _, rfl, _, _, rfl, rfl, ⟨h0, h1⟩, ?_⟩
      refine ⟨_, rfl, b, _, _, 0, rfl, rfl, hb, rfl, ?_⟩
      refine ⟨_, rfl, k _ _ (Int.emod_nonneg _ (by omega)) (Int.emod_lt_of_pos _ h0) ⟨_, _, upd_same⟩ (Kp.refl b H).bag⟩
    · refine ⟨_, rfl, b, _, _, _, rfl, rfl, SqL.of hb, rfl, _, _, rfl, rfl, .inr ⟨by decide, by decide⟩, _, _, rfl, rfl, (by show (0 : Int) < 2147483647; decide), ?_⟩
      refine ⟨_, rfl, b, _, _, 1, rfl, rfl, hb, rfl, ?_⟩
      have hb2 : (upd H b (.lst [V.int c, V.int (d * 48271 % 2147483647)])) b = some (.lst [V.int c, V.int (d * 48271 % 2147483647)]) := upd_same
      refine ⟨_, rfl, b, _, _, _, rfl, rfl, SqL.of hb2, rfl, _, _, rfl, rfl, ⟨by decide, by decide⟩, ?_⟩
      refine ⟨_, rfl, b, _, _, _, rfl, rfl, SqL.of hb2, rfl, _, _, rfl, rfl, (by show (0 : Int) < 32749; decide), _, _, rfl, rfl, ?_⟩
      refine ⟨_, _, rfl, rfl, .inr ⟨?_, ?_⟩, ?_⟩
      · have := Int.emod_nonneg (d * 48271 % 2147483647) (show (32749 : Int) ≠ 0 by decide); omega
      · have := Int.emod_lt_of_pos (d * 48271 % 2147483647) (show (0 : Int) < 32749 by decide); omega
      refine ⟨_, _, rfl, rfl, (by show (0 : Int) < 2147483629; decide), _, _, rfl, rfl, ⟨by decide, by decide⟩, _, rfl, _, _, rfl, rfl, h0, ?_⟩
      exact k _ _ (Int.emod_nonneg _ (by omega)) (Int.emod_lt_of_pos _ h0) ⟨_, _, upd_same⟩ (Kp.refl b H).bag
theorem scFt : FnScope NFt ["number"] (defScope (top 18)) := ⟨rfl, rfl, rfl, by decide +kernel, rfl, by decide +kernel, by decide +kernel⟩
theorem ok_ft {f : Addr} {fd : FuncData} (F : Fun K "fraction_text" "fraction_text" (top 18) f fd) (N : Nm mg) : FnOk P w K mg base CX0 1 f fd ["number"] (spM K fFt) :=
  okM F scFt (fun O xs P PX h => by obtain ⟨_, _, rfl, _⟩ := h; rfl) (fun cdv A outer s H E QX hr => ⟨mFt, (ms_cons (ms_asg (me_var (pv 0)) (mg_tup rfl (mgs_cons (mg_name (pg_name (i := 1) scFt.nd rfl (Or.inl rfl))) (mgs_cons (mg_name (pg_name (i := 2) scFt.nd rfl (Or.inl rfl))) mgs_nil))))
 (ms_one (ms_ret (me_if (mt_cmp (or_eq hr.units) lk_eq (me_var (pv 2)) me_int (nomark _)) (me_fs1 (me_fv (me_var (pv 1)))) (me_fs3 (me_fv (me_var (pv 1))) me_str (me_fv (me_var (pv 2)))))))), fun O xs Pq h => rd_ft O xs Pq QX h⟩)
theorem scNt : FnScope NNt ["thing"] (defScope (top 19)) := ⟨rfl, rfl, rfl, by decide +kernel, rfl, by decide +kernel, by decide +kernel⟩
theorem ok_net {f Tx : Addr} {fd : FuncData} (F : Fun K "need_text" "need_text" (top 19) f fd) (N : Nm mg) (ZS : IsS K) (mStr : mg "str" = none) (mTx : mg "NoText" = some (.ref Tx)) (eTx : PySem.W.excIn K Tx [.type "ValueError", .type "Exception", .type "BaseException", .type "object"] "ValueError.__new__" = true) : FnOk P w K mg base (CXF P w) 1 f fd ["thing"] (spM K (fNeT Tx)) :=
  okMX F scNt (fun O xs P PX h => by obtain ⟨_, rfl, _⟩ := h; rfl) (fun cdv A outer s H E QX hr => ⟨mNeT QX Tx, (ms_one (ms_if (mt_not (mt_val (me_isistr ZS (me_var (pv 0)) rfl N.isinstance rfl mStr boot_str))) (ms_one (ms_raise PySem.F.excBase_ValueError rfl mTx eTx (ma_cons me_str ma_nil))) ms_nil)), fun O xs Pq h => rd_net Tx O xs Pq QX h⟩)
theorem scRn : FnScope NRn ["word"] (defScope (top 20)) := ⟨rfl, rfl, rfl, by decide +kernel, rfl, by decide +kernel, by decide +kernel⟩
theorem ok_rn {f Tx : Addr} {fd : FuncData} (F : Fun K "read_number" "read_number" (top 20) f fd) (N : Nm mg) (mTx : mg "NoText" = some (.ref Tx)) (eTx : PySem.W.excIn K Tx [.type "ValueError", .type "Exception", .type "BaseException", .type "object"] "ValueError.__new__" = true) : FnOk P w K mg base (CXF P w) 1 f fd ["word"] (spM K (fRn Tx)) :=
  okMX F scRn (fun O xs P PX h => by obtain ⟨_, rfl, _⟩ := h; rfl) (fun cdv A outer s H E QX hr => ⟨mRn QX Tx, (ms_cons (ms_if (PW.pt (mw_or (mt_not (mt_val (me_asc (me_var (pv 0))))) (mw_or (mt_not (mt_val (me_dig (me_var (pv 0))))) (mw_or1 (PW.pt (mw_and (mt_cmp (or_eq hr.units) lk_eq (mo_ixs (me_var (pv 0)) me_int) me_str (nomark _)) (mw_and1 (mt_cmp (or_ne hr.units) lk_ne (me_var (pv 0)) me_str (nomark _))))))))) (ms_one (ms_raise PySem.F.excBase_ValueError rfl mTx eTx (ma_cons me_str ma_nil))) ms_nil)
 (ms_cons (ms_set (i := 1) scRn.nd rfl (Or.inl rfl) me_int)
 (ms_cons (PS.nox1 (ms_for PassesOwn.never rfl (mi_str (me_var (pv 0))) (mg_name (pg_name (i := 2) scRn.nd rfl (Or.inl rfl))) (ms_one (ms_set (i := 1) scRn.nd rfl (Or.inl rfl) (mo_add (mo_mul (me_var (pv 1)) me_int) (me_callTy call_int_txt lk_itx (by rfl) N.int boot_int (ma_cons (me_var (pv 2)) ma_nil)))))))
 (ms_one (ms_ret (me_var (pv 1))))))), fun O xs Pq h => rd_rn Tx O xs Pq QX h⟩)
theorem scRns : FnScope NRns ["words"] (defScope (top 21)) := ⟨rfl, rfl, rfl, by decide +kernel, rfl, by decide +kernel, by decide +kernel⟩
theorem ok_rns {f Tx fN : Addr} {fd dN : FuncData} (F : Fun K "read_numbers" "read_numbers" (top 21) f fd) (N : Nm mg) (Rn : CalX K mg P w base "read_number" 1 ["word"] (spM K (fRn Tx)) fN dN) : FnOk P w K mg base (CXF P w) 2 f fd ["words"] (spM K (fRns Tx)) :=
  okMX F scRns (fun O xs P PX h => by obtain ⟨_, rfl, _⟩ := h; rfl) (fun cdv A outer s H E QX hr => ⟨mRns QX Tx, (ms_one (ms_ret (me_callTy cTup0 lk_tup (by rfl) N.tuple boot_tuple (ma_cons (me_compX rfl rfl passF (own := ["word"]) (cap := []) (ix := []) (BlkOk.of (defScope (top 21)).names NRns) rfl (mi_seq (me_var (pv 0))) (keeps_name (by decide))
  (fun C fp s H hp => ⟨(mg_name (pg_name (i := 0) (show List.Nodup (["word"] : List Str) by decide +kernel) rfl (Or.inl rfl))), mf_nil, (me_call Rn.ok lk_spM (hr.mono (by decide)) rfl Rn.mg Rn.kp Rn.bd hp (ma_cons (me_var (pv 0)) ma_nil))⟩)) ma_nil)))), fun O xs Pq h => rd_rns Tx O xs Pq QX h⟩)
theorem scRf : FnScope NRf ["text"] (defScope (top 22)) := ⟨rfl, rfl, rfl, by decide +kernel, rfl, by decide +kernel, by decide +kernel⟩
theorem ok_rf {f Tx fN fR fI : Addr} {fd dN dR dI : FuncData} (F : Fun K "read_fraction" "read_fraction" (top 22) f fd) (N : Nm mg) (mTx : mg "NoText" = some (.ref Tx)) (eTx : PySem.W.excIn K Tx [.type "ValueError", .type "Exception", .type "BaseException", .type "object"] "ValueError.__new__" = true) (Ne : CalX K mg P w base "need_text" 1 ["thing"] (spM K (fNeT Tx)) fN dN) (Rs : CalX K mg P w base "read_numbers" 2 ["words"] (spM K (fRns Tx)) fR dR) (IF : Cal K mg P w base "is_fraction" 2 ["thing"] (spT isFrac) fI dI) : FnOk P w K mg base (CXF P w) 3 f fd ["text"] (spM K (fRf Tx)) :=
  okMX F scRf (fun O xs P PX h => by obtain ⟨_, rfl, _⟩ := h; rfl) (fun cdv A outer s H E QX hr => ⟨mRf QX Tx, (ms_cons (ms_expr (me_call Ne.ok lk_spM (hr.mono (by decide)) rfl Ne.mg Ne.kp Ne.bd passF (ma_cons (me_var (pv 0)) ma_nil)))
 (ms_cons (ms_set (i := 1) scRf.nd rfl (Or.inl rfl) (me_call Rs.ok lk_spM (hr.mono (by decide)) rfl Rs.mg Rs.kp Rs.bd passF (ma_cons (me_spl (me_var (pv 0)) (ma_cons me_str ma_nil)) ma_nil)))
 (ms_cons (ms_if (mt_cmp (or_eq hr.units) lk_eq (me_callB cLen0 lk_len (by rfl) N.len PySem.boot_len (ma_cons (me_var (pv 1)) ma_nil)) me_int (nomark _)) (ms_one (ms_ret (me_tup (ma_cons (mo_ix (me_var (pv 1)) me_int) (ma_cons me_int ma_nil))))) ms_nil)
 (ms_cons (ms_if (PW.pt (mw_or (mt_not (mt_val (me_call0 IF.ok lk_T (hr.mono (by decide)) rfl IF.mg IF.kp IF.bd (ma_cons (me_var (pv 1)) ma_nil)))) (mw_or1 (mt_cmp (or_eq hr.units) lk_eq (mo_ix (me_var (pv 1)) me_int) me_int (nomark _))))) (ms_one (ms_raise PySem.F.excBase_ValueError rfl mTx eTx (ma_cons me_str ma_nil))) ms_nil)
 (ms_one (ms_ret (me_var (pv 1)))))))), fun O xs Pq h => rd_rf Tx O xs Pq QX h⟩)
theorem scWn : FnScope NWn ["bag"] (defScope (top 27)) := ⟨rfl, rfl, rfl, by decide +kernel, rfl, by decide +kernel, by decide +kernel⟩
theorem ok_wn {f fT : Addr} {fd dT : FuncData} (F : Fun K "_law_whole_number" "_law_whole_number" (top 27) f fd) (T : Cal K mg P w base "_law_take" 1 ["bag", "many"] spTakeB fT dT) : FnOk P w K mg base CX0 2 f fd ["bag"] (spM K fWn) :=
  okM F scWn (fun O xs P PX h => by obtain ⟨_, rfl, _⟩ := h; rfl) (fun cdv A outer s H E QX hr => ⟨mWn, (ms_cons (ms_set (i := 1) scWn.nd rfl (Or.inl rfl) (me_lst (ma_cons (me_call0 T.ok lk_takeB (hr.mono (by decide)) rfl T.mg T.kp T.bd (ma_cons (me_var (pv 0)) (ma_cons me_int ma_nil))) (ma_cons (me_call0 T.ok lk_takeB (hr.mono (by decide)) rfl T.mg T.kp T.bd (ma_cons (me_var (pv 0)) (ma_cons (mo_pow me_int me_int) ma_nil))) (ma_cons (me_call0 T.ok lk_takeB (hr.mono (by decide)) rfl T.mg T.kp T.bd (ma_cons (me_var (pv 0)) (ma_cons (mo_pow me_int me_int) ma_nil))) (ma_cons (mo_shl me_int (me_call0 T.ok lk_takeB (hr.mono (by decide)) rfl T.mg T.kp T.bd (ma_cons (me_var (pv 0)) (ma_cons me_int ma_nil)))) ma_nil))))))
 (ms_cons (ms_set (i := 2) scWn.nd rfl (Or.inl rfl) (mo_ix (me_var (pv 1)) (me_call0 T.ok lk_takeB (hr.mono (by decide)) rfl T.mg T.kp T.bd (ma_cons (me_var (pv 0)) (ma_cons me_int ma_nil)))))
 (ms_one (ms_ret (mo_mul (me_var (pv 2)) (mo_sub me_int (mo_mul me_int (me_call0 T.ok lk_takeB (hr.mono (by decide)) rfl T.mg T.kp T.bd (ma_cons (me_var (pv 0)) (ma_cons me_int ma_nil)))))))))), fun O xs Pq h => rd_wn O xs Pq QX h⟩)
theorem scMv : FnScope NMv ["bag", "some", "new"] (defScope (top 29)) := ⟨rfl, rfl, rfl, by decide +kernel, rfl, by decide +kernel, by decide +kernel⟩
theorem ok_mov {f fT : Addr} {fd dT : FuncData} (F : Fun K "_law_moved_about" "_law_moved_about" (top 29) f fd) (N : Nm mg) (T : Cal K mg P w base "_law_take" 1 ["bag", "many"] spTakeB fT dT) : FnOk P w K mg base CX0 2 f fd ["bag", "some", "new"] (spM K fMov) :=
  okM F scMv (fun O xs P PX h => by obtain ⟨_, _, _, rfl, _⟩ := h; rfl) (fun cdv A outer s H E QX hr => ⟨mMov, (ms_cons (ms_set (i := 3) scMv.nd rfl (Or.inl rfl) (me_call0 T.ok lk_takeB (hr.mono (by decide)) rfl T.mg T.kp T.bd (ma_cons (me_var (pv 0)) (ma_cons (mo_add (me_callB call_len_str lk_lns (by rfl) N.len PySem.boot_len (ma_cons (me_var (pv 1)) ma_nil)) me_int) ma_nil))))
 (ms_cons (ms_set (i := 4) scMv.nd rfl (Or.inl rfl) (me_call0 T.ok lk_takeB (hr.mono (by decide)) rfl T.mg T.kp T.bd (ma_cons (me_var (pv 0)) (ma_cons me_int ma_nil))))
 (ms_cons (ms_if (mt_cmp (or_eq hr.units) lk_eq (me_var (pv 4)) me_int (nomark _)) (ms_one (ms_ret (mo_cat (me_slS (me_var (pv 1)) mp_none (mp_some (me_var (pv 3)))) (me_slS (me_var (pv 1)) (mp_some (mo_add (me_var (pv 3)) me_int)) mp_none)))) ms_nil)
 (ms_cons (ms_if (mt_cmp (or_eq hr.units) lk_eq (me_var (pv 4)) me_int (nomark _)) (ms_one (ms_ret (mo_cat (me_slS (me_var (pv 1)) mp_none (mp_some (mo_add (me_var (pv 3)) me_int))) (me_slS (me_var (pv 1)) (mp_some (me_var (pv 3))) mp_none)))) ms_nil)
 (ms_cons (ms_if (mt_cmp (or_eq hr.units) lk_eq (me_var (pv 4)) me_int (nomark _)) (ms_one (ms_ret (mo_cat (mo_cat (me_slS (me_var (pv 1)) mp_none (mp_some (me_var (pv 3)))) (me_var (pv 2))) (me_slS (me_var (pv 1)) (mp_some (me_var (pv 3))) mp_none)))) ms_nil)
 (ms_cons (ms_if (mt_cmp (or_eq hr.units) lk_eq (me_var (pv 4)) me_int (nomark _)) (ms_one (ms_ret (mo_cat (mo_cat (me_slS (me_var (pv 1)) mp_none (mp_some (me_var (pv 3)))) (me_rev (me_slS (me_var (pv 1)) (mp_some (me_var (pv 3))) (mp_some (mo_add (me_var (pv 3)) me_int))))) (me_slS (me_var (pv 1)) (mp_some (mo_add (me_var (pv 3)) me_int)) mp_none)))) ms_nil)
 (ms_one (ms_ret (mo_cat (mo_cat (me_slS (me_var (pv 1)) mp_none (mp_some (me_var (pv 3)))) (me_var (pv 2))) (me_slS (me_var (pv 1)) (mp_some (mo_add (me_var (pv 3)) me_int)) mp_none)))))))))), fun O xs Pq h => rd_mov O xs Pq QX h⟩)
theorem scFg : FnScope NFg ["text"] (defScope (top 30)) := ⟨rfl, rfl, rfl, by decide +kernel, rfl, by decide +kernel, by decide +kernel⟩
theorem ok_fig {f : Addr} {fd : FuncData} (F : Fun K "_law_figures" "_law_figures" (top 30) f fd) (N : Nm mg) : FnOk P w K mg base CX0 1 f fd ["text"] (spM K fFig) :=
  okM F scFg (fun O xs P PX h => by obtain ⟨_, rfl, _⟩ := h; rfl) (fun cdv A outer s H E QX hr => ⟨mFig, (ms_cons (ms_if (PW.pt (mw_or (mt_cmp (or_eq hr.units) lk_eq (me_var (pv 0)) me_str (nomark _)) (mw_or (mt_cmp (or_ne hr.units) lk_ne (me_comp (own := ["sign"]) (cap := []) (ix := []) (BlkOk.of (defScope (top 30)).names NFg) rfl (mi_str (me_var (pv 0))) (keeps_name (by decide))
  (fun C fp s H => ⟨(mg_name (pg_name (i := 0) (show List.Nodup (["sign"] : List Str) by decide +kernel) rfl (Or.inl rfl))), (mf_one (mt_cmp op_notIn_str lk_nins (me_var (pv 0)) me_str (by rfl))), (me_var (pv 0))⟩)) (me_lst ma_nil) (nomark _)) (mw_or1 (PW.pt (mw_and (mt_cmp (or_eq hr.units) lk_eq (mo_ixs (me_var (pv 0)) me_int) me_str (nomark _)) (mw_and1 (mt_cmp (or_ne hr.units) lk_ne (me_var (pv 0)) me_str (nomark _))))))))) (ms_one (ms_ret me_non)) ms_nil)
 (ms_one (ms_ret (me_callTy call_int_txt lk_itx (by rfl) N.int boot_int (ma_cons (me_var (pv 0)) ma_nil))))), fun O xs Pq h => rd_fig O xs Pq QX h⟩)
theorem scDt : FnScope NDt ["text"] (defScope (top 31)) := ⟨rfl, rfl, rfl, by decide +kernel, rfl, by decide +kernel, by decide +kernel⟩
theorem ok_dut {f fG fL : Addr} {fd dG dL : FuncData} (F : Fun K "_law_due" "_law_due" (top 31) f fd) (N : Nm mg) (Fi : Cal K mg P w base "_law_figures" 1 ["text"] (spM K fFig) fG dG) (Lf : Cal K mg P w base "_law_frac" 1 ["top", "bottom"] spLf fL dL) : FnOk P w K mg base CX0 2 f fd ["text"] (spM K fDuT) :=
  okM F scDt (fun O xs P PX h => by obtain ⟨_, rfl, _⟩ := h; rfl) (fun cdv A outer s H E QX hr => ⟨mDuT, (ms_cons (ms_set (i := 1) scDt.nd rfl (Or.inl rfl) (me_spl (me_var (pv 0)) (ma_cons me_str ma_nil)))
 (ms_cons (ms_setC (i := 2) scDt.nd rfl rfl (own := ["part"]) (cap := []) (ix := []) (BlkOk.of (defScope (top 31)).names NDt) rfl (mi_seq (me_var (pv 1))) (keeps_name (by decide))
  (fun C fp s H => ⟨(mg_name (pg_name (i := 0) (show List.Nodup (["part"] : List Str) by decide +kernel) rfl (Or.inl rfl))), mf_nil, (me_call0 Fi.ok lk_spM (hr.mono (by decide)) rfl Fi.mg Fi.kp Fi.bd (ma_cons (me_var (pv 0)) ma_nil))⟩))
 (ms_cons (ms_if (PW.pt (mw_or (mt_cmp op_gt lk_gt (me_callB cLen0 lk_len (by rfl) N.len PySem.boot_len (ma_cons (me_var (pv 1)) ma_nil)) me_int (nomark _)) (mw_or1 (mt_cmp opIn0 lk_nIn me_non (me_var (pv 2)) (by rfl))))) (ms_one (ms_ret me_non)) ms_nil)
 (ms_cons (ms_if (mt_cmp (or_eq hr.units) lk_eq (me_callB cLen0 lk_len (by rfl) N.len PySem.boot_len (ma_cons (me_var (pv 1)) ma_nil)) me_int (nomark _)) (ms_one (ms_ret (me_tup (ma_cons (mo_ix (me_var (pv 2)) me_int) (ma_cons me_int ma_nil))))) ms_nil)
 (ms_cons (ms_if (PW.pt (mw_or (mt_cmp op_lt lk_lt (mo_ix (me_var (pv 2)) me_int) me_int (nomark _)) (mw_or1 (mt_cmp (or_ne hr.units) lk_ne (me_call0 Lf.ok lk_lf (hr.mono (by decide)) rfl Lf.mg Lf.kp Lf.bd (ma_cons (mo_ix (me_var (pv 2)) me_int) (ma_cons (mo_ix (me_var (pv 2)) me_int) ma_nil))) (me_tup (ma_cons (mo_ix (me_var (pv 2)) me_int) (ma_cons (mo_ix (me_var (pv 2)) me_int) ma_nil))) (nomark _))))) (ms_one (ms_ret me_non)) ms_nil)
 (ms_one (ms_ret (me_tup (ma_cons (mo_ix (me_var (pv 2)) me_int) (ma_cons (mo_ix (me_var (pv 2)) me_int) ma_nil)))))))))), fun O xs Pq h => rd_dut O xs Pq QX h⟩)
theorem scRd : FnScope NRd ["text"] (defScope (top 32)) := ⟨rfl, rfl, rfl, by decide +kernel, rfl, by decide +kernel, by decide +kernel⟩
theorem ok_rd {f fR fK M De Bu Dl Go Mk Nn Pr Ro Tx No Un : Addr} {fd dR dK : FuncData} (F : Fun K "_law_read" "_law_read" (top 32) f fd) (R : Clx K mg M De Bu Dl Go Mk Nn Pr Ro Tx No Un) (ET : ErrOf K M De Bu Dl Go Mk Nn Pr Ro Tx No Un Tx 8) (Rf : CalX K mg P w base "read_fraction" 3 ["text"] (spM K (fRf Tx)) fR dR) (Ki : CalH K mg P w base "_law_kinds" 1 ["e"] (spKinds K M De Bu Dl Go Mk Nn Pr Ro Tx No Un) fK dK) : FnOk P w K mg base CX0 4 f fd ["text"] (spM K fRd) :=
  okM F scRd (fun O xs P PX h => by obtain ⟨_, rfl, _⟩ := h; rfl) (fun cdv A outer s H E QX hr => ⟨mRd Tx (Kd K M De Bu Dl Go Mk Nn Pr Ro Tx No Un), (ms_cons (ms_set (i := 1) scRd.nd rfl (Or.inl rfl) me_str)
 (ms_cons (ms_set (i := 2) scRd.nd rfl (Or.inl rfl) me_non)
 (ms_cons (ms_tryC (i := 2) (j := 3) (l := 1) Rf.ok lk_spM (hr.mono (by decide)) rfl Rf.mg Rf.kp Rf.bd Ki.ok (hr.mono (by decide)) rfl Ki.mg Ki.kp Ki.bd rfl R.mgM R.tyM R.bM rfl rfl scRd.nd rfl rfl rfl rfl rfl rfl (fun E' => (ma_cons (me_var (pv 0)) ma_nil)))
 (ms_one (ms_ret (me_lst (ma_cons (me_var (pv 1)) (ma_cons (me_var (pv 2)) ma_nil)))))))), fun O xs Pq h => rd_rd Tx _ ⟨8, by decide, ET, by decide +kernel⟩ O xs Pq QX h⟩)
theorem scSt : FnScope NSt ["bag", "text"] (defScope (top 33)) := ⟨rfl, rfl, rfl, by decide +kernel, rfl, by decide +kernel, by decide +kernel⟩
theorem ok_spo {f fT fV : Addr} {fd dT dV : FuncData} (F : Fun K "_law_spoilt" "_law_spoilt" (top 33) f fd) (N : Nm mg) (T : Cal K mg P w base "_law_take" 1 ["bag", "many"] spTakeB fT dT) (Mv : Cal K mg P w base "_law_moved_about" 2 ["bag", "some", "new"] (spM K fMov) fV dV) : FnOk P w K mg base CX0 3 f fd ["bag", "text"] (spM K fSpo) :=
  okM F scSt (fun O xs P PX h => by obtain ⟨_, _, rfl, _⟩ := h; rfl) (fun cdv A outer s H E QX hr => ⟨mSpo, (ms_cons (ms_set (i := 2) scSt.nd rfl (Or.inl rfl) me_str)
 (ms_cons (ms_set (i := 2) scSt.nd rfl (Or.inl rfl) (mo_cat (me_var (pv 2)) me_str))
 (ms_one (ms_ret (me_call0 Mv.ok lk_spM (hr.mono (by decide)) rfl Mv.mg Mv.kp Mv.bd (ma_cons (me_var (pv 0)) (ma_cons (me_var (pv 1)) (ma_cons (mo_ix (me_lst (ma_cons (mo_ixs (me_var (pv 2)) (me_call0 T.ok lk_takeB (hr.mono (by decide)) rfl T.mg T.kp T.bd (ma_cons (me_var (pv 0)) (ma_cons (me_callB call_len_str lk_lns (by rfl) N.len PySem.boot_len (ma_cons (me_var (pv 2)) ma_nil)) ma_nil)))) (ma_cons me_str (ma_cons me_str (ma_cons me_str ma_nil))))) (me_call0 T.ok lk_takeB (hr.mono (by decide)) rfl T.mg T.kp T.bd (ma_cons (me_var (pv 0)) (ma_cons me_int ma_nil)))) ma_nil)))))))), fun O xs Pq h => rd_spo O xs Pq QX h⟩)
theorem scLaw : FnScope NL32 ["script"] (defScope (top 34)) := ⟨rfl, rfl, rfl, by decide +kernel, rfl, by decide +kernel, by decide +kernel⟩
theorem ok_law0 {f fB fT fL fW fF fR fS fU : Addr} {fd dB dT dL dW dF dR dS dU : FuncData} (F : Fun K "law" "law" (top 34) f fd) (N : Nm mg) (mStr : mg "str" = none) (Bg : Cal K mg P w base "_law_bag" 1 ["script", "k"] (spBag K) fB dB) (T : Cal K mg P w base "_law_take" 1 ["bag", "many"] spTakeB fT dT) (Lf : Cal K mg P w base "_law_frac" 1 ["top", "bottom"] spLf fL dL) (Wn : Cal K mg P w base "_law_whole_number" 2 ["bag"] (spM K fWn) fW dW) (Ft : Cal K mg P w base "fraction_text" 1 ["number"] (spM K fFt) fF dF) (Rd : Cal K mg P w base "_law_read" 4 ["text"] (spM K fRd) fR dR) (Sp : Cal K mg P w base "_law_spoilt" 3 ["bag", "text"] (spM K fSpo) fS dS) (Du : Cal K mg P w base "_law_due" 2 ["text"] (spM K fDuT) fU dU) : FnOk P w K mg base CX0 6 f fd ["script"] (spM K fLaw) :=
  okM F scLaw (fun O xs P PX h => by obtain ⟨_, rfl, _⟩ := h; rfl) (fun cdv A outer s H E QX hr => ⟨mLaw32, (ms_cons (ms_for PassesOwn.never rfl (mi_range1 rfl N.range (ma_cons (mo_add (me_callB (call_min2 rfl) lk_min2 (by rfl) N.min boot_min (ma_cons (me_callB (cLen K) lk_lenS (by rfl) N.len PySem.boot_len (ma_cons (me_var (pv 0)) ma_nil)) (ma_cons me_int ma_nil))) me_int) ma_nil)) (mg_name (pg_name (i := 1) scLaw.nd rfl (Or.inl rfl))) (ms_cons (ms_set (i := 2) scLaw.nd rfl (Or.inl rfl) (me_call0 Bg.ok lk_bag (hr.mono (by decide)) rfl Bg.mg Bg.kp Bg.bd (ma_cons (me_var (pv 0)) (ma_cons (me_var (pv 1)) ma_nil))))
 (ms_cons (ms_set (i := 3) scLaw.nd rfl (Or.inl rfl) (me_call0 Lf.ok lk_lf (hr.mono (by decide)) rfl Lf.mg Lf.kp Lf.bd (ma_cons (me_callB call_abs lk_abs (by rfl) N.abs boot_abs (ma_cons (me_call0 Wn.ok lk_spM (hr.mono (by decide)) rfl Wn.mg Wn.kp Wn.bd (ma_cons (me_var (pv 2)) ma_nil)) ma_nil)) (ma_cons (mo_ix (me_lst (ma_cons (mo_add (me_callB call_abs lk_abs (by rfl) N.abs boot_abs (ma_cons (me_call0 Wn.ok lk_spM (hr.mono (by decide)) rfl Wn.mg Wn.kp Wn.bd (ma_cons (me_var (pv 2)) ma_nil)) ma_nil)) me_int) (ma_cons me_int ma_nil))) (me_callTy call_int1 lk_intF (by rfl) N.int boot_int (ma_cons (me_cmp (or_eq hr.units) lk_eq (me_call0 T.ok lk_takeB (hr.mono (by decide)) rfl T.mg T.kp T.bd (ma_cons (me_var (pv 2)) (ma_cons me_int ma_nil))) me_int (nomark _)) ma_nil))) ma_nil))))
 (ms_cons (ms_set (i := 4) scLaw.nd rfl (Or.inl rfl) (mo_cat (me_callTy call_str_int lk_strF (by rfl) mStr boot_str (ma_cons (mo_ix (me_var (pv 3)) me_int) ma_nil)) (mo_rps (mo_cat me_str (me_callTy call_str_int lk_strF (by rfl) mStr boot_str (ma_cons (mo_ix (me_var (pv 3)) me_int) ma_nil))) (me_callTy call_int1 lk_intF (by rfl) N.int boot_int (ma_cons (me_cmp (or_ne hr.units) lk_ne (mo_ix (me_var (pv 3)) me_int) me_int (nomark _)) ma_nil)))))
 (ms_cons (ms_if (PW.pt (mw_or (mt_cmp (or_ne hr.units) lk_ne (me_call0 Ft.ok lk_spM (hr.mono (by decide)) rfl Ft.mg Ft.kp Ft.bd (ma_cons (me_var (pv 3)) ma_nil)) (me_var (pv 4)) (nomark _)) (mw_or1 (mt_cmp (or_ne hr.units) lk_ne (me_call0 Rd.ok lk_spM (hr.mono (by decide)) rfl Rd.mg Rd.kp Rd.bd (ma_cons (me_var (pv 4)) ma_nil)) (me_lst (ma_cons me_str (ma_cons (me_var (pv 3)) ma_nil))) (nomark _))))) (ms_one (ms_ret me_bl)) ms_nil)
 (ms_cons (ms_for PassesOwn.never rfl (mi_range1 rfl N.range (ma_cons me_int ma_nil)) (mg_name (pg_name (i := 5) scLaw.nd rfl (Or.inl rfl))) (ms_cons (ms_set (i := 4) scLaw.nd rfl (Or.inl rfl) (me_call0 Sp.ok lk_spM (hr.mono (by decide)) rfl Sp.mg Sp.kp Sp.bd (ma_cons (me_var (pv 2)) (ma_cons (me_var (pv 4)) ma_nil))))
 (ms_cons (ms_set (i := 6) scLaw.nd rfl (Or.inl rfl) (me_call0 Du.ok lk_spM (hr.mono (by decide)) rfl Du.mg Du.kp Du.bd (ma_cons (me_var (pv 4)) ma_nil)))
 (ms_one (ms_if (mt_cmp (or_ne hr.units) lk_ne (me_call0 Rd.ok lk_spM (hr.mono (by decide)) rfl Rd.mg Rd.kp Rd.bd (ma_cons (me_var (pv 4)) ma_nil)) (mo_ix (me_lst (ma_cons (me_lst (ma_cons me_str (ma_cons (me_var (pv 6)) ma_nil))) (ma_cons (me_lst (ma_cons me_str (ma_cons me_non ma_nil))) ma_nil))) (me_callTy call_int1 lk_intF (by rfl) N.int boot_int (ma_cons (me_cmp op_isN lk_isN (me_var (pv 6)) me_non (nomark _)) ma_nil))) (nomark _)) (ms_one (ms_ret me_bl)) ms_nil)))))
 (ms_one (ms_for PassesOwn.never rfl (mi_seq (me_lst (ma_cons me_non (ma_cons me_int (ma_cons (me_var (pv 3)) (ma_cons me_str (ma_cons (me_lst (ma_cons me_str ma_nil)) (ma_cons me_str (ma_cons me_str (ma_cons me_str (ma_cons me_str (ma_cons me_str (ma_cons me_str ma_nil))))))))))))) (mg_name (pg_name (i := 7) scLaw.nd rfl (Or.inl rfl))) (ms_one (ms_if (mt_cmp (or_ne hr.units) lk_ne (me_call0 Rd.ok lk_spM (hr.mono (by decide)) rfl Rd.mg Rd.kp Rd.bd (ma_cons (me_var (pv 7)) ma_nil)) (me_lst (ma_cons me_str (ma_cons me_non ma_nil))) (nomark _)) (ms_one (ms_ret me_bl)) ms_nil))))))))))
 (ms_one (ms_ret me_bl))), fun O xs Pq h => rd_law32 O xs Pq QX h⟩)
end
end K32

set_option Elab.async false
set_option linter.all false
set_option maxRecDepth 100000
set_option maxHeartbeats 4000000
namespace MI
open PySem L2 KG EX KM
/-- a def of the text, as it stands behind the top -/
def FnA (K : PySem.W.Frag) (nm : Str) (st : Stmt) (f : Addr) : Prop := ∃ (oc : Value) (od : Option Addr) (kV dc pm : Value) (an : Option Addr) (cd ct : Value) (sl : Array (Option Value)), PySem.W.nsIn K mainGlobals nm = some (some (.ref f)) ∧ K.lookup f = some ⟨oc, od, .func (PySem.W.fnOf nm nm (defArgs st) (defBody st) (defScope st) .none kV dc pm an cd ct), sl⟩ ∧ PySem.W.codeIn K cd nm = true ∧ PySem.W.keepIn K (.ref f) = true
theorem el1 {P : List Value → Prop} (h : ∀ a, P [a]) : ∀ us : List Value, us.length = 1 → P us
  | [a], _ => h a
theorem el2 {P : List Value → Prop} (h : ∀ a b, P [a, b]) : ∀ us : List Value, us.length = 2 → P us
  | [a, b], _ => h a b
theorem el3 {P : List Value → Prop} (h : ∀ a b c, P [a, b, c]) : ∀ us : List Value, us.length = 3 → P us
  | [a, b, c], _ => h a b c
/-- a def of the text with all that a call of it wants -/
structure Fg (K : PySem.W.Frag) (mg : Str → Option Value) (nm : Str) (ps : List Str) (st : Stmt) (f : Addr) (fd : FuncData) : Prop where
  F : Fun K nm nm st f fd
  mg : mg nm = some (.ref f)
  kp : PySem.W.keepIn K (.ref f) = true
  bd : Binds K fd ps []
section
variable {K : PySem.W.Frag} {hh : Heap} {mg : Str → Option Value} {nm : Str} {ps : List Str} {st : Stmt} {f : Addr} {fd : FuncData} {k : Nat} {sp : Sp}
theorem Fg.c (a : Fg K mg nm ps st f fd) (l : PySem.W.OpenLaw) (w : World) (base : Heap) (o : FnOk l.prog w K mg base CX0 k f fd ps sp) : Cal K mg l.prog w base nm k ps sp f fd := ⟨o, a.mg, a.kp, a.bd⟩
theorem Fg.x (a : Fg K mg nm ps st f fd) (l : PySem.W.OpenLaw) (w : World) (base : Heap) (o : FnOk l.prog w K mg base (CXF l.prog w) k f fd ps sp) : CalX K mg l.prog w base nm k ps sp f fd := ⟨o, a.mg, a.kp, a.bd⟩
theorem Fg.h {sp : Addr → Addr → Sp} (a : Fg K mg nm ps st f fd) (l : PySem.W.OpenLaw) (w : World) (base : Heap) (o : FnH l.prog w K mg base k f fd ps sp) : CalH K mg l.prog w base nm k ps sp f fd := ⟨o, a.mg, a.kp, a.bd⟩
theorem Fg.of (X : K.In hh) (G : hh.Ns mainGlobals mg) (a : FnA K nm st f) (hb : ∀ (kV doc pm : Value) (an : Option Addr) (cdv ct : Value) (us : List Value), us.length = ps.length → bindArgs (PySem.W.fnOf nm nm (defArgs st) (defBody st) (defScope st) .none kV doc pm an cdv ct) ⟨us, []⟩ = pure (ps.zip us)) : ∃ fd, Fg K mg nm ps st f fd := by
  obtain ⟨_, _, _, _, _, _, _, _, _, a, l, c, k⟩ := a
  exact ⟨_, fun_mk l c k, PySem.W.mg_of X G a, k, (fun_mk l c k).binds hb⟩
theorem fg1 (ps : List Str) (X : K.In hh) (G : hh.Ns mainGlobals mg) (a : FnA K nm st f) (hb : ∀ (kV doc pm : Value) (an : Option Addr) (cdv ct a : Value), bindArgs (PySem.W.fnOf nm nm (defArgs st) (defBody st) (defScope st) .none kV doc pm an cdv ct) ⟨[a], []⟩ = pure (ps.zip [a]) := by intros; rfl) (hl : ps.length = 1 := by rfl) : ∃ fd, Fg K mg nm ps st f fd := Fg.of X G a fun kV doc pm an cdv ct us hu => el1 (P := fun us => bindArgs (PySem.W.fnOf nm nm (defArgs st) (defBody st) (defScope st) .none kV doc pm an cdv ct) ⟨us, []⟩ = pure (ps.zip us)) (hb kV doc pm an cdv ct) us (hu.trans hl)
theorem fg2 (ps : List Str) (X : K.In hh) (G : hh.Ns mainGlobals mg) (a : FnA K nm st f) (hb : ∀ (kV doc pm : Value) (an : Option Addr) (cdv ct a b : Value), bindArgs (PySem.W.fnOf nm nm (defArgs st) (defBody st) (defScope st) .none kV doc pm an cdv ct) ⟨[a, b], []⟩ = pure (ps.zip [a, b]) := by intros; rfl) (hl : ps.length = 2 := by rfl) : ∃ fd, Fg K mg nm ps st f fd := Fg.of X G a fun kV doc pm an cdv ct us hu => el2 (P := fun us => bindArgs (PySem.W.fnOf nm nm (defArgs st) (defBody st) (defScope st) .none kV doc pm an cdv ct) ⟨us, []⟩ = pure (ps.zip us)) (hb kV doc pm an cdv ct) us (hu.trans hl)
theorem fg3 (ps : List Str) (X : K.In hh) (G : hh.Ns mainGlobals mg) (a : FnA K nm st f) (hb : ∀ (kV doc pm : Value) (an : Option Addr) (cdv ct a b c : Value), bindArgs (PySem.W.fnOf nm nm (defArgs st) (defBody st) (defScope st) .none kV doc pm an cdv ct) ⟨[a, b, c], []⟩ = pure (ps.zip [a, b, c]) := by intros; rfl) (hl : ps.length = 3 := by rfl) : ∃ fd, Fg K mg nm ps st f fd := Fg.of X G a fun kV doc pm an cdv ct us hu => el3 (P := fun us => bindArgs (PySem.W.fnOf nm nm (defArgs st) (defBody st) (defScope st) .none kV doc pm an cdv ct) ⟨us, []⟩ = pure (ps.zip us)) (hb kV doc pm an cdv ct) us (hu.trans hl)
end
end MI

set_option Elab.async false
set_option linter.all false
set_option maxRecDepth 100000
set_option maxHeartbeats 8000000
namespace K32
open PySem L2 KG EX KM MI
theorem all_mk {l : PySem.W.OpenLaw} {w : World} {K : PySem.W.Frag} {h : Heap} {mg : Str → Option Value} {fa : Addr} (X : K.In h) (G : h.Ns mainGlobals mg) (hfa : mg "law" = some (.ref fa))
    {f0 f1 f2 f3 f4 f5 f6 f7 f8 f9 f10 f11 f12 f13 f14 f15 f16 f17 f18 M Nn Mk Pr De Un Bu Go No Dl Tx Ro : Addr}
    (a0 : FnA K "is_whole" (top 14) f0)
    (a1 : FnA K "is_fraction" (top 15) f1)
    (a2 : FnA K "common_divisor" (top 16) f2)
    (a3 : FnA K "fraction_text" (top 18) f3)
    (a4 : FnA K "need_text" (top 19) f4)
    (a5 : FnA K "read_number" (top 20) f5)
    (a6 : FnA K "read_numbers" (top 21) f6)
    (a7 : FnA K "read_fraction" (top 22) f7)
    (a8 : FnA K "_law_bag" (top 24) f8)
    (a9 : FnA K "_law_take" (top 25) f9)
    (a10 : FnA K "_law_frac" (top 26) f10)
    (a11 : FnA K "_law_whole_number" (top 27) f11)
    (a12 : FnA K "_law_kinds" (top 28) f12)
    (a13 : FnA K "_law_moved_about" (top 29) f13)
    (a14 : FnA K "_law_figures" (top 30) f14)
    (a15 : FnA K "_law_due" (top 31) f15)
    (a16 : FnA K "_law_read" (top 32) f16)
    (a17 : FnA K "_law_spoilt" (top 33) f17)
    (a18 : FnA K "law" (top 34) f18)
    (z0 : PySem.W.nsIn K mainGlobals "len" = some none)
    (z1 : PySem.W.nsIn K mainGlobals "range" = some none)
    (z2 : PySem.W.nsIn K mainGlobals "tuple" = some none)
    (z3 : PySem.W.nsIn K mainGlobals "list" = some none)
    (z4 : PySem.W.nsIn K mainGlobals "all" = some none)
    (z5 : PySem.W.nsIn K mainGlobals "any" = some none)
    (z6 : PySem.W.nsIn K mainGlobals "max" = some none)
    (z7 : PySem.W.nsIn K mainGlobals "min" = some none)
    (z8 : PySem.W.nsIn K mainGlobals "sum" = some none)
    (z9 : PySem.W.nsIn K mainGlobals "abs" = some none)
    (z10 : PySem.W.nsIn K mainGlobals "int" = some none)
    (z11 : PySem.W.nsIn K mainGlobals "isinstance" = some none)
    (z12 : PySem.W.nsIn K mainGlobals "bool" = some none)
    (z13 : PySem.W.nsIn K mainGlobals "enumerate" = some none)
    (z14 : PySem.W.nsIn K mainGlobals "ValueError" = some none)
    (ystr : PySem.W.nsIn K mainGlobals "str" = some none)
    (gM : PySem.W.nsIn K mainGlobals "MartError" = some (some (.ref M)))
    (gNn : PySem.W.nsIn K mainGlobals "NoNumber" = some (some (.ref Nn)))
    (gMk : PySem.W.nsIn K mainGlobals "NoMarket" = some (some (.ref Mk)))
    (gPr : PySem.W.nsIn K mainGlobals "NoPrices" = some (some (.ref Pr)))
    (gDe : PySem.W.nsIn K mainGlobals "Dear" = some (some (.ref De)))
    (gUn : PySem.W.nsIn K mainGlobals "Unwished" = some (some (.ref Un)))
    (gBu : PySem.W.nsIn K mainGlobals "NoBuyer" = some (some (.ref Bu)))
    (gGo : PySem.W.nsIn K mainGlobals "NoGood" = some (some (.ref Go)))
    (gNo : PySem.W.nsIn K mainGlobals "Nothing" = some (some (.ref No)))
    (gDl : PySem.W.nsIn K mainGlobals "NoDealing" = some (some (.ref Dl)))
    (gTx : PySem.W.nsIn K mainGlobals "NoText" = some (some (.ref Tx)))
    (gRo : PySem.W.nsIn K mainGlobals "NoRow" = some (some (.ref Ro)))
    (ti1 : PySem.W.kitOne K (.type "NoneType") (.type "int") = some false)
    (ti2 : PySem.W.kitOne K (.type "bool") (.type "int") = some true)
    (ti3 : PySem.W.kitOne K (.type "int") (.type "int") = some true)
    (ti4 : PySem.W.kitOne K (.type "str") (.type "int") = some false)
    (ti5 : PySem.W.kitOne K (.type "list") (.type "int") = some false)
    (ti6 : PySem.W.kitOne K (.type "tuple") (.type "int") = some false)
    (tb1 : PySem.W.kitOne K (.type "NoneType") (.type "bool") = some false)
    (tb2 : PySem.W.kitOne K (.type "bool") (.type "bool") = some true)
    (tb3 : PySem.W.kitOne K (.type "int") (.type "bool") = some false)
    (tb4 : PySem.W.kitOne K (.type "str") (.type "bool") = some false)
    (tb5 : PySem.W.kitOne K (.type "list") (.type "bool") = some false)
    (tb6 : PySem.W.kitOne K (.type "tuple") (.type "bool") = some false)
    (tt1 : PySem.W.kitOne K (.type "NoneType") (.type "tuple") = some false)
    (tt2 : PySem.W.kitOne K (.type "bool") (.type "tuple") = some false)
    (tt3 : PySem.W.kitOne K (.type "int") (.type "tuple") = some false)
    (tt4 : PySem.W.kitOne K (.type "str") (.type "tuple") = some false)
    (tt5 : PySem.W.kitOne K (.type "list") (.type "tuple") = some false)
    (tt6 : PySem.W.kitOne K (.type "tuple") (.type "tuple") = some true)
    (ks1 : PySem.W.kitOne K (.type "NoneType") (.type "str") = some false)
    (ks2 : PySem.W.kitOne K (.type "bool") (.type "str") = some false)
    (ks3 : PySem.W.kitOne K (.type "int") (.type "str") = some false)
    (ks4 : PySem.W.kitOne K (.type "str") (.type "str") = some true)
    (ks5 : PySem.W.kitOne K (.type "list") (.type "str") = some false)
    (ks6 : PySem.W.kitOne K (.type "tuple") (.type "str") = some false)
    (eXTx : PySem.W.excIn K Tx [.type "ValueError", .type "Exception", .type "BaseException", .type "object"] "ValueError.__new__" = true)
    (eT : PySem.W.typeIn K (.ref M) = some (.type "type")) (eB : PySem.W.mroIn K M (.type "BaseException") = some true)
    (e4 : PySem.W.specialIn K (.builtin "object.__class__") "__get__" = some (some (.builtin "getset_descriptor.__get__"))) (e5 : PySem.W.takesIn K (.builtin "object.__class__") = some true)
    (qTxDe : PySem.W.kitOne K (.ref Tx) (.ref De) = some false)
    (qTxBu : PySem.W.kitOne K (.ref Tx) (.ref Bu) = some false)
    (qTxDl : PySem.W.kitOne K (.ref Tx) (.ref Dl) = some false)
    (qTxGo : PySem.W.kitOne K (.ref Tx) (.ref Go) = some false)
    (qTxMk : PySem.W.kitOne K (.ref Tx) (.ref Mk) = some false)
    (qTxNn : PySem.W.kitOne K (.ref Tx) (.ref Nn) = some false)
    (qTxPr : PySem.W.kitOne K (.ref Tx) (.ref Pr) = some false)
    (qTxRo : PySem.W.kitOne K (.ref Tx) (.ref Ro) = some false)
    (qTxTx : PySem.W.kitOne K (.ref Tx) (.ref Tx) = some true)
    (qTxNo : PySem.W.kitOne K (.ref Tx) (.ref No) = some false)
    (qTxUn : PySem.W.kitOne K (.ref Tx) (.ref Un) = some false)
    (qTxVa : PySem.W.kitOne K (.ref Tx) (.type "ValueError") = some true)
    (sTx : PySem.W.mroIn K Tx (.ref M) = some true) (uTx1 : PySem.W.findIn K (.ref Tx) "__getattribute__" = some (some (.builtin "BaseException.__getattribute__"))) (uTx2 : PySem.W.findIn K (.ref Tx) "__getattr__" = some none) (uTx3 : PySem.W.findIn K (.ref Tx) "__class__" = some (some (.builtin "object.__class__"))) (uTx6 : PySem.W.mroIn K Tx (.type "object") = some true) (uTx7 : PySem.W.mroIn K Tx (.type "BaseException") = some true) :
    ∃ fd : FuncData, (∀ (s : Shared) (v : Value), BindsTo s fd ⟨[v], []⟩ [("script", v)]) ∧ ∀ base : Heap, K.In base → base.Ns mainGlobals mg → FnOk l.prog w K mg base CX0 6 fa fd ["script"] (spLaw K) := by
  obtain ⟨_, F0⟩ := fg1 ["thing"] X G a0
  obtain ⟨_, F1⟩ := fg1 ["thing"] X G a1
  obtain ⟨_, F2⟩ := fg2 ["one", "other"] X G a2
  obtain ⟨_, F3⟩ := fg1 ["number"] X G a3
  obtain ⟨_, F4⟩ := fg1 ["thing"] X G a4
  obtain ⟨_, F5⟩ := fg1 ["word"] X G a5
  obtain ⟨_, F6⟩ := fg1 ["words"] X G a6
  obtain ⟨_, F7⟩ := fg1 ["text"] X G a7
  obtain ⟨_, F8⟩ := fg2 ["script", "k"] X G a8
  obtain ⟨_, F9⟩ := fg2 ["bag", "many"] X G a9
  obtain ⟨_, F10⟩ := fg2 ["top", "bottom"] X G a10
  obtain ⟨_, F11⟩ := fg1 ["bag"] X G a11
  obtain ⟨_, F12⟩ := fg1 ["e"] X G a12
  obtain ⟨_, F13⟩ := fg3 ["bag", "some", "new"] X G a13
  obtain ⟨_, F14⟩ := fg1 ["text"] X G a14
  obtain ⟨_, F15⟩ := fg1 ["text"] X G a15
  obtain ⟨_, F16⟩ := fg1 ["text"] X G a16
  obtain ⟨_, F17⟩ := fg2 ["bag", "text"] X G a17
  obtain ⟨oc18, od18, kV18, dc18, pm18, an18, cd18, ct18, sl18, a18, l18, c18, k18⟩ := a18
  have e := hfa.symm.trans (PySem.W.mg_of X G a18)
  cases e
  have N : Nm mg := ⟨PySem.W.mg_none_of X G z0, PySem.W.mg_none_of X G z1, PySem.W.mg_none_of X G z2, PySem.W.mg_none_of X G z3, PySem.W.mg_none_of X G z4, PySem.W.mg_none_of X G z5, PySem.W.mg_none_of X G z6, PySem.W.mg_none_of X G z7, PySem.W.mg_none_of X G z8, PySem.W.mg_none_of X G z9, PySem.W.mg_none_of X G z10, PySem.W.mg_none_of X G z11, PySem.W.mg_none_of X G z12, PySem.W.mg_none_of X G z13, PySem.W.mg_none_of X G z14⟩
  have mStr := PySem.W.mg_none_of X G ystr
  have Z : IsK K := ⟨ti1, ti2, ti3, ti4, ti5, ti6, tb1, tb2, tb3, tb4, tb5, tb6, tt1, tt2, tt3, tt4, tt5, tt6⟩
  have mgM := PySem.W.mg_of X G gM
  have mgNn := PySem.W.mg_of X G gNn
  have mgMk := PySem.W.mg_of X G gMk
  have mgPr := PySem.W.mg_of X G gPr
  have mgDe := PySem.W.mg_of X G gDe
  have mgUn := PySem.W.mg_of X G gUn
  have mgBu := PySem.W.mg_of X G gBu
  have mgGo := PySem.W.mg_of X G gGo
  have mgNo := PySem.W.mg_of X G gNo
  have mgDl := PySem.W.mg_of X G gDl
  have mgTx := PySem.W.mg_of X G gTx
  have mgRo := PySem.W.mg_of X G gRo
  have R : Clx K mg M De Bu Dl Go Mk Nn Pr Ro Tx No Un := ⟨mgM, mgDe, mgBu, mgDl, mgGo, mgMk, mgNn, mgPr, mgRo, mgTx, mgNo, mgUn, eT, eB⟩
  have ETx : ErrOf K M De Bu Dl Go Mk Nn Pr Ro Tx No Un Tx 8 := ⟨qTxDe, qTxBu, qTxDl, qTxGo, qTxMk, qTxNn, qTxPr, qTxRo, qTxTx, qTxNo, qTxUn, qTxVa, eXTx, sTx, ⟨uTx1, uTx2, uTx3, e4, e5, uTx6, uTx7⟩⟩
  have F18 := fun_mk (st := top 34) l18 c18 k18
  refine ⟨PySem.W.fnOf "law" "law" (defArgs (top 34)) (defBody (top 34)) (defScope (top 34)) .none kV18 dc18 pm18 an18 cd18 ct18, fun s v => .of_eq rfl, fun base _ _ => ?_⟩
  have W := F0.c l w base (ok_whole F0.F N Z)
  have Gc := F2.c l w base (ok_gcd F2.F N)
  have IF := F1.c l w base (ok_isfrac F1.F N Z W Gc)
  have Ft := F3.c l w base (ok_ft F3.F N)
  have NeT := F4.x l w base (ok_net F4.F N ⟨ks1, ks2, ks3, ks4, ks5, ks6⟩ mStr mgTx eXTx)
  have Rn := F5.x l w base (ok_rn F5.F N mgTx eXTx)
  have Rs := F6.x l w base (ok_rns F6.F N Rn)
  have Rf := F7.x l w base (ok_rf F7.F N mgTx eXTx NeT Rs IF)
  have Bg := F8.c l w base (ok_bag F8.F N)
  have T := F9.c l w base (ok_takeB F9.F)
  have LfQ := F10.c l w base (ok_lf F10.F N)
  have Wn := F11.c l w base (ok_wn F11.F T)
  have Mv := F13.c l w base (ok_mov F13.F N T)
  have Fi := F14.c l w base (ok_fig F14.F N)
  have Du := F15.c l w base (ok_dut F15.F N Fi LfQ)
  have Ki := F12.h l w base (ok_kinds F12.F N R)
  have Rd := F16.c l w base (ok_rd F16.F R ETx Rf Ki)
  have Spo := F17.c l w base (ok_spo F17.F N T Mv)
  exact law_of (ok_law0 F18 N mStr Bg T LfQ Wn Ft Rd Spo Du)
theorem walk {l : PySem.W.OpenLaw} {q : Program} {loose : List Str} {XP : (Str → Option Value) → Heap → Prop} {YP : World → Heap → Prop} {d : DefRec} {K : Params → PySem.W.Frag} (hn : l.most = some 63) (hdf : d.params.defaults = [])
    (hY : ∀ (w : World) (h : Heap), YP w h → (K w.params).In h)
    (F : ∀ (w : World) (mg : Str → Option Value) (fa : Addr) (h : Heap), (K w.params).In h → h.Ns mainGlobals mg → mg d.name = some (.ref fa) →
      ∃ fd : FuncData, (∀ (s : Shared) (u : Value), BindsTo s fd ⟨[u], []⟩ [("script", u)]) ∧ ∀ base : Heap, (K w.params).In base → base.Ns mainGlobals mg → FnOk l.prog w (K w.params) mg base CX0 6 fa fd ["script"] (spLaw (K w.params))) :
    PySem.W.WalkO q loose XP YP l.row.toRowW d [] (fun f vs => PySem.call f vs) :=
  L2.walk_of (n := 63) (k := 6) (x := "script") (CX := fun _ => CX0) (sp := fun w => spLaw (K w.params)) hn (by decide) hdf ⟨rfl, by decide, by decide⟩ hY F (fun _ _ a ns hl _ hS => ⟨a, ns, rfl, hS, hl, fun _ => rfl⟩) fun _ _ _ _ _ z => z
end K32
open PySem PySem.W PyProof.Rows
def PySem.W.Fast.tw15695062324473368679 : Nat := 0
def PySem.W.Fast.tw18151980443019231208 : Nat := 0
def PySem.W.Fast.tw12951494774635735835 : Nat := 0
def PySem.W.Fast.tw14628111596009507714 : Nat := 0
def PySem.W.Fast.tw14747262904555580525 : Nat := 0
def PySem.W.Fast.tw13041685884786636494 : Nat := 0
def PySem.W.Fast.tw13262978800630321778 : Nat := 0
def PySem.W.Fast.tw12110044219819828058 : Nat := 0
def PySem.W.Fast.tw16366784433474869624 : Nat := 0
def PySem.W.Fast.tw17057634909528163170 : Nat := 0
def PySem.W.Fast.tw11160658056112158835 : Nat := 0
def PySem.W.Fast.tw3793305779007938706 : Nat := 0
def PySem.W.Fast.tw5921783170537738438 : Nat := 0
def PySem.W.Fast.tw1958985812307897684 : Nat := 0
def PySem.W.Fast.tw10148892194703604181 : Nat := 0
def PySem.W.Fast.tw3660374604223428374 : Nat := 0
def PySem.W.Fast.tw10257891528006464075 : Nat := 0
def PySem.W.Fast.tw10854573534953561292 : Nat := 0
def PySem.W.Fast.tw3970437059258575138 : Nat := 0
def PySem.W.Fast.tw2839135675945833220 : Nat := 0
def PySem.W.Fast.tw4039343709787039016 : Nat := 0
def PySem.W.Fast.tw15626781388585881721 : Nat := 0
def PySem.W.Fast.tw12566264824990549095 : Nat := 0
def PySem.W.Fast.tw10177371653270347024 : Nat := 0
def PySem.W.Fast.tw11663423776485253723 : Nat := 0
def PySem.W.Fast.tw10220165177768721611 : Nat := 0
def PySem.W.Fast.tw13412951260770545003 : Nat := 0
def PySem.W.Fast.tw16980370023899047270 : Nat := 0
def PySem.W.Fast.tw14982781128418673167 : Nat := 0
def PySem.W.Fast.tw1130789172992794528 : Nat := 0
def PySem.W.Fast.tw16836216401633258751 : Nat := 0
def PySem.W.Fast.tw9076409999297979659 : Nat := 0
def PySem.W.Fast.tw10526047917057869905 : Nat := 0
def PySem.W.Fast.tw2687537371766214220 : Nat := 0
def PySem.W.Fast.tw14998763844954158543 : Nat := 0
def PySem.W.Fast.tw16987798991601070924 : Nat := 0
def PySem.W.Fast.tw10740709272821991466 : Nat := 0
def PySem.W.Fast.tw14224354177510214287 : Nat := 0
def PySem.W.Fast.tw4750342009871973074 : Nat := 0
def PySem.W.Fast.tw15919726329274373066 : Nat := 0
def PySem.W.Fast.tw3120873085877990417 : Nat := 0
def PySem.W.Fast.tw6221534478162703606 : Nat := 0
def PySem.W.Fast.tw11333220459649590565 : Nat := 0
def PySem.W.Fast.tw10518488428611207516 : Nat := 0
def PySem.W.Fast.tw2056688111264399194 : Nat := 0
def PySem.W.Fast.tw7211398155302940046 : Nat := 0
def PySem.W.Fast.tw232301705160318393 : Nat := 0
def PySem.W.Fast.tw13348776390239240271 : Nat := 0
def PySem.W.Fast.tw15613409612315344004 : Nat := 0
def PySem.W.Fast.tw5061332129683704465 : Nat := 0
def PySem.W.Fast.tw14530647141908776081 : Nat := 0
def PySem.W.Fast.tw7040723613316223061 : Nat := 0
def PySem.W.Fast.tw15039213551210239322 : Nat := 0
def PySem.W.Fast.tw10767316536945676387 : Nat := 0
def PySem.W.Fast.tw11348522269791294731 : Nat := 0
def PySem.W.Fast.tw10754706918461332424 : Nat := 0
def PySem.W.Fast.tw1176159364009224146 : Nat := 0
def PySem.W.Fast.tw14242110444080363112 : Nat := 0
def PySem.W.Fast.tw7138197537536593547 : Nat := 0
def PySem.W.Fast.tw15131176137764795261 : Nat := 0
def PySem.W.Fast.tw3229966881717484300 : Nat := 0
def PySem.W.Fast.tw503452902536015645 : Nat := 0
def PySem.W.Fast.tw5345202227785671107 : Nat := 0
def PySem.W.Fast.tw4717468884721761835 : Nat := 0
def PySem.W.Fast.tw14807704145882303794 : Nat := 0
def PySem.W.Fast.tw5694641287711700916 : Nat := 0
def PySem.W.Fast.tw16923830423130682434 : Nat := 0
def PySem.W.Fast.tw4445229951189088471 : Nat := 0
def PySem.W.Fast.tw7962362983693454304 : Nat := 0
def PySem.W.Fast.tw3046108025951628957 : Nat := 0
def PySem.W.Fast.tw13657376985439457178 : Nat := 0
def PySem.W.Fast.tw4831194428067783143 : Nat := 0
def PySem.W.Fast.tw9179647577634264119 : Nat := 0
def PySem.W.Fast.tw15842781665440899349 : Nat := 0
def PySem.W.Fast.tw13881862178496185371 : Nat := 0
def PySem.W.Fast.tw12867665719060919680 : Nat := 0
def PySem.W.Fast.tw16746856341447016380 : Nat := 0
def PySem.W.Fast.tw3776165433509725359 : Nat := 0
def PySem.W.Fast.tw16307631009472767999 : Nat := 0
def PySem.W.Fast.tw3735876394545267608 : Nat := 0
def PySem.W.Fast.tw11462216634976822327 : Nat := 0
def PySem.W.Fast.tw924824995433526950 : Nat := 0
def PySem.W.Fast.tw18211260682671163141 : Nat := 0
def PySem.W.Fast.tw17500337341496472014 : Nat := 0
def PySem.W.Fast.tw17649150950525984891 : Nat := 0
def PySem.W.Fast.tw4196924333404769324 : Nat := 0
def PySem.W.Fast.tw9102629180852443927 : Nat := 0
def PySem.W.Fast.tw10600950322544632402 : Nat := 0
def PySem.W.Fast.tw13081689756468935205 : Nat := 0
def PySem.W.Fast.tw3742094520419474997 : Nat := 0
def PySem.W.Fast.tw12013720159980697035 : Nat := 0
def PySem.W.Fast.tw12821189057584756994 : Nat := 0
def PySem.W.Fast.tw704339721629091863 : Nat := 0
def PySem.W.Fast.tw13241736558613693972 : Nat := 0
def PySem.W.Fast.tw9276352920987257556 : Nat := 0
def PySem.W.Fast.tw10367914005927945266 : Nat := 0
def PySem.W.Fast.tw6156845560381786123 : Nat := 0
def PySem.W.Fast.tw16536921254646739160 : Nat := 0
def PySem.W.Fast.tw11853138682910886109 : Nat := 0
def PySem.W.Fast.tw14230683828056756634 : Nat := 0
def PySem.W.Fast.tw14558467421378981202 : Nat := 0
def PySem.W.Fast.tw10824515997425402235 : Nat := 0
def PySem.W.Fast.tw11077086908733796549 : Nat := 0
def PySem.W.Fast.tw16128871348354358519 : Nat := 0
def PySem.W.Fast.tw8445969618328066827 : Nat := 0
def PySem.W.Fast.tw9412662704708256902 : Nat := 0
def PySem.W.Fast.tw1196797170917871515 : Nat := 0
def PySem.W.Fast.tw1352219817544679849 : Nat := 0
def PySem.W.Fast.tw10831415993054692536 : Nat := 0
def PySem.W.Fast.tw2329706568957000916 : Nat := 0
def PySem.W.Fast.tw2698150671939877341 : Nat := 0
def PySem.W.Fast.tw15347727138129699385 : Nat := 0
def PySem.W.Fast.tw14698135877932077089 : Nat := 0
def PySem.W.Fast.tw5036155530363121773 : Nat := 0
def PySem.W.Fast.tw8923162155581699198 : Nat := 0
def PySem.W.Fast.tw9939684040352363213 : Nat := 0
def PySem.W.Fast.tw6813526805693271688 : Nat := 0
def PySem.W.Fast.tw8255908347906249915 : Nat := 0
def PySem.W.Fast.tw8943058400312677037 : Nat := 0
def PySem.W.Fast.tw13832576261163403665 : Nat := 0
def PySem.W.Fast.tw7991607426344481309 : Nat := 0
def PySem.W.Fast.tw18431326912399407313 : Nat := 0
def PySem.W.Fast.tw4214899803941738327 : Nat := 0
def PySem.W.Fast.tw15703293744183417436 : Nat := 0
def PySem.W.Fast.tw5935554128667615159 : Nat := 0
def PySem.W.Fast.tw9966697006558012029 : Nat := 0
def PySem.W.Fast.tw7721736163849713483 : Nat := 0
def PySem.W.Fast.tw17090944851735433757 : Nat := 0
def PySem.W.Fast.tw14045381260521704620 : Nat := 0
def PySem.W.Fast.tw12744222122181097476 : Nat := 0
def PySem.W.Fast.tw8485146611252135176 : Nat := 0
def PySem.W.Fast.tw13507326148925783647 : Nat := 0
def PySem.W.Fast.tw17300257176107446558 : Nat := 0
def PySem.W.Fast.tw15578999364814543557 : Nat := 0
def PySem.W.Fast.tw5695698326780412526 : Nat := 0
def PySem.W.Fast.tw9808968617398120465 : Nat := 0
def PySem.W.Fast.tw11015949225620883917 : Nat := 0
def PySem.W.Fast.tw15256094822265495006 : Nat := 0
def PySem.W.Fast.tw6759885783084783002 : Nat := 0
def PySem.W.Fast.tw16949813458877689011 : Nat := 0
def PySem.W.Fast.tw14956219552805744342 : Nat := 0
def PySem.W.Fast.tw12691308165678896412 : Nat := 0
def PySem.W.Fast.tw7561610751885188152 : Nat := 0
def PySem.W.Fast.tw14084999056461576358 : Nat := 0
def PySem.W.Fast.tw10331805791557242477 : Nat := 0
def PySem.W.Fast.tw2933020836556691124 : Nat := 0
def PySem.W.Fast.tw7115696820014868037 : Nat := 0
def PySem.W.Fast.tw3832081445680405103 : Nat := 0
def PySem.W.Fast.tw6706668122025630175 : Nat := 0
def PySem.W.Fast.tw14442611887867752368 : Nat := 0
def PySem.W.Fast.tw18093191558519490159 : Nat := 0
def PySem.W.Fast.tw16497815226805146712 : Nat := 0
def PySem.W.Fast.tw1513506619772308358 : Nat := 0
def PySem.W.Fast.tw11249837137053937873 : Nat := 0
def PySem.W.Fast.tw2469455786648638619 : Nat := 0
def PySem.W.Fast.tw17572997409267179445 : Nat := 0
def PySem.W.Fast.tw1131650965892273177 : Nat := 0
def PySem.W.Fast.tw7935696544923550110 : Nat := 0
def PySem.W.Fast.tw18063200243024907490 : Nat := 0
set_option maxRecDepth 100000 in
set_option maxHeartbeats 0 in
theorem PySem.Challenge.cw_wishmart_k32_fractions_as_texts_holds : PySem.Challenge.rw_wishmart_k32_fractions_as_texts.Holds := by
  w_on; o_law; k_head; (case hw => w_witness2)
  k_fill
  refine K32.walk (l := PySem.Challenge.rw_wishmart_k32_fractions_as_texts) rfl rfl (fun w h Y => PySem.W.kIn_of Y) ?F
  case F =>
    intro w mg fa h KX G hmg
    refine' K32.all_mk KX G hmg ?a0 ?a1 ?a2 ?a3 ?a4 ?a5 ?a6 ?a7 ?a8 ?a9 ?a10 ?a11 ?a12 ?a13 ?a14 ?a15 ?a16 ?a17 ?a18 ?z0 ?z1 ?z2 ?z3 ?z4 ?z5 ?z6 ?z7 ?z8 ?z9 ?z10 ?z11 ?z12 ?z13 ?z14 ?ystr ?gM ?gNn ?gMk ?gPr ?gDe ?gUn ?gBu ?gGo ?gNo ?gDl ?gTx ?gRo ?ti1 ?ti2 ?ti3 ?ti4 ?ti5 ?ti6 ?tb1 ?tb2 ?tb3 ?tb4 ?tb5 ?tb6 ?tt1 ?tt2 ?tt3 ?tt4 ?tt5 ?tt6 ?ks1 ?ks2 ?ks3 ?ks4 ?ks5 ?ks6 ?eXTx ?eT ?eB ?e4 ?e5 ?qTxDe ?qTxBu ?qTxDl ?qTxGo ?qTxMk ?qTxNn ?qTxPr ?qTxRo ?qTxTx ?qTxNo ?qTxUn ?qTxVa ?sTx ?uTx1 ?uTx2 ?uTx3 ?uTx6 ?uTx7
    (case a0 | a1 | a2 | a3 | a4 | a5 | a6 | a7 | a8 | a9 | a10 | a11 | a12 | a13 | a14 | a15 | a16 | a17 | a18 => exact ⟨_, _, _, _, _, _, _, _, _, by k_is, by k_is, by k_is, by k_is⟩)
    (case z0 | z1 | z2 | z3 | z4 | z5 | z6 | z7 | z8 | z9 | z10 | z11 | z12 | z13 | z14 | ystr | gM | gNn | gMk | gPr | gDe | gUn | gBu | gGo | gNo | gDl | gTx | gRo => k_is)
    (case ti1 | ti2 | ti3 | ti4 | ti5 | ti6 | tb1 | tb2 | tb3 | tb4 | tb5 | tb6 | tt1 | tt2 | tt3 | tt4 | tt5 | tt6 | ks1 | ks2 | ks3 | ks4 | ks5 | ks6 | qTxDe | qTxBu | qTxDl | qTxGo | qTxMk | qTxNn | qTxPr | qTxRo | qTxTx | qTxNo | qTxUn | qTxVa => first | rfl | kit_is | k_is)
    (case eXTx | eT | eB | e4 | e5 | sTx | uTx1 | uTx2 | uTx3 | uTx6 | uTx7 => first | k_is | kit_is | rfl | kernel_rfl | decide +kernel)
